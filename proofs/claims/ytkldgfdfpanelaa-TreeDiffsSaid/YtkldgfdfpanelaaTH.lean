/-
  Layer 5 (tree): what the laws ask of the program's calls, and the walks of the laws' fixed and texts, law Checks.
-/
import Derived.Test.YtkldgfdfpanelaaTG
namespace Go.Proofs.Ytkldgfdfpanelaa
namespace Tr
open Go.RowKit Go.ChangeShapes Pt

/-- Few files, none of them great. -/
def Few (t : List Fl) : Prop := t.length ≤ 1000 ∧ ∀ f ∈ t, f.1.length ≤ 1000 ∧ f.2.length ≤ 1000
/-- Answers that are files, texts, changes: a slice of them. -/
def GotF (w : World) (l : List Fl) (e : Ending) (w' : World) : Prop :=
  ∃ A m cap, e = .returned (.slice A m cap) ∧ l.length = m ∧ FRow w' w'.heap.size A l ∧ Below w.heap.size w w'
def GotS (w : World) (l : List Bs) (e : Ending) (w' : World) : Prop :=
  ∃ A m cap, e = .returned (.slice A m cap) ∧ l.length = m ∧ SRow w' w'.heap.size A l ∧ Below w.heap.size w w'
def GotC (w : World) (l : List Ch) (e : Ending) (w' : World) : Prop :=
  ∃ A m cap, e = .returned (.slice A m cap) ∧ l.length = m ∧ CRow w' w'.heap.size A l ∧ Below w.heap.size w w'
theorem AnsF.got {w w' : World} {l : List Fl} {e : Ending} (h : AnsF w l e w') : GotF w l e w' := by
  obtain ⟨g, m, cap, h1, h2, h3, h4⟩ := h
  exact ⟨_, m, cap, h1, h2, h3.row, h4⟩
theorem AnsC.got {w w' : World} {l : List Ch} {e : Ending} (h : AnsC w l e w') : GotC w l e w' := by
  obtain ⟨g, m, cap, h1, h2, h3, h4⟩ := h
  exact ⟨_, m, cap, h1, h2, h3.row, h4⟩
theorem AnsS.got {w w' : World} {l : List Bs} {e : Ending} (h : AnsS w l e w') : GotS w l e w' := by
  obtain ⟨g, m, cap, h1, h2, h3, h4⟩ := h
  subst h2
  exact ⟨_, _, cap, h1, rfl, h3.row, h4⟩

def PCheck : Prop := ∀ (A : Option Addr) (cap n : Nat) (t : List Fl) (c : Nat) (w : World), tcheck t = c → t.length = n → Few t → FRow w w.heap.size A t →
  Calls Try.prog 10 #[.slice A n cap] w fun e w' => e = .returned (.int .i64 c) ∧ Below w.heap.size w w'
def PGet : Prop := ∀ (A : Option Addr) (cap n : Nat) (t : List Fl) (p X : ByteArray) (b : Bool) (w : World), X.data.toList = (get t p.data.toList).getD [] → (get t p.data.toList).isSome = b → t.length = n → Few t → FRow w w.heap.size A t → p.size ≤ 1000 →
  Calls Try.prog 17 #[.slice A n cap, .string p] w fun e w' => e = .returned (.tuple #[.string X, .bool b]) ∧ Below w.heap.size w w'
def PPut : Prop := ∀ (A : Option Addr) (cap n : Nat) (t : List Fl) (s d : ByteArray) (w : World), t.length = n → Few t → FRow w w.heap.size A t → s.size ≤ 1000 → d.size ≤ 1000 →
  Calls Try.prog 12 #[.slice A n cap, .agg #[.string s, .string d]] w (GotF w (putV t (s.data.toList, d.data.toList)))
def PDrop : Prop := ∀ (A : Option Addr) (cap n : Nat) (t : List Fl) (p : ByteArray) (w : World), t.length = n → Few t → FRow w w.heap.size A t → p.size ≤ 1000 →
  Calls Try.prog 13 #[.slice A n cap, .string p] w (GotF w (dropV t p.data.toList))
def PPaths : Prop := ∀ (A : Option Addr) (cap n : Nat) (t : List Fl) (p : ByteArray) (w : World), t.length = n → Few t → FRow w w.heap.size A t → p.size ≤ 1000 →
  Calls Try.prog 20 #[.slice A n cap, .string p] w (GotS w (pathsV t p.data.toList))
def PDiff : Prop := ∀ (A A' : Option Addr) (cap cap' n m : Nat) (a b : List Fl) (w : World), n ≤ cap → m ≤ cap' → a.length = n → b.length = m → Few a → Few b → FRow w w.heap.size A a → FRow w w.heap.size A' b →
  Calls Try.prog 22 #[.slice A n cap, .slice A' m cap'] w (GotC w (diffV a b))

theorem few_of {t : List Fl} (h : greatV t = false) : Few t := by
  unfold greatV at h
  rw [Bool.or_eq_false_iff, decide_eq_false_iff_not, List.any_eq_false] at h
  refine ⟨by omega, fun f hf => ?_⟩
  have h2 := h.2 f hf
  unfold big at h2
  rw [Bool.not_eq_true, Bool.or_eq_false_iff, decide_eq_false_iff_not, decide_eq_false_iff_not] at h2
  omega

def exF : List Fl := [([97, 47, 98], []), ([99], [])]
theorem ex_paths : pathsV exF [97] = [[97, 47, 98]] := by decide +kernel
theorem ex_few : Few exF := by
  refine ⟨by decide, ?_⟩
  intro f hf
  simp only [exF, List.mem_cons, List.mem_nil_iff, or_false] at hf
  rcases hf with rfl | rfl <;> decide

set_option maxRecDepth 100000 in
set_option maxHeartbeats 2000000 in
theorem fixed_any (hP : PPaths) (w : World) :
    Calls Try.prog 9 #[] w fun e w' => e = .returned (.bool true) ∧ Below w.heap.size w w' := by
  go_enter Try.func9, Try.ntmps9
  go_wp2_with fail
  refine (hP (some ⟨w.heap.size, 0, none⟩) 2 2 exF ⟨#[97]⟩ _ rfl ex_few ?fr (by decide)).mono ?_
  case fr =>
    rintro (_ | _ | j) f hf
    · injection hf with hf
      subst hf
      exact ⟨w.heap.size, 0, ⟨#[97, 47, 98]⟩, ⟨#[]⟩, rfl, by simp, rfl, rfl, by simp, by simp⟩
    · injection hf with hf
      subst hf
      exact ⟨w.heap.size, 0, ⟨#[99]⟩, ⟨#[]⟩, rfl, by simp, rfl, rfl, by simp, by simp⟩
    · simp [exF] at hf
  rintro e w1 ⟨A, m, cp, rfl, hm, hr, hb⟩
  have HB := Lib.hid (((Below.refl w.heap.size w).alloc (Nat.le_refl _) _).trans (hb.mono (by simp)))
  have he : pathsV exF (ByteArray.mk #[97]).data.toList = [[97, 47, 98]] := ex_paths
  rw [he] at hm hr
  obtain rfl : m = 1 := hm.symm
  obtain ⟨b, o, x, rfl, _, hx, hc⟩ := hr 0 [97, 47, 98] rfl
  obtain rfl : x = ⟨#[97, 47, 98]⟩ := str_eq hx
  rw [Nat.add_zero] at hc
  clear hm hr hb he hx hP
  go_wp2
  go_ret
  exact ⟨rfl, HB.out⟩

set_option maxRecDepth 100000 in
set_option maxHeartbeats 2000000 in
theorem checks_law (hP : PPaths) (hC : PCheck) (A : Option Addr) (cap n : Nat) (t : List Fl) (w : World) (hn : t.length = n) (hnm : n ≤ 9223372036854775807) (hx : FRow w w.heap.size A t) :
    Calls Try.prog 3 #[.slice A n cap] w fun e w' => e = .returned (.bool true) ∧ Below w.heap.size w w' := by
  have HX := Lib.hid hx
  have HF := Lib.hid (fun W => fixed_any hP W)
  obtain ⟨b, hb⟩ : ∃ b, greatV t = b := ⟨_, rfl⟩
  have HG := Lib.hid (great_any A cap w.heap.size n t b hb w hn hnm hx)
  cases b
  · have hf := few_of hb
    obtain ⟨c, hc⟩ : ∃ c, tcheck t = c := ⟨_, rfl⟩
    have HR := Lib.hid (fun W (h : FRow W w.heap.size A t) (hW : w.heap.size ≤ W.heap.size) => refcheck_any A cap w.heap.size n t c hc W hn (by have := hf.1; omega) (fun f h => by have := (hf.2 f h).1; omega) h hW)
    have HC := Lib.hid (fun W (h : FRow W W.heap.size A t) => hC A cap n t c W hc hn hf h)
    have hcc : ((c : Int) == (c : Int)) = true := by simp
    clear hx hb hn hc hP hC hf
    go_enter Try.func3, Try.ntmps3
    go_wp2_with fail
    refine HG.out.mono ?_
    rintro e w1 ⟨rfl, d, rfl⟩
    go_wp2_with fail
    refine (HC.out _ (HX.out.drewN d)).mono ?_
    rintro e w1 ⟨rfl, hb1⟩
    have HB1 : Hid (Below w.heap.size w w1) := (below_drewN (Below.refl w.heap.size w) d).trans (hb1.mono (Nat.le_refl _))
    have HX1 : Hid (FRow w1 w.heap.size A t) := (HX.out.drewN d).below hb1 (Nat.le_refl _)
    clear hb1
    go_wp2_with fail
    refine (HR.out _ HX1.out HB1.out.size).mono ?_
    rintro e w2 ⟨rfl, hb2⟩
    have HB2 := Lib.hid (HB1.out.trans (hb2.mono HB1.out.size))
    clear hb2
    go_wp2_with fail
    refine (HF.out _).mono ?_
    rintro e w3 ⟨rfl, hb3⟩
    have HB3 := Lib.hid (HB2.out.trans (hb3.mono HB2.out.size))
    clear hb3
    go_wp2_with fail
    go_ret
    exact ⟨rfl, HB3.out⟩
  · clear hx hb hn hP hC
    go_enter Try.func3, Try.ntmps3
    go_wp2_with fail
    refine HG.out.mono ?_
    rintro e w1 ⟨rfl, d, rfl⟩
    go_wp2_with fail
    refine (HF.out _).mono ?_
    rintro e w2 ⟨rfl, hb2⟩
    have HB2 := Lib.hid ((below_drewN (Below.refl w.heap.size w) d).trans (hb2.mono (Nat.le_refl _)))
    clear hb2
    go_wp2_with fail
    go_ret
    exact ⟨rfl, HB2.out⟩
end Tr
end Go.Proofs.Ytkldgfdfpanelaa
