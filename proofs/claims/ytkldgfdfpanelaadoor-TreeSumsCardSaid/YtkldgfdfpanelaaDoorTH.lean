/-
  Layer 5 (tree): what the law asks of Paths and Check, and the walk of the law's fixed.
-/
import Derived.Test.YtkldgfdfpanelaaDoorTC
import Derived.Test.YtkldgfdfpanelaaDoorD
namespace Go.Proofs.YtkldgfdfpanelaaDoor
namespace Tr
open Go.RowKit Go.ChangeShapes Pt

theorem beqB (a b : Bs) : (a == b) = decide (a = b) := by by_cases h : a = b <;> simp [h]
theorem below_drewN {B : Nat} {a w : World} (h : Below B a w) (n : Nat) : Below B a (w.drewN n) := h.trans ⟨rfl, rfl, rfl, Nat.le_refl _, fun _ _ => rfl⟩
/-- The paths of the first files. -/
def pathsTo (t : List Fl) (d : Bs) (k : Nat) : List Bs := ((t.take k).filter (fun x => belowV d x.1)).map (·.1)
theorem pathsTo_succ {t : List Fl} {d : Bs} {k : Nat} {x : Fl} (hx : t[k]? = some x) : pathsTo t d (k + 1) = pathsTo t d k ++ if belowV d x.1 = true then [x.1] else [] := by
  unfold pathsTo
  rw [take_snoc t k x hx, List.filter_append, List.map_append]
  by_cases h : belowV d x.1 = true
  · rw [if_pos h]; simp [h]
  · rw [if_neg h]; simp [h]

/-- Few files, none of them great. -/
def Few (t : List Fl) : Prop := t.length ≤ 1000 ∧ ∀ f ∈ t, f.1.length ≤ 1000 ∧ f.2.length ≤ 1000
def GotS (w : World) (l : List Bs) (e : Ending) (w' : World) : Prop :=
  ∃ A m cap, e = .returned (.slice A m cap) ∧ l.length = m ∧ SRow w' w'.heap.size A l ∧ Below w.heap.size w w'
def PCheck : Prop := ∀ (A : Option Addr) (cap n : Nat) (t : List Fl) (c : Nat) (w : World), tcheck t = c → t.length = n → Few t → FRow w w.heap.size A t →
  Calls Tryd.prog 19 #[.slice A n cap] w fun e w' => e = .returned (.int .i64 c) ∧ Below w.heap.size w w'
def PPaths : Prop := ∀ (A : Option Addr) (cap n : Nat) (t : List Fl) (p : ByteArray) (w : World), t.length = n → Few t → FRow w w.heap.size A t → p.size ≤ 1000 →
  Calls Tryd.prog 9 #[.slice A n cap, .string p] w (GotS w (pathsV t p.data.toList))
theorem few_of {t : List Fl} (h : greatV t = false) : Few t := by
  unfold greatV at h
  rw [Bool.or_eq_false_iff, decide_eq_false_iff_not, List.any_eq_false] at h
  refine ⟨by omega, fun f hf => ?_⟩
  have h2 := h.2 f hf
  unfold big at h2
  rw [Bool.not_eq_true, Bool.or_eq_false_iff, decide_eq_false_iff_not, decide_eq_false_iff_not] at h2
  omega

def exF : List Fl := [([97, 47, 98], []), ([99], [])]
theorem ex_paths : pathsV exF [97] = [[97, 47, 98]] := by decide +kernel
theorem ex_few : Few exF := by
  refine ⟨by decide, ?_⟩
  intro f hf
  simp only [exF, List.mem_cons, List.mem_nil_iff, or_false] at hf
  rcases hf with rfl | rfl <;> decide

set_option maxRecDepth 100000 in
set_option maxHeartbeats 2000000 in
theorem fixed_any (hP : PPaths) (w : World) :
    Calls Tryd.prog 5 #[] w fun e w' => e = .returned (.bool true) ∧ Below w.heap.size w w' := by
  go_enter Tryd.func5, Tryd.ntmps5
  go_wp2_with fail
  refine (hP (some ⟨w.heap.size, 0, none⟩) 2 2 exF ⟨#[97]⟩ _ rfl ex_few ?fr (by decide)).mono ?_
  case fr =>
    rintro (_ | _ | j) f hf
    · injection hf with hf
      subst hf
      exact ⟨w.heap.size, 0, ⟨#[97, 47, 98]⟩, ⟨#[]⟩, rfl, by simp, rfl, rfl, by simp, by simp⟩
    · injection hf with hf
      subst hf
      exact ⟨w.heap.size, 0, ⟨#[99]⟩, ⟨#[]⟩, rfl, by simp, rfl, rfl, by simp, by simp⟩
    · simp [exF] at hf
  rintro e w1 ⟨A, m, cp, rfl, hm, hr, hb⟩
  have HB := Lib.hid (((Below.refl w.heap.size w).alloc (Nat.le_refl _) _).trans (hb.mono (by simp)))
  have he : pathsV exF (ByteArray.mk #[97]).data.toList = [[97, 47, 98]] := ex_paths
  rw [he] at hm hr
  obtain rfl : m = 1 := hm.symm
  obtain ⟨b, o, x, rfl, _, hx, hc⟩ := hr 0 [97, 47, 98] rfl
  obtain rfl : x = ⟨#[97, 47, 98]⟩ := str_eq hx
  rw [Nat.add_zero] at hc
  clear hm hr hb he hx hP
  go_wp2
  go_ret
  exact ⟨rfl, HB.out⟩

end Tr
end Go.Proofs.YtkldgfdfpanelaaDoor
