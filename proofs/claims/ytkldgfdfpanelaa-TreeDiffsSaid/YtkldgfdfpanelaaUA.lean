/-
  Layer 5 (tree): the walks of slices.IndexFunc over files, of find, of the closure that Get makes, and of Get.
-/
import Derived.Test.YtkldgfdfpanelaaTH
import Derived.Lib.SliceRun
import Derived.Shelf.RegionOpenPlain
namespace Go.Proofs.Ytkldgfdfpanelaa
namespace Tr
open Go.RowKit Go.ChangeShapes Pt

/-- A predicate that a call is handed: a function and the one cell that it captured. -/
def Pred (g c : Nat) (p : Fl → Bool) (B : Nat) (w : World) : Prop :=
  ∀ W (s d : ByteArray), Below B w W → Calls Try.prog g #[.agg #[.string s, .string d], .pointer (some ⟨c, 0, none⟩)] W fun e w' => e = .returned (.bool (p (s.data.toList, d.data.toList))) ∧ Below W.heap.size W w'

/-- The first file's place, or -1. -/
def idx (p : Fl → Bool) (t : List Fl) : Int := match t.findIdx? p with | some k => (k : Int) | none => -1
theorem idx_at {p : Fl → Bool} {t : List Fl} {k : Nat} {x : Fl} (ho : ∀ j f, j < k → t[j]? = some f → p f = false) (hx : t[k]? = some x) (h : p x = true) : idx p t = (k : Int) := by
  obtain ⟨hk, rfl⟩ := List.getElem?_eq_some_iff.1 hx
  have : t.findIdx? p = some k := by
    rw [List.findIdx?_eq_some_iff_getElem]
    exact ⟨hk, h, fun j hj => by rw [ho j t[j] hj (List.getElem?_eq_getElem _)]; simp⟩
  unfold idx; rw [this]
theorem idx_no {p : Fl → Bool} {t : List Fl} {n : Nat} (hn : t.length = n) (ho : ∀ j f, j < n → t[j]? = some f → p f = false) : idx p t = -1 := by
  have : t.findIdx? p = none := by
    rw [List.findIdx?_eq_none_iff]
    intro f hf
    obtain ⟨j, hj⟩ := List.getElem?_of_mem hf
    exact ho j f (by have := (List.getElem?_eq_some_iff.1 hj).1; omega) hj
  unfold idx; rw [this]
theorem idx_cases (p : Fl → Bool) (t : List Fl) : (idx p t = -1 ∧ ∀ f ∈ t, p f = false) ∨ ∃ (k : Nat) (x : Fl), idx p t = (k : Int) ∧ t[k]? = some x ∧ p x = true ∧ ∀ j f, j < k → t[j]? = some f → p f = false := by
  cases h : t.findIdx? p with
  | none => exact .inl ⟨by unfold idx; rw [h], fun f hf => by have := List.findIdx?_eq_none_iff.1 h f hf; simpa using this⟩
  | some k =>
    obtain ⟨hk, h1, h2⟩ := List.findIdx?_eq_some_iff_getElem.1 h
    refine .inr ⟨k, t[k], by unfold idx; rw [h], List.getElem?_eq_getElem _, h1, fun j f hj hf => ?_⟩
    obtain ⟨hj2, rfl⟩ := List.getElem?_eq_some_iff.1 hf
    have := h2 j hj
    simpa using this

set_option maxRecDepth 100000 in
set_option maxHeartbeats 2000000 in
theorem index_any (g c : Nat) (eg : ∀ args w, (callFunc g args).run Try.prog w = .ok (.enter g args) w) (p : Fl → Bool) (A : Option Addr) (cap B n : Nat) (t : List Fl) (w : World) (hp : Pred g c p w.heap.size w) (hn : t.length = n) (hnm : n ≤ 9223372036854775807) (hx : FRow w B A t) (hB : B ≤ w.heap.size) :
    Calls Try.prog 42 #[.slice A n cap, .func (.func g) #[] #[.pointer (some ⟨c, 0, none⟩)]] w fun e w' => e = .returned (.int .i64 (idx p t)) ∧ Below w.heap.size w w' := by
  have HX := Lib.hid (hx.more hB)
  have HN := Lib.hid hn
  have HP := Lib.hid hp
  clear hx hn hp
  go_enter Try.func42, Try.ntmps42
  go_wp2
  go_loopw [8] (fun i wr => ∃ k : Nat, k ≤ n ∧ i = .int .i64 k ∧ Hid (∀ j f, j < k → t[j]? = some f → p f = false) ∧ Hid (FRow wr w.heap.size A t) ∧ Hid (Below w.heap.size w wr)) (fun i _ => n - (intOf i).toNat)
  case atStart => exact ⟨0, Nat.zero_le _, rfl, fun j f hj => absurd hj (Nat.not_lt_zero _), HX.out, Below.refl _ _⟩
  case round =>
    obtain ⟨k, hk, rfl, HA, HR, HBW⟩ := hrel
    by_cases hlt : k < n
    · have hki : (k : Int) < n := by omega
      have hxk : t[k]? = some (t[k]'(by rw [HN.out]; exact hlt)) := List.getElem?_eq_getElem _
      generalize t[k]'(by rw [HN.out]; exact hlt) = x at hxk
      obtain ⟨b1, o1, sp, sd, rfl, hb1, hsp, hsd, cP, cD⟩ := HR.out k x hxk
      obtain rfl : x = (sp.data.toList, sd.data.toList) := Prod.ext hsp.symm hsd.symm
      have HC := Lib.hid (HP.out wr sp sd HBW.out)
      cases hq : p (sp.data.toList, sd.data.toList)
      · rw [hq] at HC
        have HNO : Hid (∀ j f, j < k + 1 → t[j]? = some f → p f = false) := fun j f hj hf => by
          by_cases he : j = k
          · subst he; rw [hxk] at hf; cases hf; exact hq
          · exact HA.out j f (by omega) hf
        clear hxk hsp hsd hq
        go_wp2_with (go_at_fn g; refine HC.out.mono ?_; rintro e w' ⟨rfl, hb'⟩)
        have HB2 : Hid (Below w.heap.size w w') := HBW.out.trans (hb'.mono HBW.out.size)
        have HR2 : Hid (FRow w' w.heap.size (some ⟨b1, o1, none⟩) t) := HR.out.below hb' HBW.out.size
        clear hb'
        go_roundw
        case rel => exact ⟨k + 1, by omega, by go_num, HNO.out, HR2.out, HB2.out⟩
        case measure => simp [intOf]; omega
      · rw [hq] at HC
        have HI : Hid (idx p t = (k : Int)) := idx_at HA.out hxk hq
        clear hxk hsp hsd hq
        go_wp2_with (go_at_fn g; refine HC.out.mono ?_; rintro e w' ⟨rfl, hb'⟩)
        have HB2 : Hid (Below w.heap.size w w') := HBW.out.trans (hb'.mono HBW.out.size)
        clear hb'
        go_ret
        exact ⟨by rw [HI.out]; rfl, HB2.out⟩
    · obtain rfl : k = n := by omega
      have HI : Hid (idx p t = -1) := idx_no HN.out HA.out
      go_wp2
      go_ret
      exact ⟨by rw [HI.out]; rfl, HBW.out⟩

/-- What find answers: the first file's place, or how many files there are. -/
def fnd (p : Fl → Bool) (t : List Fl) : Nat := match t.findIdx? p with | some k => k | none => t.length
theorem fnd_yes {p : Fl → Bool} {t : List Fl} {k : Nat} (h : idx p t = (k : Int)) : fnd p t = k := by
  unfold idx at h
  unfold fnd
  cases h2 : t.findIdx? p with
  | none => rw [h2] at h; simp only at h; omega
  | some j => rw [h2] at h; simp only at h ⊢; omega
theorem fnd_no {p : Fl → Bool} {t : List Fl} (h : idx p t = -1) : fnd p t = t.length := by
  unfold idx at h
  unfold fnd
  cases h2 : t.findIdx? p with
  | none => rfl
  | some j => rw [h2] at h; simp only at h; omega

set_option maxRecDepth 100000 in
set_option maxHeartbeats 2000000 in
theorem find_any (g c : Nat) (eg : ∀ args w, (callFunc g args).run Try.prog w = .ok (.enter g args) w) (p : Fl → Bool) (A : Option Addr) (cap B n k : Nat) (t : List Fl) (hk : fnd p t = k) (w : World) (hp : Pred g c p w.heap.size w) (hn : t.length = n) (hnm : n ≤ 9223372036854775807) (hx : FRow w B A t) (hB : B ≤ w.heap.size) :
    Calls Try.prog 29 #[.slice A n cap, .func (.func g) #[] #[.pointer (some ⟨c, 0, none⟩)]] w fun e w' => e = .returned (.int .i64 k) ∧ Below w.heap.size w w' := by
  have HI := Lib.hid (index_any g c eg p A cap B n t w hp hn hnm hx hB)
  have HK := Lib.hid hk
  rcases idx_cases p t with ⟨h1, h2⟩ | ⟨q, x, h1, h2, h3, h4⟩
  · rw [h1] at HI
    have hkn : k = n := by
      rw [← hk, ← hn]; exact fnd_no h1
    subst hkn
    clear h1 h2 hp hx hk hn
    go_enter Try.func29, Try.ntmps29
    go_wp2_with fail
    refine HI.out.mono ?_
    rintro e w1 ⟨rfl, hb1⟩
    have HB1 := Lib.hid hb1
    clear hb1
    go_wp2_with fail
    go_ret
    exact ⟨rfl, HB1.out⟩
  · rw [h1] at HI
    have hkn : k = q := by
      rw [← hk]; exact fnd_yes h1
    subst hkn
    clear h1 h2 h3 h4 hp hx hk hn
    go_enter Try.func29, Try.ntmps29
    go_wp2_with fail
    refine HI.out.mono ?_
    rintro e w1 ⟨rfl, hb1⟩
    have HB1 := Lib.hid hb1
    clear hb1
    go_wp2_with fail
    go_ret
    exact ⟨rfl, HB1.out⟩

def isPath (q : Bs) (f : Fl) : Bool := decide (f.1 = q)
set_option maxRecDepth 100000 in
set_option maxHeartbeats 2000000 in
theorem pget (c B : Nat) (q : ByteArray) (w : World) (hc : w.cell? ⟨c, 0, none⟩ = some (.string q)) (hcB : c < B) : Pred 33 c (isPath q.data.toList) B w := by
  intro W s d hW
  have hcW := (hW.cell (p := ⟨c, 0, none⟩) hcB).trans hc
  have hcl : c < W.heap.size := World.block_lt_of_cell? W _ hcW
  have he : (s.toList == q.toList) = isPath q.data.toList (s.data.toList, d.data.toList) := by rw [ByteArray.toList_eq, ByteArray.toList_eq]; exact beqB _ _
  have HB0 : Hid (Below W.heap.size W (W.alloc (.cells #[.string s, .string d] 29))) := (Below.refl _ _).alloc (Nat.le_refl _) _
  obtain ⟨b, hb⟩ : ∃ b, isPath q.data.toList (s.data.toList, d.data.toList) = b := ⟨_, rfl⟩
  rw [hb] at he ⊢
  have hcW2 : (W.alloc (.cells #[.string s, .string d] 29)).cell? ⟨c, 0, none⟩ = some (.string q) := (World.cell?_alloc_lt W _ _ hcl).trans hcW
  clear hb hW hc
  go_enter Try.func33, Try.ntmps33
  go_wp2
  go_ret
  exact ⟨rfl, HB0.out⟩

theorem fnd_get {q : Bs} {t : List Fl} : (get t q = none ∧ fnd (isPath q) t = t.length) ∨ ∃ k x, get t q = some x.2 ∧ fnd (isPath q) t = k ∧ t[k]? = some x := by
  rcases idx_cases (isPath q) t with ⟨h1, h2⟩ | ⟨k, x, h1, h2, h3, h4⟩
  · refine .inl ⟨get_none.2 fun f hf => by have := h2 f hf; unfold isPath at this; simpa using this, fnd_no h1⟩
  · refine .inr ⟨k, x, get_at (k := k) (fun j f hj hf => by have := h4 j f hj hf; unfold isPath at this; simpa using this) h2 (by unfold isPath at h3; simpa using h3), fnd_yes h1, h2⟩

set_option maxRecDepth 100000 in
set_option maxHeartbeats 2000000 in
theorem get_any : PGet := by
  intro A cap n t p X b w hX hb hn hf hx hp
  have hl := hf.1
  obtain ⟨w0, hw0⟩ : ∃ w0, w0 = w.alloc (.cells #[.string p] 9) := ⟨_, rfl⟩
  have hs0 : w0.heap.size = w.heap.size + 1 := by rw [hw0]; simp
  have HB0 : Hid (Below w.heap.size w w0) := by rw [hw0]; exact (Below.refl _ _).alloc (Nat.le_refl _) _
  have HX0 : Hid (FRow w0 w.heap.size A t) := by rw [hw0]; exact hx.alloc (Nat.le_refl _) _
  have hc0 : w0.cell? ⟨w.heap.size, 0, none⟩ = some (.string p) := by rw [hw0]; simp
  obtain ⟨k, hk⟩ : ∃ k, fnd (isPath p.data.toList) t = k := ⟨_, rfl⟩
  have HF := Lib.hid (find_any 33 w.heap.size (enters_of Try.func33 (by kernel_rfl) rfl) (isPath p.data.toList) A cap w.heap.size n k t hk w0 (pget w.heap.size w0.heap.size p w0 hc0 (by omega)) hn (by omega) HX0.out (by omega))
  rcases fnd_get (q := p.data.toList) (t := t) with ⟨h1, h2⟩ | ⟨j, x, h1, h2, h3⟩
  · obtain rfl : k = n := by rw [← hk, h2, hn]
    have hXe : X = ⟨#[]⟩ := by
      refine str_eq ?_
      rw [hX, h1]; rfl
    have hbt : b = false := by rw [← hb, h1]; rfl
    subst hXe hbt
    clear h1 h2 hk hc0 hx hf hX hb hn
    go_enter Try.func17, Try.ntmps17
    go_wp2_with fail
    rw [← hw0]
    clear hw0
    refine HF.out.mono ?_
    rintro e w1 ⟨rfl, hb1⟩
    have HB1 := Lib.hid (HB0.out.trans (hb1.mono (by omega)))
    clear hb1
    go_wp2_with fail
    go_ret2
    exact ⟨rfl, HB1.out⟩
  · obtain rfl : k = j := by rw [← hk, h2]
    have hkn : k < n := by rw [← hn]; exact (List.getElem?_eq_some_iff.1 h3).1
    have hne : ((k : Int) == (n : Int)) = false := beq_eq_false_iff_ne.2 (by omega)
    have hki : (k : Int) < n := by omega
    obtain ⟨b1, o1, sp, sd, rfl, hb1, hsp, hsd, cP, cD⟩ := HX0.out k x h3
    obtain rfl : X = sd := by
      refine str_eq ?_
      rw [hX, h1]; exact hsd.symm
    have hbt : b = true := by rw [← hb, h1]; rfl
    subst hbt
    have HC := Lib.hid cD
    have HL := Lib.hid hb1
    clear h1 h2 h3 hk hc0 hx hf hX hb hn cP cD hsp hsd hb1
    go_enter Try.func17, Try.ntmps17
    go_wp2_with fail
    rw [← hw0]
    clear hw0
    refine HF.out.mono ?_
    rintro e w1 ⟨rfl, hb1⟩
    have hcD := (hb1.cell (p := ⟨b1, o1 + k * 2 + 1, none⟩) (by have := HL.out; show b1 < _; omega)).trans HC.out
    have HB1 := Lib.hid (HB0.out.trans (hb1.mono (by omega)))
    clear hb1
    go_wp2_with fail
    go_ret2
    exact ⟨rfl, HB1.out⟩
end Tr
end Go.Proofs.Ytkldgfdfpanelaa
