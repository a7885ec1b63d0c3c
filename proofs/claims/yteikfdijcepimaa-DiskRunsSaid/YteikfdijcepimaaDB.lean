/-
  Layer 7 (disk): the walks of the document's At, Read.
-/
import Derived.Test.YteikfdijcepimaaDA
import Derived.OwnWalk
namespace Go.Proofs.Yteikfdijcepimaa
namespace Dk
open Go.RowKit Go.ChangeShapes Kr

abbrev dval (A : Option Addr) (n cap : Nat) (left : Int) : Value := .agg #[.slice A n cap, .int .i64 left]
/-- The place of a name's file. -/
def idx (l : List FF) (p : ByteArray) : Int := match l.findIdx? (fun f => decide (f.name = p)) with
  | none => -1
  | some i => i
theorem idx_none {l : List FF} {p : ByteArray} : at? l p = none ↔ idx l p = -1 := by
  unfold at? idx
  rw [List.find?_eq_none]
  cases h : l.findIdx? (fun f => decide (f.name = p)) with
  | none =>
    rw [List.findIdx?_eq_none_iff] at h
    simp only [iff_true]
    exact fun x hx => by rw [h x hx]; exact Bool.false_ne_true
  | some i =>
    constructor
    · intro h2
      obtain ⟨h3, h4, _⟩ := List.findIdx?_eq_some_iff_getElem.1 h
      exact absurd h4 (h2 _ (List.getElem_mem _))
    · intro h2
      have : (i : Int) = -1 := h2
      omega
theorem idx_some {l : List FF} {p : ByteArray} {k : Nat} {f : FF} (ho : ∀ j g, j < k → l[j]? = some g → g.name ≠ p) (hx : l[k]? = some f) (hf : f.name = p) : at? l p = some f ∧ idx l p = k := by
  have h : l.findIdx? (fun f => decide (f.name = p)) = some k := by
    rw [List.findIdx?_eq_some_iff_getElem]
    obtain ⟨hk, rfl⟩ := List.getElem?_eq_some_iff.1 hx
    refine ⟨hk, decide_eq_true hf, fun j hj => ?_⟩
    have := ho j l[j] hj (List.getElem?_eq_getElem _)
    simpa using this
  refine ⟨?_, by unfold idx; rw [h]⟩
  unfold at?
  rw [List.find?_eq_some_iff_getElem]
  obtain ⟨hk, rfl⟩ := List.getElem?_eq_some_iff.1 hx
  refine ⟨decide_eq_true hf, k, hk, rfl, fun j hj => ?_⟩
  have := ho j l[j] hj (List.getElem?_eq_getElem _)
  simpa using this
theorem idx_no {l : List FF} {p : ByteArray} {n : Nat} (hn : l.length = n) (ho : ∀ j g, j < n → l[j]? = some g → g.name ≠ p) : at? l p = none ∧ idx l p = -1 := by
  have h : at? l p = none := at_none.2 fun f hf => by
    obtain ⟨j, hj⟩ := List.getElem?_of_mem hf
    exact ho j f (by have := (List.getElem?_eq_some_iff.1 hj).1; omega) hj
  exact ⟨h, idx_none.1 h⟩
/-- Where a file stands. -/
theorem idx_at {l : List FF} {p : ByteArray} : (at? l p = none ∧ idx l p = -1) ∨ ∃ k f, at? l p = some f ∧ idx l p = (k : Nat) ∧ l[k]? = some f := by
  cases h : at? l p with
  | none => exact .inl ⟨rfl, idx_none.1 h⟩
  | some f =>
    refine .inr ?_
    unfold at? at h
    obtain ⟨h1, k, hk, h2, h3⟩ := List.find?_eq_some_iff_getElem.1 h
    have hx : l[k]? = some f := by rw [List.getElem?_eq_getElem hk, h2]
    obtain ⟨h4, h5⟩ := idx_some (l := l) (p := p) (fun j g hj hg => by
      obtain ⟨hjl, rfl⟩ := List.getElem?_eq_some_iff.1 hg
      have := h3 j hj
      simpa using this) hx (by simpa using h1)
    exact ⟨k, f, rfl, h5, hx⟩

set_option maxRecDepth 100000 in
set_option maxHeartbeats 4000000 in
theorem at_any (A : Option Addr) (cap B n : Nat) (l : List FF) (left : Int) (p : ByteArray) (z : Int) (hz : idx l p = z) (w : World) (hn : l.length = n) (hnm : n ≤ 1000000) (hx : FRow w B A l) (hB : B ≤ w.heap.size) :
    Calls Try.prog 34 #[dval A n cap left, .string p] w fun e w' => e = .returned (.int .i64 z) ∧ Below w.heap.size w w' := by
  have HX := Lib.hid (hx.more hB)
  have HN := Lib.hid hn
  have HZ := Lib.hid hz
  clear hx hn hz
  obtain ⟨w0, hw0⟩ : ∃ w0, w0 = w.alloc (.cells #[.slice A n cap, .int .i64 left] 29) := ⟨_, rfl⟩
  have HX0 : Hid (FRow w0 w.heap.size A l) := by rw [hw0]; exact HX.out.alloc (Nat.le_refl _) _
  have HB0 : Hid (Below w.heap.size w w0) := by rw [hw0]; exact (Below.refl _ _).alloc (Nat.le_refl _) _
  have hs0 : w0.heap.size = w.heap.size + 1 := by rw [hw0]; simp
  clear HX
  go_enter Try.func34, Try.ntmps34
  go_wp2
  rw [← hw0]
  clear hw0
  go_loopw [10] (fun i wr => ∃ k : Nat, k ≤ n ∧ i = .int .i64 k ∧ Hid (∀ j g, j < k → l[j]? = some g → g.name ≠ p) ∧ Hid (Below (w.heap.size + 1) w0 wr)) (fun i _ => n - (intOf i).toNat)
  case atStart => exact ⟨0, Nat.zero_le _, rfl, fun j g hj => absurd hj (Nat.not_lt_zero _), Below.refl _ _⟩
  case round =>
    obtain ⟨k, hk, rfl, HA, HB⟩ := hrel
    by_cases hlt : k < n
    · have hki : (k : Int) < n := by omega
      have hxk : l[k]? = some (l[k]'(by rw [HN.out]; exact hlt)) := List.getElem?_eq_getElem _
      generalize l[k]'(by rw [HN.out]; exact hlt) = x at hxk
      obtain ⟨b1, o1, rfl, hb1, hcs⟩ := (HX0.out.below HB.out (by omega)) k x hxk
      have c0 := hcs 0 _ (f_name x)
      rw [Nat.add_zero] at c0
      have c1 := hcs 1 _ (f_data x)
      have c2 := hcs 2 _ (f_sure x)
      have he := eqB x.name p
      have hwr : w.heap.size + 1 ≤ wr.heap.size := by have := HB.out.size; omega
      by_cases hp : x.name = p
      · rw [decide_eq_true hp] at he
        have HE := Lib.hid (idx_some HA.out hxk hp).2
        clear hcs hxk hp
        go_wp2
        go_ret
        refine ⟨by rw [← HZ.out, HE.out]; rfl, ?_⟩
        exact HB0.out.trans ((HB.out.alloc hwr _).mono (by omega))
      · rw [decide_eq_false hp] at he
        have HNO : Hid (∀ j g, j < k + 1 → l[j]? = some g → g.name ≠ p) := fun j g hj hg => by
          by_cases hjk : j = k
          · subst hjk; rw [hxk] at hg; cases hg; exact hp
          · exact HA.out j g (by omega) hg
        clear hcs hxk hp
        go_wp2
        go_roundw
        case rel => exact ⟨k + 1, by omega, by go_num, HNO.out, HB.out.alloc hwr _⟩
        case measure => simp [intOf]; omega
    · obtain rfl : k = n := by omega
      have HE := Lib.hid (idx_no HN.out HA.out).2
      go_wp2
      go_ret
      exact ⟨by rw [← HZ.out, HE.out]; rfl, HB0.out.trans (HB.out.mono (by omega))⟩

set_option maxRecDepth 100000 in
set_option maxHeartbeats 4000000 in
theorem refread_any (A : Option Addr) (cap B n : Nat) (l : List FF) (left : Int) (p : ByteArray) (w : World) (hn : l.length = n) (hnm : n ≤ 1000000) (hx : FRow w B A l) (hB : B ≤ w.heap.size) :
    Calls Try.prog 17 #[dval A n cap left, .string p] w fun e w' => e = .returned (.tuple #[.string (readV ⟨l, left⟩ p).1, .int .i64 ((readV ⟨l, left⟩ p).2 : Int)]) ∧ Below w.heap.size w w' := by
  have HX := Lib.hid (hx.more hB)
  have HN := Lib.hid hn
  clear hx hn
  obtain ⟨z, hz⟩ : ∃ z, idx l p = z := ⟨_, rfl⟩
  have HAT := Lib.hid (fun W (h : FRow W w.heap.size A l) (hW : w.heap.size ≤ W.heap.size) => at_any A cap w.heap.size n l left p z hz W HN.out hnm h hW)
  obtain ⟨w0, hw0⟩ : ∃ w0, w0 = w.alloc (.cells #[.slice A n cap, .int .i64 left] 29) := ⟨_, rfl⟩
  have HX0 : Hid (FRow w0 w.heap.size A l) := by rw [hw0]; exact HX.out.alloc (Nat.le_refl _) _
  have HB0 : Hid (Below w.heap.size w w0) := by rw [hw0]; exact (Below.refl _ _).alloc (Nat.le_refl _) _
  have HC0 : Hid (w0.cell? ⟨w.heap.size, 0, none⟩ = some (.slice A n cap)) := by show _ = _; rw [hw0]; simp
  have HC1 : Hid (w0.cell? ⟨w.heap.size, 1, none⟩ = some (.int .i64 left)) := by show _ = _; rw [hw0]; simp
  have hs0 : w0.heap.size = w.heap.size + 1 := by rw [hw0]; simp
  rcases idx_at (l := l) (p := p) with ⟨h1, h2⟩ | ⟨k, f, h1, h2, h3⟩
  · obtain rfl : z = -1 := hz.symm.trans h2
    have HR : Hid (readV ⟨l, left⟩ p = (nul, 10)) := by show _ = _; unfold readV; rw [h1]
    clear HX hz h1 h2
    go_enter Try.func17, Try.ntmps17
    go_wp2_with fail
    rw [← hw0]
    clear hw0
    have c0 := HC0.out
    have c1 := HC1.out
    go_wp2_with fail
    refine (HAT.out _ HX0.out (by omega)).mono ?_
    rintro e w1 ⟨rfl, hb1⟩
    have HB1 := Lib.hid (HB0.out.trans (hb1.mono (by omega)))
    clear hb1
    go_wp2_with fail
    go_ret2
    rw [HR.out]
    exact ⟨rfl, HB1.out⟩
  · obtain rfl : z = k := hz.symm.trans h2
    have hR : readV ⟨l, left⟩ p = (f.data, 0) := by unfold readV; rw [h1]
    have HR := Lib.hid hR
    have hkn : k < n := by have := (List.getElem?_eq_some_iff.1 h3).1; have := HN.out; omega
    have hki : (k : Int) < n := by omega
    have hk0 : ((k : Int) < 0) = False := by simp
    have H3 := Lib.hid h3
    clear HX hz h1 h2 hR h3
    go_enter Try.func17, Try.ntmps17
    go_wp2_with fail
    rw [← hw0]
    clear hw0
    have c0 := HC0.out
    have c1 := HC1.out
    go_wp2_with fail
    refine (HAT.out _ HX0.out (by omega)).mono ?_
    rintro e w1 ⟨rfl, hb1⟩
    have HB1 := Lib.hid (HB0.out.trans (hb1.mono (by omega)))
    have HX1 : Hid (FRow w1 w.heap.size A l) := HX0.out.below hb1 (by omega)
    have d0 := (hb1.cell (p := ⟨w.heap.size, 0, none⟩) (by show w.heap.size < _; omega)).trans HC0.out
    clear hb1 c0 c1
    obtain ⟨b1, o1, rfl, hbl, hcs⟩ := HX1.out k f H3.out
    have e1 := hcs 1 _ (f_data f)
    clear hcs
    go_wp2_with fail
    go_ret2
    rw [HR.out]
    exact ⟨rfl, HB1.out⟩
end Dk
end Go.Proofs.Yteikfdijcepimaa
