/-
  Layer 2 (sha): slices of strings in memory; the walk of Sum, and of a nil hash's.
-/
import Derived.Test.YtiilmgbobjagkaaDoorSH
import Derived.DataElems
import Derived.ChangeSlices
namespace Go.Proofs.YtiilmgbobjagkaaDoor
namespace Sh
open Go.RowKit Go.ChangeShapes

theorem data_length (s : ByteArray) : s.data.toList.length = s.size := by simp
/-- A slice's address under which strings stand, below block B: the rows of bytes xs. -/
def SRow (w : World) (B : Nat) (A : Option Addr) (xs : List Bs) : Prop :=
  ∀ j x, xs[j]? = some x → ∃ b o s, A = some ⟨b, o, none⟩ ∧ b < B ∧ s.data.toList = x ∧ w.cell? ⟨b, o + j, none⟩ = some (.string s)
theorem SRow.none_ (w : World) (B : Nat) (A : Option Addr) : SRow w B A [] := fun j x h => by simp at h
theorem SRow.keep {w w' : World} {B : Nat} {A : Option Addr} {xs : List Bs} (h : SRow w B A xs) (hk : ∀ p : Addr, p.block < B → w'.cell? p = w.cell? p) : SRow w' B A xs := fun j x hx => by
  obtain ⟨b, o, s, h1, h2, h3, h4⟩ := h j x hx
  exact ⟨b, o, s, h1, h2, h3, (hk _ h2).trans h4⟩
theorem SRow.below {w w' : World} {B B' : Nat} {A : Option Addr} {xs : List Bs} (h : SRow w B A xs) (hb : Below B' w w') (hB : B ≤ B') : SRow w' B A xs := h.keep fun _ hp => (hb.mono hB).cell hp
theorem SRow.more {w : World} {B B' : Nat} {A : Option Addr} {xs : List Bs} (h : SRow w B A xs) (hB : B ≤ B') : SRow w B' A xs := fun j x hx => by
  obtain ⟨b, o, s, h1, h2, h3, h4⟩ := h j x hx
  exact ⟨b, o, s, h1, by omega, h3, h4⟩
theorem take_snoc {α : Type} (xs : List α) (k : Nat) (x : α) (h : xs[k]? = some x) : xs.take (k + 1) = xs.take k ++ [x] := by
  obtain ⟨hk, rfl⟩ := List.getElem?_eq_some_iff.1 h
  rw [List.take_succ_eq_append_getElem hk]
theorem flat_snoc (xs : List Bs) (k : Nat) (x : Bs) (h : xs[k]? = some x) : (xs.take (k + 1)).flatten = (xs.take k).flatten ++ x := by
  rw [take_snoc xs k x h]; simp
theorem flat_take (xs : List Bs) (k : Nat) : (xs.take k).flatten.length ≤ xs.flatten.length := by
  have h : xs.flatten = (xs.take k).flatten ++ (xs.drop k).flatten := by rw [← List.flatten_append, List.take_append_drop]
  rw [h, List.length_append]; omega
theorem flat_all (xs : List Bs) (k : Nat) (h : xs.length ≤ k) : (xs.take k).flatten = xs.flatten := by rw [List.take_of_length_le h]

set_option maxRecDepth 100000 in
set_option maxHeartbeats 2000000 in
theorem sum_any (A : Option Addr) (cap : Nat) (xs : List Bs) (w : World) (hx : SRow w w.heap.size A xs) (hn : xs.length ≤ 100000) (hl : xs.flatten.length ≤ 100000) (htab : Tab w) (hb0 : 0 < w.heap.size) :
    Calls Tryd.prog 17 #[.slice A xs.length cap] w fun e w' => e = .returned (.agg (bvals (dig xs.flatten)).toArray) ∧ Below w.heap.size w w' := by
  have HX := Lib.hid hx
  have HT := Lib.hid htab
  have HFL := Lib.hid hl
  generalize hln : xs.length = n at *
  have HN := Lib.hid hln
  clear hx htab hln hl
  go_enter Tryd.func17, Tryd.ntmps17
  go_wp2_with fail
  refine (new_any _).mono ?_
  rintro e w1 ⟨rfl, hh1, hb1, hs1⟩
  simp only [World.size_alloc] at hh1 hb1 hs1
  have hres1 : Row w1 w.heap.size 29 (bvals (List.replicate 32 0)) := (Row.new_at w _ _ _ rfl rfl).below hb1 (by omega)
  have hb1' : Below w.heap.size w w1 := ((Below.refl _ _).alloc (Nat.le_refl _) _).trans (hb1.mono (by omega))
  have HH1 := Lib.hid hh1
  have HR1 := Lib.hid hres1
  have HB1 := Lib.hid hb1'
  clear hh1 hb1 hres1 hb1'
  go_wp2
  go_loopw [9] (fun i wr => ∃ k : Nat, k ≤ n ∧ i = .int .i64 k ∧ Hid (HashAt wr (w.heap.size + 1) (xs.take k).flatten) ∧ Hid (Row wr w.heap.size 29 (bvals (List.replicate 32 0))) ∧ Hid (Below w.heap.size w wr)) (fun i _ => n - (intOf i).toNat)
  case atStart => exact ⟨0, Nat.zero_le _, rfl, HH1, HR1, HB1⟩
  case round =>
    obtain ⟨k, hk, rfl, HH, HR, HB⟩ := hrel
    by_cases hlt : k < n
    · have hki : (k : Int) < n := by omega
      have hxk : xs[k]? = some (xs[k]'(by rw [HN.out]; exact hlt)) := List.getElem?_eq_getElem _
      generalize xs[k]'(by rw [HN.out]; exact hlt) = x at hxk
      obtain ⟨b, o, s, rfl, hbl, hsx, hc0⟩ := HX.out k x hxk
      have hc : wr.cell? ⟨b, o + k, none⟩ = some (.string s) := (HB.out.cell (p := ⟨b, o + k, none⟩) hbl).trans hc0
      have hfs := flat_snoc xs k x hxk
      have hft := flat_take xs (k + 1)
      rw [hfs, List.length_append, ← hsx, data_length] at hft
      rw [← hsx] at hfs
      have hadd := add_any (w.heap.size + 1) (xs.take k).flatten s wr (w.heap.size + 1) HH.out (HT.out.below HB.out hb0) (Nat.le_refl _) (by omega) (by have := HFL.out; omega)
      rw [← hfs] at hadd
      have HADD := Lib.hid hadd
      clear hc0 hfs hft hadd hxk hsx
      go_wp2_with fail
      refine HADD.out.mono ?_
      rintro e w2 ⟨rfl, hh2, hb2⟩
      have hb2' : Below w.heap.size w w2 := HB.out.trans (hb2.mono (by omega))
      have hr2 := HR.out.below hb2 (by omega)
      have HH2 := Lib.hid hh2
      have HB2 := Lib.hid hb2'
      have HR2 := Lib.hid hr2
      clear hh2 hb2 hb2' hr2 HADD
      go_wp2
      go_roundw
      case rel => exact ⟨k + 1, by omega, by go_num, HH2, HR2, HB2⟩
      case measure => simp [intOf]; omega
    · have hh2 := HH.out
      rw [flat_all xs k (by have := HN.out; omega)] at hh2
      have hsz := HB.out.size
      have hsum := hsum_any (w.heap.size + 1) xs.flatten wr hh2 (HT.out.below HB.out hb0) (by omega) HFL.out
      have HSUM := Lib.hid hsum
      clear hh2 hsum
      go_wp2_with fail
      refine HSUM.out.mono ?_
      rintro e w2 ⟨rfl, hb2⟩
      have hb2' : Below w.heap.size w w2 := HB.out.trans (hb2.mono hsz)
      have hr2 := HR.out.below hb2 (by have := HR.out.lt; omega)
      have HB2 := Lib.hid hb2'
      have HR2 := Lib.hid hr2
      clear hb2 hb2' hr2 HSUM
      go_wp2_with (refine wpList_store_all rfl 29 (.tmp 2) (.tmp 18) rfl w.heap.size (bvals (dig xs.flatten)) rfl rfl 29 (bvals (List.replicate 32 0)) HR2.out ?s1 ?s2 (bvals_one _) ?_)
      case s1 => rw [bvals_length, dig_length]; kernel_rfl
      case s2 => rw [bvals_length, bvals_length, dig_length, List.length_replicate]
      intro w7 HR7 HT7
      go_wp2
      refine bodyPost_ret (results_cell_row rfl _ _ w.heap.size 29 (bvals (dig xs.flatten)).toArray (0, 0) _ rfl HR7.out Tryd.underlying29 rfl ?r1) rfl ⟨rfl, below_turn HB2.out HT7.out (Nat.le_refl _)⟩
      case r1 => rw [List.size_toArray, bvals_length, dig_length]; kernel_rfl

set_option maxRecDepth 100000 in
theorem nilsum_any (w : World) (htab : Tab w) (hb0 : 0 < w.heap.size) :
    Calls Tryd.prog 26 #[.pointer none] w fun e w' => e = .returned (.agg (bvals (dig [])).toArray) ∧ Below w.heap.size w w' := by
  have HT := Lib.hid htab
  clear htab
  go_enter Tryd.func26, Tryd.ntmps26
  go_wp2_with fail
  refine (sum_any none 0 [] _ (SRow.none_ _ _ _) (by simp) (by simp) (HT.out.below ((Below.refl _ _).alloc (Nat.le_refl _) _) hb0) (by simp)).mono ?_
  rintro e w1 ⟨rfl, hb1⟩
  simp only [World.size_alloc] at hb1
  have hres1 : Row w1 w.heap.size 29 (bvals (List.replicate 32 0)) := (Row.new_at w _ _ _ rfl rfl).below hb1 (by omega)
  have hb1' : Below w.heap.size w w1 := ((Below.refl _ _).alloc (Nat.le_refl _) _).trans (hb1.mono (by omega))
  have HR1 := Lib.hid hres1
  have HB1 := Lib.hid hb1'
  clear hb1 hres1 hb1'
  go_wp2_with (refine wpList_store_all rfl 29 (.tmp 2) (.tmp 8) rfl w.heap.size (bvals (dig [])) rfl rfl 29 (bvals (List.replicate 32 0)) HR1.out ?s1 ?s2 (bvals_one _) ?_)
  case s1 => rw [bvals_length, dig_length]; kernel_rfl
  case s2 => rw [bvals_length, bvals_length, dig_length, List.length_replicate]
  intro w7 HR7 HT7
  go_wp2
  refine bodyPost_ret (results_cell_row rfl _ _ w.heap.size 29 (bvals (dig [])).toArray (0, 0) _ rfl HR7.out Tryd.underlying29 rfl ?r1) rfl ⟨rfl, below_turn HB1.out HT7.out (Nat.le_refl _)⟩
  case r1 => rw [List.size_toArray, bvals_length, dig_length]; kernel_rfl

set_option maxRecDepth 100000 in
theorem niladd_any (s : ByteArray) (w : World) :
    Calls Tryd.prog 25 #[.pointer none, .string s] w fun e w' => e = .returned (.tuple #[]) ∧ w = w' := by
  go_enter Tryd.func25, Tryd.ntmps25
  go_wp2
  refine bodyPost_ret (results_none rfl _ _ _) rfl ?_
  exact ⟨rfl, rfl⟩
end Sh
end Go.Proofs.YtiilmgbobjagkaaDoor
