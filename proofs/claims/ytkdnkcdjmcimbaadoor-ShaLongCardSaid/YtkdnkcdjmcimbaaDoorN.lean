/-
  Layer 2 (sha): the walk of the document's Hex.
-/
import Derived.Test.YtkdnkcdjmcimbaaDoorM
namespace Go.Proofs.YtkdnkcdjmcimbaaDoor
namespace Sh
open Go.RowKit

theorem digits_cut : ∀ n, n < 16 → (ByteArray.extract ⟨#[48, 49, 50, 51, 52, 53, 54, 55, 56, 57, 97, 98, 99, 100, 101, 102]⟩ n (n + 1)).data.toList = [hexD n] := by decide

theorem cut_digit (n : Nat) (h : n < 16) (W : World) :
    (Instr.slice 9 (.string ⟨#[48, 49, 50, 51, 52, 53, 54, 55, 56, 57, 97, 98, 99, 100, 101, 102]⟩) (some (.int .i64 (n : Int))) (some (.int .i64 ((n : Int) + 1))) none).run Tryd.prog W = .ok (.string ⟨#[hexD n]⟩) W := by
  rw [run_slice_string_if W 9 _ .i64 .i64 (n : Int) ((n : Int) + 1) Tryd.underlying9, if_pos ⟨by omega, by show (n : Int) + 1 ≤ 16; omega⟩, if_pos ⟨by omega, by omega⟩]
  have e := digits_cut n h
  rw [show (n : Int).toNat = n by omega, show ((n : Int) + 1).toNat = n + 1 by omega]
  congr 2
  apply ByteArray.ext
  apply Array.toList_inj.1
  exact e

set_option maxRecDepth 100000 in
set_option maxHeartbeats 4000000 in
theorem refhex_any (l : Bs) (w : World) (hl : l.length = 32) :
    Calls Tryd.prog 18 #[.agg (bvals l).toArray] w fun e w' => e = .returned (.string ⟨(hexs l).toArray⟩) ∧ Below w.heap.size w w' := by
  have HL := Lib.hid hl
  clear hl
  have hrow : Row (w.alloc (.cells (bvals l).toArray 27)) w.heap.size 27 (bvals l) := Row.new_at w _ _ _ rfl rfl
  have hb1 : Below w.heap.size w (w.alloc (.cells (bvals l).toArray 27)) := (Below.refl _ _).alloc (Nat.le_refl _) _
  have HR := Lib.hid hrow
  have HB := Lib.hid hb1
  clear hrow hb1
  go_enter Tryd.func18, Tryd.ntmps18
  go_wp2
  go_loopw [4, 5] (fun v i wr => ∃ (k : Nat) (X : ByteArray), k ≤ 32 ∧ i = .int .i64 k ∧ v = .string X ∧ Hid (X.data.toList = hexs (l.take k)) ∧ Hid (Row wr w.heap.size 27 (bvals l)) ∧ Hid (Below w.heap.size w wr)) (fun _ i _ => 32 - (intOf i).toNat)
  case atStart => exact ⟨0, _, by omega, rfl, rfl, rfl, HR, HB⟩
  case round =>
    obtain ⟨k, X, hk, rfl, rfl, HX, HRW, HW⟩ := hrel
    by_cases hlt : k < 32
    · have hki : (k : Int) < 32 := by omega
      have hck := HRW.out.cell k
      rw [bvals_get l k (by rw [HL.out]; exact hlt)] at hck
      have hxk : l[k]? = some (l.getD k 0) := by rw [List.getD_eq_getElem?_getD, List.getElem?_eq_getElem (by rw [HL.out]; exact hlt)]; rfl
      generalize l.getD k 0 = c at hck hxk
      have hhs := hexs_snoc (l.take k) c
      rw [← take_snoc l k c hxk] at hhs
      have hcl := c.toNat_lt
      have hXs : X.size = 2 * k := by
        rw [← data_length, HX.out, hexs_length, List.length_take, HL.out]; omega
      have hX64 : X.size ≤ 64 := by omega
      have hd1 := cut_digit (c.toNat / 16) (by omega)
      have hd2 := cut_digit (c.toNat % 16) (by omega)
      rw [show ((c.toNat / 16 : Nat) : Int) = (c.toNat : Int) / 16 by omega] at hd1
      rw [show ((c.toNat % 16 : Nat) : Int) = (c.toNat : Int) % 16 by omega] at hd2
      generalize hexD (c.toNat / 16) = x at hd1 hhs
      generalize hexD (c.toNat % 16) = y at hd2 hhs
      have HHS := Lib.hid hhs
      clear hxk hhs hXs
      go_wp2
      go_quiet (fail)
      go_wp2
      go_roundw
      case rel =>
        refine ⟨k + 1, _, by omega, by go_num, rfl, ?_, HRW.out.drewN _, below_drewN HW.out _⟩
        show (X ++ ⟨#[x]⟩ ++ ⟨#[y]⟩ : ByteArray).data.toList = _
        rw [HHS.out, ByteArray.data_append, ByteArray.data_append, Array.toList_append, Array.toList_append, HX.out, List.append_assoc]
        rfl
      case measure => simp [intOf]; omega
    · have hX := HX.out
      rw [List.take_of_length_le (by rw [HL.out]; omega)] at hX
      have hXX : X = ⟨(hexs l).toArray⟩ := by
        apply ByteArray.ext
        apply Array.toList_inj.1
        rw [hX]
      have HXX := Lib.hid hXX
      clear hX hXX
      go_wp2
      go_ret
      refine ⟨?_, HW.out⟩
      rw [← HXX.out]
      rfl
end Sh
end Go.Proofs.YtkdnkcdjmcimbaaDoor
