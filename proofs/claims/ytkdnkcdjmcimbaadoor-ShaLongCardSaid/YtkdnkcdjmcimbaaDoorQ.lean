/-
  Layer 2 (sha): the laws' own helpers: the document's example; parts, one behind the other.
-/
import Derived.Test.YtkdnkcdjmcimbaaDoorL
import Derived.Test.YtkdnkcdjmcimbaaDoorP
import Derived.Stop.BytesEq
namespace Go.Proofs.YtkdnkcdjmcimbaaDoor
namespace Sh
open Go.RowKit

theorem eq_same (l : Bs) (hl : l.length = 32) (W : World) : (binOp .eql 27 (.agg (bvals l).toArray) (.agg (bvals l).toArray)).run Tryd.prog W = .ok (.bool true) W := by
  have h := run_eql_bytes (P := Tryd.prog) W 27 5 32 Tryd.underlying27 Tryd.underlying5 (fun w => by kernel_rfl) l l hl hl
  rw [beq_self_eq_true] at h
  exact h
theorem neq_same (l : Bs) (hl : l.length = 32) (W : World) : (binOp .neq 27 (.agg (bvals l).toArray) (.agg (bvals l).toArray)).run Tryd.prog W = .ok (.bool false) W := by
  have h := run_equalIn_bytes (P := Tryd.prog) W 9998 27 5 32 Tryd.underlying27 Tryd.underlying5 (fun w => by kernel_rfl) l l hl hl
  rw [beq_self_eq_true] at h
  have e : (binOp .neq 27 (.agg (bvals l).toArray) (.agg (bvals l).toArray)).run Tryd.prog W = ((Op.equalIn 10000 27 (.agg (bvals l).toArray) (.agg (bvals l).toArray)).run Tryd.prog W).andThen fun b w' => .ok (.bool (!b)) w' := run_neq_struct (P := Tryd.prog) W 27 (bvals l).toArray (bvals l).toArray
  rw [e]
  have h' : (Op.equalIn 10000 27 (.agg (bvals l).toArray) (.agg (bvals l).toArray)).run Tryd.prog W = .ok true W := h
  rw [h']
  rfl
theorem no_guard : Tryd.prog.eqGuardType Tryd.prog.depth 27 = false := by kernel_rfl

set_option maxRecDepth 100000 in
theorem fixed_any (w : World) (htab : Tab w) (hb0 : 0 < w.heap.size) :
    Calls Tryd.prog 9 #[] w fun e w' => e = .returned (.bool true) ∧ Below w.heap.size w w' := by
  have HT := Lib.hid htab
  have HHX := Lib.hid (fun W => hex_any (dig [97, 98, 99]) W (dig_length _))
  have HABC := Lib.hid abc
  clear htab
  go_enter Tryd.func9, Tryd.ntmps9
  go_wp2_with fail
  refine (sum_any (some ⟨w.heap.size, 0, none⟩) 1 [[97, 98, 99]] _ ?c1 (by decide) (by decide) (HT.out.below ((Below.refl _ _).alloc (Nat.le_refl _) _) hb0) (by simp)).mono ?_
  case c1 =>
    rintro (_ | j) x hx
    · simp only [List.getElem?_cons_zero, Option.some.injEq] at hx
      subst hx
      refine ⟨w.heap.size, 0, ⟨#[97, 98, 99]⟩, rfl, by simp, rfl, ?_⟩
      exact cell_new w _ _ _ rfl
    · simp at hx
  rintro e w1 ⟨rfl, hb1⟩
  have hb1' : Below w.heap.size w w1 := ((Below.refl _ _).alloc (Nat.le_refl _) _).trans (hb1.mono (by simp))
  have HB1 := Lib.hid hb1'
  clear hb1 hb1'
  have hx := HHX.out w1
  rw [HABC.out] at hx
  have HX := Lib.hid hx
  clear hx HHX HABC
  go_wp2_with fail
  refine HX.out.mono ?_
  rintro e w2 ⟨rfl, hb2⟩
  have HB2 := Lib.hid (HB1.out.trans (hb2.mono HB1.out.size))
  clear hb2 HX
  go_wp2
  go_ret
  exact ⟨rfl, HB2.out⟩

def Joined (xs : List Bs) (w : World) (e : Ending) (w' : World) : Prop :=
  ∃ (X : ByteArray) (b : Bool), e = .returned (.tuple #[.string X, .bool b]) ∧ (b = true → X.data.toList = xs.flatten ∧ xs.length ≤ 20 ∧ xs.flatten.length ≤ 300) ∧ w = w'

set_option maxRecDepth 100000 in
set_option maxHeartbeats 2000000 in
theorem joined_any (A : Option Addr) (cap B : Nat) (xs : List Bs) (w : World) (hx : SRow w B A xs) (hn : xs.length ≤ 140737488355328) :
    Calls Tryd.prog 8 #[.slice A xs.length cap] w (Joined xs w) := by
  have HX := Lib.hid hx
  generalize hln : xs.length = n at *
  have HL := Lib.hid hln
  clear hx hln
  go_enter Tryd.func8, Tryd.ntmps8
  go_wp2
  go_loop [4, 5] (fun v i => ∃ (k : Nat) (X : ByteArray), k ≤ n ∧ i = .int .i64 k ∧ v = .string X ∧ X.size ≤ 300 * k ∧ Hid (X.data.toList = (xs.take k).flatten)) (fun _ i => n - (intOf i).toNat)
  case atStart => exact ⟨0, _, Nat.zero_le _, rfl, rfl, by decide, rfl⟩
  case round =>
    obtain ⟨k, X, hk, rfl, rfl, hX, HF⟩ := hrel
    by_cases hlt : k < n
    · have hki : (k : Int) < n := by omega
      have hxk : xs[k]? = some (xs[k]'(by rw [HL.out]; exact hlt)) := List.getElem?_eq_getElem _
      generalize xs[k]'(by rw [HL.out]; exact hlt) = x at hxk
      obtain ⟨b, o, s, rfl, _, hsx, hc⟩ := HX.out k x hxk
      have hfs := flat_snoc xs k x hxk
      rw [← hsx] at hfs
      have HFS := Lib.hid hfs
      clear hfs hxk hsx
      by_cases h300 : s.size ≤ 300
      · have h3 : (s.size : Int) ≤ 300 := by omega
        have hsum : (X.size : Int) + s.size ≤ 9223372036854775807 := by omega
        clear h300
        go_wp2
        go_round
        case rel =>
          refine ⟨k + 1, _, by omega, by go_num, rfl, ?_, ?_⟩
          · rw [ByteArray.size_append]; omega
          · show (X ++ s : ByteArray).data.toList = _
            rw [HFS.out, ByteArray.data_append, Array.toList_append, HF.out]
        case measure => simp [intOf]; omega
      · have h3 : (300 : Int) < s.size := by omega
        clear h300
        go_wp2
        go_ret2
        exact ⟨_, false, rfl, (fun h => by cases h), rfl⟩
    · have hfl := HF.out
      rw [flat_all xs k (by rw [HL.out]; omega)] at hfl
      have hsz : X.size = xs.flatten.length := by rw [← hfl, data_length]
      have HFL := Lib.hid hfl
      have HSZ := Lib.hid hsz
      have hXm : (X.size : Int) ≤ 9223372036854775807 := by omega
      clear hfl hsz
      by_cases h20 : n ≤ 20
      · have h2 : (n : Int) ≤ 20 := by omega
        by_cases h300 : X.size ≤ 300
        · have h3 : (X.size : Int) ≤ 300 := by omega
          have hfin : X.data.toList = xs.flatten ∧ xs.length ≤ 20 ∧ xs.flatten.length ≤ 300 := ⟨HFL.out, by rw [HL.out]; exact h20, by rw [← HSZ.out]; exact h300⟩
          have HFIN := Lib.hid hfin
          clear h20 h300 hfin
          go_wp2
          go_ret2
          exact ⟨X, true, rfl, (fun _ => HFIN.out), rfl⟩
        · have h3 : decide ((X.size : Int) ≤ 300) = false := by rw [decide_eq_false_iff_not]; omega
          clear h20 h300
          go_wp2
          go_ret2
          exact ⟨X, false, rfl, (fun h => by cases h), rfl⟩
      · have h2 : (20 : Int) < n := by omega
        clear h20
        go_wp2
        go_ret2
        exact ⟨X, false, rfl, (fun h => by cases h), rfl⟩
end Sh
end Go.Proofs.YtkdnkcdjmcimbaaDoor
