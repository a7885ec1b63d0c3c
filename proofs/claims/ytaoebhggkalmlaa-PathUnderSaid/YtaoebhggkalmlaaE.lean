/-
  Layer 3 (path): the walks of the document's Base, Ext, Join, Under.
-/
import Derived.Test.YtaoebhggkalmlaaD
namespace Go.Proofs.Ytaoebhggkalmlaa
namespace Pt
open Go.RowKit

set_option maxRecDepth 100000 in
set_option maxHeartbeats 1000000 in
theorem refbase_any (s X : ByteArray) (hX : X.data.toList = baseOf s.data.toList) (w : World) (hs : s.size ≤ 100000) :
    Calls Try.prog 17 #[.string s] w fun e w' => e = .returned (.string X) ∧ Below w.heap.size w w' := by
  have HX := Lib.hid hX
  have hpl := parts_len s.data.toList
  rw [data_length] at hpl
  have hpp := parts_pos s.data.toList
  clear hX
  obtain ⟨n, hn⟩ : ∃ n, (parts s.data.toList).length = n := ⟨_, rfl⟩
  rw [hn] at hpl hpp
  have HN := Lib.hid hn
  clear hn
  have HP := Lib.hid (fun W => parts_any s W hs)
  cases hm : may s.data.toList
  · have hXe : X = ⟨#[]⟩ := str_eq (by rw [HX.out, baseOf_not hm])
    have HM := Lib.hid (refmay_any s false hm w hs)
    clear hm
    go_enter Try.func17, Try.ntmps17
    go_wp2_with fail
    refine HM.out.mono ?_
    rintro e w2 ⟨rfl, hb2⟩
    have HB2 := Lib.hid hb2
    clear hb2
    go_wp2
    go_ret
    rw [hXe]
    exact ⟨rfl, HB2.out⟩
  · have hl : (parts s.data.toList)[n - 1]? = some (baseOf s.data.toList) := by
      unfold baseOf
      rw [if_pos hm, List.getLastD_eq_getLast?, List.getLast?_eq_getElem?, HN.out, List.getElem?_eq_getElem (by rw [HN.out]; omega)]
      rfl
    have HL := Lib.hid hl
    have HM := Lib.hid (refmay_any s true hm w hs)
    clear hm hl
    go_enter Try.func17, Try.ntmps17
    go_wp2_with fail
    refine HM.out.mono ?_
    rintro e w2 ⟨rfl, hb2⟩
    have HB2 := Lib.hid hb2
    clear hb2
    go_wp2_with fail
    refine (HP.out _).mono ?_
    rintro e w1 ⟨g, cap, rfl, ho, hb1⟩
    rw [HN.out] at ho ⊢
    obtain ⟨Y, hY, hc⟩ := ho.at HN.out HL.out
    obtain rfl : Y = X := str_eq (hY.trans HX.out.symm)
    have HB1 := Lib.hid (HB2.out.trans (hb1.mono HB2.out.size))
    have e1 : ((n : Int) - 1).toNat = n - 1 := by omega
    clear hb1 HB2 ho hY
    go_wp2
    go_ret
    exact ⟨rfl, HB1.out⟩

theorem base_len (l : Bs) : (baseOf l).length ≤ l.length := by
  cases hm : may l
  · rw [baseOf_not hm]; simp
  · refine parts_le l _ ?_
    unfold baseOf
    rw [if_pos hm, parts_last (s := l)]
    simp

set_option maxRecDepth 100000 in
set_option maxHeartbeats 1000000 in
theorem refext_any (s X : ByteArray) (hX : X.data.toList = extOf s.data.toList) (w : World) (hs : s.size ≤ 100000) :
    Calls Try.prog 19 #[.string s] w fun e w' => e = .returned (.string X) ∧ Below w.heap.size w w' := by
  obtain ⟨B, hB⟩ : ∃ B : ByteArray, B.data.toList = baseOf s.data.toList := ⟨⟨(baseOf s.data.toList).toArray⟩, by simp⟩
  have hBs : B.size ≤ s.size := by rw [← data_length, hB, ← data_length]; exact base_len _
  have hb := refbase_any s B hB w hs
  have hXB : X.data.toList = extF B.data.toList (B.size - 1) := by rw [hX]; unfold extOf; rw [← hB]; rfl
  have HX := Lib.hid hXB
  have HBA := Lib.hid hb
  clear hX hB hb hXB
  go_enter Try.func19, Try.ntmps19
  go_wp2_with fail
  refine HBA.out.mono ?_
  rintro e w1 ⟨rfl, hb1⟩
  have HB1 := Lib.hid hb1
  clear hb1 HBA
  go_wp2
  go_loop [4] (fun i => ∃ z : Int, i = .int .i64 z ∧ -1 ≤ z ∧ z < B.size ∧ Hid (X.data.toList = extF B.data.toList z.toNat)) (fun i => (intOf i + 1).toNat)
  case atStart => exact ⟨(B.size : Int) - 1, rfl, by omega, by omega, by show _ = _; rw [HX.out, show ((B.size : Int) - 1).toNat = B.size - 1 by omega]⟩
  case round =>
    obtain ⟨z, rfl, hz1, hz2, HZ⟩ := hrel
    clear HX
    by_cases h0 : 0 < z
    · obtain ⟨j, rfl⟩ : ∃ j : Nat, z = (j : Int) := ⟨z.toNat, by omega⟩
      have hjl : j < B.size := by omega
      have hjg : B.data.toList.getD j 0 = B[j] := by
        rw [List.getD_eq_getElem?_getD, List.getElem?_eq_getElem (by rw [data_length]; exact hjl)]; rfl
      have hz : X.data.toList = extF B.data.toList j := HZ.out
      have hst : extF B.data.toList j = if B[j] = 46 then B.data.toList.drop j else extF B.data.toList (j - 1) := by
        obtain ⟨k, rfl⟩ : ∃ k, j = k + 1 := ⟨j - 1, by omega⟩
        conv => lhs; unfold extF
        rw [hjg]
        rfl
      rw [hst] at hz
      by_cases h46 : B[j] = 46
      · have hb : ((B[j].toNat : Int) == 46) = true := by rw [beq_iff_eq, h46]; rfl
        rw [if_pos h46] at hz
        have hXe : X = B.extract j B.size := str_eq (by rw [hz, ext_rest])
        have HXE := Lib.hid hXe
        clear hz hst hjg h46 HZ hXe
        go_wp2
        go_ret
        rw [HXE.out]
        exact ⟨rfl, HB1.out⟩
      · have hb : ((B[j].toNat : Int) == 46) = false := by rw [beq_eq_false_iff_ne]; intro e; exact h46 ((u8_46 _).1 e)
        rw [if_neg h46] at hz
        have HZ2 := Lib.hid hz
        clear hz hst hjg h46 HZ
        go_wp2
        go_round
        case rel => exact ⟨(j : Int) - 1, rfl, by omega, by omega, by show _ = _; rw [HZ2.out, show ((j : Int) - 1).toNat = j - 1 by omega]⟩
        case measure => simp [intOf]
    · have hXe : X = ⟨#[]⟩ := str_eq (by rw [HZ.out, show z.toNat = 0 by omega]; rfl)
      have HXE := Lib.hid hXe
      clear hXe
      go_wp2
      go_ret
      rw [HXE.out]
      exact ⟨rfl, HB1.out⟩
end Pt
end Go.Proofs.Ytaoebhggkalmlaa
