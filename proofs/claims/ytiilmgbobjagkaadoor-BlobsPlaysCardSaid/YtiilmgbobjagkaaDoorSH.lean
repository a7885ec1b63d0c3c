/-
  Layer 2 (sha): the walks of New and of a hash's Sum.
-/
import Derived.Test.YtiilmgbobjagkaaDoorSG
import Derived.Test.YtiilmgbobjagkaaDoorSMathD
import Derived.Great.BuildSlice
namespace Go.Proofs.YtiilmgbobjagkaaDoor
namespace Sh
open Go.RowKit

set_option maxRecDepth 100000 in
theorem new_any (w : World) :
    Calls Tryd.prog 24 #[] w fun e w' => e = .returned (.pointer (some ⟨w.heap.size, 0, none⟩)) ∧ HashAt w' w.heap.size [] ∧ Below w.heap.size w w' ∧ w.heap.size < w'.heap.size := by
  go_enter Tryd.func24, Tryd.ntmps24
  go_wp2_with (first
    | (refine wpList_buildTo rfl 67 _ rfl (some 1) rfl (vals init.list).toArray (by kernel_rfl) ?_)
    | (refine wpList_buildTo rfl 71 _ rfl (some 2) rfl (HC init.list 0 (List.replicate 64 0)).toArray (by kernel_rfl) ?_))
  go_ret
  refine ⟨rfl, ⟨List.replicate 64 0, has_nil _ (by simp), ?_⟩, (Below.refl _ _).alloc (Nat.le_refl _) _, by simp⟩
  exact Row.new_at w _ _ _ rfl rfl

set_option maxRecDepth 100000 in
set_option maxHeartbeats 2000000 in
theorem hsum_any (b : Nat) (L : Bs) (w : World) (hh : HashAt w b L) (htab : Tab w) (hb0 : 0 < w.heap.size) (hl : L.length ≤ 100000) :
    Calls Tryd.prog 26 #[.pointer (some ⟨b, 0, none⟩)] w fun e w' => e = .returned (.agg (bvals (dig L)).toArray) ∧ Below w.heap.size w w' := by
  obtain ⟨r, hhas, hrow⟩ := hh
  have HHAS := Lib.hid hhas
  have HR := Lib.hid hrow
  have HT := Lib.hid htab
  have hbl := hrow.lt
  have hc8 := hrow.cell 8
  rw [HC_size _ _ _ rfl] at hc8
  generalize hM : L.length = M at hc8 hl
  have HM := Lib.hid hM
  clear hhas hrow htab hM
  go_enter Tryd.func26, Tryd.ntmps26
  have hz50 : ∀ W, (zeroValue 71).run Tryd.prog W = .ok (.agg (HC (List.replicate 8 0) 0 (List.replicate 64 0)).toArray) W := fun W => by kernel_rfl
  go_wp2_with (first
    | (refine wpList_load_all rfl 71 (.tmp 10) rfl b rfl 71 (HC (st L).list L.length r) _ ((HR.out.alloc _)) Tryd.underlying71 rfl ?l1 ?_)
    | (refine wpList_store_all rfl 71 (.tmp 3) (.tmp 11) rfl (w.heap.size + 1) (HC (st L).list L.length r) rfl rfl 71 (HC (List.replicate 8 0) 0 (List.replicate 64 0)) (Row.new_at _ _ _ _ (by simp) rfl) ?s1 ?s2 ?s3 ?_))
  case l1 => rw [HC_length _ _ _ rfl HHAS.out.1]; kernel_rfl
  case s1 => rw [HC_length _ _ _ rfl HHAS.out.1]; kernel_rfl
  case s2 => rw [HC_length _ _ _ rfl HHAS.out.1, HC_length _ _ _ rfl (by simp)]
  case s3 => exact HC_one _ _ _
  intro w3 HR3 HT3
  have hb3 : Below w.heap.size w w3 := below_turn (((Below.refl _ _).alloc (Nat.le_refl _) _).alloc (by simp) _) HT3.out (by omega)
  have hres3 : Row w3 w.heap.size 29 (bvals (List.replicate 32 0)) := ((Row.new_at w _ _ _ rfl rfl).alloc _).turn HT3.out (by omega)
  have hs3 := hb3.size
  have hs3' : w.heap.size + 1 < w3.heap.size := HR3.out.lt
  have hc8' : w3.cell? ⟨b, 8, none⟩ = some (.int .u64 (M : Int)) := (hb3.cell (p := ⟨b, 8, none⟩) hbl).trans hc8
  have HB3 := Lib.hid hb3
  have HRS3 := Lib.hid hres3
  clear hb3 hres3 HT3 hz50
  go_wp2_with fail
  refine (ending_any M w3 (by omega)).mono ?_
  rintro e w4 ⟨rfl, hb4⟩
  have hs4 := hb4.size
  have hh4 : HashAt w4 (w.heap.size + 1) L := ⟨r, HHAS.out, HR3.out.below hb4 hs3'⟩
  have hb4' : Below w.heap.size w w4 := HB3.out.trans (hb4.mono hs3)
  have hres4 := HRS3.out.below hb4 (by omega)
  have htab4 := HT.out.below hb4' hb0
  have hadd := add_any (w.heap.size + 1) L ⟨(tail M).toArray⟩ w4 (w.heap.size + 1) hh4 htab4 (Nat.le_refl _) (by omega) (by
    rw [HM.out, show (⟨(tail M).toArray⟩ : ByteArray).size = (tail M).length from rfl, tail_length]; unfold padZ; omega)
  rw [show L ++ (⟨(tail M).toArray⟩ : ByteArray).data.toList = L ++ tail L.length by rw [HM.out]] at hadd
  have HADD := Lib.hid hadd
  have HB4 := Lib.hid hb4'
  have HRS4 := Lib.hid hres4
  clear hb4 hh4 hb4' hres4 htab4 hadd hc8 hc8' HB3 HRS3 HR3
  go_wp2_with fail
  refine HADD.out.mono ?_
  rintro e w5 ⟨rfl, ⟨r', _, hrow5⟩, hb5⟩
  have hs5 := hb5.size
  have hb5' : Below w.heap.size w w5 := HB4.out.trans (hb5.mono (by omega))
  have hres5 := HRS4.out.below hb5 (by omega)
  obtain ⟨N, hN⟩ : ∃ N, N = (L ++ tail L.length).length := ⟨_, rfl⟩
  rw [← hN] at hrow5
  obtain ⟨s, hs⟩ : ∃ s, s = st (L ++ tail L.length) := ⟨_, rfl⟩
  rw [← hs] at hrow5
  have HS := Lib.hid hs
  have HR5 := Lib.hid hrow5
  have HB5 := Lib.hid hb5'
  have HRS5 := Lib.hid hres5
  clear hb5 hrow5 hb5' hres5 hN hs HADD HB4 HRS4
  go_wp2
  go_loopw [18] (fun i wr => ∃ k : Nat, k ≤ 32 ∧ i = .int .i64 k ∧ Hid (Row wr w5.heap.size 29 (bvals (part (dByte s) 0 32 k))) ∧ Hid (Row wr (w.heap.size + 1) 71 (HC s.list N r')) ∧ Hid (Row wr w.heap.size 29 (bvals (List.replicate 32 0))) ∧ Hid (Below w.heap.size w wr)) (fun i _ => 32 - (intOf i).toNat)
  case atStart =>
    refine ⟨0, by omega, rfl, ?_, HR5.out.alloc _, HRS5.out.alloc _, HB5.out.alloc HB5.out.size _⟩
    rw [part_zero]
    exact Row.new_at w5 _ _ _ rfl rfl
  case round =>
    obtain ⟨k, hk, rfl, HD, HH, HRS, HB⟩ := hrel
    by_cases hlt : k < 32
    · have hki : (k : Int) < 32 := by omega
      have hcw := HH.out.cell (k / 4)
      rw [HC_word _ _ _ rfl _ (by omega)] at hcw
      have hcd := HD.out.cell k
      rw [bvals_get _ _ (by rw [part_length]; exact hlt)] at hcd
      have hfd := HD.out.frozen k
      have hps := part_succ (dByte s) 0 32 k hlt
      have hdb : dByte s k = UInt8.ofNat ((s.list.getD (k / 4) 0).toNat / 2 ^ (24 - k % 4 * 8)) := rfl
      generalize s.list.getD (k / 4) 0 = x at hcw hdb
      generalize (part (dByte s) 0 32 k).getD k 0 = y at hcd
      have HPS := Lib.hid hps
      have HDB := Lib.hid hdb
      clear hps hdb
      go_wp2
      go_roundw
      case rel =>
        refine ⟨k + 1, by omega, by go_num, ?_, ?_, ?_, ?_⟩
        · rw [dbyte_val, ← HDB.out, HPS.out, ← bvals_set]
          exact HD.out.set _ _
        · exact HH.out.far (by simp; omega) _
        · exact HRS.out.far (by simp; omega) _
        · exact HB.out.setCell (by simp; omega) _
      case measure => simp [intOf]; omega
    · have hk32 : k = 32 := by omega
      have hfin : Row wr w5.heap.size 29 (bvals (dig L)) := by
        have h := HD.out
        rw [hk32, part_all] at h
        unfold dig digest
        rw [← HS.out]
        exact h
      have HF := Lib.hid hfin
      clear hfin hk32 HD
      go_wp2_with (first
        | (refine wpList_load_all rfl 29 (.tmp 4) rfl w5.heap.size rfl 29 (bvals (dig L)) _ HF.out Tryd.underlying29 rfl ?l1 ?_)
        | (refine wpList_store_all rfl 29 (.tmp 2) (.tmp 35) rfl w.heap.size (bvals (dig L)) rfl rfl 29 (bvals (List.replicate 32 0)) HRS.out ?s1 ?s2 (bvals_one _) ?_))
      case l1 => rw [bvals_length, dig_length]; kernel_rfl
      case s1 => rw [bvals_length, dig_length]; kernel_rfl
      case s2 => rw [bvals_length, bvals_length, dig_length, List.length_replicate]
      intro w7 HR7 HT7
      go_wp2
      refine bodyPost_ret (results_cell_row rfl _ _ w.heap.size 29 (bvals (dig L)).toArray (0, 0) _ rfl HR7.out Tryd.underlying29 rfl ?r1) rfl ⟨rfl, below_turn HB.out HT7.out (Nat.le_refl _)⟩
      case r1 => rw [List.size_toArray, bvals_length, dig_length]; kernel_rfl
end Sh
end Go.Proofs.YtiilmgbobjagkaaDoor
