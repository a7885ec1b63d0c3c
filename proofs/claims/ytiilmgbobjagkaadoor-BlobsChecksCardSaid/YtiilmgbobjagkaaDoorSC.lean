/-
  Layer 2 (sha): the walk of expand: a block's 64 words.
-/
import Derived.Test.YtiilmgbobjagkaaDoorSB
import Derived.LoopTactic
import Derived.Deep.Cut
import Derived.Deep.DeepCutAuto
import Derived.StillTailTactics
import Derived.Outline
import Derived.RegionTactic
namespace Go.Proofs.YtiilmgbobjagkaaDoor
namespace Sh
open Go.RowKit

set_option maxRecDepth 100000 in
set_option maxHeartbeats 1000000 in
theorem expand_any (b : Nat) (ws : List W) (n : Nat) (r : Bs) (w : World) (hw : ws.length = 8) (hr : r.length = 64) (hrow : Row w b 71 (HC ws n r)) :
    Calls Tryd.prog 37 #[.pointer (some ⟨b, 0, none⟩)] w fun e w' => e = .returned (.agg (vals (sch r 64)).toArray) ∧ Below w.heap.size w w' := by
  have HR := Lib.hid hrow
  have HW := Lib.hid hw
  have HL := Lib.hid hr
  clear hrow hw hr
  go_enter Tryd.func37, Tryd.ntmps37
  have hseg : ∀ j v, (bvals r)[j]? = some v → w.cell? ⟨b, 9 + j, none⟩ = some v := fun j v hv => by
    rw [HR.out.cell, HC_rest _ _ _ HW.out, hv]
  have HS := Lib.hid hseg
  clear hseg
  go_wp2_with (refine wpList_load_seg rfl 69 (.tmp 11) rfl b 9 rfl (bvals r) _ ?c1 Tryd.underlying69 rfl ?c2 ?_)
  case c1 =>
    intro j v hv
    rw [World.cell?_alloc_lt _ _ _ (by have := HR.out.lt; simp; omega), World.cell?_alloc_lt _ _ _ HR.out.lt]
    exact HS.out j v hv
  case c2 => rw [bvals_length, HL.out]; kernel_rfl
  go_loopw [13] (fun i wr => ∃ k : Nat, k ≤ 64 ∧ i = .int .i64 k ∧ Hid (Row wr (w.heap.size + 1) 76 (vals (pk r k))) ∧ Hid (Row wr w.heap.size 76 (vals (List.replicate 64 0))) ∧ Hid (Below w.heap.size w wr)) (fun i _ => 64 - (intOf i).toNat)
  case atStart => 
    refine ⟨0, by omega, rfl, ?_, ?_, ?_⟩
    · rw [pk_zero]
      exact Row.new_at _ _ _ _ (by simp) rfl
    · exact (Row.new_at w _ _ _ rfl rfl).alloc _
    · exact ((Below.refl _ _).alloc (Nat.le_refl _) _).alloc (by simp) _
  case round =>
    obtain ⟨k, hk, rfl, H1, H0, HB⟩ := hrel
    by_cases hlt : k < 64
    · have hki : (k : Int) < 64 := by omega
      have hix := fun W : World => index_run (P := Tryd.prog) 69 5 64 (bvals r) k _ Tryd.underlying69 (by rw [bvals_length, HL.out]) (bvals_get r k (by rw [HL.out]; exact hlt)) _ Tryd.underlying5 rfl (by kernel_rfl) W
      have hlo := (r.getD k 0).toNat_lt
      have hpk := pk_succ r k hlt
      have hc := H1.out.cell (k / 4)
      rw [vals_get _ _ (by rw [pk_length]; omega)] at hc
      have hf := H1.out.frozen (k / 4)
      generalize (pk r k).getD (k / 4) 0 = x at hc hpk
      generalize r.getD k 0 = c at hix hlo hpk
      have HPK := Lib.hid hpk
      clear hpk
      go_wp2
      go_roundw
      case rel =>
        refine ⟨k + 1, by omega, by go_num, ?_, ?_, ?_⟩
        · rw [word_step, HPK.out, ← vals_set]
          exact H1.out.set _ _
        · exact H0.out.far (by simp) _
        · exact HB.out.setCell (by simp) _
      case measure => simp [intOf]; omega
    · have hk64 : k = 64 := by omega
      have H2 : Hid (Row wr (w.heap.size + 1) 76 (vals (wk r 16))) := by
        rw [hk64, pk_end] at H1
        exact H1
      clear H1 hk64
      go_wp2
      obtain ⟨wo, rfl⟩ : ∃ wo : World, wo = wr := ⟨_, rfl⟩
      go_loopw [6] (fun i wr => ∃ k : Nat, 16 ≤ k ∧ k ≤ 64 ∧ i = .int .i64 k ∧ Hid (Row wr (w.heap.size + 1) 76 (vals (wk r k))) ∧ Hid (Row wr w.heap.size 76 (vals (List.replicate 64 0))) ∧ Hid (Below w.heap.size w wr)) (fun i _ => 64 - (intOf i).toNat)
      case atStart => exact ⟨16, by omega, by omega, rfl, H2, H0, HB⟩
      case round =>
        obtain ⟨j, hj0, hj1, rfl, H1, H0, HB⟩ := hrel
        by_cases hjl : j < 64
        · have hji : (j : Int) < 64 := by omega
          have hjn : (16 : Int) ≤ j := by omega
          have c15 := H1.out.cell (j - 15)
          have c2 := H1.out.cell (j - 2)
          have c16 := H1.out.cell (j - 16)
          have c7 := H1.out.cell (j - 7)
          have c0 := H1.out.cell j
          have f0 := H1.out.frozen j
          rw [vals_get _ _ (by rw [wk_length _ _ hj1]; omega), wk_getD _ _ _ (by omega)] at c15 c2 c16 c7
          rw [vals_get _ _ (by rw [wk_length _ _ hj1]; omega)] at c0
          have hnext : next (sch r j) j = (sch r j).getD (j - 16) 0 + sig0 ((sch r j).getD (j - 15) 0) + (sch r j).getD (j - 7) 0 + sig1 ((sch r j).getD (j - 2) 0) := rfl
          generalize (sch r j).getD (j - 15) 0 = x15 at c15 hnext
          generalize (sch r j).getD (j - 2) 0 = x2 at c2 hnext
          generalize (sch r j).getD (j - 16) 0 = x16 at c16 hnext
          generalize (sch r j).getD (j - 7) 0 = x7 at c7 hnext
          generalize (wk r j).getD j 0 = x0 at c0
          have HN := Lib.hid hnext
          clear hnext
          go_wp2
          go_quiet ((go_at_call 43; exact quiet_s (rl_lit _ _ (by decide) (by decide) _) ⟨_, rfl⟩))
          rename Nat => n1
          go_wp2
          go_quiet ((go_at_call 43; exact quiet_s (rl_lit _ _ (by decide) (by decide) _) ⟨_, rfl⟩))
          rename Nat => n2
          go_wp2
          rw [sig0_eq, sig1_eq]
          have d16 : ((wr.drewN n1).drewN n2).cell? { block := w.heap.size + 1, off := j - 16 } = some (Value.int IntKind.u32 ↑(BitVec.toNat x16)) := c16
          have d7 : ((wr.drewN n1).drewN n2).cell? { block := w.heap.size + 1, off := j - 7 } = some (Value.int IntKind.u32 ↑(BitVec.toNat x7)) := c7
          have d0 : ((wr.drewN n1).drewN n2).cell? { block := w.heap.size + 1, off := j } = some (Value.int IntKind.u32 ↑(BitVec.toNat x0)) := c0
          have e0 : ((wr.drewN n1).drewN n2).frozen? { block := w.heap.size + 1, off := j } = false := f0
          have G1 : Hid (Row ((wr.drewN n1).drewN n2) (w.heap.size + 1) 76 (vals (wk r j))) := H1
          have G0 : Hid (Row ((wr.drewN n1).drewN n2) w.heap.size 76 (vals (List.replicate 64 0))) := H0
          have GB : Hid (Below w.heap.size w ((wr.drewN n1).drewN n2)) := below_drewN (below_drewN HB.out n1) n2
          clear c15 c2 c16 c7 c0 f0 H1 H0 HB
          generalize (wr.drewN n1).drewN n2 = W at d16 d7 d0 e0 G1 G0 GB ⊢
          go_region
          go_wp2
          go_roundw
          case rel =>
            refine ⟨j + 1, by omega, by omega, by go_num, ?_, ?_, ?_⟩
            · rw [add4_eq, ← HN.out, wk_succ _ _ hj0 hjl, ← vals_set]
              exact G1.out.set _ _
            · exact G0.out.far (by simp) _
            · exact (GB.out.setCell (by simp) _).drew
          case measure => simp [intOf]; omega
        · have hj64 : j = 64 := by omega
          have H2 : Hid (Row wr (w.heap.size + 1) 76 (vals (sch r 64))) := by
            rw [hj64, wk_end] at H1
            exact H1
          clear H1 hj64
          go_wp2_with (first
            | (refine wpList_load_row rfl 76 (.tmp 3) rfl (w.heap.size + 1) rfl 76 (vals (sch r 64)).toArray (0, 0) _ H2.out Tryd.underlying76 rfl ?l1 ?_)
            | (refine wpList_store_row rfl 76 (.tmp 2) (.tmp 82) rfl w.heap.size (vals (sch r 64)).toArray rfl rfl 76 _ H0.out ?s1 ?s2 ?s3 ?_))
          case l1 => rw [List.size_toArray, vals_length, sch_length]; kernel_rfl
          case s1 => rw [List.size_toArray, vals_length, sch_length]; kernel_rfl
          case s2 => rw [List.size_toArray, List.size_toArray, vals_length, vals_length, sch_length, List.length_replicate]
          case s3 => exact vals_one _
          refine bodyPost_ret (results_cell_row rfl _ _ w.heap.size 76 (vals (sch r 64)).toArray (0, 0) _ rfl (H0.out.laid _) Tryd.underlying76 rfl ?r1) rfl ⟨rfl, below_laid HB.out (Nat.le_refl _) _⟩
          case r1 => rw [List.size_toArray, vals_length, sch_length]; kernel_rfl
end Sh
end Go.Proofs.YtiilmgbobjagkaaDoor
