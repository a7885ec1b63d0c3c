/-
  Layer 2 (sha): the walk of expand: a block's 64 words. Layer 2 (sha): the walk of mix: a block goes into the words.
-/
import Derived.Test.YtogpigfepebibaaGreatDoorMSB
import Derived.LoopTactic
import Derived.Deep.Cut
import Derived.Deep.DeepCutAuto
import Derived.StillTailTactics
import Derived.Outline
import Derived.RegionTactic
namespace Go.Proofs.YtogpigfepebibaaGreatDoor
namespace Sh
open Go.RowKit

set_option maxRecDepth 100000 in
set_option maxHeartbeats 1000000 in
theorem expand_any (b : Nat) (ws : List W) (n : Nat) (r : Bs) (w : World) (hw : ws.length = 8) (hr : r.length = 64) (hrow : Row w b 132 (HC ws n r)) :
    Calls Tryz.prog 95 #[.pointer (some ⟨b, 0, none⟩)] w fun e w' => e = .returned (.agg (vals (sch r 64)).toArray) ∧ Below w.heap.size w w' := by
  have HR := Lib.hid hrow
  have HW := Lib.hid hw
  have HL := Lib.hid hr
  clear hrow hw hr
  go_enter Tryz.func95, Tryz.ntmps95
  have hseg : ∀ j v, (bvals r)[j]? = some v → w.cell? ⟨b, 9 + j, none⟩ = some v := fun j v hv => by
    rw [HR.out.cell, HC_rest _ _ _ HW.out, hv]
  have HS := Lib.hid hseg
  clear hseg
  go_wp2_with (refine wpList_load_seg rfl 130 (.tmp 11) rfl b 9 rfl (bvals r) _ ?c1 Tryz.underlying130 rfl ?c2 ?_)
  case c1 =>
    intro j v hv
    rw [World.cell?_alloc_lt _ _ _ (by have := HR.out.lt; simp; omega), World.cell?_alloc_lt _ _ _ HR.out.lt]
    exact HS.out j v hv
  case c2 => rw [bvals_length, HL.out]; kernel_rfl
  go_loopw [13] (fun i wr => ∃ k : Nat, k ≤ 64 ∧ i = .int .i64 k ∧ Hid (Row wr (w.heap.size + 1) 148 (vals (pk r k))) ∧ Hid (Row wr w.heap.size 148 (vals (List.replicate 64 0))) ∧ Hid (Below w.heap.size w wr)) (fun i _ => 64 - (intOf i).toNat)
  case atStart => 
    refine ⟨0, by omega, rfl, ?_, ?_, ?_⟩
    · rw [pk_zero]
      exact Row.new_at _ _ _ _ (by simp) rfl
    · exact (Row.new_at w _ _ _ rfl rfl).alloc _
    · exact ((Below.refl _ _).alloc (Nat.le_refl _) _).alloc (by simp) _
  case round =>
    obtain ⟨k, hk, rfl, H1, H0, HB⟩ := hrel
    by_cases hlt : k < 64
    · have hki : (k : Int) < 64 := by omega
      have hix := fun W : World => index_run (P := Tryz.prog) 130 5 64 (bvals r) k _ Tryz.underlying130 (by rw [bvals_length, HL.out]) (bvals_get r k (by rw [HL.out]; exact hlt)) _ Tryz.underlying5 rfl (by kernel_rfl) W
      have hlo := (r.getD k 0).toNat_lt
      have hpk := pk_succ r k hlt
      have hc := H1.out.cell (k / 4)
      rw [vals_get _ _ (by rw [pk_length]; omega)] at hc
      have hf := H1.out.frozen (k / 4)
      generalize (pk r k).getD (k / 4) 0 = x at hc hpk
      generalize r.getD k 0 = c at hix hlo hpk
      have HPK := Lib.hid hpk
      clear hpk
      go_wp2
      go_roundw
      case rel =>
        refine ⟨k + 1, by omega, by go_num, ?_, ?_, ?_⟩
        · rw [word_step, HPK.out, ← vals_set]
          exact H1.out.set _ _
        · exact H0.out.far (by simp) _
        · exact HB.out.setCell (by simp) _
      case measure => simp [intOf]; omega
    · have hk64 : k = 64 := by omega
      have H2 : Hid (Row wr (w.heap.size + 1) 148 (vals (wk r 16))) := by
        rw [hk64, pk_end] at H1
        exact H1
      clear H1 hk64
      go_wp2
      obtain ⟨wo, rfl⟩ : ∃ wo : World, wo = wr := ⟨_, rfl⟩
      go_loopw [6] (fun i wr => ∃ k : Nat, 16 ≤ k ∧ k ≤ 64 ∧ i = .int .i64 k ∧ Hid (Row wr (w.heap.size + 1) 148 (vals (wk r k))) ∧ Hid (Row wr w.heap.size 148 (vals (List.replicate 64 0))) ∧ Hid (Below w.heap.size w wr)) (fun i _ => 64 - (intOf i).toNat)
      case atStart => exact ⟨16, by omega, by omega, rfl, H2, H0, HB⟩
      case round =>
        obtain ⟨j, hj0, hj1, rfl, H1, H0, HB⟩ := hrel
        by_cases hjl : j < 64
        · have hji : (j : Int) < 64 := by omega
          have hjn : (16 : Int) ≤ j := by omega
          have c15 := H1.out.cell (j - 15)
          have c2 := H1.out.cell (j - 2)
          have c16 := H1.out.cell (j - 16)
          have c7 := H1.out.cell (j - 7)
          have c0 := H1.out.cell j
          have f0 := H1.out.frozen j
          rw [vals_get _ _ (by rw [wk_length _ _ hj1]; omega), wk_getD _ _ _ (by omega)] at c15 c2 c16 c7
          rw [vals_get _ _ (by rw [wk_length _ _ hj1]; omega)] at c0
          have hnext : next (sch r j) j = (sch r j).getD (j - 16) 0 + sig0 ((sch r j).getD (j - 15) 0) + (sch r j).getD (j - 7) 0 + sig1 ((sch r j).getD (j - 2) 0) := rfl
          generalize (sch r j).getD (j - 15) 0 = x15 at c15 hnext
          generalize (sch r j).getD (j - 2) 0 = x2 at c2 hnext
          generalize (sch r j).getD (j - 16) 0 = x16 at c16 hnext
          generalize (sch r j).getD (j - 7) 0 = x7 at c7 hnext
          generalize (wk r j).getD j 0 = x0 at c0
          have HN := Lib.hid hnext
          clear hnext
          go_wp2
          go_quiet ((go_at_call 103; exact quiet_s (rl_lit _ _ (by decide) (by decide) _) ⟨_, rfl⟩))
          rename Nat => n1
          go_wp2
          go_quiet ((go_at_call 103; exact quiet_s (rl_lit _ _ (by decide) (by decide) _) ⟨_, rfl⟩))
          rename Nat => n2
          go_wp2
          rw [sig0_eq, sig1_eq]
          have d16 : ((wr.drewN n1).drewN n2).cell? { block := w.heap.size + 1, off := j - 16 } = some (Value.int IntKind.u32 ↑(BitVec.toNat x16)) := c16
          have d7 : ((wr.drewN n1).drewN n2).cell? { block := w.heap.size + 1, off := j - 7 } = some (Value.int IntKind.u32 ↑(BitVec.toNat x7)) := c7
          have d0 : ((wr.drewN n1).drewN n2).cell? { block := w.heap.size + 1, off := j } = some (Value.int IntKind.u32 ↑(BitVec.toNat x0)) := c0
          have e0 : ((wr.drewN n1).drewN n2).frozen? { block := w.heap.size + 1, off := j } = false := f0
          have G1 : Hid (Row ((wr.drewN n1).drewN n2) (w.heap.size + 1) 148 (vals (wk r j))) := H1
          have G0 : Hid (Row ((wr.drewN n1).drewN n2) w.heap.size 148 (vals (List.replicate 64 0))) := H0
          have GB : Hid (Below w.heap.size w ((wr.drewN n1).drewN n2)) := below_drewN (below_drewN HB.out n1) n2
          clear c15 c2 c16 c7 c0 f0 H1 H0 HB
          generalize (wr.drewN n1).drewN n2 = W at d16 d7 d0 e0 G1 G0 GB ⊢
          go_region
          go_wp2
          go_roundw
          case rel =>
            refine ⟨j + 1, by omega, by omega, by go_num, ?_, ?_, ?_⟩
            · rw [add4_eq, ← HN.out, wk_succ _ _ hj0 hjl, ← vals_set]
              exact G1.out.set _ _
            · exact G0.out.far (by simp) _
            · exact (GB.out.setCell (by simp) _).drew
          case measure => simp [intOf]; omega
        · have hj64 : j = 64 := by omega
          have H2 : Hid (Row wr (w.heap.size + 1) 148 (vals (sch r 64))) := by
            rw [hj64, wk_end] at H1
            exact H1
          clear H1 hj64
          go_wp2_with (first
            | (refine wpList_load_row rfl 148 (.tmp 3) rfl (w.heap.size + 1) rfl 148 (vals (sch r 64)).toArray (0, 0) _ H2.out Tryz.underlying148 rfl ?l1 ?_)
            | (refine wpList_store_row rfl 148 (.tmp 2) (.tmp 82) rfl w.heap.size (vals (sch r 64)).toArray rfl rfl 148 _ H0.out ?s1 ?s2 ?s3 ?_))
          case l1 => rw [List.size_toArray, vals_length, sch_length]; kernel_rfl
          case s1 => rw [List.size_toArray, vals_length, sch_length]; kernel_rfl
          case s2 => rw [List.size_toArray, List.size_toArray, vals_length, vals_length, sch_length, List.length_replicate]
          case s3 => exact vals_one _
          refine bodyPost_ret (results_cell_row rfl _ _ w.heap.size 148 (vals (sch r 64)).toArray (0, 0) _ rfl (H0.out.laid _) Tryz.underlying148 rfl ?r1) rfl ⟨rfl, below_laid HB.out (Nat.le_refl _) _⟩
          case r1 => rw [List.size_toArray, vals_length, sch_length]; kernel_rfl
end Sh
end Go.Proofs.YtogpigfepebibaaGreatDoor

namespace Go.Proofs.YtogpigfepebibaaGreatDoor
namespace Sh
open Go.RowKit

set_option maxRecDepth 100000 in
set_option maxHeartbeats 2000000 in
theorem mix_any (b : Nat) (s : St) (n : Nat) (r : Bs) (w : World) (B : Nat) (hr : r.length = 64) (hrow : Row w b 132 (HC s.list n r)) (htab : Tab w) (hB : B ≤ b) (hB0 : 0 < B) :
    Calls Tryz.prog 79 #[.pointer (some ⟨b, 0, none⟩)] w fun e w' => e = .returned (.tuple #[]) ∧ Row w' b 132 (HC (compress s r).list n r) ∧ Below B w w' := by
  have HR := Lib.hid hrow
  have HL := Lib.hid hr
  have HT := Lib.hid htab
  have hbl := hrow.lt
  clear hrow hr htab
  go_enter Tryz.func79, Tryz.ntmps79
  go_wp2_with fail
  refine (expand_any b s.list n r w rfl HL.out HR.out).mono ?_
  rintro e w1 ⟨rfl, hb1⟩
  have HB1 := Lib.hid hb1
  have hs1 := hb1.size
  clear hb1
  go_wp2_with (refine wpList_store_all rfl 148 (.tmp 2) (.tmp 18) rfl w1.heap.size (vals (sch r 64)) rfl rfl 148 (vals (List.replicate 64 0)) (Row.new_at _ _ _ _ rfl rfl) ?s1 ?s2 (vals_one _) ?_)
  case s1 => rw [vals_length, sch_length]; kernel_rfl
  case s2 => rw [vals_length, vals_length, sch_length, List.length_replicate]
  intro w2 HS HU
  have hb2 : Below w.heap.size w w2 := below_turn (HB1.out.alloc hs1 _) HU.out hs1
  have HB2 := Lib.hid hb2
  have hrb := HR.out.below hb2 hbl
  have HRB := Lib.hid hrb
  have c0 : w2.cell? ⟨b, 0, none⟩ = some (.int .u32 (s.a.toNat : Int)) := hrb.cell 0
  have c1 : w2.cell? ⟨b, 1, none⟩ = some (.int .u32 (s.b.toNat : Int)) := hrb.cell 1
  have c2 : w2.cell? ⟨b, 2, none⟩ = some (.int .u32 (s.c.toNat : Int)) := hrb.cell 2
  have c3 : w2.cell? ⟨b, 3, none⟩ = some (.int .u32 (s.d.toNat : Int)) := hrb.cell 3
  have c4 : w2.cell? ⟨b, 4, none⟩ = some (.int .u32 (s.e.toNat : Int)) := hrb.cell 4
  have c5 : w2.cell? ⟨b, 5, none⟩ = some (.int .u32 (s.f.toNat : Int)) := hrb.cell 5
  have c6 : w2.cell? ⟨b, 6, none⟩ = some (.int .u32 (s.g.toNat : Int)) := hrb.cell 6
  have c7 : w2.cell? ⟨b, 7, none⟩ = some (.int .u32 (s.h.toNat : Int)) := hrb.cell 7
  clear hb2 hrb
  go_wp2
  go_quiet (fail)
  rename Nat => n1
  go_wp2
  go_quiet (fail)
  rename Nat => n2
  go_wp2_with (refine wpList_load_all rfl 148 (.tmp 2) rfl w1.heap.size rfl 148 (vals (sch r 64)) _ HS.out Tryz.underlying148 rfl ?l1 ?_)
  case l1 => rw [vals_length, sch_length]; kernel_rfl
  clear HU c0 c1 c2 c3 c4 c5 c6 c7
  go_loopw [3, 4, 5, 6, 7, 8, 9, 10, 60] (fun xa xb xc xd xe xf xg xh i wr => ∃ (k d : Nat) (t : St), k ≤ 64 ∧ i = .int .i64 k ∧ Hid (t = rounds (sch r 64) s k) ∧ xa = .int .u32 (t.a.toNat : Int) ∧ xb = .int .u32 (t.b.toNat : Int) ∧ xc = .int .u32 (t.c.toNat : Int) ∧ xd = .int .u32 (t.d.toNat : Int) ∧ xe = .int .u32 (t.e.toNat : Int) ∧ xf = .int .u32 (t.f.toNat : Int) ∧ xg = .int .u32 (t.g.toNat : Int) ∧ xh = .int .u32 (t.h.toNat : Int) ∧ wr = w2.drewN d) (fun _ _ _ _ _ _ _ _ i _ => 64 - (intOf i).toNat)
  case atStart => exact ⟨0, _, s, by omega, rfl, Lib.hid rfl, rfl, rfl, rfl, rfl, rfl, rfl, rfl, rfl, rfl⟩
  case round =>
    obtain ⟨k, d, t, hk, rfl, HTS, rfl, rfl, rfl, rfl, rfl, rfl, rfl, rfl, rfl⟩ := hrel
    by_cases hlt : k < 64
    · have hki : (k : Int) < 64 := by omega
      have hix := fun W : World => index_run (P := Tryz.prog) 148 111 64 (vals (sch r 64)) k _ Tryz.underlying148 (by rw [vals_length, sch_length]) (vals_get _ k (by rw [sch_length]; exact hlt)) _ Tryz.underlying111 rfl (by kernel_rfl) W
      have htab := HT.out.below (HB2.out.mono (Nat.le_of_lt (Nat.lt_of_le_of_lt hB hbl))) hB0 k hlt
      have hr1 := rounds_succ' (sch r 64) s k
      rw [← HTS.out] at hr1
      generalize K.getD k 0 = kk at htab hr1
      generalize (sch r 64).getD k 0 = ww at hix hr1
      have HR1 := Lib.hid hr1
      clear hr1
      go_wp2
      go_quiet ((go_at_call 96; exact quiet_s (rotated_e _ _) ⟨_, rfl⟩))
      rename Nat => n1
      go_wp2_with fail
      rw [t1_eq]
      refine (rotated_a _ _).mono ?_
      rintro e w' ⟨rfl, rfl⟩
      go_wp2
      go_roundw
      case rel =>
        refine ⟨k + 1, _, step t kk ww, by omega, by go_num, ?_, ?_, rfl, rfl, rfl, ?_, rfl, rfl, rfl, rfl⟩
        · exact HR1.out.symm
        · rw [band, band, band, bxor, bxor, badd, badd]; rfl
        · rw [badd]; rfl
      case measure => simp [intOf]; omega
    · have hk64 : k = 64 := by omega
      have htt : compress s r = addSt s t := by
        rw [HTS.out, hk64]; rfl
      have HCM := Lib.hid htt
      clear htt hk64 HTS
      go_wp2
      have hrb : Row (w2.drewN d) b 132 (HC (wadd s t 0) n r) := HRB.out
      have hbb : Below w.heap.size w (w2.drewN d) := below_drewN HB2.out d
      have HRB0 := Lib.hid hrb
      have HBB0 := Lib.hid hbb
      clear hrb hbb
      generalize w2.drewN d = w4 at HRB0 HBB0 ⊢
      go_loopw [119] (fun i wr => ∃ q : Nat, q ≤ 8 ∧ i = .int .i64 q ∧ Hid (Row wr b 132 (HC (wadd s t q) n r)) ∧ Hid (Below B w wr)) (fun i _ => 8 - (intOf i).toNat)
      case atStart => exact ⟨0, by omega, rfl, HRB0, HBB0.out.mono (Nat.le_of_lt (Nat.lt_of_le_of_lt hB hbl))⟩
      case round =>
        obtain ⟨q, hq, rfl, HR5, HB5⟩ := hrel
        by_cases hlq : q < 8
        · have hqi : (q : Int) < 8 := by omega
          have hix := fun W : World => index_run (P := Tryz.prog) 128 111 8 [.int .u32 (t.a.toNat : Int), .int .u32 (t.b.toNat : Int), .int .u32 (t.c.toNat : Int), .int .u32 (t.d.toNat : Int), .int .u32 (t.e.toNat : Int), .int .u32 (t.f.toNat : Int), .int .u32 (t.g.toNat : Int), .int .u32 (t.h.toNat : Int)] q _ Tryz.underlying128 rfl (vals_get t.list q (by rw [St.list_length]; exact hlq)) _ Tryz.underlying111 rfl (by kernel_rfl) W
          have hcq := HR5.out.cell q
          rw [HC_word _ _ _ (wadd_length s t q) q hlq] at hcq
          have hfq := HR5.out.frozen q
          have hws := wadd_succ s t q hlq
          have hg0 : (wadd s t q).getD q 0 = s.list.getD q 0 := by
            rw [List.getD_eq_getElem?_getD, wadd_get _ _ _ _ hlq, if_neg (by omega)]; rfl
          rw [hg0] at hcq
          generalize s.list.getD q 0 = x at hcq hws
          generalize t.list.getD q 0 = y at hix hws
          have HWS := Lib.hid hws
          clear hws hg0
          go_wp2
          go_region
          go_wp2
          go_roundw
          case rel =>
            refine ⟨q + 1, by omega, by go_num, ?_, ?_⟩
            · rw [badd, HWS.out, ← HC_set _ _ _ _ _ (by rw [wadd_length]; exact hlq)]
              exact HR5.out.set _ _
            · exact (HB5.out.setCell (by simpa using hB) _).drew
          case measure => simp [intOf]; omega
        · have hq8 : q = 8 := by omega
          subst hq8
          rw [wadd_end, ← HCM.out] at HR5
          go_wp2
          go_end0
          exact ⟨rfl, HR5.out, HB5.out⟩
end Sh
end Go.Proofs.YtogpigfepebibaaGreatDoor
