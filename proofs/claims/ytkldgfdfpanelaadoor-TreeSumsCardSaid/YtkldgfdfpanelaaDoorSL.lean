/-
  Layer 2 (sha): the document's answer: Sum.
-/
import Derived.Test.YtkldgfdfpanelaaDoorSK
namespace Go.Proofs.YtkldgfdfpanelaaDoor
namespace Sh
open Go.RowKit

/-- The words behind q blocks, of a text that is blocks. -/
theorem blocks_take (D : Bs) (q : Nat) : blocks D (q + 1) = compress (blocks D q) ((D.drop (64 * q)).take 64) := rfl

theorem words_after {w w1 : World} {o1 : Obj} {cs : Array Value} {t : TypeId} {B : Nat} (hb : Below B ((w.alloc o1).alloc (.cells cs t)) w1) (hB : w.heap.size + 1 < B) (l : List W) (hcs : cs = (vals l).toArray) : WAt w1 (w.heap.size + 1) l := by
  intro j x hx
  have h : Row ((w.alloc o1).alloc (.cells cs t)) (w.heap.size + 1) t (vals l) := Row.new_at (w.alloc o1) t cs (vals l) (by simp) hcs
  refine (hb.cell (p := ⟨w.heap.size + 1, j, none⟩) hB).trans ?_
  rw [h.cell]
  simp [vals, hx]
theorem slice_block (g cap len q : Nat) (hi : 64 * q + 64 ≤ len) (hc : len ≤ cap) (hl : len ≤ 1000000) (W : World) :
    (Instr.slice 50 (.slice (some ⟨g, 0, none⟩) len cap) (some (.int .i64 (64 * (q : Int)))) (some (.int .i64 (64 * (q : Int) + 64))) none).run Tryd.prog W = .ok (.slice (some ⟨g, 64 * q, none⟩) 64 (cap - 64 * q)) W := by
  have e2 : Tryd.prog.elem 50 = 5 := by kernel_rfl
  have e3 : (sizeOf 5).run Tryd.prog W = .ok 1 W := by kernel_rfl
  rw [run_slice_lh (P := Tryd.prog) W 50 _ len cap (by kernel_rfl) .i64 .i64 (64 * (q : Int)) (64 * (q : Int) + 64) (by omega) (by omega) (by omega), e2, e3]
  simp only [Result.andThen, sliced]
  rw [show (64 * (q : Int)).toNat = 64 * q by omega, show (64 * (q : Int) + 64).toNat = 64 * q + 64 by omega, if_neg (by omega), show 64 * q + 64 - 64 * q = 64 by omega]
  simp only [Option.map_some, Nat.mul_one]
  unfold Addr.add
  split <;> simp_all

set_option maxRecDepth 100000 in
set_option maxHeartbeats 4000000 in
theorem refsum_any (s : ByteArray) (w : World) (hl : s.size ≤ 100000) :
    Calls Tryd.prog 16 #[.string s] w fun e w' => e = .returned (.agg (bvals (dig s.data.toList)).toArray) ∧ Below w.heap.size w w' := by
  have hdl := data_length s
  have HDL := Lib.hid hdl
  clear hdl
  go_enter Tryd.func16, Tryd.ntmps16
  go_wp2_with (first
    | (refine wpList_buildFlat rfl 64 44 8 _ rfl .u32 (init.list.map fun x => (x.toNat : Int)) Tryd.underlying64 (by kernel_rfl) (by kernel_rfl) (by kernel_rfl) (by decide) (by decide) (by kernel_rfl) ?_)
    | fail)
  refine (whole_any s _ hl).mono ?_
  rintro e w1 ⟨g, cap, rfl, hsl, hb1⟩
  simp only [World.size_alloc] at hsl hb1
  have hb1' : Below w.heap.size w w1 := (((Below.refl _ _).alloc (Nat.le_refl _) _).alloc (by simp) _).trans (hb1.mono (by omega))
  have hres : Row w1 w.heap.size 26 (bvals (List.replicate 32 0)) := ((Row.new_at w _ _ _ rfl rfl).alloc _).below hb1 (by omega)
  have hin : WAt w1 (w.heap.size + 1) (blocks (s.data.toList ++ tail s.size) 0).list := by
    exact words_after hb1 (by omega) init.list (by simp [vals])
  obtain ⟨D, hD⟩ : ∃ D, D = s.data.toList ++ tail s.size := ⟨_, rfl⟩
  have hlen : D.length = s.size + 9 + padZ s.size := by
    rw [hD, List.length_append, HDL.out, tail_length]; omega
  have hmod : D.length % 64 = 0 := by
    have h := whole_mod s.data.toList
    rw [HDL.out, ← hD] at h
    exact h
  obtain ⟨m, hm⟩ : ∃ m, D.length = 64 * m := ⟨D.length / 64, by omega⟩
  have hst : dig s.data.toList = digest (blocks D m) := by
    unfold dig st
    rw [HDL.out, ← hD, show D.length / 64 = m by omega]
  rw [← hD] at hsl hin
  have hN : s.size + 9 + padZ s.size = 64 * m := by omega
  have hNl : 64 * m ≤ 200000 := by have : padZ s.size ≤ 63 := by unfold padZ; omega
                                   omega
  rw [hN]
  have hcap : 64 * m ≤ cap := by have := hsl.2.2.1; rw [bvals_length, hm] at this; exact this
  have hsz := hb1'.size
  have hgl := hsl.2.1
  have hw1 : w.heap.size + 2 ≤ w1.heap.size := by have h := hb1.size; simpa using h
  have HSL := Lib.hid hsl
  have HB1 := Lib.hid hb1'
  have HRES := Lib.hid hres
  have HIN := Lib.hid hin
  have HM := Lib.hid hm
  have HST := Lib.hid hst
  clear hsl hb1 hb1' hres hin hD hlen hmod hm hst hN
  go_wp2
  go_loopw [3, 5] (fun v i wr => ∃ q gq cq : Nat, q ≤ m ∧ i = .int .i64 (64 * (q : Int)) ∧ v = .slice (some ⟨gq, 0, none⟩) 8 cq ∧ gq < wr.heap.size ∧ Hid (WAt wr gq (blocks D q).list) ∧ Hid (Below w1.heap.size w1 wr)) (fun _ i _ => 64 * m - (intOf i).toNat)
  case atStart => exact ⟨0, _, _, by omega, rfl, rfl, by omega, HIN, Below.refl _ _⟩
  case round =>
    obtain ⟨q, gq, cq, hq, rfl, rfl, hgq, HQ, HW⟩ := hrel
    have hwr := HW.out.size
    by_cases hlt : q < m
    · have hki : 64 * (q : Int) < 64 * m := by omega
      have hrun := slice_block g cap (64 * m) q (by omega) hcap (by omega)
      have hbat : BAt wr g (64 * q) ((D.drop (64 * q)).take 64) := by
        intro j x hx
        rw [List.getElem?_take] at hx
        split at hx
        · rw [List.getElem?_drop] at hx
          refine (HW.out.cell (p := ⟨g, 64 * q + j, none⟩) hgl).trans (HSL.out.2.2.2.2.2.2 (64 * q + j) _ ?_)
          simp [bvals, hx]
        · cases hx
      have hbk := block_any gq cq g (64 * q) (cap - 64 * q) (blocks D q) ((D.drop (64 * q)).take 64) wr (by rw [List.length_take, List.length_drop, HM.out]; omega) (by omega) HQ.out hgq hbat (by omega)
      have HBK := Lib.hid hbk
      clear hbat hbk
      go_wp2_with fail
      refine HBK.out.mono ?_
      rintro e w2 ⟨g2, c2, rfl, hs2, hb2⟩
      have hq2 : WAt w2 g2 (blocks D (q + 1)).list := hs2.words
      have hg2 := hs2.2.1
      have hb2' : Below w1.heap.size w1 w2 := HW.out.trans (hb2.mono hwr)
      have HQ2 := Lib.hid hq2
      have HB2 := Lib.hid hb2'
      clear hs2 hb2 hq2 hb2' HBK hrun
      go_wp2
      go_roundw
      case rel => exact ⟨q + 1, g2, c2, by omega, (by congr 1), rfl, hg2, HQ2, HB2⟩
      case measure => simp [intOf]; omega
    · have hqm : q = m := by omega
      have hki : 64 * (m : Int) ≤ 64 * q := by omega
      have hst := HST.out
      rw [← hqm] at hst
      have hb3 : Below w.heap.size w wr := HB1.out.trans (HW.out.mono hsz)
      have hr3 := HRES.out.below HW.out (by omega)
      obtain ⟨t, ht⟩ : ∃ t, t = blocks D q := ⟨_, rfl⟩
      rw [← ht] at hst
      have HQ3 : Hid (WAt wr gq t.list) := by rw [ht]; exact HQ
      have HST3 := Lib.hid hst
      have HB3 := Lib.hid hb3
      have HR3 := Lib.hid hr3
      obtain ⟨wo, rfl⟩ : ∃ wo : World, wo = wr := ⟨_, rfl⟩
      have hwo := hb3.size
      have hwo1 : w.heap.size < wo.heap.size := by omega
      clear hqm hst hb3 hr3 ht HQ HST HB1 HRES HIN HW hlt
      go_wp2_with (first
        | (refine wpList_buildTo rfl 26 _ rfl (some 24) rfl (bvals (List.replicate 32 0)).toArray (by kernel_rfl) ?_)
        | (refine wpList_store_all rfl 26 (.tmp 6) (.tmp 24) rfl wo.heap.size (bvals (List.replicate 32 0)) rfl rfl 26 (bvals (List.replicate 32 0)) (Row.new_at _ _ _ _ rfl rfl) (by kernel_rfl) rfl (bvals_one _) ?_))
      intro w3 HO3 HT3
      have hb4 : Below w.heap.size w w3 := below_turn (HB3.out.alloc hwo _) HT3.out hwo
      have hr4 := (HR3.out.alloc (.cells (bvals (List.replicate 32 0)).toArray 26)).turn HT3.out (by omega)
      have hq4 : WAt w3 gq t.list := fun j x hx => by
        refine (World.cell?_of_block (a := ⟨gq, j, none⟩) (HT3.out.2.2.2.2 gq (by omega))).trans ?_
        exact (World.cell?_alloc_lt _ _ _ hgq).trans (HQ3.out j x hx)
      have HB4 := Lib.hid hb4
      have HR4 := Lib.hid hr4
      have HQ4 := Lib.hid hq4
      clear hb4 hr4 hq4 HT3 HB3 HR3 HQ3
      go_wp2
      go_loopw [7] (fun i wr => ∃ k : Nat, k ≤ 32 ∧ i = .int .i64 k ∧ Hid (Row wr wo.heap.size 26 (bvals (part (dByte t) 0 32 k))) ∧ Hid (WAt wr gq t.list) ∧ Hid (Row wr w.heap.size 26 (bvals (List.replicate 32 0))) ∧ Hid (Below w.heap.size w wr)) (fun i _ => 32 - (intOf i).toNat)
      case atStart =>
        refine ⟨0, by omega, rfl, ?_, HQ4, HR4, HB4⟩
        rw [part_zero]
        exact HO3
      case round =>
        obtain ⟨k, hk, rfl, HD, HH, HRS, HB⟩ := hrel
        by_cases hlt : k < 32
        · have hki : (k : Int) < 32 := by omega
          have hcw := HH.out.get (k / 4) (by rw [St.list_length]; omega)
          have hcd := HD.out.cell k
          rw [bvals_get _ _ (by rw [part_length]; exact hlt)] at hcd
          have hfd := HD.out.frozen k
          have hps := part_succ (dByte t) 0 32 k hlt
          have hdb : dByte t k = UInt8.ofNat ((t.list.getD (k / 4) 0).toNat / 2 ^ (24 - 8 * (k % 4))) := by
            rw [show 8 * (k % 4) = k % 4 * 8 by omega]; rfl
          generalize t.list.getD (k / 4) 0 = x at hcw hdb
          generalize (part (dByte t) 0 32 k).getD k 0 = y at hcd
          have HPS := Lib.hid hps
          have HDB := Lib.hid hdb
          clear hps hdb
          go_wp2
          go_roundw
          case rel =>
            refine ⟨k + 1, by omega, by go_num, ?_, ?_, ?_, ?_⟩
            · rw [dbyte_val, ← HDB.out, HPS.out, ← bvals_set]
              exact HD.out.set _ _
            · intro j z hz
              exact (World.cell?_setCell_other _ _ _ _ (fun e => by injection e with e; omega)).trans (HH.out j z hz)
            · exact HRS.out.far (by simp; omega) _
            · exact HB.out.setCell (by simp; omega) _
          case measure => simp [intOf]; omega
        · have hk32 : k = 32 := by omega
          have hfin : Row wr wo.heap.size 26 (bvals (dig s.data.toList)) := by
            have h := HD.out
            rw [hk32, part_all] at h
            rw [HST3.out]
            exact h
          have HF := Lib.hid hfin
          clear hfin hk32 HD
          go_wp2_with (first
            | (refine wpList_load_all rfl 26 (.tmp 6) rfl wo.heap.size rfl 26 (bvals (dig s.data.toList)) _ HF.out Tryd.underlying26 rfl ?l1 ?_)
            | (refine wpList_store_all rfl 26 (.tmp 2) (.tmp 42) rfl w.heap.size (bvals (dig s.data.toList)) rfl rfl 26 (bvals (List.replicate 32 0)) HRS.out ?s1 ?s2 (bvals_one _) ?_))
          case l1 => rw [bvals_length, dig_length]; kernel_rfl
          case s1 => rw [bvals_length, dig_length]; kernel_rfl
          case s2 => rw [bvals_length, bvals_length, dig_length, List.length_replicate]
          intro w7 HR7 HT7
          go_wp2
          refine bodyPost_ret (results_cell_row rfl _ _ w.heap.size 26 (bvals (dig s.data.toList)).toArray (0, 0) _ rfl HR7.out Tryd.underlying26 rfl ?r1) rfl ⟨rfl, below_turn HB.out HT7.out (Nat.le_refl _)⟩
          case r1 => rw [List.size_toArray, bvals_length, dig_length]; kernel_rfl
end Sh
end Go.Proofs.YtkldgfdfpanelaaDoor
