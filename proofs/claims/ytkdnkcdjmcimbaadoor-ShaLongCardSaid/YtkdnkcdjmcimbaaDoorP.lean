/-
  Layer 2 (sha): the walks of the document's digit and Of.
-/
import Derived.Test.YtkdnkcdjmcimbaaDoorO
namespace Go.Proofs.YtkdnkcdjmcimbaaDoor
namespace Sh
open Go.RowKit

theorem isH_nat (c : UInt8) : isH c = (decide (48 ≤ c.toNat ∧ c.toNat ≤ 57) || decide (97 ≤ c.toNat ∧ c.toNat ≤ 102)) := by
  have := all_bytes (fun c => isH c == (decide (48 ≤ c.toNat ∧ c.toNat ≤ 57) || decide (97 ≤ c.toNat ∧ c.toNat ≤ 102))) (by decide +kernel) c
  simpa using this
theorem hval_nat (c : UInt8) : hval c = if c.toNat ≤ 57 then c.toNat - 48 else c.toNat - 87 := by
  unfold hval
  simp only [UInt8.le_iff_toNat_le]
  rfl

theorem digit_any (c : UInt8) (z : Int) (hz : z = (if isH c then (hval c : Int) else -1)) (w : World) :
    Calls Tryd.prog 24 #[.int .u8 (c.toNat : Int)] w fun e w' => e = .returned (.int .i64 z) ∧ w = w' := by
  have hc := c.toNat_lt
  rw [isH_nat, hval_nat] at hz
  generalize c.toNat = n at hz hc ⊢
  have HZ := Lib.hid hz
  clear hz
  by_cases h1 : 48 ≤ n
  · by_cases h2 : n ≤ 57
    · have g1 : (48 : Int) ≤ n := by omega
      have g2 : (n : Int) ≤ 57 := by omega
      have hr : z = (n : Int) - 48 := by
        rw [HZ.out]; simp [h1, h2]; omega
      have HR := Lib.hid hr
      clear h1 h2 hr HZ
      go_enter Tryd.func24, Tryd.ntmps24
      go_wp2
      go_ret
      rw [HR.out]
      exact ⟨rfl, rfl⟩
    · have g1 : (48 : Int) ≤ n := by omega
      have g2 : (57 : Int) < n := by omega
      by_cases h3 : 97 ≤ n
      · by_cases h4 : n ≤ 102
        · have g3 : (97 : Int) ≤ n := by omega
          have g4 : (n : Int) ≤ 102 := by omega
          have hr : z = (n : Int) - 97 + 10 := by
            rw [HZ.out]; simp [h2, h3, h4]; omega
          have HR := Lib.hid hr
          clear h1 h2 h3 h4 hr HZ
          go_enter Tryd.func24, Tryd.ntmps24
          go_wp2
          go_ret
          rw [HR.out]
          exact ⟨rfl, rfl⟩
        · have g3 : (97 : Int) ≤ n := by omega
          have g4 : (102 : Int) < n := by omega
          have hr : z = -1 := by
            rw [HZ.out]; simp [h2, h4]
          have HR := Lib.hid hr
          clear h1 h2 h3 h4 hr HZ
          go_enter Tryd.func24, Tryd.ntmps24
          go_wp2
          go_ret
          rw [HR.out]
          exact ⟨rfl, rfl⟩
      · have g3 : (n : Int) < 97 := by omega
        have hr : z = -1 := by
          rw [HZ.out]; simp [h2, h3]
        have HR := Lib.hid hr
        clear h1 h2 h3 hr HZ
        go_enter Tryd.func24, Tryd.ntmps24
        go_wp2
        go_ret
        rw [HR.out]
        exact ⟨rfl, rfl⟩
  · have g1 : (n : Int) < 48 := by omega
    have g3 : (n : Int) < 97 := by omega
    have hr : z = -1 := by
      rw [HZ.out]; simp [h1]; omega
    have HR := Lib.hid hr
    clear h1 hr HZ
    go_enter Tryd.func24, Tryd.ntmps24
    go_wp2
    go_ret
    rw [HR.out]
    exact ⟨rfl, rfl⟩

/-- A digit's value, or -1. -/
def dz (c : UInt8) : Int := if isH c then (hval c : Int) else -1
theorem digit_c (c : UInt8) (w : World) :
    Calls Tryd.prog 24 #[.int .u8 (c.toNat : Int)] w fun e w' => e = .returned (.int .i64 (dz c)) ∧ w = w' := digit_any c (dz c) rfl w
theorem dz_bad (c : UInt8) (h : isH c = false) : dz c = -1 := by simp [dz, h]
theorem dz_good (c : UInt8) (h : isH c = true) : dz c = (hval c : Int) := by simp [dz, h]

theorem str_index (s : ByteArray) (n : Nat) (i : Int) (hi : i = (n : Int)) (hn : n < s.size) (W : World) :
    (Instr.index 9 (.string s) (.int .i64 i)).run Tryd.prog W = .ok (.int .u8 ((s.data.toList.getD n 0).toNat : Int)) W := by
  subst hi
  have hd : s[n]? = some (s.data.toList.getD n 0) := by
    rw [getElem?_pos s n hn, List.getD_eq_getElem?_getD, List.getElem?_eq_getElem (by rw [data_length]; exact hn)]; rfl
  simp [Instr.index, asIntOf, run_underlying Tryd.underlying9, hd]

set_option maxRecDepth 100000 in
set_option maxHeartbeats 4000000 in
theorem refof_any (s : ByteArray) (w : World) (hs : s.size ≤ 100000) :
    Calls Tryd.prog 16 #[.string s] w fun e w' => e = .returned (.tuple #[.agg (bvals (dOf s.data.toList)).toArray, .bool (okOf s.data.toList)]) ∧ Below w.heap.size w w' := by
  have HDL := Lib.hid (data_length s)
  by_cases h64 : s.size = 64
  · go_enter Tryd.func16, Tryd.ntmps16
    have hb64 : ((s.size : Int) != 64) = false := by rw [bne_eq_false_iff_eq]; omega
    have H64 := Lib.hid h64
    clear h64
    go_wp2_with (first
      | (refine wpList_buildTo rfl 27 _ rfl (some 8) rfl (bvals (List.replicate 32 0)).toArray (by kernel_rfl) ?_)
      | (refine wpList_store_all rfl 27 (.tmp 4) (.tmp 8) rfl (w.heap.size + 1) (bvals (List.replicate 32 0)) rfl rfl 27 (bvals (List.replicate 32 0)) (Row.new_at _ _ _ _ (by simp) rfl) (by kernel_rfl) rfl (bvals_one _) ?_))
    intro w1 HD1 HT1
    have hb1 : Below w.heap.size w w1 := below_turn (((Below.refl _ _).alloc (Nat.le_refl _) _).alloc (by simp) _) HT1.out (by omega)
    have hr1 : Row w1 w.heap.size 27 (bvals (List.replicate 32 0)) := ((Row.new_at w _ _ _ rfl rfl).alloc _).turn HT1.out (by omega)
    have HB1 := Lib.hid hb1
    have HR1 := Lib.hid hr1
    clear hb1 hr1 HT1
    go_wp2
    go_loopw [5] (fun i wr => ∃ k : Nat, k ≤ 32 ∧ i = .int .i64 k ∧ Hid (∀ j, j < 2 * k → isH (s.data.toList.getD j 0) = true) ∧ Hid (Row wr (w.heap.size + 1) 27 (bvals (dAt s.data.toList (2 * k)))) ∧ Hid (Row wr w.heap.size 27 (bvals (List.replicate 32 0))) ∧ Hid (Below w.heap.size w wr)) (fun i _ => 32 - (intOf i).toNat)
    case atStart =>
      refine ⟨0, by omega, rfl, fun j hj => by omega, ?_, HR1, HB1⟩
      rw [dAt_zero]
      exact HD1
    case round =>
      obtain ⟨k, hk, rfl, HG, HD, HRS, HW⟩ := hrel
      by_cases hlt : k < 32
      · have hki : (k : Int) < 32 := by omega
        have hx0 := str_index s (2 * k) (2 * (k : Int)) (by omega) (by have := H64.out; omega)
        have hx1 := str_index s (2 * k + 1) (2 * (k : Int) + 1) (by omega) (by have := H64.out; omega)
        have hbad0 := okOf_bad s.data.toList (2 * k) (by rw [HDL.out, H64.out]; omega)
        have hbad1 := okOf_bad s.data.toList (2 * k + 1) (by rw [HDL.out, H64.out]; omega)
        have hds := dAt_two s.data.toList k hlt
        have hgood : isH (s.data.toList.getD (2 * k) 0) = true → isH (s.data.toList.getD (2 * k + 1) 0) = true → ∀ j, j < 2 * (k + 1) → isH (s.data.toList.getD j 0) = true := fun h0 h1 j hj => by
          by_cases he : j < 2 * k
          · exact HG.out j he
          · by_cases he2 : j = 2 * k
            · rw [he2]; exact h0
            · rw [show j = 2 * k + 1 by omega]; exact h1
        generalize s.data.toList.getD (2 * k) 0 = c0 at hx0 hbad0 hds hgood
        generalize s.data.toList.getD (2 * k + 1) 0 = c1 at hx1 hbad1 hds hgood
        have HB0 := Lib.hid hbad0
        have HBB := Lib.hid hbad1
        have HDS := Lib.hid hds
        have HGD := Lib.hid hgood
        clear hbad0 hbad1 hds hgood
        have a1 : IntKind.i64.wrap (2 * (k : Int)) = 2 * (k : Int) := IntWalk.i64_in _ (by omega)
        have a2 : IntKind.i64.wrap (2 * (k : Int) + 1) = 2 * (k : Int) + 1 := IntWalk.i64_in _ (by omega)
        have HZ0 := Lib.hid (dz_bad c0)
        have HZ1 := Lib.hid (dz_bad c1)
        have HY0 := Lib.hid (dz_good c0)
        have HY1 := Lib.hid (dz_good c1)
        go_wp2
        go_quiet ((go_at_call 24; exact quiet_s (digit_c _ _) ⟨_, rfl⟩))
        rename Nat => n1
        clear hx0 hx1 a1 a2
        have hr2 : Row (wr.drewN n1) w.heap.size 27 (bvals (List.replicate 32 0)) := HRS.out
        have HR2 := Lib.hid hr2
        have HB2 := Lib.hid (below_drewN HW.out n1)
        clear hr2
        cases hH0 : isH c0
        · have hb := HB0.out hH0
          have hd := dOf_bad _ hb
          have HBAD := Lib.hid hb
          have HDB := Lib.hid hd
          rw [HZ0.out hH0]
          clear hb hd hH0 HB0 HBB HDS HGD HZ0 HZ1 HY0 HY1
          go_wp2_with (first
            | (refine wpList_buildTo rfl 27 _ rfl (some 34) rfl (bvals (List.replicate 32 0)).toArray (by kernel_rfl) ?_)
            | (refine wpList_store_all rfl 27 (.tmp 2) (.tmp 34) rfl w.heap.size (bvals (List.replicate 32 0)) rfl rfl 27 (bvals (List.replicate 32 0)) HR2.out (by kernel_rfl) rfl (bvals_one _) ?_))
          intro w7 HR7 HT7
          go_wp2
          refine bodyPost_ret (results_row_tmp rfl _ _ w.heap.size 27 (bvals (List.replicate 32 0)) _ rfl HR7.out Tryd.underlying27 rfl (by kernel_rfl)) rfl ⟨?_, below_turn HB2.out HT7.out (Nat.le_refl _)⟩
          rw [HDB.out, HBAD.out]
          rfl
        · cases hH1 : isH c1
          · have hb := HBB.out hH1
            have hd := dOf_bad _ hb
            have HBAD := Lib.hid hb
            have HDB := Lib.hid hd
            rw [HZ1.out hH1, HY0.out hH0]
            clear hb hd hH0 hH1 HB0 HBB HDS HGD HZ0 HZ1 HY0 HY1
            go_wp2_with (first
              | (refine wpList_buildTo rfl 27 _ rfl (some 34) rfl (bvals (List.replicate 32 0)).toArray (by kernel_rfl) ?_)
              | (refine wpList_store_all rfl 27 (.tmp 2) (.tmp 34) rfl w.heap.size (bvals (List.replicate 32 0)) rfl rfl 27 (bvals (List.replicate 32 0)) HR2.out (by kernel_rfl) rfl (bvals_one _) ?_))
            intro w7 HR7 HT7
            go_wp2
            refine bodyPost_ret (results_row_tmp rfl _ _ w.heap.size 27 (bvals (List.replicate 32 0)) _ rfl HR7.out Tryd.underlying27 rfl (by kernel_rfl)) rfl ⟨?_, below_turn HB2.out HT7.out (Nat.le_refl _)⟩
            rw [HDB.out, HBAD.out]
            rfl
          · have hg := HGD.out hH0 hH1
            have h0 := hval_lt _ hH0
            have h1 := hval_lt _ hH1
            have hds := HDS.out
            rw [HY1.out hH1, HY0.out hH0]
            have hd2 : Row (wr.drewN n1) (w.heap.size + 1) 27 (bvals (dAt s.data.toList (2 * k))) := HD.out
            have hc := hd2.cell k
            rw [bvals_get _ _ (by rw [dAt_length]; exact hlt)] at hc
            have hf := hd2.frozen k
            have hv : ((16 * hval c0 + hval c1 : Nat) : Int) = 16 * (hval c0 : Int) + (hval c1 : Int) := by omega
            have hu : (UInt8.ofNat (16 * hval c0 + hval c1)).toNat = 16 * hval c0 + hval c1 := by
              rw [UInt8.toNat_ofNat']; omega
            generalize (dAt s.data.toList (2 * k)).getD k 0 = y at hc
            generalize hval c0 = v0 at *
            generalize hval c1 = v1 at *
            have HG2 := Lib.hid hg
            have HD2 := Lib.hid hd2
            have HS2 := Lib.hid hds
            have HU := Lib.hid hu
            have g0 : (v0 : Int) ≤ 15 := by omega
            have g1 : (v1 : Int) ≤ 15 := by omega
            clear hg hd2 hds hv hu hH0 hH1 HB0 HBB HDS HGD HZ0 HZ1 HY0 HY1
            go_wp2
            go_roundw
            case rel =>
              refine ⟨k + 1, by omega, by go_num, HG2, ?_, ?_, ?_⟩
              · rw [show (16 * (v0 : Int) + (v1 : Int)) = ((UInt8.ofNat (16 * v0 + v1)).toNat : Int) by rw [HU.out]; omega, HS2.out, ← bvals_set]
                exact HD2.out.set _ _
              · exact HR2.out.far (by simp) _
              · exact HB2.out.setCell (by simp) _
            case measure => simp [intOf]; omega
      · have hk32 : k = 32 := by omega
        subst hk32
        have hok := okOf_good s.data.toList (by rw [HDL.out, H64.out]) (fun j hj => HG.out j hj)
        have hd := dOf_good _ hok
        have HOK := Lib.hid hok
        have HDF := Lib.hid hd
        have hdd : Row wr (w.heap.size + 1) 27 (bvals (dAt s.data.toList 64)) := HD.out
        have HDD := Lib.hid hdd
        clear hok hd hdd
        go_wp2_with (first
          | (refine wpList_load_all rfl 27 (.tmp 4) rfl (w.heap.size + 1) rfl 27 (bvals (dAt s.data.toList 64)) _ HDD.out Tryd.underlying27 rfl ?l1 ?_)
          | (refine wpList_store_all rfl 27 (.tmp 2) (.tmp 42) rfl w.heap.size (bvals (dAt s.data.toList 64)) rfl rfl 27 (bvals (List.replicate 32 0)) HRS.out ?s1 ?s2 (bvals_one _) ?_))
        case l1 => rw [bvals_length, dAt_length]; kernel_rfl
        case s1 => rw [bvals_length, dAt_length]; kernel_rfl
        case s2 => rw [bvals_length, bvals_length, dAt_length, List.length_replicate]
        intro w7 HR7 HT7
        go_wp2
        refine bodyPost_ret (results_row_tmp rfl _ _ w.heap.size 27 (bvals (dAt s.data.toList 64)) _ rfl HR7.out Tryd.underlying27 rfl ?r1) rfl ⟨?_, below_turn HW.out HT7.out (Nat.le_refl _)⟩
        case r1 => rw [bvals_length, dAt_length]; kernel_rfl
        rw [HDF.out, HOK.out]
        rfl
  · have hb64 : ((s.size : Int) != 64) = true := by rw [bne_iff_ne]; omega
    have hbad := okOf_short s.data.toList (by rw [HDL.out]; exact h64)
    have hd := dOf_bad _ hbad
    have HBAD := Lib.hid hbad
    have HDB := Lib.hid hd
    clear hbad hd h64
    go_enter Tryd.func16, Tryd.ntmps16
    go_wp2_with (first
      | (refine wpList_buildTo rfl 27 _ rfl (some 8) rfl (bvals (List.replicate 32 0)).toArray (by kernel_rfl) ?_)
      | (refine wpList_store_all rfl 27 (.tmp 4) (.tmp 8) rfl (w.heap.size + 1) (bvals (List.replicate 32 0)) rfl rfl 27 (bvals (List.replicate 32 0)) (Row.new_at _ _ _ _ (by simp) rfl) (by kernel_rfl) rfl (bvals_one _) ?_))
    intro w1 HD1 HT1
    have hb1 : Below w.heap.size w w1 := below_turn (((Below.refl _ _).alloc (Nat.le_refl _) _).alloc (by simp) _) HT1.out (by omega)
    have hr1 : Row w1 w.heap.size 27 (bvals (List.replicate 32 0)) := ((Row.new_at w _ _ _ rfl rfl).alloc _).turn HT1.out (by omega)
    have HB1 := Lib.hid hb1
    have HR1 := Lib.hid hr1
    clear hb1 hr1 HT1
    go_wp2_with (first
      | (refine wpList_load_all rfl 27 (.tmp 4) rfl (w.heap.size + 1) rfl 27 (bvals (List.replicate 32 0)) _ HD1.out Tryd.underlying27 rfl (by kernel_rfl) ?_)
      | (refine wpList_store_all rfl 27 (.tmp 2) (.tmp 12) rfl w.heap.size (bvals (List.replicate 32 0)) rfl rfl 27 (bvals (List.replicate 32 0)) HR1.out (by kernel_rfl) rfl (bvals_one _) ?_))
    intro w7 HR7 HT7
    go_wp2
    refine bodyPost_ret (results_row_tmp rfl _ _ w.heap.size 27 (bvals (List.replicate 32 0)) _ rfl HR7.out Tryd.underlying27 rfl (by kernel_rfl)) rfl ⟨?_, below_turn HB1.out HT7.out (Nat.le_refl _)⟩
    rw [HDB.out, HBAD.out]
    rfl
end Sh
end Go.Proofs.YtkdnkcdjmcimbaaDoor
