/-
  Layer 6 (blobs): law Checks.
-/
import Derived.Test.YtiilmgbobjagkaaDoorBF
import Derived.Deep.RegionHeld3
namespace Go.Proofs.YtiilmgbobjagkaaDoor
namespace Bl
open Go.RowKit Kr

theorem below_step {w w1 w2 : World} (h : Below w.heap.size w w1) (h2 : Below w1.heap.size w1 w2) : Below w.heap.size w w2 := h.trans (h2.mono h.size)
theorem row_load {w w' : World} {g n : Nat} {t : TypeId} {l : List Value} (h : Sh.Row w g t l) (hb : Below w.heap.size w w') (hn : l.length = n) : (loadCellsFrom ⟨g, 0, none⟩ 0 n #[]).run Tryd.prog w' = .ok l.toArray w' :=
  load_part hn (fun i v hv => by rw [Nat.zero_add]; exact ((h.below hb h.lt).cell i).trans hv)

set_option maxRecDepth 100000 in
set_option maxHeartbeats 8000000 in
theorem checks_law {R : World → (Nat → Prop) → Nat → List Bb → Prop} (hK : Keeps R) (hC : PCheck) (B : Nat) (s : ByteArray) (d : Bs) (hd : d.length = 32) (hs : s.size ≤ 9223372036854775807) (w : World) (hok : Ok B w) :
    Calls Tryd.prog 4 #[.string s, dv d] w fun e w' => e = .returned (.bool true) ∧ Below w.heap.size w w' := by
  obtain ⟨D, hD⟩ : ∃ D, D = dig s := ⟨_, rfl⟩
  obtain ⟨xs, hxs⟩ : ∃ xs : Bs, xs = s.data.toList := ⟨_, rfl⟩
  obtain ⟨q, hq⟩ : ∃ q, decide (d = D) = q := ⟨_, rfl⟩
  have HDL : Hid (D.length = 32) := by show _ = _; rw [hD]; exact dig_len _
  have HBL : Hid ((Sh.bvals d).length = 32) := by show _ = _; rw [Sh.bvals_length, hd]
  have HBD : Hid ((Sh.bvals D).length = 32) := by show _ = _; rw [Sh.bvals_length, HDL.out]
  have HD := Lib.hid hd
  obtain ⟨w0, hw0⟩ : ∃ w0, w0 = w.alloc (.cells (Sh.bvals d).toArray 29) := ⟨_, rfl⟩
  have HX0 : Hid (Sh.Row w0 w.heap.size 29 (Sh.bvals d)) := by rw [hw0]; exact boxed w d
  have HB0 : Hid (Below w.heap.size w w0) := by rw [hw0]; exact (Below.refl _ _).alloc (Nat.le_refl _) _
  have HO0 : Hid (Ok B w0) := by rw [hw0]; exact Ok.alloc hok _
  have HBW := Lib.hid hok.2.2
  have HAL := Lib.hid (fun W (h : Ok B W) => alive_any hK B W h)
  have heq1 := Sh.eq_same D HDL.out
  have heq2 := bvals_inj hd HDL.out
  rw [hq] at heq2
  clear hd hok
  by_cases hb : s.size ≤ 1000
  · have HPUT := Lib.hid (fun (W : World) S b l (h1 : R W S b l) (h2 : Ok B W) (h3 : ∀ q, S q → B ≤ q) (h4 : Fits l) (h5 : ∀ y, Bl.get l D = some y → y = xs) =>
      hK.put W B S b l s h1 h2 h3 h4 hb (by rw [← hD, ← hxs]; exact h5))
    have HSUM := Lib.hid (fun (W : World) b (hc : W.cell? ⟨b, 0, none⟩ = some (.string s)) (h1 : b < W.heap.size) (ho : Ok B W) => sum_one W B b s hb hc h1 ho)
    have HC1 := Lib.hid (fun (W : World) (ho : Ok B W) => hC W B D s ho HDL.out hb)
    have HC2 := Lib.hid (fun (W : World) (ho : Ok B W) => hC W B d s ho HD.out hb)
    have HF : Hid (Fits [(D, xs)]) := by
      have := put_fits (X := s) fits_nil (by simp) hb
      rw [← hD, ← hxs] at this
      exact this
    rw [← hD] at HC1 HC2 HSUM
    rw [← hD, ← hxs] at HPUT
    rw [decide_eq_true rfl] at HC1
    rw [hq] at HC2
    have HGX : Hid (Bl.get [(D, xs)] d = if q = true then some xs else none) := by
      show _ = _
      rw [get_cons]
      by_cases h : D = d
      · rw [if_pos h, if_pos (by rw [← hq]; exact decide_eq_true h.symm)]
      · rw [if_neg h, if_neg (by rw [← hq]; simpa using fun e => h e.symm), get_nil]
    obtain ⟨Y, hY⟩ : ∃ Y : ByteArray, Y.data.toList = (Bl.get [(D, xs)] d).getD [] := ⟨⟨((Bl.get [(D, xs)] d).getD []).toArray⟩, by simp⟩
    have HY := Lib.hid hY
    have HXQ : Hid (s.data.toList = xs) := hxs.symm
    have hlt : ¬ (1000 : Int) < s.size := by omega
    clear hD hs hY hxs hq
    go_enter Tryd.func4, Tryd.ntmps4
    go_wp2_with fail
    rw [← hw0]
    clear hw0
    refine (HAL.out _ HO0.out).mono ?_
    rintro e w1 ⟨rfl, hb1⟩
    have HB1 := Lib.hid (HB0.out.trans (hb1.mono HB0.out.size))
    have HO1 := Lib.hid (HO0.out.below (hb1.mono HO0.out.2.2))
    have HX1 := Lib.hid (HX0.out.below hb1 HX0.out.lt)
    clear hb1
    go_wp2_with fail
    refine (hK.new _).mono ?_
    rintro e w2 ⟨b, S, rfl, hr2, hS2, hb2⟩
    have hT2 : St R B w1 w2 S b [] := ⟨HO1.out.2.2, hb2, HO1.out.below (hb2.mono HO1.out.2.2), hS2, hr2⟩
    have HT2 := Lib.hid hT2
    clear hr2 hS2 hb2 hT2
    go_wp2_with fail
    refine (HPUT.out _ S b [] HT2.out.has HT2.out.ok HT2.out.base fits_nil (by intro y hy; cases hy)).mono ?_
    rintro e w3 ⟨S3, rfl, hr3, hq3, ha3⟩
    rw [put_one] at hr3
    have HT3 := Lib.hid (HT2.out.acted hr3 hq3 ha3)
    clear hr3 hq3 ha3
    go_wp2_with (refine Sh.wpList_store_all rfl 29 (.tmp 6) (.tmp 19) rfl w3.heap.size (Sh.bvals D) rfl rfl 29 (Sh.bvals (List.replicate 32 0)) (Sh.Row.new_at _ _ _ _ rfl rfl) ?s1 ?s2 (Sh.bvals_one _) ?_)
    case s1 => rw [HBD.out]; kernel_rfl
    case s2 => rw [HBD.out, Sh.bvals_length, List.length_replicate]
    intro w4 HZ4 HT
    have HN4 : Hid (¬ S3 w3.heap.size) := fun h => Nat.lt_irrefl _ (hK.inside HT3.out.has _ h)
    have HT4 := Lib.hid ((HT3.out.alloc hK _).turn hK HT.out HT3.out.below.size HN4.out)
    clear HT HN4
    go_wp2_with (refine wpList_load_at rfl 29 (.tmp 6) rfl ⟨w3.heap.size, 0, none⟩ rfl (Sh.bvals D) 32 (digest_agg _) (digest_size _) HBD.out (row_cells HZ4.out) ?_)
    refine (hK.get _ S3 b _ D s true HT4.out.has HF.out HDL.out (by rw [get_one]; exact HXQ.out) (by rw [get_one]; rfl)).mono ?_
    rintro e w5 ⟨rfl, hb5⟩
    have HT5 := Lib.hid (HT4.out.later hK hb5)
    have HZ5 := Lib.hid (HZ4.out.below hb5 HZ4.out.lt)
    have HX5 := Lib.hid (HX1.out.below HT5.out.below HX1.out.lt)
    clear hb5
    go_wp2_with (refine wpList_load_at rfl 29 (.tmp 3) rfl ⟨w.heap.size, 0, none⟩ rfl (Sh.bvals d) 32 (digest_agg _) (digest_size _) HBL.out (row_cells HX5.out) ?_)
    refine (hK.get _ S3 b _ d Y q HT5.out.has HF.out HD.out HY.out (by rw [HGX.out]; cases q <;> rfl)).mono ?_
    rintro e w6 ⟨rfl, hb6⟩
    have HT6 := Lib.hid (HT5.out.later hK hb6)
    have HZ6 := Lib.hid (HZ5.out.below hb6 HZ5.out.lt)
    have HX6 := Lib.hid (HX5.out.below hb6 HX5.out.lt)
    clear hb6
    obtain ⟨T, hT⟩ : ∃ T : TypeId, T = 29 := ⟨_, rfl⟩
    have key : ∀ x, Op.load 29 x = Op.load T x := by intro x; rw [hT]
    obtain ⟨n, hn⟩ : ∃ n : Nat, n = 32 := ⟨_, rfl⟩
    have hagg : ∀ W, (isAgg T).run Tryd.prog W = .ok true W := fun W => by rw [hT]; kernel_rfl
    have hsize : ∀ W, (sizeOf T).run Tryd.prog W = .ok n W := fun W => by rw [hT, hn]; kernel_rfl
    have hq1 : ∀ W, Below w6.heap.size w6 W → (loadCellsFrom ⟨w.heap.size, 0, none⟩ 0 n #[]).run Tryd.prog W = .ok (Sh.bvals d).toArray W := fun W hb => row_load HX6.out hb (by rw [HBL.out, hn])
    have hq2 : ∀ W, Below w6.heap.size w6 W → (loadCellsFrom ⟨w3.heap.size, 0, none⟩ 0 n #[]).run Tryd.prog W = .ok (Sh.bvals D).toArray W := fun W hb => row_load HZ6.out hb (by rw [HBD.out, hn])
    have HDR := Lib.hid (Below.refl w6.heap.size w6).drew
    have HDD := HDR.out
    have HOB := Lib.hid (fun W (h : Below w6.heap.size w6 W) => HT6.out.ok.below (h.mono HT6.out.ok.2.2))
    have HBE := Lib.hid (HB1.out.trans (HT6.out.below.mono HB1.out.size))
    clear hn HT2 HT3 HT4 HT5 HZ4 HZ5 HX0 HX1 HX5 HB0 HB1 HO0 HO1 HAL HPUT HY HGX
    go_wp2_with fail
    simp only [key]
    clear key hT
    first | (go_region_held3 (fun w' : World => Below w6.heap.size w6 w') (first | exact HDD | assumption | exact Below.alloc (by assumption) (Below.size (by assumption)) _ | exact below_step HDD (by assumption) | exact below_step (by assumption) (by assumption) | exact below_step (Below.alloc (by assumption) (Below.size (by assumption)) _) (by assumption)) ((first
        | (go_at_call 20; (refine (HC1.out _ (HOB.out _ (by assumption))).mono ?_); rintro e wa ⟨rfl, hba⟩)
        | (go_at_call 20; (refine (HC2.out _ (HOB.out _ (by assumption))).mono ?_); rintro e wa ⟨rfl, hba⟩)
        | (go_at_call 17; (refine Calls.mono (HSUM.out _ _ (by simp) (by simp) (Ok.alloc (HOB.out _ (by first | assumption | exact below_step HDD (by assumption) | exact below_step (by assumption) (by assumption) | exact below_step (below_step HDD (by assumption)) (by assumption))) _)) ?_); rintro e wa ⟨rfl, hba⟩)))) | fail
    all_goals
      go_wp2
      go_ret
      refine ⟨rfl, HBE.out.trans (Below.mono (?_ : Below w6.heap.size w6 _) HBE.out.size)⟩
      assumption
  · have hlt : (1000 : Int) < s.size := by omega
    clear hD hq
    go_enter Tryd.func4, Tryd.ntmps4
    go_wp2_with fail
    rw [← hw0]
    clear hw0
    refine (HAL.out _ HO0.out).mono ?_
    rintro e w1 ⟨rfl, hb1⟩
    have HB1 := Lib.hid (HB0.out.trans (hb1.mono HB0.out.size))
    clear hb1
    go_wp2_with fail
    go_ret
    exact ⟨rfl, HB1.out⟩
end Bl
end Go.Proofs.YtiilmgbobjagkaaDoor
