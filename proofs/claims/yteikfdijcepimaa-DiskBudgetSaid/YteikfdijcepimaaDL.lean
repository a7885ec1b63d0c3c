/-
  Layer 7 (disk): law Budget.
-/
import Derived.Test.YteikfdijcepimaaDK
namespace Go.Proofs.Yteikfdijcepimaa
namespace Dk
open Go.RowKit Kr

theorem wrap_small (z : Nat) (h : z < 256) : wrap64 (z : Int) = (z : Int) := by
  unfold wrap64
  omega
abbrev none4 : ByteArray := ⟨#[110, 111, 110, 101]⟩
theorem bud_start (n : Nat) : budgetV newV (n : Int) = budD n 0 := by
  unfold budgetV budD budF newV
  rw [if_neg (by omega), Nat.min_zero, if_pos rfl]
  simp
theorem bud_sync (n k : Nat) : syncV (budD n k) none4 = (budD n k, 10) := by
  unfold syncV
  rw [if_neg (by decide), bud_at n k none4 (by decide)]
def budE (k : Nat) : DD := ⟨budF k, -1⟩
theorem bud_free (n k : Nat) : budgetV (budD n k) (-1) = budE (min n k) := by
  unfold budgetV budD budE
  rw [if_pos (by omega)]
def budG (k : Nat) : DD := ⟨withF (budF k) (addF (budF k) fname ⟨#[121]⟩), -1⟩
theorem bud_more (k : Nat) : appendV (budE k) fname ⟨#[121]⟩ = (budG k, 0) := append_free rfl (by decide) _
theorem bud_gone (k : Nat) : removeV (budG k) fname = (newV, 0) := by
  have hr : Rise (budF k) := by
    unfold budF
    split
    · exact List.Pairwise.nil
    · exact List.pairwise_singleton _ _
  have hat : at? (budG k).files fname = some (addF (budF k) fname ⟨#[121]⟩) := by
    show at? (withF _ _) fname = _
    rw [withF_at hr, addF_name, if_pos rfl]
  unfold removeV
  rw [if_neg (by decide), hat]
  show passV _ _ = _
  rw [pass_free rfl]
  have : dropF (budG k).files fname = [] := by
    unfold dropF
    rw [List.filter_eq_nil_iff]
    intro x hx
    rcases (withF_mem _ _ x).1 hx with rfl | ⟨h, h2⟩
    · rw [addF_name]; simp
    · rw [addF_name] at h2
      unfold budF at h
      split at h
      · simp at h
      · rw [List.mem_singleton.1 h] at h2
        exact absurd rfl h2
  rw [this]
  rfl
theorem budE_fit (n k : Nat) (hn : n ≤ 255) (hk : k ≤ 255) : Fit 300 (budE (min n k)) := by
  have := fit_budget (bud_fit n k hn hk) (-1) (by omega)
  rwa [bud_free] at this

set_option maxRecDepth 100000 in
set_option maxHeartbeats 4000000 in
theorem budget_law {R : World → (Nat → Prop) → Nat → DD → Prop} (hK : Keeps R) (n m : Nat) (hn : n ≤ 255) (hm : m ≤ 255) (w : World) :
    Calls Try.prog 5 #[.int .u8 (n : Int), .int .u8 (m : Int)] w fun e w' => e = .returned (.bool true) ∧ Below w.heap.size w w' := by
  have HAL := Lib.hid (alive_any hK w)
  have H1 : Hid (∀ W S b, R W S b newV → Calls Try.prog 23 #[ptr b, .int .i64 (n : Int)] W (Wrote R S b (budD n 0) W (.tuple #[]))) := fun W S b h => by
    rw [← bud_start n]; exact hK.budget W S b newV n h (fit_new _) (by omega) (by omega)
  have H2 : Hid (∀ W S b k, k ≤ 255 → R W S b (budD n k) → Calls Try.prog 15 #[ptr b, .string fname, .string ⟨#[120]⟩] W (Wrote R S b (budD n (k + 1)) W (.int .i64 (if k < n then 0 else 18)))) := fun W S b k hk h => by
    have h2 := hK.append W S b (budD n k) fname (xs 1) h ((bud_fit n k hn hk).more (by decide)) (by decide) (by decide)
    rw [bud_step] at h2
    have e : ((if k < n then 0 else 18 : Nat) : Int) = if k < n then 0 else 18 := by split <;> rfl
    rw [← e]
    exact h2
  have H3 : Hid (∀ W S b k, k ≤ 255 → R W S b (budD n k) → Calls Try.prog 18 #[ptr b, .string none4] W (Wrote R S b (budD n k) W (.int .i64 10))) := fun W S b k hk h => by
    have h2 := hK.sync W S b (budD n k) none4 h ((bud_fit n k hn hk).more (by decide)) (by decide)
    rw [bud_sync] at h2
    exact h2
  have w1 := wrap_small n (by omega)
  have w2 := wrap_small m (by omega)
  go_enter Try.func5, Try.ntmps5
  go_wp2_with fail
  refine HAL.out.mono ?_
  rintro e wa ⟨rfl, hba⟩
  have HBA := Lib.hid hba
  clear hba HAL
  go_wp2_with fail
  refine (hK.new _).mono ?_
  rintro e wb ⟨b, S, rfl, hr1, hS1, hb1⟩
  have HT1 : Hid (St R w wb S b newV) := ⟨HBA.out.trans (hb1.mono HBA.out.size), fun q hq => Nat.le_trans HBA.out.size (hS1 q hq), hr1⟩
  clear hr1 hS1 hb1 HBA
  go_wp2_with fail
  refine (H1.out _ S b HT1.out.has).mono ?_
  rintro e wc hw
  obtain ⟨S2, rfl, hT2, _⟩ := HT1.out.wrote hw
  have HT2 := Lib.hid hT2
  clear hw hT2
  have HFE := Lib.hid (budE_fit n m hn hm)
  go_wp2_with fail
  go_loopw [20] (fun i wr => ∃ (k : Nat) (S : Nat → Prop), k ≤ m ∧ i = .int .i64 k ∧ Hid (St R w wr S b (budD n k))) (fun i _ => m - (intOf i).toNat)
  case atStart => exact ⟨0, S2, Nat.zero_le _, rfl, HT2.out⟩
  case round =>
    obtain ⟨k, S3, hk, rfl, HT⟩ := hrel
    clear HT2 HT1
    by_cases hlt : k < m
    · have hki : (k : Int) < m := by omega
      have HA := Lib.hid (H2.out wr S3 b k (by omega) HT.out.has)
      by_cases hkn : k < n
      · have hkni : (k : Int) < n := by omega
        rw [if_pos hkn] at HA
        go_wp2_with fail
        refine HA.out.mono ?_
        rintro e w4 hw
        obtain ⟨S4, rfl, hT4, _⟩ := HT.out.wrote hw
        have HT4 := Lib.hid hT4
        clear hw hT4
        go_wp2_with fail
        refine (H3.out w4 S4 b (k + 1) (by omega) HT4.out.has).mono ?_
        rintro e w5 hw
        obtain ⟨S5, rfl, hT5, _⟩ := HT4.out.wrote hw
        have HT5 := Lib.hid hT5
        clear hw hT5
        go_wp2_with fail
        go_roundw
        case rel => exact ⟨k + 1, S5, by omega, by go_num, HT5.out⟩
        case measure => simp [intOf]; omega
      · have hkni : ¬ (k : Int) < n := by omega
        rw [if_neg hkn] at HA
        go_wp2_with fail
        refine HA.out.mono ?_
        rintro e w4 hw
        obtain ⟨S4, rfl, hT4, _⟩ := HT.out.wrote hw
        have HT4 := Lib.hid hT4
        clear hw hT4
        go_wp2_with fail
        refine (H3.out w4 S4 b (k + 1) (by omega) HT4.out.has).mono ?_
        rintro e w5 hw
        obtain ⟨S5, rfl, hT5, _⟩ := HT4.out.wrote hw
        have HT5 := Lib.hid hT5
        clear hw hT5
        go_wp2_with fail
        go_roundw
        case rel => exact ⟨k + 1, S5, by omega, by go_num, HT5.out⟩
        case measure => simp [intOf]; omega
    · obtain rfl : k = m := by omega
      have HRD := Lib.hid (hK.read wr S3 b (budD n k) fname HT.out.has ((bud_fit n k hn hm).more (by decide)) (by decide))
      have HBG : Hid (∀ W S, R W S b (budD n k) → Calls Try.prog 23 #[ptr b, .int .i64 (-1)] W (Wrote R S b (budE (min n k)) W (.tuple #[]))) := fun W S h => by
        rw [← bud_free n k]; exact hK.budget W S b (budD n k) (-1) h ((bud_fit n k hn hm).more (by decide)) (by decide) (by decide)
      rw [bud_read] at HRD
      obtain ⟨j, hj⟩ : ∃ j, min n k = j := ⟨_, rfl⟩
      have hmin : min (n : Int) (k : Int) = (j : Int) := by omega
      rw [hj] at HRD HBG HFE
      have HMO : Hid (∀ W S, R W S b (budE j) → Calls Try.prog 15 #[ptr b, .string fname, .string ⟨#[121]⟩] W (Wrote R S b (budG j) W (.int .i64 0))) := fun W S h => by
        have h2 := hK.append W S b (budE j) fname ⟨#[121]⟩ h (HFE.out.more (by decide)) (by decide) (by decide)
        rw [bud_more] at h2
        exact h2
      have HGF : Hid (Fit 400 (budG j)) := by
        have h2 := fit_append HFE.out fname ⟨#[121]⟩
        rw [bud_more] at h2
        exact h2.more (by decide)
      have HGO : Hid (∀ W S, R W S b (budG j) → Calls Try.prog 19 #[ptr b, .string fname] W (Wrote R S b newV W (.int .i64 0))) := fun W S h => by
        have h2 := hK.remove W S b (budG j) fname h (HGF.out.more (by decide)) (by decide)
        rw [bud_gone] at h2
        exact h2
      obtain ⟨X, hX⟩ : ∃ X, xs j = X := ⟨_, rfl⟩
      have hXs : X.size = j := by
        rw [← hX]
        show (List.replicate j 120).toArray.size = j
        simp
      rw [hX] at HRD
      obtain ⟨c, hc⟩ : ∃ c : Bool, decide (0 < j) = c := ⟨_, rfl⟩
      have hci : decide ((0 : Int) < (j : Int)) = c := by rw [← hc]; exact decide_eq_decide.2 (by omega)
      clear hj hX
      cases c
      · have hj0 : ¬ 0 < j := of_decide_eq_false hc
        rw [if_neg hj0] at HRD
        obtain rfl : j = 0 := by omega
        clear hc hci
        go_wp2_with fail
        refine HRD.out.mono ?_
        rintro e w6 ⟨rfl, hb6⟩
        have HT6 := Lib.hid (HT.out.later hK hb6)
        clear hb6
        go_wp2_with fail
        refine (HBG.out _ _ HT6.out.has).mono ?_
        rintro e w7 hw
        obtain ⟨S7, rfl, hT7, _⟩ := HT6.out.wrote hw
        have HT7 := Lib.hid hT7
        clear hw hT7
        go_wp2_with fail
        refine (HMO.out _ _ HT7.out.has).mono ?_
        rintro e w8 hw
        obtain ⟨S8, rfl, hT8, _⟩ := HT7.out.wrote hw
        have HT8 := Lib.hid hT8
        clear hw hT8
        go_wp2_with fail
        refine (HGO.out _ _ HT8.out.has).mono ?_
        rintro e w9 hw
        obtain ⟨S9, rfl, hT9, _⟩ := HT8.out.wrote hw
        have HT9 := Lib.hid hT9
        clear hw hT9
        go_wp2_with fail
        refine (hK.names _ _ b newV HT9.out.has (fit_new _)).mono ?_
        rintro e w10 ⟨A, q, cp, rfl, hq, _, hb10⟩
        obtain rfl : q = 0 := hq.symm
        have HT10 := Lib.hid (HT9.out.later hK hb10)
        clear hq hb10
        go_wp2_with fail
        go_ret
        exact ⟨rfl, HT10.out.below⟩
      · have hj0 : 0 < j := of_decide_eq_true hc
        rw [if_pos hj0] at HRD
        clear hc
        go_wp2_with fail
        refine HRD.out.mono ?_
        rintro e w6 ⟨rfl, hb6⟩
        have HT6 := Lib.hid (HT.out.later hK hb6)
        clear hb6
        go_wp2_with fail
        refine (HBG.out _ _ HT6.out.has).mono ?_
        rintro e w7 hw
        obtain ⟨S7, rfl, hT7, _⟩ := HT6.out.wrote hw
        have HT7 := Lib.hid hT7
        clear hw hT7
        go_wp2_with fail
        refine (HMO.out _ _ HT7.out.has).mono ?_
        rintro e w8 hw
        obtain ⟨S8, rfl, hT8, _⟩ := HT7.out.wrote hw
        have HT8 := Lib.hid hT8
        clear hw hT8
        go_wp2_with fail
        refine (HGO.out _ _ HT8.out.has).mono ?_
        rintro e w9 hw
        obtain ⟨S9, rfl, hT9, _⟩ := HT8.out.wrote hw
        have HT9 := Lib.hid hT9
        clear hw hT9
        go_wp2_with fail
        refine (hK.names _ _ b newV HT9.out.has (fit_new _)).mono ?_
        rintro e w10 ⟨A, q, cp, rfl, hq, _, hb10⟩
        obtain rfl : q = 0 := hq.symm
        have HT10 := Lib.hid (HT9.out.later hK hb10)
        clear hq hb10
        go_wp2_with fail
        go_ret
        exact ⟨rfl, HT10.out.below⟩
end Dk
end Go.Proofs.Yteikfdijcepimaa
