/-
  Layer 7 (disk): law Sure.
-/
import Derived.Test.YteikfdijcepimaaDT
import Derived.Test.YteikfdijcepimaaShelf
namespace Go.Proofs.Yteikfdijcepimaa
namespace Dk
open Go.RowKit Go.ChangeShapes Kr

theorem pre_of {a b : ByteArray} (h : b.data.toList <+: a.data.toList) : Lib.hasPrefix a.data.toList b.data.toList = true := List.isPrefixOf_iff_prefix.2 h

set_option maxRecDepth 100000 in
set_option maxHeartbeats 8000000 in
theorem sure_law {R : World → (Nat → Prop) → Nat → DD → Prop} (hK : Keeps R) (A : Option Addr) (cap n : Nat) (t : List Ac) (x y : ByteArray) (P : Option Addr) (pcap pn : Nat) (ps : List Int) (w : World) (hn : t.length = n) (hnm : n ≤ 9223372036854775807) (hok : ∀ a ∈ t, Ok a) (hxs : x.size ≤ 140737488355328) (hys : y.size ≤ 140737488355328) (hx : ARow w w.heap.size A t)
    (hpn : ps.length = pn) (hpc : pn ≤ pcap) (hpm : pn ≤ 140737488355328) (hp : PRow w w.heap.size P ps) (hpz : ∀ z ∈ ps, -9223372036854775808 ≤ z ∧ z ≤ 9223372036854775807) :
    Calls Try.prog 4 #[.slice A n cap, .agg #[.string x, .string y], .slice P pn pcap] w fun e w' => e = .returned (.bool true) ∧ Below w.heap.size w w' := by
  have HX := Lib.hid hx
  have HP := Lib.hid hp
  have HPN := Lib.hid hpn
  have HPZ := Lib.hid hpz
  have HN := Lib.hid hn
  have HOK := Lib.hid hok
  have HGR := Lib.hid (fun W (h : KRow encA 6 W W.heap.size A t) => great_any A cap n t W HN.out hnm HOK.out h)
  have HAL := Lib.hid (fun W => alive_any hK W)
  obtain ⟨w0, hw0⟩ : ∃ w0, w0 = w.alloc (.cells #[.string x, .string y] 46) := ⟨_, rfl⟩
  have hs0 : w0.heap.size = w.heap.size + 1 := by rw [hw0]; simp
  have HB0 : Hid (Below w.heap.size w w0) := by rw [hw0]; exact (Below.refl _ _).alloc (Nat.le_refl _) _
  have HC0 : Hid (w0.cell? ⟨w.heap.size, 0, none⟩ = some (.string x)) := by show _ = _; rw [hw0]; simp
  have HC1 : Hid (w0.cell? ⟨w.heap.size, 1, none⟩ = some (.string y)) := by show _ = _; rw [hw0]; simp
  clear hx hn hok hpn hp hpz
  go_enter Try.func4, Try.ntmps4
  go_wp2_with fail
  rw [← hw0]
  clear hw0
  refine (HAL.out _).mono ?_
  rintro e w1 ⟨rfl, hb1⟩
  have c0 := (hb1.cell (p := ⟨w.heap.size, 0, none⟩) (by show w.heap.size < _; omega)).trans HC0.out
  have c1 := (hb1.cell (p := ⟨w.heap.size, 1, none⟩) (by show w.heap.size < _; omega)).trans HC1.out
  have HB1 := Lib.hid (HB0.out.trans (hb1.mono (by omega)))
  clear hb1 HC0 HC1
  go_wp2
  go_big_quiet (fail)
  rename_i nq
  generalize hwq : w1.drewN nq = wq
  have HBQ : Hid (Below w.heap.size w wq) := by rw [← hwq]; exact below_drewN HB1.out _
  have HXQ : Hid (ARow wq w.heap.size A t) := HX.out.below HBQ.out (Nat.le_refl _)
  have hsq := HBQ.out.size
  clear hwq c0 c1 HB1
  obtain ⟨g, hg⟩ : ∃ g : Int, (if 3000 < tot t then 1 else 0) = g := ⟨_, rfl⟩
  rw [hg] at HGR
  by_cases h3 : 3000 < tot t
  · rw [if_pos h3] at hg
    subst hg
    clear h3
    go_wp2_with fail
    refine (HGR.out _ (HXQ.out.1.more (by omega))).mono ?_
    rintro e w2 ⟨rfl, hb2⟩
    have HB2 := Lib.hid (HBQ.out.trans (hb2.mono (by omega)))
    clear hb2
    go_wp2_with fail
    go_ret
    exact ⟨rfl, HB2.out⟩
  · rw [if_neg h3] at hg
    subst hg
    have HTO := Lib.hid (Nat.not_lt.1 h3)
    clear h3
    go_wp2_with fail
    refine (HGR.out _ (HXQ.out.1.more (by omega))).mono ?_
    rintro e w2 ⟨rfl, hb2⟩
    have HB2 := Lib.hid (HBQ.out.trans (hb2.mono (by omega)))
    have HX2 : Hid (ARow w2 w.heap.size A t) := HX.out.below HB2.out (Nat.le_refl _)
    have HP2 : Hid (PRow w2 w.heap.size P ps) := HP.out.below HB2.out (Nat.le_refl _)
    have hs2 := HB2.out.size
    clear hb2
    by_cases h4 : x.size = 0
    · have e4 : ((x.size : Int) == 0) = true := beq_iff_eq.2 (by omega)
      go_wp2_with fail
      go_ret
      exact ⟨rfl, HB2.out⟩
    have e4 : ((x.size : Int) == 0) = false := beq_eq_false_iff_ne.2 (by omega)
    have e4n : ¬ x.size = 0 := h4
    by_cases h5 : 100 < x.size
    · have h5i : (100 : Int) < (x.size : Int) := by omega
      go_wp2_with fail
      go_ret
      exact ⟨rfl, HB2.out⟩
    have h5i : ¬ (100 : Int) < (x.size : Int) := by omega
    by_cases h6 : 300 < y.size
    · have h6i : (300 : Int) < (y.size : Int) := by omega
      go_wp2_with fail
      go_ret
      exact ⟨rfl, HB2.out⟩
    have h6i : ¬ (300 : Int) < (y.size : Int) := by omega
    by_cases h7 : 100 < pn
    · have h7i : (100 : Int) < (pn : Int) := by omega
      go_wp2_with fail
      go_ret
      exact ⟨rfl, HB2.out⟩
    have h7i : ¬ (100 : Int) < (pn : Int) := by omega
    have HXN : Hid (x ≠ nul) := fun e => h4 (by rw [e]; rfl)
    have HXB : Hid (NB x) := hxs
    go_wp2_with fail
    refine (hK.new _).mono ?_
    rintro e w3 ⟨b, S3, rfl, hr3, hS3, hb3⟩
    have HT3 : Hid (St R w2 w3 S3 b newV) := ⟨hb3, hS3, hr3⟩
    clear hr3 hS3 hb3
    go_wp2_with fail
    go_loopw [10, 50] (fun su i wr => ∃ (k : Nat) (S : Nat → Prop) (D : DD) (s : ByteArray), k ≤ n ∧ i = .int .i64 k ∧ su = .string s ∧ Hid (St R w2 wr S b D) ∧ Hid (Sur x D s) ∧ Hid (Fit (1 + tot (t.take k)) D)) (fun _ i _ => n - (intOf i).toNat)
    case atStart => exact ⟨0, S3, newV, nul, Nat.zero_le _, rfl, rfl, HT3.out, sur_new x, fit_new _⟩
    case round =>
      obtain ⟨k, S, D, s, hk, rfl, rfl, HT, HSU, HFI⟩ := hrel
      clear HT3 e4 h5i h6i h7i e4n
      by_cases hlt : k < n
      · have hki : (k : Int) < n := by omega
        have hxk : t[k]? = some (t[k]'(by rw [HN.out]; exact hlt)) := List.getElem?_eq_getElem _
        generalize t[k]'(by rw [HN.out]; exact hlt) = a at hxk
        have HXR : Hid (ARow wr w.heap.size A t) := HX2.out.below HT.out.below (by omega)
        obtain ⟨b1, o1, rfl, hb1, hcs⟩ := HXR.out.1 k a hxk
        have c0 := hcs 0 (.int .i64 a.kind) rfl
        rw [Nat.add_zero] at c0
        have c1 := hcs 1 (.int .i64 a.num) rfl
        have c2 := hcs 2 (.string a.name) rfl
        have c3 := hcs 3 (.string a.to) rfl
        have c4 := hcs 4 (.string a.data) rfl
        have c5 := hcs 5 (.slice a.pa a.pn a.pcap) rfl
        have HAO := Lib.hid (HOK.out a (List.mem_of_getElem? hxk))
        have hwt := tot_mem (List.mem_of_getElem? hxk)
        have had : a.data.size ≤ 10000 := by have := HTO.out; unfold wgt at hwt; omega
        have HSN := Lib.hid (tot_snoc hxk)
        have hsum : tot (t.take k) + wgt a ≤ 3000 := by have := tot_take t (k + 1); rw [HSN.out] at this; have := HTO.out; omega
        have HFB : Hid (Fits D) := HFI.out.more (by omega)
        have HWG : Hid (a.data.size + 1 ≤ wgt a) := by show _ ≤ _; unfold wgt; omega
        have HT7 := Lib.hid (HT.out.alloc hK (.cells #[.int .i64 a.kind, .int .i64 a.num, .string a.name, .string a.to, .string a.data, .slice a.pa a.pn a.pcap] 33))
        have HRA : Hid (Row (wr.alloc (.cells #[.int .i64 a.kind, .int .i64 a.num, .string a.name, .string a.to, .string a.data, .slice a.pa a.pn a.pcap] 33)) wr.heap.size 33 (encA a)) := Row.new_at _ _ _ _ rfl rfl
        have HXS : Hid (∀ (q : Nat), S q → q < wr.heap.size) := hK.inside HT.out.has
        have hw2 := HT.out.below.size
        clear hcs hxk hwt
        by_cases q0 : a.kind = 0
        · have e0 : (a.kind == 0) = true := beq_iff_eq.2 q0
          clear q0
          have HSU4 := Lib.hid (sur_append HFI.out HSU.out a.name a.data)
          have HFI4 : Hid (Fit (1 + tot (t.take (k + 1))) (appendV D a.name a.data).1) := by rw [HSN.out]; exact (fit_append HFI.out a.name a.data).more (by have := HWG.out; omega)
          go_wp2_with fail
          refine (hK.append _ S b D a.name a.data HT7.out.has HFB.out HAO.out.name had).mono ?_
          rintro e w4 hw
          obtain ⟨S4, rfl, hT4, _, hA4⟩ := HT7.out.wrote hw
          have HT4 := Lib.hid hT4
          have hr4 := row_away HRA.out hA4 (fun h => Nat.lt_irrefl _ (HXS.out _ h))
          have g2 : w4.cell? ⟨wr.heap.size, 2, none⟩ = some (.string a.name) := hr4.cell 2
          clear hw hT4 hA4 hr4
          go_wp2_with fail
          go_roundw
          case rel => exact ⟨k + 1, S4, _, s, by omega, by go_num, rfl, HT4.out, HSU4.out, HFI4.out⟩
          case measure => simp [intOf]; omega

        have e0 : (a.kind == 0) = false := beq_eq_false_iff_ne.2 q0
        clear q0
        by_cases q1 : a.kind = 1
        · have e1 : (a.kind == 1) = true := beq_iff_eq.2 q1
          clear q1
          have HFI4 : Hid (Fit (1 + tot (t.take (k + 1))) (syncV D a.name).1) := by rw [HSN.out]; exact (fit_sync HFI.out a.name).more (by omega)
          have HSU0 := Lib.hid (sur_sync HFI.out HSU.out a.name)
          have HCALL := Lib.hid (hK.sync _ S b D a.name HT7.out.has HFB.out HAO.out.name)
          obtain ⟨c, hc⟩ : ∃ c, (syncV D a.name).2 = c := ⟨_, rfl⟩
          rw [hc] at HCALL HSU0
          by_cases hz : c = 0
          · subst hz
            by_cases hnn : a.name = x
            · have en : (a.name.toList == x.toList) = true := by rw [eqB]; exact decide_eq_true hnn
              have HSU4 : Hid (Sur x (syncV D a.name).1 (readV (syncV D a.name).1 x).1) := by have h := HSU0.out; rw [if_pos ⟨rfl, hnn⟩] at h; exact h
              clear hnn
              go_wp2_with fail
              refine (HCALL.out).mono ?_
              rintro e w4 hw
              obtain ⟨S4, rfl, hT4, _, hA4⟩ := HT7.out.wrote hw
              have HT4 := Lib.hid hT4
              have hr4 := row_away HRA.out hA4 (fun h => Nat.lt_irrefl _ (HXS.out _ h))
              have g2 : w4.cell? ⟨wr.heap.size, 2, none⟩ = some (.string a.name) := hr4.cell 2
              clear hw hT4 hA4 hr4
              go_wp2_with fail
              refine (hK.read w4 S4 b _ x HT4.out.has (HFI4.out.more (by rw [HSN.out]; omega)) HXB.out).mono ?_
              rintro e w5 ⟨rfl, hb5⟩
              replace HT4 := Lib.hid (HT4.out.later hK hb5)
              clear hb5
              go_wp2_with fail
              go_roundw
              case rel => exact ⟨k + 1, S4, _, (readV (syncV D a.name).1 x).1, by omega, by go_num, rfl, HT4.out, HSU4.out, HFI4.out⟩
              case measure => simp [intOf]; omega

            · have en : (a.name.toList == x.toList) = false := by rw [eqB]; exact decide_eq_false hnn
              have HSU4 : Hid (Sur x (syncV D a.name).1 s) := by have h := HSU0.out; rw [if_neg (fun h2 => hnn h2.2)] at h; exact h
              clear hnn
              go_wp2_with fail
              refine (HCALL.out).mono ?_
              rintro e w4 hw
              obtain ⟨S4, rfl, hT4, _, hA4⟩ := HT7.out.wrote hw
              have HT4 := Lib.hid hT4
              have hr4 := row_away HRA.out hA4 (fun h => Nat.lt_irrefl _ (HXS.out _ h))
              have g2 : w4.cell? ⟨wr.heap.size, 2, none⟩ = some (.string a.name) := hr4.cell 2
              clear hw hT4 hA4 hr4
              go_wp2_with fail
              go_roundw
              case rel => exact ⟨k + 1, S4, _, s, by omega, by go_num, rfl, HT4.out, HSU4.out, HFI4.out⟩
              case measure => simp [intOf]; omega

          · have hzi : ((c : Int) == 0) = false := beq_eq_false_iff_ne.2 (by omega)
            have hzi2 : ¬ (c : Int) = 0 := by omega
            have HSU4 : Hid (Sur x (syncV D a.name).1 s) := by have h := HSU0.out; rw [if_neg (fun h2 => hz h2.1)] at h; exact h
            clear hz
            go_wp2_with fail
            refine (HCALL.out).mono ?_
            rintro e w4 hw
            obtain ⟨S4, rfl, hT4, _, hA4⟩ := HT7.out.wrote hw
            have HT4 := Lib.hid hT4
            have hr4 := row_away HRA.out hA4 (fun h => Nat.lt_irrefl _ (HXS.out _ h))
            have g2 : w4.cell? ⟨wr.heap.size, 2, none⟩ = some (.string a.name) := hr4.cell 2
            clear hw hT4 hA4 hr4
            go_wp2_with fail
            go_roundw
            case rel => exact ⟨k + 1, S4, _, s, by omega, by go_num, rfl, HT4.out, HSU4.out, HFI4.out⟩
            case measure => simp [intOf]; omega

        have e1 : (a.kind == 1) = false := beq_eq_false_iff_ne.2 q1
        clear q1
        by_cases q3 : a.kind = 3
        · have e3 : (a.kind == 3) = true := beq_iff_eq.2 q3
          clear q3
          have HFI4 : Hid (Fit (1 + tot (t.take (k + 1))) (removeV D a.name).1) := by rw [HSN.out]; exact (fit_remove HFI.out a.name).more (by omega)
          have HSU0 := Lib.hid (sur_remove HFI.out HSU.out a.name)
          have HCALL := Lib.hid (hK.remove _ S b D a.name HT7.out.has HFB.out HAO.out.name)
          obtain ⟨c, hc⟩ : ∃ c, (removeV D a.name).2 = c := ⟨_, rfl⟩
          rw [hc] at HCALL HSU0
          by_cases hz : c = 0
          · subst hz
            by_cases hnn : a.name = x
            · have en : (a.name.toList == x.toList) = true := by rw [eqB]; exact decide_eq_true hnn
              have HSU4 : Hid (Sur x (removeV D a.name).1 nul) := by have h := HSU0.out; rw [if_pos ⟨rfl, hnn⟩] at h; exact h
              clear hnn
              go_wp2_with fail
              refine (HCALL.out).mono ?_
              rintro e w4 hw
              obtain ⟨S4, rfl, hT4, _, hA4⟩ := HT7.out.wrote hw
              have HT4 := Lib.hid hT4
              have hr4 := row_away HRA.out hA4 (fun h => Nat.lt_irrefl _ (HXS.out _ h))
              have g2 : w4.cell? ⟨wr.heap.size, 2, none⟩ = some (.string a.name) := hr4.cell 2
              clear hw hT4 hA4 hr4
              go_wp2_with fail
              go_roundw
              case rel => exact ⟨k + 1, S4, _, nul, by omega, by go_num, rfl, HT4.out, HSU4.out, HFI4.out⟩
              case measure => simp [intOf]; omega

            · have en : (a.name.toList == x.toList) = false := by rw [eqB]; exact decide_eq_false hnn
              have HSU4 : Hid (Sur x (removeV D a.name).1 s) := by have h := HSU0.out; rw [if_neg (fun h2 => hnn h2.2)] at h; exact h
              clear hnn
              go_wp2_with fail
              refine (HCALL.out).mono ?_
              rintro e w4 hw
              obtain ⟨S4, rfl, hT4, _, hA4⟩ := HT7.out.wrote hw
              have HT4 := Lib.hid hT4
              have hr4 := row_away HRA.out hA4 (fun h => Nat.lt_irrefl _ (HXS.out _ h))
              have g2 : w4.cell? ⟨wr.heap.size, 2, none⟩ = some (.string a.name) := hr4.cell 2
              clear hw hT4 hA4 hr4
              go_wp2_with fail
              go_roundw
              case rel => exact ⟨k + 1, S4, _, s, by omega, by go_num, rfl, HT4.out, HSU4.out, HFI4.out⟩
              case measure => simp [intOf]; omega

          · have hzi : ((c : Int) == 0) = false := beq_eq_false_iff_ne.2 (by omega)
            have hzi2 : ¬ (c : Int) = 0 := by omega
            have HSU4 : Hid (Sur x (removeV D a.name).1 s) := by have h := HSU0.out; rw [if_neg (fun h2 => hz h2.1)] at h; exact h
            clear hz
            go_wp2_with fail
            refine (HCALL.out).mono ?_
            rintro e w4 hw
            obtain ⟨S4, rfl, hT4, _, hA4⟩ := HT7.out.wrote hw
            have HT4 := Lib.hid hT4
            have hr4 := row_away HRA.out hA4 (fun h => Nat.lt_irrefl _ (HXS.out _ h))
            have g2 : w4.cell? ⟨wr.heap.size, 2, none⟩ = some (.string a.name) := hr4.cell 2
            clear hw hT4 hA4 hr4
            go_wp2_with fail
            go_roundw
            case rel => exact ⟨k + 1, S4, _, s, by omega, by go_num, rfl, HT4.out, HSU4.out, HFI4.out⟩
            case measure => simp [intOf]; omega

        have e3 : (a.kind == 3) = false := beq_eq_false_iff_ne.2 q3
        clear q3
        have HFI4 : Hid (Fit (1 + tot (t.take (k + 1))) D) := by rw [HSN.out]; exact HFI.out.more (by omega)
        go_wp2_with fail
        go_roundw
        case rel => exact ⟨k + 1, S, D, s, by omega, by go_num, rfl, HT7.out, HSU.out, HFI4.out⟩
        case measure => simp [intOf]; omega
      · obtain rfl : k = n := by omega
        have HFD : Hid (Fit 3001 D) := HFI.out.more (by have := HTO.out; have := tot_take t k; omega)
        obtain ⟨D4, hD4⟩ : ∃ D4, (appendV D x y).1 = D4 := ⟨_, rfl⟩
        have hap := append_free HSU.out.free HXN.out y
        have HF4 : Hid (Fit 3302 D4) := by rw [← hD4]; exact (fit_append HFD.out x y).more (by omega)
        have HS4 : Hid (Sur x D4 s) := by rw [← hD4]; exact sur_append HFD.out HSU.out x y
        have HAP := Lib.hid (hK.append wr S b D x y HT.out.has (HFD.out.more (by omega)) HXB.out (by omega))
        have h20 : (appendV D x y).2 = 0 := by rw [hap]
        have hd4 : D4.files = withF D.files (addF D.files x y) := by rw [← hD4, hap]
        rw [h20, hD4] at HAP
        have hat : at? D4.files x = some (addF D.files x y) := by rw [hd4, withF_at HFD.out.rise, addF_name, if_pos rfl]
        obtain ⟨f, hf⟩ : ∃ f, addF D.files x y = f := ⟨_, rfl⟩
        rw [hf] at hat
        obtain ⟨v, hv, hp1, hp2⟩ := sur_crash HF4.out HS4.out f hat ps
        have HR1 : Hid (readV D4 x = (f.data, 0)) := by show _ = _; unfold readV; rw [hat]
        have HR2 : Hid (readV ⟨crashV D4.files ps, -1⟩ x = (v.data, 0)) := by show _ = _; unfold readV; rw [hv]
        have HE1 := Lib.hid (pre_of hp1)
        have HE2 := Lib.hid (pre_of hp2)
        clear h20 hd4 hat hf hp1 hp2 hv hap hD4
        have HPR : Hid (PRow wr w.heap.size P ps) := HP2.out.below HT.out.below (by omega)
        go_wp2_with fail
        refine HAP.out.mono ?_
        rintro e w4 hw
        obtain ⟨S4, rfl, hT4, _⟩ := HT.out.wrote hw
        have HT4 := Lib.hid hT4
        clear hw hT4
        have HRD := Lib.hid (hK.read w4 S4 b D4 x HT4.out.has (HF4.out.more (by omega)) HXB.out)
        rw [HR1.out] at HRD
        go_wp2_with fail
        refine HRD.out.mono ?_
        rintro e w5 ⟨rfl, hb5⟩
        have HT5 := Lib.hid (HT4.out.later hK hb5)
        clear hb5
        have hw5 := HT5.out.below.size
        have HP5 : Hid (PRow w5 w5.heap.size P ps) := (HP2.out.below HT5.out.below (by omega)).more (by omega)
        go_wp2_with fail
        refine (hK.crash w5 S4 b D4 P pn pcap ps HT5.out.has (HF4.out.more (by omega)) HPN.out hpc (by omega) HPZ.out HP5.out).mono ?_
        rintro e w6 ⟨b6, S6, rfl, hr6, hS6, hb6⟩
        have HT6 := Lib.hid (HT5.out.later hK hb6)
        have HQ6 : Hid (St R w2 w6 S6 b6 ⟨crashV D4.files ps, -1⟩) := ⟨HT6.out.below, fun q hq => Nat.le_trans hw5 (hS6 q hq), hr6⟩
        clear hr6 hS6 hb6
        have HF6 : Hid (Fits ⟨crashV D4.files ps, -1⟩) := (fit_crash HF4.out ps).more (by omega)
        have HRD6 := Lib.hid (hK.read w6 S6 b6 _ x HQ6.out.has HF6.out HXB.out)
        rw [HR2.out] at HRD6
        go_wp2_with fail
        refine HRD6.out.mono ?_
        rintro e w7 ⟨rfl, hb7⟩
        have HT7 := Lib.hid (HT6.out.later hK hb7)
        have HQ7 := Lib.hid (HQ6.out.later hK hb7)
        clear hb7
        go_wp2_with fail
        refine (Try.strings_HasPrefix v.data s _).mono ?_
        rintro e w' ⟨rfl, rfl⟩
        rw [HE1.out]
        go_wp2_with fail
        refine (Try.strings_HasPrefix f.data v.data _).mono ?_
        rintro e w' ⟨rfl, rfl⟩
        rw [HE2.out]
        go_wp2_with fail
        refine (hK.names _ S6 b6 _ HQ7.out.has HF6.out).mono ?_
        rintro e w8 ⟨A8, m8, c8, rfl, hm8, hr8, hb8⟩
        have HT8 := Lib.hid (HT7.out.later hK hb8)
        have HN8 := Lib.hid hr8
        have HM8 := Lib.hid hm8
        clear hr8 hb8 hm8
        go_wp2_with fail
        refine (hK.names _ S4 b _ HT8.out.has (HF4.out.more (by omega))).mono ?_
        rintro e w9 ⟨A9, m9, c9, rfl, hm9, hr9, hb9⟩
        have HT9 := Lib.hid (HT8.out.later hK hb9)
        have HN9 := Lib.hid (HN8.out.later hb9)
        have HO9 := Lib.hid hr9
        have HM9 := Lib.hid hm9
        have hm89 : m8 = m9 := by
          have h := HM8.out
          rw [crash_len, hm9] at h
          exact h.symm
        have hm9b : m9 ≤ 9223372036854775807 := by rw [← hm9]; have := HF4.out.len; omega
        clear hr9 hb9 hm9
        subst hm89
        have HSM := Lib.hid (same_any A8 A9 c8 c9 w9.heap.size m8 m8 (D4.files.map (·.name)) (D4.files.map (·.name)) w9 (by rw [List.length_map]; exact HM9.out) (by rw [List.length_map]; exact HM9.out) hm9b hm9b (by have h := HN9.out; rw [crash_names] at h; exact h) HO9.out)
        rw [decide_eq_true rfl] at HSM
        go_wp2_with fail
        refine HSM.out.mono ?_
        rintro e wz ⟨rfl, nz, rfl⟩
        go_wp2_with fail
        go_ret
        exact ⟨rfl, HB2.out.trans ((below_drewN HT9.out.below _).mono (by omega))⟩
end Dk
end Go.Proofs.Yteikfdijcepimaa
