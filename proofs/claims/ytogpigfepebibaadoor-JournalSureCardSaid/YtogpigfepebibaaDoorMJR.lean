/-
  Layer 8 (journal): what laws Sure and Swaps share. Layer 8 (journal): law Sure. Layer 8 (journal): law Swaps. Layer 8 (journal): rows of acts in memory; the walks of the laws' great and same. Layer 8 (journal): law Rows.
-/
import Derived.Test.YtogpigfepebibaaDoorMJJ
import Derived.Test.YtogpigfepebibaaDoorMJM
import Derived.Test.YtogpigfepebibaaDoorMDI
namespace Go.Proofs.YtogpigfepebibaaDoor
namespace Jl
open Go.RowKit Go.ChangeShapes Kr Dk

theorem small_of {l : List ByteArray} (h : ∀ r ∈ l, r.size ≤ 100) : Small l := fun r hr => by
  have := h r hr
  have e : most = 1048576 := rfl
  omega
set_option maxRecDepth 100000 in
/-- A cut of a row of texts. -/
theorem cut_names {w0 : World} {B0 : Nat} {A : Option Addr} {n cap s : Nat} {l : List ByteArray} (hx : NRow w0 B0 A l) (hn : l.length = n) (h1 : s ≤ n) (h2 : n ≤ cap) :
    ∃ A', (∀ W, (Instr.sliceAt 30 (.slice A n cap) none (some (.int .i64 (s : Int))) none).run Tryd.prog W = .ok (.slice A' s cap) W) ∧ ∀ w B, NRow w B A l → NRow w B A' (l.take s) := by
  have hu : Tryd.prog.underlying 30 = some (.slice (Tryd.prog.elem 30)) := by kernel_rfl
  have hz : ∀ W, (sizeOf (Tryd.prog.elem 30)).run Tryd.prog W = .ok 1 W := fun W => Tryd.sizeOf9 W
  have hr : ∀ W, (Instr.sliceAt 30 (.slice A n cap) none (some (.int .i64 (s : Int))) none).run Tryd.prog W = _ := fun W => by
    rw [run_sliceAt_slice _ _ _ _ _ _ hu, run_slice_h _ _ _ _ _ hu .i64 (s : Int) (by omega) (by omega), hz]
  have hrow : ∀ w B, NRow w B A l → NRow w B A (l.take s) := fun w B h j x hj => h j x (by
    rw [List.getElem?_take] at hj
    split at hj
    · exact hj
    · cases hj)
  cases l with
  | nil =>
    have h0 : s = 0 := by simp at hn; omega
    subst h0
    cases A with
    | none => exact ⟨none, fun W => by rw [hr W]; simp [sliced, Result.andThen], fun w B _ => KRow.none_ _ _ _⟩
    | some q =>
      refine ⟨?_, fun W => ?_, fun w B _ => KRow.none_ _ _ _⟩
      rotate_left
      · rw [hr W]
        simp [sliced, Result.andThen]
        rfl
  | cons x l =>
    obtain ⟨b, o, rfl, _⟩ := hx 0 x rfl
    exact ⟨some ⟨b, o, none⟩, fun W => by rw [hr W]; simp [sliced, Result.andThen, Addr.add], hrow⟩
theorem addJ_add (D : DD) (p : ByteArray) {r : ByteArray} (h : r.size ≤ most) : addJ Sh.dig true false D p r = brokeV (addV Sh.dig D p r) := by
  unfold addJ addV
  rw [frame_ok h, if_neg (show ¬ Idle true false by unfold Idle; simp), if_neg (by simp), if_neg (by simp)]
theorem swapJ_swap (D : DD) (p : ByteArray) {l : List ByteArray} (h : Small l) : swapJ Sh.dig true false D p l = brokeV (swapV Sh.dig D p l) := by
  unfold swapJ swapV
  rw [frames_ok h, if_neg (show ¬ Idle true false by unfold Idle; simp), if_neg (by simp), if_neg (by simp)]
theorem new_log : newV = logD Sh.dig [] (-1) := rfl
theorem open_new : openV Sh.dig newV log = ⟨newV, true, [], 0⟩ := by
  have hc : clearV newV log = (newV, 0) := by rw [new_log]; exact clear_log [] (-1)
  have hr : readV newV log = (nul, 10) := rfl
  unfold openV
  rw [if_neg (by decide), hc, if_neg (by simp), hr, if_neg (by show ¬ _ < 0; omega)]
  rfl
theorem budget_log {c : Nat} : budgetV newV (c : Int) = logD Sh.dig [] (c : Int) := by
  unfold budgetV
  rw [if_neg (by omega)]
  rfl
section
variable {Q : World → (Nat → Prop) → Nat → DD → Jn → Prop}
/-- The first Open of a law. -/
theorem first_open (hK : JKeeps Q) (B : Nat) (w : World) (U : Nat → Prop) (b : Nat) (h : Q w U b newV none) (ho : Ok B w) (hU : ∀ q, U q → B ≤ q) :
    Calls Tryd.prog 18 #[ptr b, .string log] w fun e w' => ∃ U' g A n cap, e = .returned (.tuple #[ptr g, .slice A n cap, .int .i64 0]) ∧ Q w' U' b newV (some (g, log, false)) ∧ (∀ q, U' q → U q ∨ w.heap.size ≤ q) ∧ Away U w w' := by
  have h1 := hK.open_ B w U b newV none log h (fit_new _) (by decide) ho hU
  rw [open_new] at h1
  refine h1.mono ?_
  rintro e w' ⟨U', g, A, n, cap, he, hq, h2, h3, _, _⟩
  exact ⟨U', g, A, n, cap, he, hq, h2, h3⟩
/-- .. and the one behind the crash. -/
theorem last_open (hK : JKeeps Q) (B : Nat) (w : World) (U : Nat → Prop) (b : Nat) (D : DD) (h : Q w U b D none) (hf : Fits D) (hl : D.left = -1) (L : List ByteArray) (hL : recsV Sh.dig (readV D log).1 = L) (ho : Ok B w) (hU : ∀ q, U q → B ≤ q) :
    Calls Tryd.prog 18 #[ptr b, .string log] w fun e w' => ∃ g A n cap, e = .returned (.tuple #[ptr g, .slice A n cap, .int .i64 0]) ∧ L.length = n ∧ NRow w' w'.heap.size A L ∧ Away U w w' := by
  obtain ⟨o1, o2, o3⟩ := open_free Sh.dig hf hl (show log ≠ nul by decide)
  have h1 := hK.open_ B w U b D none log h hf (by decide) ho hU
  unfold openJ at h1
  rw [o3, o2, hL, o1] at h1
  refine h1.mono ?_
  rintro e w' ⟨U', g, A, n, cap, he, hq, h2, h3, h4, h5, _⟩
  exact ⟨g, A, n, cap, he, h4, h5, h3⟩
end
end Jl
end Go.Proofs.YtogpigfepebibaaDoor

namespace Go.Proofs.YtogpigfepebibaaDoor
namespace Jl
open Go.RowKit Go.ChangeShapes Kr Dk

theorem take_all (l : List ByteArray) {k : Nat} (h : l.length = k) : l.take k = l := List.take_of_length_le (by omega)
theorem fl_take {l : List ByteArray} (h : ∀ r ∈ l, r.size ≤ 100) {n : Nat} (hn : l.length = n) (k : Nat) : (FL Sh.dig (l.take k)).size ≤ 112 * n := by
  have h1 := FL_le H_len (l := l.take k) (fun x hx => h x (List.mem_of_mem_take hx))
  have h2 : (l.take k).length ≤ n := by rw [List.length_take]; omega
  have h3 : (l.take k).length * (12 + 100) ≤ n * (12 + 100) := Nat.mul_le_mul_right _ h2
  omega

set_option maxRecDepth 100000 in
set_option maxHeartbeats 8000000 in
theorem sure_law {Q : World → (Nat → Prop) → Nat → DD → Jn → Prop} (hK : JKeeps Q) (B : Nat) (w : World) (A : Option Addr) (cap n : Nat) (l : List ByteArray) (c0 : Nat) (P : Option Addr) (pcap pn : Nat) (ps : List Int) (ho : Ok B w) (hn : l.length = n) (hnm : n ≤ 9223372036854775807) (hcap : n ≤ cap) (hsz : ∀ r ∈ l, r.size ≤ 9223372036854775807) (hx : NRow w w.heap.size A l)
    (hc0 : c0 < 256) (hpn : ps.length = pn) (hpc : pn ≤ pcap) (hpm : pn ≤ 9223372036854775807) (hp : PRow w w.heap.size P ps) (hpz : ∀ z ∈ ps, -9223372036854775808 ≤ z ∧ z ≤ 9223372036854775807) :
    Calls Tryd.prog 6 #[.slice A n cap, .int .u8 (c0 : Int), .slice P pn pcap] w fun e w' => e = .returned (.bool true) ∧ Below w.heap.size w w' := by
  have HOK := Lib.hid ho
  have HX := Lib.hid hx
  have HN := Lib.hid hn
  have HP := Lib.hid hp
  have HPN := Lib.hid hpn
  have HPZ := Lib.hid hpz
  have HG := Lib.hid (refgreat_any A cap w.heap.size n l w hn hnm hsz hx)
  clear ho hx hn hp hpn hpz hsz
  by_cases hg : Too l
  · rw [decide_eq_true hg] at HG
    clear hg
    go_enter Tryd.func6, Tryd.ntmps6
    go_wp2_with fail
    refine HG.out.mono ?_
    rintro e w1 ⟨rfl, rfl⟩
    go_wp2_with fail
    refine (fixed_any hK B _ HOK.out).mono ?_
    rintro e w1 ⟨rfl, hb1⟩
    go_wp2
    go_ret
    exact ⟨rfl, hb1⟩
  rw [decide_eq_false hg] at HG
  have HL : Hid (∀ x ∈ l, x.size ≤ 100) := fun x hx => Nat.le_of_not_lt fun h => hg (.inl ⟨x, hx, h⟩)
  have hn12 : n ≤ 12 := by rw [← HN.out]; exact Nat.le_of_not_lt fun h => hg (.inr h)
  clear hg
  by_cases h10 : 10 < pn
  · have h10i : (10 : Int) < (pn : Int) := by omega
    go_enter Tryd.func6, Tryd.ntmps6
    go_wp2_with fail
    refine HG.out.mono ?_
    rintro e w1 ⟨rfl, rfl⟩
    go_wp2_with fail
    refine (fixed_any hK B _ HOK.out).mono ?_
    rintro e w1 ⟨rfl, hb1⟩
    go_wp2
    go_ret
    exact ⟨rfl, hb1⟩
  have h10i : ¬ (10 : Int) < (pn : Int) := by omega
  have HSM : Hid (Small l) := small_of HL.out
  go_enter Tryd.func6, Tryd.ntmps6
  go_wp2_with fail
  refine HG.out.mono ?_
  rintro e w1 ⟨rfl, h0⟩
  obtain rfl := h0.symm
  clear h0
  go_wp2_with fail
  refine (hK.new _).mono ?_
  rintro e w1 ⟨b, U1, rfl, hq1, hU1, hb1⟩
  have HT1 : Hid (Sj Q w w1 U1 b newV none) := ⟨hb1, hU1, hq1⟩
  clear hq1 hU1 hb1 HG
  go_wp2_with fail
  refine (first_open hK B _ U1 b HT1.out.has (HOK.out.later HT1.out.below) (fun q hq => Nat.le_trans HOK.out.2.2 (HT1.out.own q hq))).mono ?_
  rintro e w2 ⟨U2, g, A2, n2, cap2, rfl, hq2, hU2, ha2⟩
  have HT2 : Hid (Sj Q w w2 U2 b newV (some (g, log, false))) := HT1.out.acted hq2 hU2 ha2
  clear hq2 hU2 ha2 HT1
  obtain ⟨c, hc⟩ : ∃ c, c0 % 30 = c := ⟨_, rfl⟩
  have hci : (c0 : Int) % 30 = (c : Int) := by omega
  have hcl : c ≤ 29 := by omega
  have HBU := Lib.hid (fun W (h : Q W U2 b newV (some (g, log, false))) => hK.budget W U2 b newV _ (c : Int) h (fit_new _) (by omega) (by omega))
  rw [budget_log] at HBU
  go_wp2_with fail
  first
    | (refine (HBU.out _ HT2.out.has).mono ?_)
    | (rw [hci]; refine (HBU.out _ HT2.out.has).mono ?_)
  intro e w3 hr
  obtain ⟨U3, rfl, ht3, _⟩ := HT2.out.left hr
  have HT3 := Lib.hid ht3
  clear hr ht3 HBU HT2 hci hc
  go_wp2_with fail
  go_loopw [11] (fun i wr => ∃ (k : Nat) (U : Nat → Prop) (cc : Int), k ≤ n ∧ 0 ≤ cc ∧ cc ≤ 29 ∧ i = .int .i64 k ∧ Hid (Sj Q w wr U b (logD Sh.dig (l.take k) cc) (some (g, log, false)))) (fun i _ => n - (intOf i).toNat)
  case atStart => exact ⟨0, U3, c, Nat.zero_le _, by omega, by omega, rfl, HT3.out⟩
  case round =>
    obtain ⟨k, U, cc, hk, hcc0, hcc1, rfl, HT⟩ := hrel
    clear HT3
    have hfl := fl_take HL.out HN.out k
    have HFK : Hid (Fits (logD Sh.dig (l.take k) cc)) := log_fit _ (by omega) (by omega) (by omega) (by omega)
    have HSK : Hid (Small (l.take k)) := fun r hr => HSM.out r (List.mem_of_mem_take hr)
    by_cases hlt : k < n
    · have hki : (k : Int) < n := by omega
      have hxk : l[k]? = some (l[k]'(by rw [HN.out]; exact hlt)) := List.getElem?_eq_getElem _
      generalize l[k]'(by rw [HN.out]; exact hlt) = r at hxk
      obtain ⟨bb, oo, rfl, _, hce⟩ := one_cell (HX.out.below HT.out.below (Nat.le_refl _)) hxk rfl
      have hrs := HL.out r (List.mem_of_getElem? hxk)
      have HRS : Hid (r.size ≤ most) := HSM.out r (List.mem_of_getElem? hxk)
      have HTK := Lib.hid (take_snoc l k r hxk)
      have hfl2 := fl_take HL.out HN.out (k + 1)
      rw [HTK.out, FL_snoc, ba_size_append] at hfl2
      have HAD := Lib.hid (hK.add B _ U b _ g log false r HT.out.has HFK.out (by omega) (HOK.out.later HT.out.below) (fun q hq => Nat.le_trans HOK.out.2.2 (HT.out.own q hq)))
      rw [addJ_add _ _ HRS.out, add_log _ _ HRS.out] at HAD
      clear hxk
      by_cases z0 : cc = 0
      · rw [if_pos z0] at HAD
        subst z0
        go_wp2_with fail
        refine HAD.out.mono ?_
        intro e w4 hr
        obtain ⟨U4, rfl, ht4, _⟩ := HT.out.left hr
        have HTD := Lib.hid ht4
        clear hr ht4
        have HFD : Hid (Fits (logD Sh.dig (l.take k) 0)) := HFK.out
        obtain ⟨m, hm1, hm2, hrc⟩ : ∃ m, (m = k ∨ m = k + 1) ∧ m ≤ n ∧ recsV Sh.dig (readV ⟨crashV (logD Sh.dig (l.take k) 0).files ps, -1⟩ log).1 = l.take m := ⟨k, .inl rfl, by omega, recs_log H_len (log_rise _ _) (c := 0) rfl HSK.out ps⟩
        have HRC := Lib.hid hrc
        clear hrc HAD HFK HSK HT hce
        have hq1 : ¬ (m : Int) < k := by omega
        have hq2 : ¬ (k : Int) + 1 < m := by omega
        have hq3 : ¬ (n : Int) < m := by omega
        go_wp2_with fail
        refine (hK.crash _ U4 b (logD Sh.dig (l.take k) 0) (some (g, log, true)) P pn pcap ps HTD.out.has HFD.out HPN.out hpc (by omega) HPZ.out ((HP.out.below HTD.out.below (Nat.le_refl _)).more HTD.out.below.size)).mono ?_
        rintro e w8 ⟨b8, U8, rfl, hq8, hU8, hb8⟩
        have HT8 : Hid (Sj Q w w8 U8 b8 ⟨crashV (logD Sh.dig (l.take k) 0).files ps, -1⟩ none) := ⟨HTD.out.below.trans (hb8.mono HTD.out.below.size), fun q hq => Nat.le_trans HTD.out.below.size (hU8 q hq), hq8⟩
        have HF8 : Hid (Fits ⟨crashV (logD Sh.dig (l.take k) 0).files ps, -1⟩) := fit_crash HFD.out ps
        clear hq8 hU8 hb8
        go_wp2_with fail
        refine (last_open hK B _ U8 b8 _ HT8.out.has HF8.out rfl _ HRC.out (HOK.out.later HT8.out.below) (fun q hq => Nat.le_trans HOK.out.2.2 (HT8.out.own q hq))).mono ?_
        rintro e w9 ⟨g9, A9, n9, cap9, rfl, hn9, hx9, ha9⟩
        have HB9 : Hid (Below w.heap.size w w9) := HT8.out.below.trans (ha9.below (fun q hq => HT8.out.own q hq) HT8.out.below.size)
        have HX9 := Lib.hid hx9
        obtain rfl : n9 = m := by rw [← hn9, List.length_take, HN.out]; omega
        have HN9 := Lib.hid hn9
        clear hx9 hn9 ha9
        obtain ⟨A', hcut, hA'⟩ := cut_names (s := n9) (cap := cap) HX.out HN.out hm2 hcap
        have HS := Lib.hid (same_yes A9 A' cap9 cap _ n9 n9 _ w9 HN9.out HN9.out (by omega) HX9.out (hA' _ _ ((HX.out.below HB9.out (Nat.le_refl _)).more HB9.out.size)))
        clear hA' HX9
        go_wp2_with fail
        refine HS.out.mono ?_
        rintro e w10 ⟨rfl, hb10⟩
        have HB10 := Lib.hid (HB9.out.trans (hb10.mono HB9.out.size))
        clear hb10
        go_wp2_with fail
        refine (fixed_any hK B _ (HOK.out.later HB10.out)).mono ?_
        rintro e w11 ⟨rfl, hb11⟩
        have HB11 := Lib.hid (HB10.out.trans (hb11.mono HB10.out.size))
        clear hb11
        go_wp2
        go_ret
        exact ⟨rfl, HB11.out⟩
      by_cases z1 : cc = 1
      · rw [if_neg z0, if_pos z1] at HAD
        clear z0 z1
        go_wp2_with fail
        refine HAD.out.mono ?_
        intro e w4 hr
        obtain ⟨U4, rfl, ht4, _⟩ := HT.out.left hr
        have HTD := Lib.hid ht4
        clear hr ht4
        have HFD : Hid (Fits (midD Sh.dig (l.take k) r)) := mid_fit _ _ (by omega) (by omega)
        obtain ⟨m, hm1, hm2, hrc⟩ : ∃ m, (m = k ∨ m = k + 1) ∧ m ≤ n ∧ recsV Sh.dig (readV ⟨crashV (midD Sh.dig (l.take k) r).files ps, -1⟩ log).1 = l.take m := by
          rcases recs_mid H_len HSK.out HRS.out ps with h | h
          · exact ⟨k, .inl rfl, by omega, h⟩
          · exact ⟨k + 1, .inr rfl, by omega, by rw [HTK.out]; exact h⟩
        have HRC := Lib.hid hrc
        clear hrc HAD HFK HSK HT hce
        have hq1 : ¬ (m : Int) < k := by omega
        have hq2 : ¬ (k : Int) + 1 < m := by omega
        have hq3 : ¬ (n : Int) < m := by omega
        go_wp2_with fail
        refine (hK.crash _ U4 b (midD Sh.dig (l.take k) r) (some (g, log, true)) P pn pcap ps HTD.out.has HFD.out HPN.out hpc (by omega) HPZ.out ((HP.out.below HTD.out.below (Nat.le_refl _)).more HTD.out.below.size)).mono ?_
        rintro e w8 ⟨b8, U8, rfl, hq8, hU8, hb8⟩
        have HT8 : Hid (Sj Q w w8 U8 b8 ⟨crashV (midD Sh.dig (l.take k) r).files ps, -1⟩ none) := ⟨HTD.out.below.trans (hb8.mono HTD.out.below.size), fun q hq => Nat.le_trans HTD.out.below.size (hU8 q hq), hq8⟩
        have HF8 : Hid (Fits ⟨crashV (midD Sh.dig (l.take k) r).files ps, -1⟩) := fit_crash HFD.out ps
        clear hq8 hU8 hb8
        go_wp2_with fail
        refine (last_open hK B _ U8 b8 _ HT8.out.has HF8.out rfl _ HRC.out (HOK.out.later HT8.out.below) (fun q hq => Nat.le_trans HOK.out.2.2 (HT8.out.own q hq))).mono ?_
        rintro e w9 ⟨g9, A9, n9, cap9, rfl, hn9, hx9, ha9⟩
        have HB9 : Hid (Below w.heap.size w w9) := HT8.out.below.trans (ha9.below (fun q hq => HT8.out.own q hq) HT8.out.below.size)
        have HX9 := Lib.hid hx9
        obtain rfl : n9 = m := by rw [← hn9, List.length_take, HN.out]; omega
        have HN9 := Lib.hid hn9
        clear hx9 hn9 ha9
        obtain ⟨A', hcut, hA'⟩ := cut_names (s := n9) (cap := cap) HX.out HN.out hm2 hcap
        have HS := Lib.hid (same_yes A9 A' cap9 cap _ n9 n9 _ w9 HN9.out HN9.out (by omega) HX9.out (hA' _ _ ((HX.out.below HB9.out (Nat.le_refl _)).more HB9.out.size)))
        clear hA' HX9
        go_wp2_with fail
        refine HS.out.mono ?_
        rintro e w10 ⟨rfl, hb10⟩
        have HB10 := Lib.hid (HB9.out.trans (hb10.mono HB9.out.size))
        clear hb10
        go_wp2_with fail
        refine (fixed_any hK B _ (HOK.out.later HB10.out)).mono ?_
        rintro e w11 ⟨rfl, hb11⟩
        have HB11 := Lib.hid (HB10.out.trans (hb11.mono HB10.out.size))
        clear hb11
        go_wp2
        go_ret
        exact ⟨rfl, HB11.out⟩
      rw [if_neg z0, if_neg z1, if_pos (by omega), ← HTK.out] at HAD
      have hcc2 : 0 ≤ cc - 2 := by omega
      clear z0 z1
      go_wp2_with fail
      refine HAD.out.mono ?_
      intro e w4 hr
      obtain ⟨U4, rfl, ht4, _⟩ := HT.out.left hr
      have HTD := Lib.hid ht4
      clear hr ht4 HAD HFK HSK HT hce
      go_wp2
      go_roundw
      case rel => exact ⟨k + 1, U4, cc - 2, by omega, hcc2, by omega, by go_num, HTD.out⟩
      case measure => simp [intOf]; omega
    · obtain rfl : k = n := by omega
      have HTD := HT
      have HFD := HFK
      obtain ⟨m, hm1, hm2, hrc⟩ : ∃ m, (m = k ∨ m = k + 1) ∧ m ≤ k ∧ recsV Sh.dig (readV ⟨crashV (logD Sh.dig (l.take k) cc).files ps, -1⟩ log).1 = l.take m := ⟨k, .inl rfl, by omega, recs_log H_len (log_rise _ _) (c := cc) rfl HSK.out ps⟩
      have HRC := Lib.hid hrc
      clear hrc HFK HSK HT
      have hq1 : ¬ (m : Int) < k := by omega
      have hq2 : ¬ (k : Int) + 1 < m := by omega
      have hq3 : ¬ (k : Int) < m := by omega
      go_wp2_with fail
      refine (hK.crash _ U b (logD Sh.dig (l.take k) cc) (some (g, log, false)) P pn pcap ps HTD.out.has HFD.out HPN.out hpc (by omega) HPZ.out ((HP.out.below HTD.out.below (Nat.le_refl _)).more HTD.out.below.size)).mono ?_
      rintro e w8 ⟨b8, U8, rfl, hq8, hU8, hb8⟩
      have HT8 : Hid (Sj Q w w8 U8 b8 ⟨crashV (logD Sh.dig (l.take k) cc).files ps, -1⟩ none) := ⟨HTD.out.below.trans (hb8.mono HTD.out.below.size), fun q hq => Nat.le_trans HTD.out.below.size (hU8 q hq), hq8⟩
      have HF8 : Hid (Fits ⟨crashV (logD Sh.dig (l.take k) cc).files ps, -1⟩) := fit_crash HFD.out ps
      clear hq8 hU8 hb8
      go_wp2_with fail
      refine (last_open hK B _ U8 b8 _ HT8.out.has HF8.out rfl _ HRC.out (HOK.out.later HT8.out.below) (fun q hq => Nat.le_trans HOK.out.2.2 (HT8.out.own q hq))).mono ?_
      rintro e w9 ⟨g9, A9, n9, cap9, rfl, hn9, hx9, ha9⟩
      have HB9 : Hid (Below w.heap.size w w9) := HT8.out.below.trans (ha9.below (fun q hq => HT8.out.own q hq) HT8.out.below.size)
      have HX9 := Lib.hid hx9
      obtain rfl : n9 = m := by rw [← hn9, List.length_take, HN.out]; omega
      have HN9 := Lib.hid hn9
      clear hx9 hn9 ha9
      obtain ⟨A', hcut, hA'⟩ := cut_names (s := n9) (cap := cap) HX.out HN.out hm2 hcap
      have HS := Lib.hid (same_yes A9 A' cap9 cap _ n9 n9 _ w9 HN9.out HN9.out (by omega) HX9.out (hA' _ _ ((HX.out.below HB9.out (Nat.le_refl _)).more HB9.out.size)))
      clear hA' HX9
      go_wp2_with fail
      refine HS.out.mono ?_
      rintro e w10 ⟨rfl, hb10⟩
      have HB10 := Lib.hid (HB9.out.trans (hb10.mono HB9.out.size))
      clear hb10
      go_wp2_with fail
      refine (fixed_any hK B _ (HOK.out.later HB10.out)).mono ?_
      rintro e w11 ⟨rfl, hb11⟩
      have HB11 := Lib.hid (HB10.out.trans (hb11.mono HB10.out.size))
      clear hb11
      go_wp2
      go_ret
      exact ⟨rfl, HB11.out⟩
end Jl
end Go.Proofs.YtogpigfepebibaaDoor

namespace Go.Proofs.YtogpigfepebibaaDoor
namespace Jl
open Go.RowKit Go.ChangeShapes Kr Dk

theorem same_no (A A' : Option Addr) (cap cap' B n m : Nat) (xs ys : List ByteArray) (w : World) (hxy : xs ≠ ys) (hn : xs.length = n) (hm : ys.length = m) (hnm : n ≤ 9223372036854775807) (hmm : m ≤ 9223372036854775807) (hx : NRow w B A xs) (hy : NRow w B A' ys) :
    Calls Tryd.prog 14 #[.slice A n cap, .slice A' m cap'] w fun e w' => e = .returned (.bool false) ∧ Below w.heap.size w w' := by
  refine (refsame_any A A' cap cap' B n m xs ys w hn hm hnm hmm hx hy).mono ?_
  rintro e w' ⟨rfl, q, rfl⟩
  exact ⟨by rw [decide_eq_false hxy], below_drewN (Below.refl _ _) q⟩
theorem Ok.top {B : Nat} {w : World} (h : Ok B w) : Ok w.heap.size w := ⟨h.1, Nat.lt_of_lt_of_le h.2.1 h.2.2, Nat.le_refl _⟩
theorem budget_was (l : List ByteArray) (c : Nat) : budgetV (logD Sh.dig l (-1)) (c : Int) = logD Sh.dig l (c : Int) := by
  unfold budgetV
  rw [if_neg (by omega)]
  unfold logD
  split <;> rfl
theorem fit_swapV {M : Nat} {D : DD} (h : Fit M D) (p : ByteArray) {l : List ByteArray} (hl : Small l) : Fit (M + (FL Sh.dig l).size + 1) (swapV Sh.dig D p l).1 := by
  have h1 := fit_clear h p
  unfold swapV
  rw [frames_ok hl, if_neg (by simp)]
  unfold restV
  split
  · exact fit_anew h1 p _
  · exact h1.more (by omega)
theorem all_fl {l : List ByteArray} (h : ∀ r ∈ l, r.size ≤ 100) {n : Nat} (hn : l.length = n) : (FL Sh.dig l).size ≤ 112 * n := by
  have h1 := FL_le H_len h
  rw [hn] at h1
  omega

set_option maxRecDepth 100000 in
set_option maxHeartbeats 8000000 in
theorem swaps_law {Q : World → (Nat → Prop) → Nat → DD → Jn → Prop} (hK : JKeeps Q) (B : Nat) (w : World) (A A' : Option Addr) (cap cap' n n' : Nat) (l l' : List ByteArray) (c0 : Nat) (P : Option Addr) (pcap pn : Nat) (ps : List Int) (ho : Ok B w) (hn : l.length = n) (hnm : n ≤ 9223372036854775807) (hsz : ∀ r ∈ l, r.size ≤ 9223372036854775807) (hx : NRow w w.heap.size A l)
    (hn' : l'.length = n') (hnm' : n' ≤ 9223372036854775807) (hcap' : n' ≤ cap') (hsz' : ∀ r ∈ l', r.size ≤ 9223372036854775807) (hx' : NRow w w.heap.size A' l')
    (hc0 : c0 < 256) (hpn : ps.length = pn) (hpc : pn ≤ pcap) (hpm : pn ≤ 9223372036854775807) (hp : PRow w w.heap.size P ps) (hpz : ∀ z ∈ ps, -9223372036854775808 ≤ z ∧ z ≤ 9223372036854775807) :
    Calls Tryd.prog 7 #[.slice A n cap, .slice A' n' cap', .int .u8 (c0 : Int), .slice P pn pcap] w fun e w' => e = .returned (.bool true) ∧ Below w.heap.size w w' := by
  have HOK := Lib.hid ho
  have HX := Lib.hid hx
  have HN := Lib.hid hn
  have HX' := Lib.hid hx'
  have HN' := Lib.hid hn'
  have HP := Lib.hid hp
  have HPN := Lib.hid hpn
  have HPZ := Lib.hid hpz
  have HG := Lib.hid (refgreat_any A cap w.heap.size n l w hn hnm hsz hx)
  have HG' := Lib.hid (refgreat_any A' cap' w.heap.size n' l' w hn' hnm' hsz' hx')
  clear ho hx hn hx' hn' hp hpn hpz hsz hsz'
  by_cases hg : Too l
  · rw [decide_eq_true hg] at HG
    clear hg
    go_enter Tryd.func7, Tryd.ntmps7
    go_wp2_with fail
    refine HG.out.mono ?_
    rintro e w1 ⟨rfl, h0⟩
    obtain rfl := h0.symm
    clear h0
    go_wp2_with fail
    refine (fixed_any hK B _ HOK.out).mono ?_
    rintro e w1 ⟨rfl, hb1⟩
    go_wp2
    go_ret
    exact ⟨rfl, hb1⟩
  rw [decide_eq_false hg] at HG
  have HL : Hid (∀ x ∈ l, x.size ≤ 100) := fun x hx => Nat.le_of_not_lt fun h => hg (.inl ⟨x, hx, h⟩)
  have hn12 : n ≤ 12 := by rw [← HN.out]; exact Nat.le_of_not_lt fun h => hg (.inr h)
  clear hg
  by_cases hg : Too l'
  · rw [decide_eq_true hg] at HG'
    clear hg
    go_enter Tryd.func7, Tryd.ntmps7
    go_wp2_with fail
    refine HG.out.mono ?_
    rintro e w1 ⟨rfl, h0⟩
    obtain rfl := h0.symm
    clear h0
    go_wp2_with fail
    refine HG'.out.mono ?_
    rintro e w1 ⟨rfl, h0⟩
    obtain rfl := h0.symm
    clear h0
    go_wp2_with fail
    refine (fixed_any hK B _ HOK.out).mono ?_
    rintro e w1 ⟨rfl, hb1⟩
    go_wp2
    go_ret
    exact ⟨rfl, hb1⟩
  rw [decide_eq_false hg] at HG'
  have HL' : Hid (∀ x ∈ l', x.size ≤ 100) := fun x hx => Nat.le_of_not_lt fun h => hg (.inl ⟨x, hx, h⟩)
  have hn12' : n' ≤ 12 := by rw [← HN'.out]; exact Nat.le_of_not_lt fun h => hg (.inr h)
  clear hg
  by_cases h10 : 10 < pn
  · have h10i : (10 : Int) < (pn : Int) := by omega
    go_enter Tryd.func7, Tryd.ntmps7
    go_wp2_with fail
    refine HG.out.mono ?_
    rintro e w1 ⟨rfl, h0⟩
    obtain rfl := h0.symm
    clear h0
    go_wp2_with fail
    refine HG'.out.mono ?_
    rintro e w1 ⟨rfl, h0⟩
    obtain rfl := h0.symm
    clear h0
    go_wp2_with fail
    refine (fixed_any hK B _ HOK.out).mono ?_
    rintro e w1 ⟨rfl, hb1⟩
    go_wp2
    go_ret
    exact ⟨rfl, hb1⟩
  have h10i : ¬ (10 : Int) < (pn : Int) := by omega
  have HSM : Hid (Small l) := small_of HL.out
  have HSM' : Hid (Small l') := small_of HL'.out
  go_enter Tryd.func7, Tryd.ntmps7
  go_wp2_with fail
  refine HG.out.mono ?_
  rintro e w1 ⟨rfl, h0⟩
  obtain rfl := h0.symm
  clear h0
  go_wp2_with fail
  refine HG'.out.mono ?_
  rintro e w1 ⟨rfl, h0⟩
  obtain rfl := h0.symm
  clear h0
  go_wp2_with fail
  refine (hK.new _).mono ?_
  rintro e w1 ⟨b, U1, rfl, hq1, hU1, hb1⟩
  have HT1 : Hid (Sj Q w w1 U1 b newV none) := ⟨hb1, hU1, hq1⟩
  clear hq1 hU1 hb1 HG HG'
  go_wp2_with fail
  refine (first_open hK B _ U1 b HT1.out.has (HOK.out.later HT1.out.below) (fun q hq => Nat.le_trans HOK.out.2.2 (HT1.out.own q hq))).mono ?_
  rintro e w2 ⟨U2, g, A2, n2, cap2, rfl, hq2, hU2, ha2⟩
  have HT2 : Hid (Sj Q w w2 U2 b newV (some (g, log, false))) := HT1.out.acted hq2 hU2 ha2
  clear hq2 hU2 ha2 HT1
  obtain ⟨c, hc⟩ : ∃ c, c0 % 6 = c := ⟨_, rfl⟩
  have hci : (c0 : Int) % 6 = (c : Int) := by omega
  have hcl : c ≤ 5 := by omega
  go_wp2_with fail
  go_loopw [13] (fun i wr => ∃ (k : Nat) (U : Nat → Prop), k ≤ n ∧ i = .int .i64 k ∧ Hid (Sj Q w wr U b (logD Sh.dig (l.take k) (-1)) (some (g, log, false)))) (fun i _ => n - (intOf i).toNat)
  case atStart => exact ⟨0, U2, Nat.zero_le _, rfl, HT2.out⟩
  case round =>
    obtain ⟨k, U, hk, rfl, HT⟩ := hrel
    clear HT2
    have hfl := fl_take HL.out HN.out k
    have HFK : Hid (Fits (logD Sh.dig (l.take k) (-1))) := log_fit _ (by omega) (by omega) (by omega) (by omega)
    by_cases hlt : k < n
    · have hki : (k : Int) < n := by omega
      have hxk : l[k]? = some (l[k]'(by rw [HN.out]; exact hlt)) := List.getElem?_eq_getElem _
      generalize l[k]'(by rw [HN.out]; exact hlt) = r at hxk
      obtain ⟨bb, oo, rfl, _, hce⟩ := one_cell (HX.out.below HT.out.below (Nat.le_refl _)) hxk rfl
      have hrs := HL.out r (List.mem_of_getElem? hxk)
      have HRS : Hid (r.size ≤ most) := HSM.out r (List.mem_of_getElem? hxk)
      have HTK := Lib.hid (take_snoc l k r hxk)
      have HAD := Lib.hid (hK.add B _ U b _ g log false r HT.out.has HFK.out (by omega) (HOK.out.later HT.out.below) (fun q hq => Nat.le_trans HOK.out.2.2 (HT.out.own q hq)))
      rw [addJ_add _ _ HRS.out, add_log _ _ HRS.out, if_neg (by omega), if_neg (by omega), if_neg (by omega), ← HTK.out] at HAD
      clear hxk hci
      go_wp2_with fail
      refine HAD.out.mono ?_
      intro e w4 hr
      obtain ⟨U4, rfl, ht4, _⟩ := HT.out.left hr
      have HTD := Lib.hid ht4
      clear hr ht4 HAD HFK HT hce
      go_wp2
      go_roundw
      case rel => exact ⟨k + 1, U4, by omega, by go_num, HTD.out⟩
      case measure => simp [intOf]; omega
    · obtain rfl : k = n := by omega
      rw [take_all l HN.out] at HT HFK hfl
      have HBU := Lib.hid (fun W (h : Q W U b (logD Sh.dig l (-1)) (some (g, log, false))) => hK.budget W U b _ _ (c : Int) h HFK.out (by omega) (by omega))
      rw [budget_was] at HBU
      go_wp2_with fail
      first
        | (refine (HBU.out _ HT.out.has).mono ?_)
        | (rw [hci]; refine (HBU.out _ HT.out.has).mono ?_)
      intro e w3 hr
      obtain ⟨U3, rfl, ht3, _⟩ := HT.out.left hr
      have HT3 := Lib.hid ht3
      have HF3 : Hid (Fit (112 * 12 + 1) (logD Sh.dig l (c : Int))) := log_fit _ (by omega) (by omega) (by omega) (by omega)
      clear hr ht3 HBU HT hci hc HFK
      have hfl' := all_fl HL'.out HN'.out
      have HSW := Lib.hid (hK.swap w.heap.size _ U3 b _ g log false A' n' cap' l' HT3.out.has (HF3.out.more (by omega)) HN'.out hcap' hn12' HL'.out (HX'.out.below HT3.out.below (Nat.le_refl _)) (HOK.out.top.below HT3.out.below) HT3.out.own)
      have HRC := Lib.hid (swap_recs H_len l l' (c := (c : Int)) (n := 112 * 12 + 1) (by omega) (by omega) HSM.out HSM'.out (by omega) (by omega) ps)
      have HF4 : Hid (Fits (swapV Sh.dig (logD Sh.dig l (c : Int)) log l').1) := (fit_swapV HF3.out log HSM'.out).more (by omega)
      rw [swapJ_swap _ _ HSM'.out] at HSW
      generalize swapV Sh.dig (logD Sh.dig l (c : Int)) log l' = RV at *
      go_wp2_with fail
      refine HSW.out.mono ?_
      intro e w4 hr
      obtain ⟨U4, rfl, ht4, _⟩ := HT3.out.left hr
      have HT4 := Lib.hid ht4
      clear hr ht4 HSW HT3 HF3
      obtain ⟨L, hL⟩ : ∃ L, (if RV.2 = 0 then l' else l) = L := ⟨_, rfl⟩
      rw [hL] at HRC
      go_wp2_with fail
      refine (hK.crash _ U4 b _ _ P pn pcap ps HT4.out.has HF4.out HPN.out hpc (by omega) HPZ.out ((HP.out.below HT4.out.below (Nat.le_refl _)).more HT4.out.below.size)).mono ?_
      rintro e w8 ⟨b8, U8, rfl, hq8, hU8, hb8⟩
      have HT8 : Hid (Sj Q w w8 U8 b8 ⟨crashV RV.1.files ps, -1⟩ none) := ⟨HT4.out.below.trans (hb8.mono HT4.out.below.size), fun q hq => Nat.le_trans HT4.out.below.size (hU8 q hq), hq8⟩
      have HF8 : Hid (Fits ⟨crashV RV.1.files ps, -1⟩) := fit_crash HF4.out ps
      clear hq8 hU8 hb8
      go_wp2_with fail
      refine (last_open hK B _ U8 b8 _ HT8.out.has HF8.out rfl _ HRC.out (HOK.out.later HT8.out.below) (fun q hq => Nat.le_trans HOK.out.2.2 (HT8.out.own q hq))).mono ?_
      rintro e w9 ⟨g9, A9, n9, cap9, rfl, hn9, hx9, ha9⟩
      have HB9 : Hid (Below w.heap.size w w9) := HT8.out.below.trans (ha9.below (fun q hq => HT8.out.own q hq) HT8.out.below.size)
      have HXL : Hid (NRow w9 w9.heap.size A l) := (HX.out.below HB9.out (Nat.le_refl _)).more HB9.out.size
      have HXL' : Hid (NRow w9 w9.heap.size A' l') := (HX'.out.below HB9.out (Nat.le_refl _)).more HB9.out.size
      by_cases h2 : RV.2 = 0
      · rw [if_pos h2] at hL
        subst hL
        obtain rfl : n9 = n' := hn9.symm.trans HN'.out
        have HS := Lib.hid (same_yes A9 A' cap9 cap' _ n9 n9 l' w9 HN'.out HN'.out (by omega) hx9 HXL'.out)
        clear hn9 hx9 ha9 h2
        go_wp2_with fail
        refine HS.out.mono ?_
        rintro e w10 ⟨rfl, hb10⟩
        have HBX := Lib.hid (HB9.out.trans (hb10.mono HB9.out.size))
        clear hb10
        go_wp2_with fail
        refine (fixed_any hK B _ (HOK.out.later HBX.out)).mono ?_
        rintro e w11 ⟨rfl, hb11⟩
        have HB11 := Lib.hid (HBX.out.trans (hb11.mono HBX.out.size))
        clear hb11
        go_wp2
        go_ret
        exact ⟨rfl, HB11.out⟩
      · rw [if_neg h2] at hL
        subst hL
        obtain rfl : n9 = k := hn9.symm.trans HN.out
        have hgz : (((brokeV RV).2.2 : Int) != 0) = true := ne_zero (k := (brokeV RV).2.2) h2
        have HXN := Lib.hid hx9
        clear hn9 hx9 ha9 h2
        by_cases hll : l = l'
        · subst hll
          obtain rfl : n9 = n' := HN.out.symm.trans HN'.out
          have HS := Lib.hid (same_yes A9 A' cap9 cap' _ n9 n9 l w9 HN'.out HN'.out (by omega) HXN.out HXL'.out)
          go_wp2_with fail
          refine HS.out.mono ?_
          rintro e w10 ⟨rfl, hb10⟩
          have HBX := Lib.hid (HB9.out.trans (hb10.mono HB9.out.size))
          clear hb10
          go_wp2_with fail
          refine (fixed_any hK B _ (HOK.out.later HBX.out)).mono ?_
          rintro e w11 ⟨rfl, hb11⟩
          have HB11 := Lib.hid (HBX.out.trans (hb11.mono HBX.out.size))
          clear hb11
          go_wp2
          go_ret
          exact ⟨rfl, HB11.out⟩
        · have HS := Lib.hid (same_no A9 A' cap9 cap' _ n9 n' l l' w9 hll HN.out HN'.out (by omega) (by omega) HXN.out HXL'.out)
          clear hll
          go_wp2_with fail
          refine HS.out.mono ?_
          rintro e w10 ⟨rfl, hb10⟩
          have HB10 := Lib.hid (HB9.out.trans (hb10.mono HB9.out.size))
          have HS2 := Lib.hid (same_yes A9 A cap9 cap _ n9 n9 l w10 HN.out HN.out (by omega) (HXN.out.later hb10) (HXL.out.later hb10))
          clear hb10
          go_wp2_with fail
          refine HS2.out.mono ?_
          rintro e w12 ⟨rfl, hb12⟩
          have HBX := Lib.hid (HB10.out.trans (hb12.mono HB10.out.size))
          clear hb12
          go_wp2_with fail
          refine (fixed_any hK B _ (HOK.out.later HBX.out)).mono ?_
          rintro e w11 ⟨rfl, hb11⟩
          have HB11 := Lib.hid (HBX.out.trans (hb11.mono HBX.out.size))
          clear hb11
          go_wp2
          go_ret
          exact ⟨rfl, HB11.out⟩
end Jl
end Go.Proofs.YtogpigfepebibaaDoor

namespace Go.Proofs.YtogpigfepebibaaDoor
namespace Jl
open Go.RowKit Go.ChangeShapes Kr Dk

/-- Something done. -/
structure Ja where
  kind : Int
  num : Int
  name : ByteArray
  data : ByteArray
  ra : Option Addr
  rn : Nat
  rcap : Nat
  recs : List ByteArray
  pa : Option Addr
  pn : Nat
  pcap : Nat
  picks : List Int
def encJ (a : Ja) : List Value := [.int .i64 a.kind, .int .i64 a.num, .string a.name, .string a.data, .slice a.ra a.rn a.rcap, .slice a.pa a.pn a.pcap]
theorem encJ_length (a : Ja) : (encJ a).length = 6 := rfl
/-- What any act's cells are. -/
structure JOk (a : Ja) : Prop where
  name : a.name.size ≤ 140737488355328
  data : a.data.size ≤ 140737488355328
  rn : a.rn ≤ 9223372036854775807
  rcap : a.rn ≤ a.rcap
  rlen : a.recs.length = a.rn
  rsize : ∀ r ∈ a.recs, r.size ≤ 9223372036854775807
  pn : a.pn ≤ 9223372036854775807
  pcap : a.pn ≤ a.pcap
  plen : a.picks.length = a.pn
  num : -9223372036854775808 ≤ a.num ∧ a.num ≤ 9223372036854775807
  picks : ∀ z ∈ a.picks, -9223372036854775808 ≤ z ∧ z ≤ 9223372036854775807
/-- A row of acts: their cells, their records and picks. -/
def JRow (w : World) (B : Nat) (A : Option Addr) (t : List Ja) : Prop := KRow encJ 6 w B A t ∧ ∀ a ∈ t, NRow w B a.ra a.recs ∧ PRow w B a.pa a.picks
theorem JRow.below {w w' : World} {B B' : Nat} {A : Option Addr} {t : List Ja} (h : JRow w B A t) (hb : Below B' w w') (hB : B ≤ B') : JRow w' B A t := ⟨h.1.below hb hB, fun a ha => ⟨(h.2 a ha).1.below hb hB, (h.2 a ha).2.below hb hB⟩⟩
/-- More than is gone through. -/
def Much (a : Ja) : Prop := 20 < a.name.size ∨ 100 < a.data.size ∨ 10 < a.pn ∨ Too a.recs
instance (a : Ja) : Decidable (Much a) := by unfold Much; infer_instance
def Mucha (t : List Ja) : Prop := (∃ a ∈ t, Much a) ∨ 20 < t.length
instance (t : List Ja) : Decidable (Mucha t) := by unfold Mucha; infer_instance

end Jl
end Go.Proofs.YtogpigfepebibaaDoor

namespace Go.Proofs.YtogpigfepebibaaDoor
namespace Jl
open Go.RowKit Go.ChangeShapes Kr Dk

/-- What law Rows asks of pack: T what its calls want of a world, pk l the row of the texts l. -/
structure PackK (T : World → Prop) (pk : List ByteArray → ByteArray) : Prop where
  keep : ∀ {w w' : World}, T w → Below w.heap.size w w' → T w'
  size : ∀ l : List ByteArray, ¬ Too l → (pk l).size ≤ 2000
  row : ∀ (w : World) (A : Option Addr) (n cap : Nat) (l : List ByteArray), T w → l.length = n → n ≤ cap → ¬ Too l → NRow w w.heap.size A l →
    Calls Tryd.prog 23 #[.slice A n cap] w fun e w' => e = .returned (.string (pk l)) ∧ Below w.heap.size w w'
  texts : ∀ (w : World) (l : List ByteArray), T w → ¬ Too l →
    Calls Tryd.prog 24 #[.string (pk l)] w fun e w' => ∃ A n cap, e = .returned (.tuple #[.slice A n cap, .int .i64 0]) ∧ l.length = n ∧ NRow w' w'.heap.size A l ∧ Below w.heap.size w w'
/-- A row of texts, as a slice in memory. -/
structure Rr where
  a : Option Addr
  n : Nat
  cap : Nat
  l : List ByteArray
def encR (r : Rr) : List Value := [.slice r.a r.n r.cap]
structure ROk (r : Rr) : Prop where
  len : r.l.length = r.n
  cap : r.n ≤ r.cap
  high : r.n ≤ 9223372036854775807
  size : ∀ x ∈ r.l, x.size ≤ 9223372036854775807
def RRow (w : World) (B : Nat) (A : Option Addr) (t : List Rr) : Prop := KRow encR 1 w B A t ∧ ∀ r ∈ t, NRow w B r.a r.l
theorem RRow.below {w w' : World} {B B' : Nat} {A : Option Addr} {t : List Rr} (h : RRow w B A t) (hb : Below B' w w') (hB : B ≤ B') : RRow w' B A t := ⟨h.1.below hb hB, fun r hr => (h.2 r hr).below hb hB⟩
theorem take_snoc2 {α : Type} (xs : List α) (k : Nat) (x : α) (h : xs[k]? = some x) : xs.take (k + 1) = xs.take k ++ [x] := by
  obtain ⟨hk, rfl⟩ := List.getElem?_eq_some_iff.1 h
  rw [List.take_succ_eq_append_getElem hk]
theorem too_nil : ¬ Too [] := by
  rintro (⟨r, hr, _⟩ | h)
  · simp at hr
  · simp at h
/-- The records of the rows done. -/
def pks (pk : List ByteArray → ByteArray) (t : List Rr) : List ByteArray := t.map fun r => pk r.l
theorem pks_small {T : World → Prop} {pk : List ByteArray → ByteArray} (hP : PackK T pk) {t : List Rr} (h : ∀ r ∈ t, ¬ Too r.l) : ∀ r ∈ pks pk t, r.size ≤ 2000 := fun r hr => by
  obtain ⟨x, hx, rfl⟩ := List.mem_map.1 hr
  exact hP.size _ (h x hx)

set_option maxRecDepth 100000 in
set_option maxHeartbeats 8000000 in
theorem rows_law {Q : World → (Nat → Prop) → Nat → DD → Jn → Prop} (hK : JKeeps Q) {T : World → Prop} {pk : List ByteArray → ByteArray} (hP : PackK T pk) (B : Nat) (w : World) (A : Option Addr) (cap n : Nat) (t : List Rr) (P : Option Addr) (pcap pn : Nat) (ps : List Int) (ho : Ok B w) (_htb : T w) (hn : t.length = n) (hnm : n ≤ 9223372036854775807) (hok : ∀ r ∈ t, ROk r) (hx : RRow w w.heap.size A t)
    (hpn : ps.length = pn) (hpc : pn ≤ pcap) (hpm : pn ≤ 9223372036854775807) (hp : PRow w w.heap.size P ps) (hpz : ∀ z ∈ ps, -9223372036854775808 ≤ z ∧ z ≤ 9223372036854775807)
    (hT : ∀ {w1 : World}, Below w.heap.size w w1 → T w1) :
    Calls Tryd.prog 8 #[.slice A n cap, .slice P pn pcap] w fun e w' => e = .returned (.bool true) ∧ Below w.heap.size w w' := by
  have HOK := Lib.hid ho
  have HX := Lib.hid hx
  have HN := Lib.hid hn
  have HR := Lib.hid hok
  have HP := Lib.hid hp
  have HPN := Lib.hid hpn
  have HPZ := Lib.hid hpz
  have HTT : Hid (∀ {w1 : World}, Below w.heap.size w w1 → T w1) := hT
  clear ho hx hn hok hp hpn hpz hT _htb
  by_cases h8 : 8 < n
  · have h8i : (8 : Int) < (n : Int) := by omega
    go_enter Tryd.func8, Tryd.ntmps8
    go_wp2_with fail
    refine (fixed_any hK B _ HOK.out).mono ?_
    rintro e w1 ⟨rfl, hb1⟩
    go_wp2
    go_ret
    exact ⟨rfl, hb1⟩
  have h8i : ¬ (8 : Int) < (n : Int) := by omega
  by_cases h10 : 10 < pn
  · have h10i : (10 : Int) < (pn : Int) := by omega
    go_enter Tryd.func8, Tryd.ntmps8
    go_wp2_with fail
    refine (fixed_any hK B _ HOK.out).mono ?_
    rintro e w1 ⟨rfl, hb1⟩
    go_wp2
    go_ret
    exact ⟨rfl, hb1⟩
  have h10i : ¬ (10 : Int) < (pn : Int) := by omega
  go_enter Tryd.func8, Tryd.ntmps8
  go_wp2_with fail
  refine (hK.new _).mono ?_
  rintro e w1 ⟨b, U1, rfl, hq1, hU1, hb1⟩
  have HT1 : Hid (Sj Q w w1 U1 b newV none) := ⟨hb1, hU1, hq1⟩
  clear hq1 hU1 hb1
  go_wp2_with fail
  refine (first_open hK B _ U1 b HT1.out.has (HOK.out.later HT1.out.below) (fun q hq => Nat.le_trans HOK.out.2.2 (HT1.out.own q hq))).mono ?_
  rintro e w2 ⟨U2, g, A2, n2, cap2, rfl, hq2, hU2, ha2⟩
  have HT2 : Hid (Sj Q w w2 U2 b newV (some (g, log, false))) := HT1.out.acted hq2 hU2 ha2
  clear hq2 hU2 ha2 HT1
  go_wp2_with fail
  go_loopw [9] (fun i wr => ∃ (k : Nat) (U : Nat → Prop), k ≤ n ∧ i = .int .i64 k ∧ Hid (∀ r ∈ t.take k, ¬ Too r.l) ∧ Hid (Sj Q w wr U b (logD Sh.dig (pks pk (t.take k)) (-1)) (some (g, log, false)))) (fun i _ => n - (intOf i).toNat)
  case atStart => exact ⟨0, U2, Nat.zero_le _, rfl, fun r hr => by simp at hr, HT2.out⟩
  case round =>
    obtain ⟨k, U, hk, rfl, HNT, HT⟩ := hrel
    clear HT2
    have HPS := Lib.hid (pks_small hP HNT.out)
    have hfl : (FL Sh.dig (pks pk (t.take k))).size ≤ 8 * 2012 := by
      have h1 := FL_le H_len HPS.out
      have h2 : (pks pk (t.take k)).length ≤ 8 := by unfold pks; rw [List.length_map, List.length_take]; have := HN.out; omega
      have h3 : (pks pk (t.take k)).length * (12 + 2000) ≤ 8 * (12 + 2000) := Nat.mul_le_mul_right _ h2
      omega
    have HFK : Hid (Fits (logD Sh.dig (pks pk (t.take k)) (-1))) := log_fit _ (by omega) (by omega) (by omega) (by omega)
    by_cases hlt : k < n
    · have hki : (k : Int) < n := by omega
      have hxk : t[k]? = some (t[k]'(by rw [HN.out]; exact hlt)) := List.getElem?_eq_getElem _
      generalize t[k]'(by rw [HN.out]; exact hlt) = r at hxk
      have HXR : Hid (RRow wr w.heap.size A t) := HX.out.below HT.out.below (Nat.le_refl _)
      obtain ⟨bb, oo, rfl, _, hce⟩ := one_cell HXR.out.1 hxk rfl
      have hmem := List.mem_of_getElem? hxk
      have hro := HR.out r hmem
      have HROK := Lib.hid hro
      have HRX : Hid (NRow wr w.heap.size r.a r.l) := HXR.out.2 r hmem
      have HTK := Lib.hid (take_snoc2 t k r hxk)
      have HG := Lib.hid (refgreat_any r.a r.cap w.heap.size r.n r.l wr hro.len hro.high hro.size HRX.out)
      clear hxk hmem hro
      by_cases hg : Too r.l
      · rw [decide_eq_true hg] at HG
        clear hg
        go_wp2_with fail
        refine HG.out.mono ?_
        rintro e w4 ⟨rfl, h0⟩
        obtain rfl := h0.symm
        clear h0
        go_wp2_with fail
        refine (fixed_any hK B _ (HOK.out.later HT.out.below)).mono ?_
        rintro e w5 ⟨rfl, hb5⟩
        have HB5 := Lib.hid (HT.out.below.trans (hb5.mono HT.out.below.size))
        clear hb5
        go_wp2
        go_ret
        exact ⟨rfl, HB5.out⟩
      · rw [decide_eq_false hg] at HG
        have HNG := Lib.hid hg
        have HPR := Lib.hid (hP.row wr r.a r.n r.cap r.l (HTT.out HT.out.below) HROK.out.len HROK.out.cap hg (HRX.out.more HT.out.below.size))
        have hps := hP.size r.l hg
        have HNT2 : Hid (∀ x ∈ t.take (k + 1), ¬ Too x.l) := fun x hx => by
          rw [HTK.out] at hx
          exact (List.mem_append.1 hx).elim (HNT.out x) (fun h => by rw [List.mem_singleton.1 h]; exact hg)
        have HPK : Hid (pks pk (t.take (k + 1)) = pks pk (t.take k) ++ [pk r.l]) := by
          show _ = _
          unfold pks
          rw [HTK.out, List.map_append]; rfl
        have HSM : Hid ((pk r.l).size ≤ most) := Nat.le_trans hps (by decide)
        clear hg
        go_wp2_with fail
        refine HG.out.mono ?_
        rintro e w4 ⟨rfl, h0⟩
        obtain rfl := h0.symm
        clear h0
        go_wp2_with fail
        refine HPR.out.mono ?_
        rintro e w5 ⟨rfl, hb5⟩
        have HT5 := Lib.hid (HT.out.later hK hb5)
        clear hb5 HPR HG hce
        have HAD := Lib.hid (hK.add B _ U b _ g log false (pk r.l) HT5.out.has HFK.out (by omega) (HOK.out.later HT5.out.below) (fun q hq => Nat.le_trans HOK.out.2.2 (HT5.out.own q hq)))
        rw [addJ_add _ _ HSM.out, add_log _ _ HSM.out, if_neg (by omega), if_neg (by omega), if_neg (by omega), ← HPK.out] at HAD
        go_wp2_with fail
        refine HAD.out.mono ?_
        intro e w6 hr
        obtain ⟨U4, rfl, ht4, _⟩ := HT5.out.left hr
        have HTD := Lib.hid ht4
        clear hr ht4 HAD HFK HT5
        go_wp2
        go_roundw
        case rel => exact ⟨k + 1, U4, by omega, by go_num, HNT2.out, HTD.out⟩
        case measure => simp [intOf]; omega
    · obtain rfl : k = n := by omega
      rw [List.take_of_length_le (by rw [HN.out]; exact Nat.le_refl _)] at HNT HT HFK hfl HPS
      have HRC := Lib.hid (recs_log H_len (log_rise (pks pk t) (-1)) (c := -1) rfl (fun r hr => Nat.le_trans (HPS.out r hr) (by decide)) ps)
      have hpl : (pks pk t).length = k := by unfold pks; rw [List.length_map, HN.out]
      have HPL := Lib.hid hpl
      clear hpl
      go_wp2_with fail
      refine (hK.crash _ U b _ _ P pn pcap ps HT.out.has HFK.out HPN.out hpc (by omega) HPZ.out ((HP.out.below HT.out.below (Nat.le_refl _)).more HT.out.below.size)).mono ?_
      rintro e w8 ⟨b8, U8, rfl, hq8, hU8, hb8⟩
      have HT8 : Hid (Sj Q w w8 U8 b8 ⟨crashV (logD Sh.dig (pks pk t) (-1)).files ps, -1⟩ none) := ⟨HT.out.below.trans (hb8.mono HT.out.below.size), fun q hq => Nat.le_trans HT.out.below.size (hU8 q hq), hq8⟩
      have HF8 : Hid (Fits ⟨crashV (logD Sh.dig (pks pk t) (-1)).files ps, -1⟩) := fit_crash HFK.out ps
      clear hq8 hU8 hb8
      go_wp2_with fail
      refine (last_open hK B _ U8 b8 _ HT8.out.has HF8.out rfl _ HRC.out (HOK.out.later HT8.out.below) (fun q hq => Nat.le_trans HOK.out.2.2 (HT8.out.own q hq))).mono ?_
      rintro e w9 ⟨g9, A9, n9, cap9, rfl, hn9, hx9, ha9⟩
      have HB9 : Hid (Below w.heap.size w w9) := HT8.out.below.trans (ha9.below (fun q hq => HT8.out.own q hq) HT8.out.below.size)
      have HX9 := Lib.hid hx9
      obtain rfl : n9 = k := hn9.symm.trans HPL.out
      clear hx9 hn9 ha9 HT8 HF8 HFK HT HRC HPS hfl
      go_wp2_with fail
      go_loopw [13] (fun i wr => ∃ (q : Nat), q ≤ n9 ∧ i = .int .i64 q ∧ Hid (Below w9.heap.size w9 wr)) (fun i _ => n9 - (intOf i).toNat)
      case atStart => exact ⟨0, Nat.zero_le _, rfl, Below.refl _ _⟩
      case round =>
        obtain ⟨q, hq, rfl, HBR⟩ := hrel
        have HBW : Hid (Below w.heap.size w wr) := HB9.out.trans (HBR.out.mono HB9.out.size)
        by_cases hlt2 : q < n9
        · have hqi : (q : Int) < n9 := by omega
          have hxk : t[q]? = some (t[q]'(by rw [HN.out]; exact hlt2)) := List.getElem?_eq_getElem _
          generalize t[q]'(by rw [HN.out]; exact hlt2) = r at hxk
          have hmem := List.mem_of_getElem? hxk
          have HNG : Hid (¬ Too r.l) := HNT.out r hmem
          have HROK := Lib.hid (HR.out r hmem)
          have hpk : (pks pk t)[q]? = some (pk r.l) := by unfold pks; rw [List.getElem?_map, hxk]; rfl
          have HX9R : Hid (NRow wr w9.heap.size A9 (pks pk t)) := HX9.out.below HBR.out (Nat.le_refl _)
          obtain ⟨b9, o9, rfl, _, hc9⟩ := one_cell HX9R.out hpk rfl
          have hTX := HP.out
          have HXR : Hid (RRow wr w.heap.size A t) := HX.out.below HBW.out (Nat.le_refl _)
          have HTX := Lib.hid (hP.texts wr r.l (HTT.out HBW.out) HNG.out)
          clear hpk hTX
          go_wp2_with fail
          refine HTX.out.mono ?_
          rintro e w10 ⟨A10, n10, cap10, rfl, hn10, hx10, hb10⟩
          obtain rfl : n10 = r.n := hn10.symm.trans HROK.out.len
          have HBR2 := Lib.hid (HBR.out.trans (hb10.mono HBR.out.size))
          have HBW2 := Lib.hid (HBW.out.trans (hb10.mono HBW.out.size))
          have HXR2 : Hid (RRow w10 w.heap.size A t) := HX.out.below HBW2.out (Nat.le_refl _)
          obtain ⟨bb, oo, rfl, _, hce⟩ := one_cell HXR2.out.1 hxk rfl
          have HS := Lib.hid (same_yes A10 r.a cap10 r.cap _ r.n r.n r.l w10 HROK.out.len HROK.out.len HROK.out.high hx10 ((HXR2.out.2 r hmem).more HBW2.out.size))
          clear hn10 hx10 hb10 hxk hmem hc9 HTX
          go_wp2_with fail
          refine HS.out.mono ?_
          rintro e w11 ⟨rfl, hb11⟩
          have HBR3 := Lib.hid (HBR2.out.trans (hb11.mono HBR2.out.size))
          clear hb11
          go_wp2
          go_roundw
          case rel => exact ⟨q + 1, by omega, by go_num, HBR3.out⟩
          case measure => simp [intOf]; omega
        · obtain rfl : q = n9 := by omega
          go_wp2_with fail
          refine (fixed_any hK B _ (HOK.out.later HBW.out)).mono ?_
          rintro e w12 ⟨rfl, hb12⟩
          have HB12 := Lib.hid (HBW.out.trans (hb12.mono HBW.out.size))
          clear hb12
          go_wp2
          go_ret
          exact ⟨rfl, HB12.out⟩
end Jl
end Go.Proofs.YtogpigfepebibaaDoor
