/-
  Layer 7 (disk): law Apart.
-/
import Derived.Test.YteikfdijcepimaaDS
namespace Go.Proofs.Yteikfdijcepimaa
namespace Dk
open Go.RowKit Kr

abbrev mine : ByteArray := ⟨#[109, 105, 110, 101]⟩
theorem mineB (s : ByteArray) : (s.toList == [109, 105, 110, 101]) = decide (s = mine) := by
  have h := eqB s mine
  rw [ByteArray.toList_eq mine] at h
  exact h
theorem withF_one {g f : FF} (h : nm g = nm f) : withF [g] f = [f] := by
  unfold withF
  have h1 : ¬ nm g < nm f := fun h2 => ne_of h2 h
  have h2 : ¬ nm f < nm g := fun h2 => ne_of h2 h.symm
  rw [List.filter_cons_of_neg (p := fun x => decide (nm x < nm f)) (fun e => h1 (of_decide_eq_true e)), List.filter_cons_of_neg (p := fun x => decide (nm f < nm x)) (fun e => h2 (of_decide_eq_true e))]
  rfl
def mi1 (x : ByteArray) : DD := ⟨[⟨mine, x, 0⟩], -1⟩
def mi2 (x : ByteArray) : DD := ⟨[⟨mine, x, x.size⟩], -1⟩
def mi3 (x y : ByteArray) : DD := ⟨[⟨mine, x ++ y, x.size⟩], -1⟩
theorem mi_1 (x : ByteArray) : appendV newV mine x = (mi1 x, 0) := by
  rw [append_free rfl (by decide)]
  have e : addF newV.files mine x = ⟨mine, x, 0⟩ := by
    unfold addF
    show (FF.mk mine (nul ++ x) 0) = _
    rw [nul_app]
  rw [e]
  rfl
theorem mi_at (d : ByteArray) (k : Nat) : at? [⟨mine, d, k⟩] mine = some ⟨mine, d, k⟩ := by rw [at_cons, if_pos rfl]
theorem mi_2 (x : ByteArray) : syncV (mi1 x) mine = (mi2 x, 0) := by
  unfold syncV
  rw [if_neg (by decide), show at? (mi1 x).files mine = some ⟨mine, x, 0⟩ from mi_at x 0]
  show passV _ _ = _
  rw [pass_free rfl, show withF (mi1 x).files ⟨mine, x, x.size⟩ = [⟨mine, x, x.size⟩] from withF_one rfl]
  rfl
theorem mi_3 (x y : ByteArray) : appendV (mi2 x) mine y = (mi3 x y, 0) := by
  rw [append_free rfl (by decide)]
  have e : addF (mi2 x).files mine y = ⟨mine, x ++ y, x.size⟩ := by
    unfold addF
    rw [show at? (mi2 x).files mine = some ⟨mine, x, x.size⟩ from mi_at x x.size]
    rfl
  rw [e, show withF (mi2 x).files ⟨mine, x ++ y, x.size⟩ = [⟨mine, x ++ y, x.size⟩] from withF_one rfl]
  rfl
theorem mi_own (x y : ByteArray) : Own mine x y (mi3 x y) := ⟨rfl, mi_at _ _⟩
theorem mi_fit1 (x : ByteArray) : Fit (x.size + 1) (mi1 x) := by
  have h := fit_append (fit_new 0) mine x
  rw [mi_1] at h
  exact h.more (by omega)
theorem mi_fit2 (x : ByteArray) : Fit (x.size + 1) (mi2 x) := by
  have h := fit_sync (mi_fit1 x) mine
  rw [mi_2] at h
  exact h
theorem mi_fit3 (x y : ByteArray) : Fit (x.size + y.size + 2) (mi3 x y) := by
  have h := fit_append (mi_fit2 x) mine y
  rw [mi_3] at h
  exact h.more (by omega)
/-- An act that leaves the file alone. -/
theorem own_step {n : Nat} {D : DD} {p x y : ByteArray} (hf : Fit n D) (h : Own p x y D) (a : Ac) (h1 : a.name ≠ p) (h2 : a.to ≠ p) (h3 : a.kind ≠ 4) : Own p x y (stepV D a).1 := by
  unfold stepV
  split
  · exact own_append hf h _ _ h1
  · split
    · exact own_sync hf h _ h1
    · split
      · exact own_rename hf h _ _ h1 h2
      · split
        · exact own_remove hf h _ h1
        · exact h
theorem own_read {D : DD} {p x y : ByteArray} (h : Own p x y D) : readV D p = (x ++ y, 0) := by
  unfold readV
  rw [h.here]
/-- What an act adds. -/
theorem fit_step {n : Nat} {D : DD} (hf : Fit n D) (a : Ac) (hz : a.num ≤ 9223372036854775807) : Fit (n + wgt a) (stepV D a).1 := by
  have hm : n ≤ n + wgt a := Nat.le_add_right _ _
  unfold stepV
  split
  · exact (fit_append hf a.name a.data).more (by unfold wgt; omega)
  · split
    · exact (fit_sync hf _).more hm
    · split
      · exact (fit_rename hf _ _).more hm
      · split
        · exact (fit_remove hf _).more hm
        · split
          · exact (fit_budget hf _ hz).more hm
          · exact hf.more hm

set_option maxRecDepth 100000 in
set_option maxHeartbeats 8000000 in
theorem apart_law {R : World → (Nat → Prop) → Nat → DD → Prop} (hK : Keeps R) (A : Option Addr) (cap n : Nat) (t : List Ac) (x y : ByteArray) (w : World) (hn : t.length = n) (hnm : n ≤ 9223372036854775807) (hok : ∀ a ∈ t, Ok a) (hxs : x.size ≤ 140737488355328) (hys : y.size ≤ 140737488355328) (hx : ARow w w.heap.size A t) :
    Calls Try.prog 6 #[.slice A n cap, .agg #[.string x, .string y]] w fun e w' => e = .returned (.bool true) ∧ Below w.heap.size w w' := by
  have HX := Lib.hid hx
  have HN := Lib.hid hn
  have HOK := Lib.hid hok
  have HGR := Lib.hid (fun W (h : KRow encA 6 W W.heap.size A t) => great_any A cap n t W HN.out hnm HOK.out h)
  have HAL := Lib.hid (fun W => alive_any hK W)
  obtain ⟨w0, hw0⟩ : ∃ w0, w0 = w.alloc (.cells #[.string x, .string y] 46) := ⟨_, rfl⟩
  have hs0 : w0.heap.size = w.heap.size + 1 := by rw [hw0]; simp
  have HB0 : Hid (Below w.heap.size w w0) := by rw [hw0]; exact (Below.refl _ _).alloc (Nat.le_refl _) _
  have HC0 : Hid (w0.cell? ⟨w.heap.size, 0, none⟩ = some (.string x)) := by show _ = _; rw [hw0]; simp
  have HC1 : Hid (w0.cell? ⟨w.heap.size, 1, none⟩ = some (.string y)) := by show _ = _; rw [hw0]; simp
  have HX0 : Hid (ARow w0 w.heap.size A t) := HX.out.below HB0.out (Nat.le_refl _)
  clear hx hn hok HX
  go_enter Try.func6, Try.ntmps6
  go_wp2_with fail
  rw [← hw0]
  clear hw0
  refine (HAL.out _).mono ?_
  rintro e w1 ⟨rfl, hb1⟩
  have HX1 : Hid (ARow w1 w.heap.size A t) := HX0.out.below hb1 (by omega)
  have c0 := (hb1.cell (p := ⟨w.heap.size, 0, none⟩) (by show w.heap.size < _; omega)).trans HC0.out
  have c1 := (hb1.cell (p := ⟨w.heap.size, 1, none⟩) (by show w.heap.size < _; omega)).trans HC1.out
  have HB1 := Lib.hid (HB0.out.trans (hb1.mono (by omega)))
  have hs1 : w.heap.size + 1 ≤ w1.heap.size := by have := hb1.size; omega
  have HC10 := Lib.hid c0
  have HC11 := Lib.hid c1
  clear hb1 c0 c1
  obtain ⟨g, hg⟩ : ∃ g : Int, (if 3000 < tot t then 1 else 0) = g := ⟨_, rfl⟩
  rw [hg] at HGR
  by_cases h3 : 3000 < tot t
  · rw [if_pos h3] at hg
    subst hg
    clear h3
    go_wp2_with fail
    refine (HGR.out _ (HX1.out.1.more (by omega))).mono ?_
    rintro e w2 ⟨rfl, hb2⟩
    have HB2 := Lib.hid (HB1.out.trans (hb2.mono HB1.out.size))
    clear hb2
    go_wp2_with fail
    go_ret
    exact ⟨rfl, HB2.out⟩
  · rw [if_neg h3] at hg
    subst hg
    have HTO := Lib.hid (Nat.not_lt.1 h3)
    clear h3
    go_wp2_with fail
    refine (HGR.out _ (HX1.out.1.more (by omega))).mono ?_
    rintro e w2 ⟨rfl, hb2⟩
    have HX2 : Hid (ARow w2 w.heap.size A t) := HX1.out.below hb2 (by omega)
    have c0 := (hb2.cell (p := ⟨w.heap.size, 0, none⟩) (by show w.heap.size < _; omega)).trans HC10.out
    have c1 := (hb2.cell (p := ⟨w.heap.size, 1, none⟩) (by show w.heap.size < _; omega)).trans HC11.out
    have HC20 := Lib.hid c0
    have HC21 := Lib.hid c1
    have HB2 := Lib.hid (HB1.out.trans (hb2.mono HB1.out.size))
    have hs2 : w.heap.size + 1 ≤ w2.heap.size := by have := hb2.size; omega
    clear hb2
    by_cases h5 : 500 < x.size + y.size
    · have h5i : (500 : Int) < (x.size : Int) + y.size := by omega
      go_wp2_with fail
      go_ret
      exact ⟨rfl, HB2.out⟩
    · have h5i : ¬ (500 : Int) < (x.size : Int) + y.size := by omega
      have H1 : Hid (∀ W S b, R W S b newV → Calls Try.prog 15 #[ptr b, .string mine, .string x] W (Wrote R S b (mi1 x) W (.int .i64 0))) := fun W S b h => by
        have h2 := hK.append W S b newV mine x h (fit_new _) (by decide) (by omega)
        rw [mi_1] at h2
        exact h2
      have H2 : Hid (∀ W S b, R W S b (mi1 x) → Calls Try.prog 18 #[ptr b, .string mine] W (Wrote R S b (mi2 x) W (.int .i64 0))) := fun W S b h => by
        have h2 := hK.sync W S b (mi1 x) mine h ((mi_fit1 x).more (by omega)) (by decide)
        rw [mi_2] at h2
        exact h2
      have H3 : Hid (∀ W S b, R W S b (mi2 x) → Calls Try.prog 15 #[ptr b, .string mine, .string y] W (Wrote R S b (mi3 x y) W (.int .i64 0))) := fun W S b h => by
        have h2 := hK.append W S b (mi2 x) mine y h ((mi_fit2 x).more (by omega)) (by decide) (by omega)
        rw [mi_3] at h2
        exact h2
      have HF3 : Hid (Fit 1000 (mi3 x y)) := (mi_fit3 x y).more (by omega)
      clear h5
      go_wp2_with fail
      refine (hK.new _).mono ?_
      rintro e w3 ⟨b, S3, rfl, hr3, hS3, hb3⟩
      have HT3 : Hid (St R w2 w3 S3 b newV) := ⟨hb3, hS3, hr3⟩
      clear hr3 hS3 hb3 c0 c1
      have c0 := (HT3.out.below.cell (p := ⟨w.heap.size, 0, none⟩) (by show w.heap.size < _; omega)).trans HC20.out
      go_wp2_with fail
      refine (H1.out _ S3 b HT3.out.has).mono ?_
      rintro e w4 hw
      obtain ⟨S4, rfl, hT4, _⟩ := HT3.out.wrote hw
      have HT4 := Lib.hid hT4
      clear hw hT4 c0
      go_wp2_with fail
      refine (H2.out _ S4 b HT4.out.has).mono ?_
      rintro e w5 hw
      obtain ⟨S5, rfl, hT5, _⟩ := HT4.out.wrote hw
      have HT5 := Lib.hid hT5
      have c1 := (HT5.out.below.cell (p := ⟨w.heap.size, 1, none⟩) (by show w.heap.size < _; omega)).trans HC21.out
      clear hw hT5
      go_wp2_with fail
      refine (H3.out _ S5 b HT5.out.has).mono ?_
      rintro e w6 hw
      obtain ⟨S6, rfl, hT6, _⟩ := HT5.out.wrote hw
      have HT6 := Lib.hid hT6
      clear hw hT6 c1
      have HMO := Lib.hid (mi_own x y)
      go_wp2_with fail
      go_loopw [47] (fun i wr => ∃ (k : Nat) (S : Nat → Prop) (D : DD), k ≤ n ∧ i = .int .i64 k ∧ Hid (St R w2 wr S b D) ∧ Hid (Own mine x y D) ∧ Hid (Fit (1000 + tot (t.take k)) D)) (fun i _ => n - (intOf i).toNat)
      case atStart => exact ⟨0, S6, mi3 x y, Nat.zero_le _, rfl, HT6.out, HMO.out, HF3.out.more (by omega)⟩
      case round =>
        obtain ⟨k, S, D, hk, rfl, HT, HOW, HFI⟩ := hrel
        clear HT3 HT4 HT5 HT6 HMO H1 H2 H3
        by_cases hlt : k < n
        · have hki : (k : Int) < n := by omega
          have hxk : t[k]? = some (t[k]'(by rw [HN.out]; exact hlt)) := List.getElem?_eq_getElem _
          generalize t[k]'(by rw [HN.out]; exact hlt) = a at hxk
          have HXR : Hid (ARow wr w.heap.size A t) := HX2.out.below HT.out.below (by omega)
          obtain ⟨b1, o1, rfl, hb1, hcs⟩ := HXR.out.1 k a hxk
          have c0 := hcs 0 (.int .i64 a.kind) rfl
          rw [Nat.add_zero] at c0
          have c1 := hcs 1 (.int .i64 a.num) rfl
          have c2 := hcs 2 (.string a.name) rfl
          have c3 := hcs 3 (.string a.to) rfl
          have c4 := hcs 4 (.string a.data) rfl
          have c5 := hcs 5 (.slice a.pa a.pn a.pcap) rfl
          have ha := HOK.out a (List.mem_of_getElem? hxk)
          have HAO := Lib.hid ha
          have hwt := tot_mem (List.mem_of_getElem? hxk)
          have had : a.data.size ≤ 10000 := by have := HTO.out; unfold wgt at hwt; omega
          have HSN := Lib.hid (tot_snoc hxk)
          have hsum : tot (t.take k) + wgt a ≤ 3000 := by have := tot_take t (k + 1); rw [HSN.out] at this; have := HTO.out; omega
          clear hcs hxk ha hwt
          by_cases p1 : a.name = mine
          · have e1 : (a.name.toList == [109, 105, 110, 101]) = true := by rw [mineB]; exact decide_eq_true p1
            clear p1
            go_wp2_with fail
            go_ret
            exact ⟨rfl, HB2.out.trans ((HT.out.alloc hK _).below.mono (by omega))⟩
          · have e1 : (a.name.toList == [109, 105, 110, 101]) = false := by rw [mineB]; exact decide_eq_false p1
            by_cases p2 : a.to = mine
            · have e2 : (a.to.toList == [109, 105, 110, 101]) = true := by rw [mineB]; exact decide_eq_true p2
              clear p1 p2
              go_wp2_with fail
              go_ret
              exact ⟨rfl, HB2.out.trans ((HT.out.alloc hK _).below.mono (by omega))⟩
            · have e2 : (a.to.toList == [109, 105, 110, 101]) = false := by rw [mineB]; exact decide_eq_false p2
              by_cases p4 : a.kind = 4
              · have e4 : (a.kind == 4) = true := beq_iff_eq.2 p4
                clear p1 p2
                go_wp2_with fail
                go_ret
                exact ⟨rfl, HB2.out.trans ((HT.out.alloc hK _).below.mono (by omega))⟩
              · have e4 : (a.kind == 4) = false := beq_eq_false_iff_ne.2 p4
                have HP1 := Lib.hid p1
                have HP2 := Lib.hid p2
                have HP4 := Lib.hid p4
                clear p1 p2 p4
                have HXS : Hid (∀ (q : Nat), S q → q < wr.heap.size) := hK.inside HT.out.has
                have hw2 := HT.out.below.size
                go_wp2_with fail
                obtain ⟨w7, hw7⟩ : ∃ w7, w7 = wr.alloc (.cells #[.int .i64 a.kind, .int .i64 a.num, .string a.name, .string a.to, .string a.data, .slice a.pa a.pn a.pcap] 33) := ⟨_, rfl⟩
                rw [← hw7]
                have hs7 : w7.heap.size = wr.heap.size + 1 := by rw [hw7]; simp
                have HT7 : Hid (St R w2 w7 S b D) := by rw [hw7]; exact HT.out.alloc hK _
                have HR7 : Hid (Row w7 wr.heap.size 33 (encA a)) := by rw [hw7]; exact Row.new_at _ _ _ _ rfl rfl
                clear hw7 c0 c1 c2 c3 c4 c5 e1 e2 e4
                have HCE : Hid (∀ W, Row W wr.heap.size 33 (encA a) → W.cell? ⟨wr.heap.size, 0, none⟩ = some (.int .i64 a.kind) ∧ W.cell? ⟨wr.heap.size, 1, none⟩ = some (.int .i64 a.num) ∧ W.cell? ⟨wr.heap.size, 2, none⟩ = some (.string a.name) ∧ W.cell? ⟨wr.heap.size, 3, none⟩ = some (.string a.to) ∧ W.cell? ⟨wr.heap.size, 4, none⟩ = some (.string a.data) ∧ W.cell? ⟨wr.heap.size, 5, none⟩ = some (.slice a.pa a.pn a.pcap)) := fun W h => ⟨h.cell 0, h.cell 1, h.cell 2, h.cell 3, h.cell 4, h.cell 5⟩
                have HDO : Hid (∀ W, Below w7.heap.size w7 W → Calls Try.prog 11 #[ptr b, dval none 0 0 (-1), .agg #[.int .i64 a.kind, .int .i64 a.num, .string a.name, .string a.to, .string a.data, .slice a.pa a.pn a.pcap]] W fun e w' => ∃ v S', e = .returned v ∧ St R w2 w' S' b (stepV D a).1 ∧ Row w' wr.heap.size 33 (encA a)) := fun W hW => by
                  have hst := HT7.out.later hK hW
                  refine (do_any hK S b D newV none 0 0 a W hst.has (HFI.out.more (by omega)) (fit_new _) HAO.out had rfl (fun j z hz => by simp [newV] at hz) (fun q hq => by cases hq)).mono fun e w' ⟨S', A', m', cp', he, hr, hq, ha, _⟩ => ⟨_, S', he, hst.acted hr hq ha, ?_⟩
                  exact row_away (HR7.out.below hW (by omega)) ha (fun h => Nat.lt_irrefl _ (HXS.out _ h))
                have H0 := Lib.hid (Below.refl w7.heap.size w7).drew
                have hS0 := HCE.out _ (HR7.out.below H0.out (by omega))
                go_region_held3 (fun W : World => W.cell? ⟨wr.heap.size, 0, none⟩ = some (.int .i64 a.kind) ∧ W.cell? ⟨wr.heap.size, 1, none⟩ = some (.int .i64 a.num) ∧ W.cell? ⟨wr.heap.size, 2, none⟩ = some (.string a.name) ∧ W.cell? ⟨wr.heap.size, 3, none⟩ = some (.string a.to) ∧ W.cell? ⟨wr.heap.size, 4, none⟩ = some (.string a.data) ∧ W.cell? ⟨wr.heap.size, 5, none⟩ = some (.slice a.pa a.pn a.pcap))
                  (first | exact hS0 | assumption)
                  ((first
                    | (go_at_call 10; (refine Calls.mono (refnew_any _) ?_); rintro e wa ⟨rfl, hba⟩; have hb7 : Below w7.heap.size w7 wa := H0.out.trans hba; have hSa := HCE.out _ (HR7.out.below hb7 (by omega)))
                    | (go_at_call 11; (refine Calls.mono (HDO.out _ hb7) ?_); rintro e wc ⟨v, S8, rfl, hst8, hrw8⟩; have hSc := HCE.out _ hrw8)))
                have HT8 := Lib.hid hst8
                clear hst8 hrw8 hSc hSa hS0 hba hb7
                have HO8 := Lib.hid (own_step HFI.out HOW.out a HP1.out HP2.out HP4.out)
                have HF8 := Lib.hid (fit_step HFI.out a HAO.out.num.2)
                have HRD := Lib.hid (hK.read _ S8 b _ mine HT8.out.has (HF8.out.more (by omega)) (by decide))
                rw [own_read HO8.out] at HRD
                have hee : ((x ++ y).toList == (x ++ y).toList) = true := beq_self_eq_true _
                go_wp2_with fail
                refine HRD.out.mono ?_
                rintro e w9 ⟨rfl, hb9⟩
                have HT9 := Lib.hid (HT8.out.later hK hb9)
                clear hb9
                have c0 := (HT9.out.below.cell (p := ⟨w.heap.size, 0, none⟩) (by show w.heap.size < _; omega)).trans HC20.out
                have c1 := (HT9.out.below.cell (p := ⟨w.heap.size, 1, none⟩) (by show w.heap.size < _; omega)).trans HC21.out
                go_wp2_with fail
                go_roundw
                case rel => exact ⟨k + 1, S8, (stepV D a).1, by omega, by go_num, HT9.out, HO8.out, by have := HF8.out; rw [HSN.out]; exact this.more (by omega)⟩
                case measure => simp [intOf]; omega
        · obtain rfl : k = n := by omega
          have HFX : Hid (Fits D) := HFI.out.more (by have := HTO.out; have := tot_take t k; omega)
          have HCR := Lib.hid (hK.crash wr S b D none 0 0 [] HT.out.has HFX.out rfl (Nat.le_refl _) (by decide) (by simp) (KRow.none_ _ _ _))
          have HRE : Hid (readV ⟨crashV D.files [], -1⟩ mine = (x, 0)) := by
            show _ = _
            obtain ⟨g, h1, h2⟩ := own_crash HFI.out HOW.out
            unfold readV
            rw [h1]
            show (g.data, 0) = (x, 0)
            rw [h2]
          have hee : (x.toList == x.toList) = true := beq_self_eq_true _
          go_wp2_with fail
          refine HCR.out.mono ?_
          rintro e w9 ⟨b9, S9, rfl, hr9, hS9, hb9⟩
          have HRD := Lib.hid (hK.read w9 S9 b9 _ mine hr9 (fit_crash HFX.out []) (by decide))
          rw [HRE.out] at HRD
          have HB9 := Lib.hid (HT.out.below.trans (hb9.mono HT.out.below.size))
          clear hr9 hS9 hb9
          go_wp2_with fail
          refine HRD.out.mono ?_
          rintro e w10 ⟨rfl, hb10⟩
          have HB10 := Lib.hid (HB9.out.trans (hb10.mono HB9.out.size))
          clear hb10
          have c0 := (HB10.out.cell (p := ⟨w.heap.size, 0, none⟩) (by show w.heap.size < _; omega)).trans HC20.out
          go_wp2_with fail
          go_ret
          exact ⟨rfl, HB2.out.trans (HB10.out.mono (by omega))⟩
end Dk
end Go.Proofs.Yteikfdijcepimaa
