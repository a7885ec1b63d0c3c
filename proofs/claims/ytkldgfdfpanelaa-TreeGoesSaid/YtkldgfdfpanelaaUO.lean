/-
  Layer 5 (tree): the walk of law Goes.
-/
import Derived.Test.YtkldgfdfpanelaaUN
import Derived.Test.YtkldgfdfpanelaaUC
namespace Go.Proofs.Ytkldgfdfpanelaa
namespace Tr
open Go.RowKit Go.ChangeShapes Pt

set_option maxRecDepth 100000 in
set_option maxHeartbeats 8000000 in
theorem goes_law (hP : PPaths) (hD : PDiff) (hU : PPut) (hR : PDrop) (A A' : Option Addr) (cap cap' n m : Nat) (a b : List Fl) (w : World) (hn : a.length = n) (hm : b.length = m) (hcp : n ≤ cap) (hcm : m ≤ cap') (hnm : n ≤ 9223372036854775807) (hmm : m ≤ 9223372036854775807) (hA0 : A = none → cap = 0) (hx : FRow w w.heap.size A a) (hy : FRow w w.heap.size A' b) :
    Calls Try.prog 7 #[.slice A n cap, .slice A' m cap'] w fun e w' => e = .returned (.bool true) ∧ Below w.heap.size w w' := by
  obtain ⟨i0, hi, hz0, hz1, hz2⟩ := info_parts fileInfo
  have HX := Lib.hid hx
  have HY := Lib.hid hy
  have HXN : Hid (∀ W, Below w.heap.size w W → FRow W W.heap.size A a) := fun W hW => (HX.out.keep fun q hq => hW.cell hq).more hW.size
  have HYN : Hid (∀ W, Below w.heap.size w W → FRow W W.heap.size A' b) := fun W hW => (HY.out.keep fun q hq => hW.cell hq).more hW.size
  have HF := Lib.hid (fun W => fixed_any hP W)
  have HM := Lib.hid hm
  have HN := Lib.hid hn
  obtain ⟨g1, hg1⟩ : ∃ c, greatV a = c := ⟨_, rfl⟩
  obtain ⟨g2, hg2⟩ : ∃ c, greatV b = c := ⟨_, rfl⟩
  have HG1 := Lib.hid (great_any A cap w.heap.size n a g1 hg1 w hn hnm hx)
  have HG2 := Lib.hid (fun W (h : FRow W W.heap.size A' b) => great_any A' cap' W.heap.size m b g2 hg2 W hm hmm h)
  cases g1
  · cases g2
    · have hf1 := few_of hg1
      have hf2 := few_of hg2
      have HS1 := Lib.hid (small_of hg1)
      have HS2 := Lib.hid (small_of hg2)
      by_cases h30 : 30 < n
      · have h30i : (30 : Int) < n := by omega
        clear hx hy hg1 hg2 hn hm hP hD hU hR hA0
        go_enter Try.func7, Try.ntmps7
        go_wp2_with fail
        refine HG1.out.mono ?_
        rintro e w1 ⟨rfl, d1, hw1⟩
        have HB1 : Hid (Below w.heap.size w w1) := by rw [hw1]; exact below_drewN (Below.refl _ _) _
        clear hw1
        go_wp2_with fail
        refine (HG2.out _ (HYN.out _ HB1.out)).mono ?_
        rintro e w2 ⟨rfl, d2, hw2⟩
        have HB2 : Hid (Below w.heap.size w w2) := by rw [hw2]; exact below_drewN HB1.out _
        clear hw2
        go_wp2_with fail
        refine (HF.out _).mono ?_
        rintro e w9 ⟨rfl, hb9⟩
        have HB9 := Lib.hid (HB2.out.trans (hb9.mono HB2.out.size))
        clear hb9
        go_wp2_with fail
        go_ret
        exact ⟨rfl, HB9.out⟩
      · have h30i : ¬ (30 : Int) < n := by omega
        have h30d : decide ((30 : Int) < n) = false := decide_eq_false h30i
        by_cases h31 : 30 < m
        · have h31i : (30 : Int) < m := by omega
          clear hx hy hg1 hg2 hn hm hP hD hU hR hA0
          go_enter Try.func7, Try.ntmps7
          go_wp2_with fail
          refine HG1.out.mono ?_
          rintro e w1 ⟨rfl, d1, hw1⟩
          have HB1 : Hid (Below w.heap.size w w1) := by rw [hw1]; exact below_drewN (Below.refl _ _) _
          clear hw1
          go_wp2_with fail
          refine (HG2.out _ (HYN.out _ HB1.out)).mono ?_
          rintro e w2 ⟨rfl, d2, hw2⟩
          have HB2 : Hid (Below w.heap.size w w2) := by rw [hw2]; exact below_drewN HB1.out _
          clear hw2
          go_wp2_with fail
          refine (HF.out _).mono ?_
          rintro e w9 ⟨rfl, hb9⟩
          have HB9 := Lib.hid (HB2.out.trans (hb9.mono HB2.out.size))
          clear hb9
          go_wp2_with fail
          go_ret
          exact ⟨rfl, HB9.out⟩
        · have h31i : ¬ (30 : Int) < m := by omega
          have h31d : decide ((30 : Int) < m) = false := decide_eq_false h31i
          obtain ⟨c1, hc1⟩ : ∃ c, tcheck a = c := ⟨_, rfl⟩
          obtain ⟨c2, hc2⟩ : ∃ c, tcheck b = c := ⟨_, rfl⟩
          have HC1 := Lib.hid (fun W (h : FRow W W.heap.size A a) => refcheck_any A cap W.heap.size n a c1 hc1 W hn (by omega) (fun f hf => by have := (hf1.2 f hf).1; omega) h (Nat.le_refl _))
          have HC2 := Lib.hid (fun W (h : FRow W W.heap.size A' b) => refcheck_any A' cap' W.heap.size m b c2 hc2 W hm (by omega) (fun f hf => by have := (hf2.2 f hf).1; omega) h (Nat.le_refl _))
          by_cases h1 : c1 = 0
          · have h1i : ((c1 : Int) != 0) = false := by subst h1; rfl
            have h1j : ((c1 : Int) == 0) = true := by subst h1; rfl
            by_cases h2 : c2 = 0
            · have h2i : ((c2 : Int) != 0) = false := by subst h2; rfl
              have h2j : ((c2 : Int) == 0) = true := by subst h2; rfl
              subst h1 h2
              have HT := Lib.hid (diff_tells hc1 hc2)
              obtain ⟨D, hDD⟩ : ∃ D, diffV a b = D := ⟨_, rfl⟩
              rw [hDD] at HT
              have hDl : D.length ≤ 60 := by rw [← hDD]; have := diff_len a b; omega
              have HD1 := Lib.hid (fun W (h : FRow W W.heap.size A a) (h2 : FRow W W.heap.size A' b) => hD A A' cap cap' n m a b W hcp hcm hn hm hf1 hf2 h h2)
              rw [hDD] at HD1
              have HK := Lib.hid hc1
              have HK2 := Lib.hid hc2
              have HPU := Lib.hid hU
              have HPR := Lib.hid hR
              have HGS : Hid (Gone a b D 0 a) := gone_start hc1 (by omega) HS1.out
              have HGE : Hid (∀ k t, D.length ≤ k → Gone a b D k t → t = b) := fun k t hk h => gone_end hc2 HT.out hk h
              have HGET := Lib.hid (fun W (p X : ByteArray) (y : Bs) (hX : X.data.toList = y) (hy : get b p.data.toList = some y) (h : FRow W W.heap.size A' b) => refget_any A' cap' W.heap.size m b p X true (by rw [hy]; exact hX) (by rw [hy]; rfl) W hm hmm h)
              have HDL := Lib.hid hDl
              have HA0 := Lib.hid hA0
              clear hx hy hg1 hg2 hn hm hP hD hU hR hA0 hc1 hc2 hf1 hf2 hDD hDl
              go_enter Try.func7, Try.ntmps7
              go_wp2_with fail
              refine HG1.out.mono ?_
              rintro e w1 ⟨rfl, d1, hw1⟩
              have HB1 : Hid (Below w.heap.size w w1) := by rw [hw1]; exact below_drewN (Below.refl _ _) _
              clear hw1
              go_wp2_with fail
              refine (HG2.out _ (HYN.out _ HB1.out)).mono ?_
              rintro e w2 ⟨rfl, d2, hw2⟩
              have HB2 : Hid (Below w.heap.size w w2) := by rw [hw2]; exact below_drewN HB1.out _
              clear hw2
              go_wp2_with fail
              refine (HC1.out _ (HXN.out _ HB2.out)).mono ?_
              rintro e w3 ⟨rfl, hb3⟩
              have HB3 := Lib.hid (HB2.out.trans (hb3.mono HB2.out.size))
              clear hb3
              go_wp2_with fail
              refine (HC2.out _ (HYN.out _ HB3.out)).mono ?_
              rintro e w4 ⟨rfl, hb4⟩
              have HB4 := Lib.hid (HB3.out.trans (hb4.mono HB3.out.size))
              clear hb4
              go_wp2_with fail
              refine (HD1.out _ (HXN.out _ HB4.out) (HYN.out _ HB4.out)).mono ?_
              rintro e w5 ⟨A3, m3, c3, rfl, hm3, hr3, hb5⟩
              have HB5 : Hid (Below w.heap.size w w5) := HB4.out.trans (hb5.mono HB4.out.size)
              have HR5 := Lib.hid hr3
              have HM3 := Lib.hid hm3
              have hm3n : m3 ≤ 60 := by rw [← hm3]; exact HDL.out
              clear hb5 hr3 hm3
              have HB6 : Hid (Below w.heap.size w (w5.alloc (.cells #[] 29))) := HB5.out.alloc HB5.out.size _
              have HR6 : Hid (CRow (w5.alloc (.cells #[] 29)) w5.heap.size A3 D) := HR5.out.keep fun q hq => World.cell?_alloc_lt w5 _ _ hq
              have ho6 : OwnsF (w5.alloc (.cells #[] 29)) w5.heap.size (.slice (some ⟨w5.heap.size, 0, none⟩) 0 0) [] :=
                World.ownsRow_lit (base := w5.heap.size) (e := 29) (size := 2) w5 #[] 0 (Nat.le_refl _) (by decide) rfl
              have HO6 := Lib.hid ho6
              clear ho6
              cases A with
              | none =>
                obtain rfl : cap = 0 := HA0.out rfl
                obtain rfl : n = 0 := by omega
                have HAE : Hid (a = []) := List.eq_nil_of_length_eq_zero HN.out
                go_wp2_with fail
                go_loopw [6, 7] (fun vt i wr => ∃ (k mt ct : Nat) (At : Option Addr) (t : List Fl), k ≤ m3 ∧ i = .int .i64 k ∧ vt = .slice At mt ct ∧ Hid (t.length = mt) ∧ Hid (FRow wr wr.heap.size At t) ∧ Hid (Gone a b D k t) ∧ Hid (CRow wr wr.heap.size A3 D) ∧ Hid (Below w.heap.size w wr)) (fun _ i _ => m3 - (intOf i).toNat)
                case atStart => exact ⟨0, 0, 0, _, a, Nat.zero_le _, rfl, rfl, HN.out, by rw [HAE.out]; exact FRow.none_ _ _ _, HGS.out, HR6.out.more (by simp), HB6.out⟩
                case round =>
                  obtain ⟨k, mt, ct, At, t, hk, rfl, rfl, HLT, HRT, HGO, HRC, HBW⟩ := hrel
                  skip
                  by_cases hlt : k < m3
                  · have hki : (k : Int) < m3 := by omega
                    have hck : D[k]? = some (D[k]'(by rw [HM3.out]; exact hlt)) := List.getElem?_eq_getElem _
                    generalize D[k]'(by rw [HM3.out]; exact hlt) = c at hck
                    obtain ⟨bc, oc, sc, rfl, hbc, hsc, cP, cK⟩ := HRC.out k c hck
                    have hcm' := List.mem_of_getElem? hck
                    have hscs : sc.size ≤ 300 := by
                      have := tells_size HT.out HS1.out HS2.out hcm'
                      rw [← hsc, data_length] at this
                      exact this
                    obtain ⟨hmay, hgone, hbe⟩ := tells_may HK.out HK2.out HT.out hcm'
                    rw [← hsc] at hmay hgone hbe
                    have HMY := Lib.hid (fun W => refmay_any sc true hmay W (by omega))
                    have HFEW := Lib.hid (gone_few (by omega : k ≤ 900) HGO.out)
                    have HCN : Hid (∀ W, Below wr.heap.size wr W → W.cell? ⟨bc, oc + k * 2, none⟩ = some (.string sc) ∧ W.cell? ⟨bc, oc + k * 2 + 1, none⟩ = some (.int .i64 c.2) ∧ Hid (CRow W W.heap.size (some ⟨bc, oc, none⟩) D) ∧ Hid (FRow W W.heap.size At t) ∧ Hid (Below w.heap.size w W)) := fun W hW =>
                      ⟨(hW.cell (p := ⟨bc, oc + k * 2, none⟩) hbc).trans cP, (hW.cell (p := ⟨bc, oc + k * 2 + 1, none⟩) hbc).trans cK, (HRC.out.keep fun q hq => hW.cell hq).more hW.size, (HRT.out.keep fun q hq => hW.cell hq).more hW.size, HBW.out.trans (hW.mono HBW.out.size)⟩
                    by_cases h2 : c.2 = 2
                    · have h2i : ((c.2 : Int) == 2) = true := by rw [h2]; rfl
                      have HGN : Hid (Gone a b D (k + 1) (dropV t sc.data.toList)) := by
                        show Gone _ _ _ _ _
                        rw [hsc]
                        exact gone_drop hck HGO.out (by rw [← hsc]; exact hgone h2)
                      clear hck hsc hcm' hmay hgone hbe
                      go_wp2_with fail
                      refine (HMY.out _).mono ?_
                      rintro e wa ⟨rfl, hba⟩
                      obtain ⟨f1, f2, HRCa, HRTa, HBa⟩ := HCN.out _ hba
                      clear hba
                      go_wp2_with fail
                      refine (HPR.out At ct mt t sc wa HLT.out HFEW.out HRTa.out (by omega)).mono ?_
                      rintro e wb ⟨Ab, mb, cb, rfl, hmb, hrb, hbb⟩
                      have HRTb := Lib.hid hrb
                      have HLTb := Lib.hid hmb
                      have HRCb : Hid (CRow wb wb.heap.size (some ⟨bc, oc, none⟩) D) := (HRCa.out.keep fun q hq => hbb.cell hq).more hbb.size
                      have HBb : Hid (Below w.heap.size w wb) := HBa.out.trans (hbb.mono HBa.out.size)
                      clear hrb hmb hbb
                      go_wp2
                      go_roundw
                      case rel => exact ⟨k + 1, mb, cb, Ab, _, by omega, by go_num, rfl, HLTb.out, HRTb.out, HGN.out, HRCb.out, HBb.out⟩
                      case measure => simp [intOf]; omega
                    · have h2i : ((c.2 : Int) == 2) = false := beq_eq_false_iff_ne.2 (by omega)
                      obtain ⟨y, hyb⟩ := hbe h2
                      have HGN : Hid (Gone a b D (k + 1) (putV t (sc.data.toList, y))) := by
                        show Gone _ _ _ _ _
                        rw [hsc]
                        exact gone_put hck (by omega) HGO.out HK2.out HS2.out (by rw [← hsc]; exact hyb)
                      obtain ⟨X, hXy⟩ : ∃ X : ByteArray, X.data.toList = y := ⟨⟨y.toArray⟩, by simp⟩
                      have hXs : X.size ≤ 300 := by
                        have h1 := (HS2.out _ (get_mem hyb)).2
                        have h1' : y.length ≤ 300 := h1
                        rw [← hXy, data_length] at h1'
                        exact h1'
                      have HGT := Lib.hid (fun W h => HGET.out W sc X y hXy hyb h)
                      rw [← hXy] at HGN
                      clear hck hsc hcm' hmay hgone hbe hyb hXy
                      go_wp2_with fail
                      refine (HMY.out _).mono ?_
                      rintro e wa ⟨rfl, hba⟩
                      obtain ⟨f1, f2, HRCa, HRTa, HBa⟩ := HCN.out _ hba
                      have HCA : Hid (Below wr.heap.size wr wa) := hba
                      clear hba
                      go_wp2_with fail
                      refine (HGT.out _ (HYN.out _ HBa.out)).mono ?_
                      rintro e wc ⟨rfl, dc, hwc⟩
                      obtain ⟨f3, f4, HRCc, HRTc, HBc⟩ := HCN.out wc (by rw [hwc]; exact below_drewN HCA.out _)
                      clear hwc f1 f2
                      go_wp2_with fail
                      refine (HPU.out At ct mt t sc X wc HLT.out HFEW.out HRTc.out (by omega) (by omega)).mono ?_
                      rintro e wb ⟨Ab, mb, cb, rfl, hmb, hrb, hbb⟩
                      have HRTb := Lib.hid hrb
                      have HLTb := Lib.hid hmb
                      have HRCb : Hid (CRow wb wb.heap.size (some ⟨bc, oc, none⟩) D) := (HRCc.out.keep fun q hq => hbb.cell hq).more hbb.size
                      have HBb : Hid (Below w.heap.size w wb) := HBc.out.trans (hbb.mono HBc.out.size)
                      clear hrb hmb hbb
                      go_wp2
                      go_roundw
                      case rel => exact ⟨k + 1, mb, cb, Ab, _, by omega, by go_num, rfl, HLTb.out, HRTb.out, HGN.out, HRCb.out, HBb.out⟩
                      case measure => simp [intOf]; omega
                  · obtain rfl : k = m3 := by omega
                    have HE : Hid (t = b) := HGE.out k t (by rw [HM3.out]; exact Nat.le_refl _) HGO.out
                    have hmt : mt ≤ 1000 := by rw [← HLT.out]; exact (gone_few (by omega : k ≤ 900) HGO.out).1
                    have HSA := Lib.hid (fun W (h : FRow W W.heap.size At t) (h2 : FRow W W.heap.size A' b) => same_any At A' ct cap' W.heap.size mt m t b true (decide_eq_true HE.out) W HLT.out HM.out (by omega) hmm h h2)
                    go_wp2_with fail
                    refine (HSA.out _ HRT.out (HYN.out _ HBW.out)).mono ?_
                    rintro e wd ⟨rfl, dd, hwd⟩
                    have HBd : Hid (Below w.heap.size w wd) := by rw [hwd]; exact below_drewN HBW.out _
                    clear hwd
                    go_wp2_with fail
                    refine (HF.out _).mono ?_
                    rintro e we ⟨rfl, hbe⟩
                    have HBe := Lib.hid (HBd.out.trans (hbe.mono HBd.out.size))
                    clear hbe
                    go_wp2_with fail
                    go_ret
                    exact ⟨rfl, HBe.out⟩
              | some ad =>
                have HXC : Hid (∀ j u, (cellsF a)[j]? = some u → (w5.alloc (.cells #[] 29)).cell? (ad.add j) = some u) := (HXN.out _ HB6.out).cells
                go_wp2_with (at_builtin; refine wpList_append_own _ rfl _ _ 22 rfl (w5.heap.size) 29 i0 (.agg #[.string ⟨#[]⟩, .string ⟨#[]⟩]) 2 32 Try.underlying22 hi hz0 hz1 hz2 rfl (by decide) _ 0 (cellsF []) rfl ?c0a ad n cap (cellsF a) rfl ?c1l ?c1a ?c2a ?c3a ?c4a ?c5a ?_)
                case c0a => exact HO6.out
                case c1l => rw [cellsF_length, HN.out]
                case c1a => exact HXC.out
                case c2a => exact cellsF_one a
                case c3a => simp only [maxLen]; omega
                case c4a => omega
                case c5a => simp
                intro v' w7 hown' hgrow _
                have HO7 : Hid (OwnsF w7 w5.heap.size v' a) := by
                  show OwnsF _ _ _ _
                  unfold OwnsF
                  rw [HN.out]; exact hown'
                obtain ⟨A7, cap7, hv⟩ := OwnsF.form HO7.out
                rw [HN.out] at hv
                subst hv
                have hb7 : Below w5.heap.size (w5.alloc (.cells #[] 29)) w7 := (Below.refl _ _).grown hgrow (by simp) (fun q hq => (HO6.out.lt q hq).1)
                have HB7 : Hid (Below w.heap.size w w7) := HB6.out.trans (hb7.mono HB5.out.size)
                have hs7 : w5.heap.size ≤ w7.heap.size := by have := hb7.size; simp at this; omega
                have HR7 : Hid (CRow w7 w7.heap.size A3 D) := (HR6.out.keep fun q hq => hb7.cell hq).more hs7
                have HF7 : Hid (FRow w7 w7.heap.size A7 a) := HO7.out.row
                clear hown' hgrow hb7
                go_wp2_with fail
                go_loopw [6, 7] (fun vt i wr => ∃ (k mt ct : Nat) (At : Option Addr) (t : List Fl), k ≤ m3 ∧ i = .int .i64 k ∧ vt = .slice At mt ct ∧ Hid (t.length = mt) ∧ Hid (FRow wr wr.heap.size At t) ∧ Hid (Gone a b D k t) ∧ Hid (CRow wr wr.heap.size A3 D) ∧ Hid (Below w.heap.size w wr)) (fun _ i _ => m3 - (intOf i).toNat)
                case atStart => exact ⟨0, n, cap7, A7, a, Nat.zero_le _, rfl, rfl, HN.out, HF7.out, HGS.out, HR7.out, HB7.out⟩
                case round =>
                  obtain ⟨k, mt, ct, At, t, hk, rfl, rfl, HLT, HRT, HGO, HRC, HBW⟩ := hrel
                  clear HR7 HF7
                  by_cases hlt : k < m3
                  · have hki : (k : Int) < m3 := by omega
                    have hck : D[k]? = some (D[k]'(by rw [HM3.out]; exact hlt)) := List.getElem?_eq_getElem _
                    generalize D[k]'(by rw [HM3.out]; exact hlt) = c at hck
                    obtain ⟨bc, oc, sc, rfl, hbc, hsc, cP, cK⟩ := HRC.out k c hck
                    have hcm' := List.mem_of_getElem? hck
                    have hscs : sc.size ≤ 300 := by
                      have := tells_size HT.out HS1.out HS2.out hcm'
                      rw [← hsc, data_length] at this
                      exact this
                    obtain ⟨hmay, hgone, hbe⟩ := tells_may HK.out HK2.out HT.out hcm'
                    rw [← hsc] at hmay hgone hbe
                    have HMY := Lib.hid (fun W => refmay_any sc true hmay W (by omega))
                    have HFEW := Lib.hid (gone_few (by omega : k ≤ 900) HGO.out)
                    have HCN : Hid (∀ W, Below wr.heap.size wr W → W.cell? ⟨bc, oc + k * 2, none⟩ = some (.string sc) ∧ W.cell? ⟨bc, oc + k * 2 + 1, none⟩ = some (.int .i64 c.2) ∧ Hid (CRow W W.heap.size (some ⟨bc, oc, none⟩) D) ∧ Hid (FRow W W.heap.size At t) ∧ Hid (Below w.heap.size w W)) := fun W hW =>
                      ⟨(hW.cell (p := ⟨bc, oc + k * 2, none⟩) hbc).trans cP, (hW.cell (p := ⟨bc, oc + k * 2 + 1, none⟩) hbc).trans cK, (HRC.out.keep fun q hq => hW.cell hq).more hW.size, (HRT.out.keep fun q hq => hW.cell hq).more hW.size, HBW.out.trans (hW.mono HBW.out.size)⟩
                    by_cases h2 : c.2 = 2
                    · have h2i : ((c.2 : Int) == 2) = true := by rw [h2]; rfl
                      have HGN : Hid (Gone a b D (k + 1) (dropV t sc.data.toList)) := by
                        show Gone _ _ _ _ _
                        rw [hsc]
                        exact gone_drop hck HGO.out (by rw [← hsc]; exact hgone h2)
                      clear hck hsc hcm' hmay hgone hbe
                      go_wp2_with fail
                      refine (HMY.out _).mono ?_
                      rintro e wa ⟨rfl, hba⟩
                      obtain ⟨f1, f2, HRCa, HRTa, HBa⟩ := HCN.out _ hba
                      clear hba
                      go_wp2_with fail
                      refine (HPR.out At ct mt t sc wa HLT.out HFEW.out HRTa.out (by omega)).mono ?_
                      rintro e wb ⟨Ab, mb, cb, rfl, hmb, hrb, hbb⟩
                      have HRTb := Lib.hid hrb
                      have HLTb := Lib.hid hmb
                      have HRCb : Hid (CRow wb wb.heap.size (some ⟨bc, oc, none⟩) D) := (HRCa.out.keep fun q hq => hbb.cell hq).more hbb.size
                      have HBb : Hid (Below w.heap.size w wb) := HBa.out.trans (hbb.mono HBa.out.size)
                      clear hrb hmb hbb
                      go_wp2
                      go_roundw
                      case rel => exact ⟨k + 1, mb, cb, Ab, _, by omega, by go_num, rfl, HLTb.out, HRTb.out, HGN.out, HRCb.out, HBb.out⟩
                      case measure => simp [intOf]; omega
                    · have h2i : ((c.2 : Int) == 2) = false := beq_eq_false_iff_ne.2 (by omega)
                      obtain ⟨y, hyb⟩ := hbe h2
                      have HGN : Hid (Gone a b D (k + 1) (putV t (sc.data.toList, y))) := by
                        show Gone _ _ _ _ _
                        rw [hsc]
                        exact gone_put hck (by omega) HGO.out HK2.out HS2.out (by rw [← hsc]; exact hyb)
                      obtain ⟨X, hXy⟩ : ∃ X : ByteArray, X.data.toList = y := ⟨⟨y.toArray⟩, by simp⟩
                      have hXs : X.size ≤ 300 := by
                        have h1 := (HS2.out _ (get_mem hyb)).2
                        have h1' : y.length ≤ 300 := h1
                        rw [← hXy, data_length] at h1'
                        exact h1'
                      have HGT := Lib.hid (fun W h => HGET.out W sc X y hXy hyb h)
                      rw [← hXy] at HGN
                      clear hck hsc hcm' hmay hgone hbe hyb hXy
                      go_wp2_with fail
                      refine (HMY.out _).mono ?_
                      rintro e wa ⟨rfl, hba⟩
                      obtain ⟨f1, f2, HRCa, HRTa, HBa⟩ := HCN.out _ hba
                      have HCA : Hid (Below wr.heap.size wr wa) := hba
                      clear hba
                      go_wp2_with fail
                      refine (HGT.out _ (HYN.out _ HBa.out)).mono ?_
                      rintro e wc ⟨rfl, dc, hwc⟩
                      obtain ⟨f3, f4, HRCc, HRTc, HBc⟩ := HCN.out wc (by rw [hwc]; exact below_drewN HCA.out _)
                      clear hwc f1 f2
                      go_wp2_with fail
                      refine (HPU.out At ct mt t sc X wc HLT.out HFEW.out HRTc.out (by omega) (by omega)).mono ?_
                      rintro e wb ⟨Ab, mb, cb, rfl, hmb, hrb, hbb⟩
                      have HRTb := Lib.hid hrb
                      have HLTb := Lib.hid hmb
                      have HRCb : Hid (CRow wb wb.heap.size (some ⟨bc, oc, none⟩) D) := (HRCc.out.keep fun q hq => hbb.cell hq).more hbb.size
                      have HBb : Hid (Below w.heap.size w wb) := HBc.out.trans (hbb.mono HBc.out.size)
                      clear hrb hmb hbb
                      go_wp2
                      go_roundw
                      case rel => exact ⟨k + 1, mb, cb, Ab, _, by omega, by go_num, rfl, HLTb.out, HRTb.out, HGN.out, HRCb.out, HBb.out⟩
                      case measure => simp [intOf]; omega
                  · obtain rfl : k = m3 := by omega
                    have HE : Hid (t = b) := HGE.out k t (by rw [HM3.out]; exact Nat.le_refl _) HGO.out
                    have hmt : mt ≤ 1000 := by rw [← HLT.out]; exact (gone_few (by omega : k ≤ 900) HGO.out).1
                    have HSA := Lib.hid (fun W (h : FRow W W.heap.size At t) (h2 : FRow W W.heap.size A' b) => same_any At A' ct cap' W.heap.size mt m t b true (decide_eq_true HE.out) W HLT.out HM.out (by omega) hmm h h2)
                    go_wp2_with fail
                    refine (HSA.out _ HRT.out (HYN.out _ HBW.out)).mono ?_
                    rintro e wd ⟨rfl, dd, hwd⟩
                    have HBd : Hid (Below w.heap.size w wd) := by rw [hwd]; exact below_drewN HBW.out _
                    clear hwd
                    go_wp2_with fail
                    refine (HF.out _).mono ?_
                    rintro e we ⟨rfl, hbe⟩
                    have HBe := Lib.hid (HBd.out.trans (hbe.mono HBd.out.size))
                    clear hbe
                    go_wp2_with fail
                    go_ret
                    exact ⟨rfl, HBe.out⟩
            · have h2i : ((c2 : Int) != 0) = true := by simp; omega
              have h2j : ((c2 : Int) == 0) = false := beq_eq_false_iff_ne.2 (by omega)
              clear hx hy hg1 hg2 hn hm hP hD hU hR hA0 hc1 hc2 h1 h2 hf1 hf2
              go_enter Try.func7, Try.ntmps7
              go_wp2_with fail
              refine HG1.out.mono ?_
              rintro e w1 ⟨rfl, d1, hw1⟩
              have HB1 : Hid (Below w.heap.size w w1) := by rw [hw1]; exact below_drewN (Below.refl _ _) _
              clear hw1
              go_wp2_with fail
              refine (HG2.out _ (HYN.out _ HB1.out)).mono ?_
              rintro e w2 ⟨rfl, d2, hw2⟩
              have HB2 : Hid (Below w.heap.size w w2) := by rw [hw2]; exact below_drewN HB1.out _
              clear hw2
              go_wp2_with fail
              refine (HC1.out _ (HXN.out _ HB2.out)).mono ?_
              rintro e w3 ⟨rfl, hb3⟩
              have HB3 := Lib.hid (HB2.out.trans (hb3.mono HB2.out.size))
              clear hb3
              go_wp2_with fail
              refine (HC2.out _ (HYN.out _ HB3.out)).mono ?_
              rintro e w4 ⟨rfl, hb4⟩
              have HB4 := Lib.hid (HB3.out.trans (hb4.mono HB3.out.size))
              clear hb4
              go_wp2_with fail
              refine (HF.out _).mono ?_
              rintro e w9 ⟨rfl, hb9⟩
              have HB9 := Lib.hid (HB4.out.trans (hb9.mono HB4.out.size))
              clear hb9
              go_wp2_with fail
              go_ret
              exact ⟨rfl, HB9.out⟩
          · have h1i : ((c1 : Int) != 0) = true := by simp; omega
            have h1j : ((c1 : Int) == 0) = false := beq_eq_false_iff_ne.2 (by omega)
            clear hx hy hg1 hg2 hn hm hP hD hU hR hA0 hc1 hc2 h1 hf1 hf2
            go_enter Try.func7, Try.ntmps7
            go_wp2_with fail
            refine HG1.out.mono ?_
            rintro e w1 ⟨rfl, d1, hw1⟩
            have HB1 : Hid (Below w.heap.size w w1) := by rw [hw1]; exact below_drewN (Below.refl _ _) _
            clear hw1
            go_wp2_with fail
            refine (HG2.out _ (HYN.out _ HB1.out)).mono ?_
            rintro e w2 ⟨rfl, d2, hw2⟩
            have HB2 : Hid (Below w.heap.size w w2) := by rw [hw2]; exact below_drewN HB1.out _
            clear hw2
            go_wp2_with fail
            refine (HC1.out _ (HXN.out _ HB2.out)).mono ?_
            rintro e w3 ⟨rfl, hb3⟩
            have HB3 := Lib.hid (HB2.out.trans (hb3.mono HB2.out.size))
            clear hb3
            go_wp2_with fail
            refine (HF.out _).mono ?_
            rintro e w9 ⟨rfl, hb9⟩
            have HB9 := Lib.hid (HB3.out.trans (hb9.mono HB3.out.size))
            clear hb9
            go_wp2_with fail
            go_ret
            exact ⟨rfl, HB9.out⟩
    · clear hx hy hg1 hg2 hn hm hP hD hU hR hA0
      go_enter Try.func7, Try.ntmps7
      go_wp2_with fail
      refine HG1.out.mono ?_
      rintro e w1 ⟨rfl, d1, hw1⟩
      have HB1 : Hid (Below w.heap.size w w1) := by rw [hw1]; exact below_drewN (Below.refl _ _) _
      clear hw1
      go_wp2_with fail
      refine (HG2.out _ (HYN.out _ HB1.out)).mono ?_
      rintro e w2 ⟨rfl, d2, hw2⟩
      have HB2 : Hid (Below w.heap.size w w2) := by rw [hw2]; exact below_drewN HB1.out _
      clear hw2
      go_wp2_with fail
      refine (HF.out _).mono ?_
      rintro e w9 ⟨rfl, hb9⟩
      have HB9 := Lib.hid (HB2.out.trans (hb9.mono HB2.out.size))
      clear hb9
      go_wp2_with fail
      go_ret
      exact ⟨rfl, HB9.out⟩
  · clear hx hy hg1 hg2 hn hm hP hD hU hR hA0
    go_enter Try.func7, Try.ntmps7
    go_wp2_with fail
    refine HG1.out.mono ?_
    rintro e w1 ⟨rfl, d1, hw1⟩
    have HB1 : Hid (Below w.heap.size w w1) := by rw [hw1]; exact below_drewN (Below.refl _ _) _
    clear hw1
    go_wp2_with fail
    refine (HF.out _).mono ?_
    rintro e w9 ⟨rfl, hb9⟩
    have HB9 := Lib.hid (HB1.out.trans (hb9.mono HB1.out.size))
    clear hb9
    go_wp2_with fail
    go_ret
    exact ⟨rfl, HB9.out⟩
end Tr
end Go.Proofs.Ytkldgfdfpanelaa
