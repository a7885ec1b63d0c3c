/-
  Layer 5 (tree): law Puts.
-/
import Derived.Test.YtkldgfdfpanelaaTI
namespace Go.Proofs.Ytkldgfdfpanelaa
namespace Tr
open Go.RowKit Go.ChangeShapes Pt

theorem row_one {W : World} {g : Nat} {s d : ByteArray} (hg : g < W.heap.size) (h0 : W.cell? ⟨g, 0, none⟩ = some (.string s)) (h1 : W.cell? ⟨g, 1, none⟩ = some (.string d)) : FRow W W.heap.size (some ⟨g, 0, none⟩) [(s.data.toList, d.data.toList)] := by
  rintro (_ | j) f hf
  · injection hf with hf
    subst hf
    exact ⟨g, 0, s, d, rfl, hg, rfl, rfl, h0, h1⟩
  · simp at hf

/-- What is put in its place: the tree that it makes. -/
theorem put_facts {t x : List Fl} {f : Fl} (h : putV t f = x) (hx : x ≠ []) : tcheck x = 0 ∧ get x f.1 = some f.2 ∧ (∀ g ∈ t, g.1 ≠ f.1 → get x g.1 = some g.2) := by
  unfold putV at h
  by_cases h1 : tcheck t = 0
  · rw [if_pos h1] at h
    by_cases h2 : tcheck (withF t f) = 0
    · rw [if_pos h2] at h
      subst h
      have hr := ((tree_iff t).1 h1).2.1
      refine ⟨h2, by rw [withF_get f hr, if_pos rfl], fun g hg hn => ?_⟩
      rw [withF_get f hr, if_neg (fun e => hn e.symm)]
      exact (get_some hr).2 hg
    · rw [if_neg h2] at h
      exact absurd h.symm hx
  · rw [if_neg h1] at h
    exact absurd h.symm hx
theorem put_few {t : List Fl} {f : Fl} (h : Few t) (hl : t.length ≤ 900) (h1 : f.1.length ≤ 1000) (h2 : f.2.length ≤ 1000) : Few (putV t f) := by
  unfold putV
  by_cases c1 : tcheck t = 0
  · rw [if_pos c1]
    by_cases c2 : tcheck (withF t f) = 0
    · rw [if_pos c2]
      have hr := ((tree_iff t).1 c1).2.1
      refine ⟨by have := withF_len f hr; omega, fun g hg => ?_⟩
      rcases (withF_mem f hr g).1 hg with rfl | ⟨hg, _⟩
      · exact ⟨h1, h2⟩
      · exact h.2 g hg
    · rw [if_neg c2]; exact ⟨Nat.zero_le _, fun f hf => by cases hf⟩
  · rw [if_neg c1]; exact ⟨Nat.zero_le _, fun f hf => by cases hf⟩
theorem drop_few {t : List Fl} (h : Few t) (p : Bs) : Few (dropV t p) := by
  unfold dropV
  split
  · exact ⟨Nat.le_trans (List.length_filter_le _ _) h.1, fun g hg => h.2 g (List.mem_filter.1 hg).1⟩
  · exact ⟨Nat.zero_le _, fun f hf => by cases hf⟩

set_option maxRecDepth 100000 in
set_option maxHeartbeats 1000000 in
theorem puts_law (hP : PPaths) (hG : PGet) (hC : PCheck) (hU : PPut) (hD : PDrop) (A : Option Addr) (cap n : Nat) (t : List Fl) (s dd p : ByteArray) (w : World) (hn : t.length = n) (hnm : n ≤ 9223372036854775807) (hss : s.size ≤ 9223372036854775807) (hds : dd.size ≤ 9223372036854775807) (hps : p.size ≤ 9223372036854775807) (hx : FRow w w.heap.size A t) :
    Calls Try.prog 4 #[.slice A n cap, .agg #[.string s, .string dd], .string p] w fun e w' => e = .returned (.bool true) ∧ Below w.heap.size w w' := by
  obtain ⟨w0, hw0⟩ : ∃ w0, w0 = w.alloc (.cells #[.string s, .string dd] 29) := ⟨_, rfl⟩
  have hs0 : w0.heap.size = w.heap.size + 1 := by rw [hw0]; simp
  have HX0 : Hid (FRow w0 w.heap.size A t) := by rw [hw0]; exact hx.alloc (Nat.le_refl _) _
  have HC0 : Hid (w0.cell? ⟨w.heap.size, 0, none⟩ = some (.string s)) := by show _ = _; rw [hw0]; simp
  have HC1 : Hid (w0.cell? ⟨w.heap.size, 1, none⟩ = some (.string dd)) := by show _ = _; rw [hw0]; simp
  have HBE : Hid (∀ W, Below (w.heap.size + 1) w0 W → Below w.heap.size w W) := fun W hW => by
    rw [hw0] at hW
    exact ((Below.refl _ _).alloc (Nat.le_refl _) _).trans (hW.mono (by omega))
  have HSZ : Hid (∀ W, Below (w.heap.size + 1) w0 W → w.heap.size + 1 ≤ W.heap.size) := fun W hW => by have := hW.size; omega
  have HXN : Hid (∀ W, Below (w.heap.size + 1) w0 W → FRow W W.heap.size A t) := fun W hW => (HX0.out.keep fun q hq => hW.cell (Nat.lt_succ_of_lt hq)).more (Nat.le_of_succ_le (HSZ.out W hW))
  have HCN : Hid (∀ W, Below (w.heap.size + 1) w0 W → W.cell? ⟨w.heap.size, 0, none⟩ = some (.string s)) := fun W hW => (hW.cell (p := ⟨w.heap.size, 0, none⟩) (Nat.lt_succ_self _)).trans HC0.out
  have HDN : Hid (∀ W, Below (w.heap.size + 1) w0 W → W.cell? ⟨w.heap.size, 1, none⟩ = some (.string dd)) := fun W hW => (hW.cell (p := ⟨w.heap.size, 1, none⟩) (Nat.lt_succ_self _)).trans HC1.out
  have HF := Lib.hid (fun W => fixed_any hP W)
  obtain ⟨b, hb⟩ : ∃ b, greatV t = b := ⟨_, rfl⟩
  have HG := Lib.hid (fun W (h : FRow W w.heap.size A t) => great_any A cap w.heap.size n t b hb W hn hnm h)
  obtain ⟨b2, hb2⟩ : ∃ b2, greatV [(s.data.toList, dd.data.toList)] = b2 := ⟨_, rfl⟩
  have HGF := Lib.hid (fun W g (h : FRow W W.heap.size (some ⟨g, 0, none⟩) [(s.data.toList, dd.data.toList)]) => great_any (some ⟨g, 0, none⟩) 1 W.heap.size 1 [(s.data.toList, dd.data.toList)] b2 hb2 W rfl (by omega) h)
  cases b
  · have hf := few_of hb
    cases b2
    · have hf2 := few_of hb2
      by_cases hp : 300 < p.size
      · have hpi : (300 : Int) < p.size := by omega
        clear hx hb hb2 hn hP hG hC hU hD hf hf2
        have HS0 := Lib.hid hs0
        clear hs0
        go_enter Try.func4, Try.ntmps4
        go_wp2_with fail
        rw [← hw0]
        clear hw0
        refine (HG.out _ HX0.out).mono ?_
        rintro e w1 ⟨rfl, d1, hw1⟩
        have HB1 : Hid (Below (w.heap.size + 1) w0 w1) := by rw [hw1]; exact below_drewN (Below.refl _ _) _
        have HW1S : Hid (w1.heap.size = w.heap.size + 1) := by rw [hw1]; exact HS0.out
        have hc1 : w1.cell? ⟨w.heap.size, 0, none⟩ = some (.string s) := by rw [hw1]; exact HC0.out
        have hd1 : w1.cell? ⟨w.heap.size, 1, none⟩ = some (.string dd) := by rw [hw1]; exact HC1.out
        clear hw1
        go_wp2_with fail
        refine (HGF.out _ w1.heap.size (row_one (g := w1.heap.size) ?c0p ?c1p ?c2p)).mono ?_
        case c0p => simp
        case c1p => simp
        case c2p => simp
        rintro e w2 ⟨rfl, d2, hw2⟩
        have HB2 : Hid (Below (w.heap.size + 1) w0 w2) := by rw [hw2]; exact below_drewN (HB1.out.alloc (by have := HW1S.out; omega) _) _
        clear hw2
        go_wp2_with fail
        refine (HF.out _).mono ?_
        rintro e w9 ⟨rfl, hb9⟩
        have HB9 := Lib.hid (HBE.out _ (HB2.out.trans (hb9.mono (HSZ.out _ HB2.out))))
        clear hb9
        go_wp2_with fail
        go_ret
        exact ⟨rfl, HB9.out⟩
      · have hpi : ¬ (300 : Int) < p.size := by omega
        have hfp := hf2.2 _ List.mem_cons_self
        simp only at hfp
        rw [data_length, data_length] at hfp
        have h900 : t.length ≤ 60 := by
          unfold greatV at hb
          rw [Bool.or_eq_false_iff, decide_eq_false_iff_not] at hb
          omega
        obtain ⟨x, hxv⟩ : ∃ x, putV t (s.data.toList, dd.data.toList) = x := ⟨_, rfl⟩
        obtain ⟨y, hyv⟩ : ∃ y, dropV t p.data.toList = y := ⟨_, rfl⟩
        have hxf : Few x := by rw [← hxv]; exact put_few hf (by omega) (by rw [data_length]; omega) (by rw [data_length]; omega)
        have hyf : Few y := by rw [← hyv]; exact drop_few hf _
        have HPU := Lib.hid (fun W (h : FRow W W.heap.size A t) => hU A cap n t s dd W hn hf h (by omega) (by omega))
        have HPD := Lib.hid (fun W (h : FRow W W.heap.size A t) => hD A cap n t p W hn hf h (by omega))
        have HRU := Lib.hid (fun W (h : FRow W W.heap.size A t) => refput_any A cap W.heap.size n t s dd W hn (by omega) (fun f h => by have := (hf.2 f h).1; omega) (by omega) h (Nat.le_refl _))
        have HRD := Lib.hid (fun W (h : FRow W W.heap.size A t) => refdrop_any A cap W.heap.size n t p W hn (by omega) (fun f h => by have := (hf.2 f h).1; omega) h (Nat.le_refl _))
        rw [hxv] at HPU HRU
        rw [hyv] at HPD HRD
        have HXL : Hid (x.length ≤ 1000) := hxf.1
        have HYL : Hid (y.length ≤ 1000) := hyf.1
        have HCX := Lib.hid (fun A3 c3 m3 W (hm : x.length = m3) (h0 : tcheck x = 0) (h : FRow W W.heap.size A3 x) => hC A3 c3 m3 x 0 W h0 hm hxf h)
        have HGX := Lib.hid (fun A3 c3 m3 q X (W : World) (hX : get x q.data.toList = some X.data.toList) (hq : q.size ≤ 1000) (hm : x.length = m3) (h : FRow W W.heap.size A3 x) => hG A3 c3 m3 x q X true W (by rw [hX]; rfl) (by rw [hX]; rfl) hm hxf h hq)
        have HPF := Lib.hid (fun hx0 => put_facts hxv hx0)
        have HNT := Lib.hid hn
        have hs3 : s.size ≤ 1000 := by omega
        have HFT := Lib.hid hf
        clear hx hb hb2 hn hP hG hC hU hD hf hf2 hxv hyv hxf hyf hfp
        have HS0 := Lib.hid hs0
        clear hs0
        go_enter Try.func4, Try.ntmps4
        go_wp2_with fail
        rw [← hw0]
        clear hw0
        refine (HG.out _ HX0.out).mono ?_
        rintro e w1 ⟨rfl, d1, hw1⟩
        have HB1 : Hid (Below (w.heap.size + 1) w0 w1) := by rw [hw1]; exact below_drewN (Below.refl _ _) _
        have HW1S : Hid (w1.heap.size = w.heap.size + 1) := by rw [hw1]; exact HS0.out
        have hc1 : w1.cell? ⟨w.heap.size, 0, none⟩ = some (.string s) := by rw [hw1]; exact HC0.out
        have hd1 : w1.cell? ⟨w.heap.size, 1, none⟩ = some (.string dd) := by rw [hw1]; exact HC1.out
        clear hw1
        go_wp2_with fail
        refine (HGF.out _ w1.heap.size (row_one (g := w1.heap.size) ?c0m ?c1m ?c2m)).mono ?_
        case c0m => simp
        case c1m => simp
        case c2m => simp
        rintro e w2 ⟨rfl, d2, hw2⟩
        have HB2 : Hid (Below (w.heap.size + 1) w0 w2) := by rw [hw2]; exact below_drewN (HB1.out.alloc (by have := HW1S.out; omega) _) _
        clear hw2
        have HR2 := Lib.hid (HXN.out _ HB2.out)
        have hc2 := HCN.out _ HB2.out
        have hd2 := HDN.out _ HB2.out
        clear hc1 hd1
        go_wp2_with fail
        refine (HPU.out _ HR2.out).mono ?_
        rintro e w3 ⟨A3, m3, c3, rfl, hm3, hr3, hb3⟩
        have HB3 : Hid (Below (w.heap.size + 1) w0 w3) := HB2.out.trans (hb3.mono (HSZ.out _ HB2.out))
        have HR3 := Lib.hid hr3
        have HM3 := Lib.hid hm3
        have hm3n : m3 ≤ 1000 := by rw [← hm3]; exact HXL.out
        clear hb3 hr3 hm3 hc2 hd2
        have hc3 := HCN.out _ HB3.out
        have hd3 := HDN.out _ HB3.out
        go_wp2_with fail
        refine (HPD.out _ (HXN.out _ HB3.out)).mono ?_
        rintro e w4 ⟨A4, m4, c4, rfl, hm4, hr4, hb4⟩
        have HB4 : Hid (Below (w.heap.size + 1) w0 w4) := HB3.out.trans (hb4.mono (HSZ.out _ HB3.out))
        have HR34 : Hid (FRow w4 w4.heap.size A3 x) := (HR3.out.keep fun q hq => hb4.cell hq).more hb4.size
        have HR4 := Lib.hid hr4
        have HM4 := Lib.hid hm4
        have hm4n : m4 ≤ 1000 := by rw [← hm4]; exact HYL.out
        clear hb4 hr4 hm4 hc3 hd3 HR3
        have hc4 := HCN.out _ HB4.out
        have hd4 := HDN.out _ HB4.out
        go_wp2_with fail
        refine (HRU.out _ (HXN.out _ HB4.out)).mono ?_
        rintro e w5 ⟨g5, m5, c5, rfl, hm5, ho5, hb5⟩
        obtain rfl : m5 = m3 := by rw [← hm5, HM3.out]
        have HB5 : Hid (Below (w.heap.size + 1) w0 w5) := HB4.out.trans (hb5.mono (HSZ.out _ HB4.out))
        have HR35 : Hid (FRow w5 w5.heap.size A3 x) := (HR34.out.keep fun q hq => hb5.cell hq).more hb5.size
        have HR45 : Hid (FRow w5 w5.heap.size A4 y) := (HR4.out.keep fun q hq => hb5.cell hq).more hb5.size
        have HS5 := Lib.hid (same_any A3 (some ⟨g5, 0, none⟩) c3 c5 w5.heap.size m5 m5 x x true (by simp) w5 hm5 hm5 (by omega) (by omega) HR35.out ho5.row)
        clear hb5 ho5 hm5 hc4 hd4 HR34 HR4
        go_wp2_with fail
        refine HS5.out.mono ?_
        rintro e w6 ⟨rfl, d6, hw6⟩
        have HB6 : Hid (Below (w.heap.size + 1) w0 w6) := by rw [hw6]; exact below_drewN HB5.out _
        have HR36 : Hid (FRow w6 w6.heap.size A3 x) := by rw [hw6]; exact HR35
        have HR46 : Hid (FRow w6 w6.heap.size A4 y) := by rw [hw6]; exact HR45
        clear hw6 HR35 HR45
        go_wp2_with fail
        refine (HRD.out _ (HXN.out _ HB6.out)).mono ?_
        rintro e w7 ⟨g7, m7, c7, rfl, hm7, ho7, hb7⟩
        obtain rfl : m7 = m4 := by rw [← hm7, HM4.out]
        have HB7 : Hid (Below (w.heap.size + 1) w0 w7) := HB6.out.trans (hb7.mono (HSZ.out _ HB6.out))
        have HR37 : Hid (FRow w7 w7.heap.size A3 x) := (HR36.out.keep fun q hq => hb7.cell hq).more hb7.size
        have HS7 := Lib.hid (same_any A4 (some ⟨g7, 0, none⟩) c4 c7 w7.heap.size m7 m7 y y true (by simp) w7 hm7 hm7 (by omega) (by omega) ((HR46.out.keep fun q hq => hb7.cell hq).more hb7.size) ho7.row)
        clear hb7 ho7 hm7 HR36 HR46
        go_wp2_with fail
        refine HS7.out.mono ?_
        rintro e w8 ⟨rfl, d8, hw8⟩
        have HB8 : Hid (Below (w.heap.size + 1) w0 w8) := by rw [hw8]; exact below_drewN HB7.out _
        have HR38 : Hid (FRow w8 w8.heap.size A3 x) := by rw [hw8]; exact HR37
        clear hw8 HR37
        have hc8 := HCN.out _ HB8.out
        have hd8 := HDN.out _ HB8.out
        by_cases hm0 : m5 = 0
        · have hm0i : ((m5 : Int) == 0) = true := by rw [hm0]; rfl
          go_wp2_with fail
          refine (HF.out _).mono ?_
          rintro e w9 ⟨rfl, hb9⟩
          have HB9 := Lib.hid (HBE.out _ (HB8.out.trans (hb9.mono (HSZ.out _ HB8.out))))
          clear hb9
          go_wp2_with fail
          go_ret
          exact ⟨rfl, HB9.out⟩
        · have hm0i : ((m5 : Int) == 0) = false := by rw [beq_eq_false_iff_ne]; omega
          obtain ⟨hq1, hq2, hq3⟩ := HPF.out (fun e => hm0 (by rw [← HM3.out, e]; rfl))
          have HQ3 := Lib.hid hq3
          have HG8 := Lib.hid (HGX.out A3 c3 m5 s dd w8 hq2 hs3 HM3.out HR38.out)
          have HC8 := Lib.hid (fun W (h : FRow W W.heap.size A3 x) => HCX.out A3 c3 m5 W HM3.out hq1 h)
          have hdd : (dd.toList == dd.toList) = true := by simp
          have HQ2 := Lib.hid hq2
          clear hq1 hq3 hq2
          go_wp2_with fail
          refine HG8.out.mono ?_
          rintro e w9 ⟨rfl, hb9⟩
          have HB9 : Hid (Below (w.heap.size + 1) w0 w9) := HB8.out.trans (hb9.mono (HSZ.out _ HB8.out))
          have HR39 : Hid (FRow w9 w9.heap.size A3 x) := (HR38.out.keep fun q hq => hb9.cell hq).more hb9.size
          clear hb9 HR38 hc8 hd8
          have hc9 := HCN.out _ HB9.out
          have hd9 := HDN.out _ HB9.out
          go_wp2_with fail
          refine (HC8.out _ HR39.out).mono ?_
          rintro e wa ⟨rfl, hba⟩
          have HBa : Hid (Below (w.heap.size + 1) w0 wa) := HB9.out.trans (hba.mono (HSZ.out _ HB9.out))
          have HR3a : Hid (FRow wa wa.heap.size A3 x) := (HR39.out.keep fun q hq => hba.cell hq).more hba.size
          clear hba HR39 hc9 hd9
          go_wp2_with fail
          go_loopw [11] (fun i wr => ∃ k : Nat, k ≤ n ∧ i = .int .i64 k ∧ Hid (Below (w.heap.size + 1) w0 wr) ∧ Hid (FRow wr wr.heap.size A3 x)) (fun i _ => n - (intOf i).toNat)
          case atStart => exact ⟨0, Nat.zero_le _, rfl, HBa.out, HR3a.out⟩
          case round =>
            obtain ⟨k, hk, rfl, HBW, HRW⟩ := hrel
            clear HR3a
            by_cases hlt : k < n
            · have hki : (k : Int) < n := by omega
              have hxk : t[k]? = some (t[k]'(by rw [HNT.out]; exact hlt)) := List.getElem?_eq_getElem _
              generalize t[k]'(by rw [HNT.out]; exact hlt) = z at hxk
              obtain ⟨b1, o1, sp, sd, rfl, hb1, hsp, hsd, cP, cD⟩ := (HXN.out _ HBW.out) k z hxk
              obtain rfl : z = (sp.data.toList, sd.data.toList) := Prod.ext hsp.symm hsd.symm
              have hps : sp.size ≤ 1000 := by
                have := (HFT.out.2 _ (List.mem_of_getElem? hxk)).1
                rw [data_length] at this
                exact this
              by_cases heq : sp.data.toList = s.data.toList
              · have he1 : (sp.toList == s.toList) = true := by rw [ByteArray.toList_eq, ByteArray.toList_eq, heq]; simp
                have HGW := Lib.hid (HGX.out A3 c3 m5 sp dd wr (by rw [heq]; exact HQ2.out) hps HM3.out HRW.out)
                clear heq hxk hsp hsd
                go_wp2_with fail
                refine HGW.out.mono ?_
                rintro e wb ⟨rfl, hbb⟩
                have HBb : Hid (Below (w.heap.size + 1) w0 wb) := HBW.out.trans (hbb.mono (HSZ.out _ HBW.out))
                have HR3b : Hid (FRow wb wb.heap.size A3 x) := (HRW.out.keep fun q hq => hbb.cell hq).more hbb.size
                have hcb := HCN.out _ HBb.out
                have cPb : wb.cell? ⟨b1, o1 + k * 2, none⟩ = some (.string sp) := (hbb.cell (p := ⟨b1, o1 + k * 2, none⟩) hb1).trans cP
                have cDb : wb.cell? ⟨b1, o1 + k * 2 + 1, none⟩ = some (.string sd) := (hbb.cell (p := ⟨b1, o1 + k * 2 + 1, none⟩) hb1).trans cD
                clear hbb
                go_wp2
                go_quiet (fail)
                go_wp2
                go_roundw
                case rel => exact ⟨k + 1, by omega, by go_num, below_drewN HBb.out _, HR3b.out.drewN _⟩
                case measure => simp [intOf]; omega
              · have he1 : (sp.toList == s.toList) = false := by rw [ByteArray.toList_eq, ByteArray.toList_eq]; simpa using fun e => heq (congrArg Array.toList e)
                have hdd2 : (sd.toList == sd.toList) = true := by simp
                have HGW := Lib.hid (HGX.out A3 c3 m5 sp sd wr (HQ3.out _ (List.mem_of_getElem? hxk) heq) hps HM3.out HRW.out)
                clear heq hxk hsp hsd
                go_wp2_with fail
                refine HGW.out.mono ?_
                rintro e wb ⟨rfl, hbb⟩
                have HBb : Hid (Below (w.heap.size + 1) w0 wb) := HBW.out.trans (hbb.mono (HSZ.out _ HBW.out))
                have HR3b : Hid (FRow wb wb.heap.size A3 x) := (HRW.out.keep fun q hq => hbb.cell hq).more hbb.size
                have hcb := HCN.out _ HBb.out
                have cPb : wb.cell? ⟨b1, o1 + k * 2, none⟩ = some (.string sp) := (hbb.cell (p := ⟨b1, o1 + k * 2, none⟩) hb1).trans cP
                have cDb : wb.cell? ⟨b1, o1 + k * 2 + 1, none⟩ = some (.string sd) := (hbb.cell (p := ⟨b1, o1 + k * 2 + 1, none⟩) hb1).trans cD
                clear hbb
                go_wp2
                go_quiet (fail)
                go_wp2
                go_roundw
                case rel => exact ⟨k + 1, by omega, by go_num, below_drewN HBb.out _, HR3b.out.drewN _⟩
                case measure => simp [intOf]; omega
            · obtain rfl : k = n := by omega
              go_wp2_with fail
              refine (HF.out _).mono ?_
              rintro e wc ⟨rfl, hbc⟩
              have HBc := Lib.hid (HBE.out _ (HBW.out.trans (hbc.mono (HSZ.out _ HBW.out))))
              clear hbc
              go_wp2_with fail
              go_ret
              exact ⟨rfl, HBc.out⟩
    · clear hx hb hb2 hn hP hG hC hU hD hf
      have HS0 := Lib.hid hs0
      clear hs0
      go_enter Try.func4, Try.ntmps4
      go_wp2_with fail
      rw [← hw0]
      clear hw0
      refine (HG.out _ HX0.out).mono ?_
      rintro e w1 ⟨rfl, d1, hw1⟩
      have HB1 : Hid (Below (w.heap.size + 1) w0 w1) := by rw [hw1]; exact below_drewN (Below.refl _ _) _
      have HW1S : Hid (w1.heap.size = w.heap.size + 1) := by rw [hw1]; exact HS0.out
      have hc1 : w1.cell? ⟨w.heap.size, 0, none⟩ = some (.string s) := by rw [hw1]; exact HC0.out
      have hd1 : w1.cell? ⟨w.heap.size, 1, none⟩ = some (.string dd) := by rw [hw1]; exact HC1.out
      clear hw1
      go_wp2_with fail
      refine (HGF.out _ w1.heap.size (row_one (g := w1.heap.size) ?c0q ?c1q ?c2q)).mono ?_
      case c0q => simp
      case c1q => simp
      case c2q => simp
      rintro e w2 ⟨rfl, d2, hw2⟩
      have HB2 : Hid (Below (w.heap.size + 1) w0 w2) := by rw [hw2]; exact below_drewN (HB1.out.alloc (by have := HW1S.out; omega) _) _
      clear hw2
      go_wp2_with fail
      refine (HF.out _).mono ?_
      rintro e w9 ⟨rfl, hb9⟩
      have HB9 := Lib.hid (HBE.out _ (HB2.out.trans (hb9.mono (HSZ.out _ HB2.out))))
      clear hb9
      go_wp2_with fail
      go_ret
      exact ⟨rfl, HB9.out⟩
  · clear hx hb hb2 hn hP hG hC hU hD
    have HS0 := Lib.hid hs0
    clear hs0
    go_enter Try.func4, Try.ntmps4
    go_wp2_with fail
    rw [← hw0]
    clear hw0
    refine (HG.out _ HX0.out).mono ?_
    rintro e w1 ⟨rfl, d1, hw1⟩
    have HB1 : Hid (Below (w.heap.size + 1) w0 w1) := by rw [hw1]; exact below_drewN (Below.refl _ _) _
    have HW1S : Hid (w1.heap.size = w.heap.size + 1) := by rw [hw1]; exact HS0.out
    have hc1 : w1.cell? ⟨w.heap.size, 0, none⟩ = some (.string s) := by rw [hw1]; exact HC0.out
    have hd1 : w1.cell? ⟨w.heap.size, 1, none⟩ = some (.string dd) := by rw [hw1]; exact HC1.out
    clear hw1
    go_wp2_with fail
    refine (HF.out _).mono ?_
    rintro e w9 ⟨rfl, hb9⟩
    have HB9 := Lib.hid (HBE.out _ (HB1.out.trans (hb9.mono (HSZ.out _ HB1.out))))
    clear hb9
    go_wp2_with fail
    go_ret
    exact ⟨rfl, HB9.out⟩
end Tr
end Go.Proofs.Ytkldgfdfpanelaa
