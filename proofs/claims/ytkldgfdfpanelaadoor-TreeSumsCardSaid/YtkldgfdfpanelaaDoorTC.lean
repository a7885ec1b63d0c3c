/-
  Layer 5 (tree): the walk of the document's Check.
-/
import Derived.Test.YtkldgfdfpanelaaDoorTB
import Derived.Test.YtkldgfdfpanelaaDoorF
namespace Go.Proofs.YtkldgfdfpanelaaDoor
namespace Tr
open Go.RowKit Go.ChangeShapes Pt

theorem okTo_zero (t : List Fl) : okTo t 0 := fun _ _ h => absurd h (Nat.not_lt_zero _)
theorem okTo_succ {t : List Fl} {k : Nat} {x : Fl} (h : okTo t k) (hx : t[k]? = some x) (h0 : chk1 (prevOf t k) x = 0) : okTo t (k + 1) := fun j f hj hf => by
  by_cases he : j = k
  · subst he; rw [hx] at hf; cases hf; exact h0
  · exact h j f (by omega) hf
theorem prevOf_zero (t : List Fl) : prevOf t 0 = none := rfl
theorem prevOf_pos {t : List Fl} {k : Nat} {y : Fl} (hk : 0 < k) (hy : t[k - 1]? = some y) : prevOf t k = some y.1 := by
  unfold prevOf; rw [if_neg (by omega), hy]; rfl
theorem chk1_name {p : Option Bs} {x : Fl} (h : okName x.1 = false) : chk1 p x = 7 := by unfold chk1; rw [if_pos h]
theorem chk1_twice {q : Bs} {x : Fl} (h : okName x.1 = true) (h2 : x.1 = q) : chk1 (some q) x = 8 := by
  unfold chk1; rw [if_neg (by rw [h]; simp)]; exact if_pos h2
theorem chk1_order {q : Bs} {x : Fl} (h : okName x.1 = true) (h2 : x.1 ≠ q) (h3 : x.1 < q) : chk1 (some q) x = 2 := by
  unfold chk1; rw [if_neg (by rw [h]; simp)]; simp only [if_neg h2, if_pos h3]
theorem chk1_size {q : Bs} {x : Fl} (h : okName x.1 = true) (h2 : x.1 ≠ q) (h3 : ¬ x.1 < q) : chk1 (some q) x = if 65536 < x.2.length then 6 else 0 := by
  unfold chk1; rw [if_neg (by rw [h]; simp)]; simp only [if_neg h2, if_neg h3]
theorem chk1_size0 {x : Fl} (h : okName x.1 = true) : chk1 none x = if 65536 < x.2.length then 6 else 0 := by
  unfold chk1; rw [if_neg (by rw [h]; simp)]

set_option maxRecDepth 100000 in
set_option maxHeartbeats 2000000 in
theorem refcheck_any (A : Option Addr) (cap B n : Nat) (t : List Fl) (c : Nat) (hc : tcheck t = c) (w : World) (hn : t.length = n) (hnm : n ≤ 100000) (hl : ∀ f ∈ t, f.1.length ≤ 100000) (hx : FRow w B A t) (hB : B ≤ w.heap.size) :
    Calls Tryd.prog 15 #[.slice A n cap] w fun e w' => e = .returned (.int .i64 c) ∧ Below w.heap.size w w' := by
  have HX := Lib.hid (hx.more hB)
  have HN := Lib.hid hn
  have HC := Lib.hid hc
  have HL := Lib.hid hl
  clear hx hn hc hl
  by_cases h60 : 1024 < n
  · have hb : c = 6 := by rw [← HC.out]; unfold tcheck; rw [HN.out, if_pos h60]
    subst hb
    have hi : (1024 : Int) < n := by omega
    go_enter Tryd.func15, Tryd.ntmps15
    go_wp2
    go_ret
    exact ⟨rfl, Below.refl _ _⟩
  · have hi : (n : Int) ≤ 1024 := by omega
    go_enter Tryd.func15, Tryd.ntmps15
    go_wp2
    go_loopw [10] (fun i wr => ∃ k : Nat, k ≤ n ∧ i = .int .i64 k ∧ Hid (okTo t k) ∧ Hid (FRow wr w.heap.size A t) ∧ Hid (Below w.heap.size w wr)) (fun i _ => n - (intOf i).toNat)
    case atStart => exact ⟨0, Nat.zero_le _, rfl, okTo_zero t, HX.out, Below.refl _ _⟩
    case round =>
      obtain ⟨k, hk, rfl, HA, HR, HBW⟩ := hrel
      by_cases hlt : k < n
      · have hki : (k : Int) < n := by omega
        have hxk : t[k]? = some (t[k]'(by rw [HN.out]; exact hlt)) := List.getElem?_eq_getElem _
        generalize t[k]'(by rw [HN.out]; exact hlt) = x at hxk
        obtain ⟨b1, o1, sp, sd, rfl, hb1, hsp, hsd, cP, cD⟩ := HR.out k x hxk
        have hbr : b1 < wr.heap.size := Nat.lt_of_lt_of_le hb1 HBW.out.size
        have HPc : Hid (∀ W, Below wr.heap.size wr W → W.cell? ⟨b1, o1 + k * 2, none⟩ = some (.string sp)) := fun W hW => (hW.cell hbr).trans cP
        have HDc : Hid (∀ W, Below wr.heap.size wr W → W.cell? ⟨b1, o1 + k * 2 + 1, none⟩ = some (.string sd)) := fun W hW => (hW.cell hbr).trans cD
        have HRN : Hid (∀ W, Below wr.heap.size wr W → FRow W w.heap.size (some ⟨b1, o1, none⟩) t) := fun W hW => HR.out.keep fun p hp => hW.cell (Nat.lt_of_lt_of_le hp HBW.out.size)
        have HBN : Hid (∀ W, Below wr.heap.size wr W → Below w.heap.size w W) := fun W hW => HBW.out.trans (hW.mono HBW.out.size)
        have hsps : sp.size ≤ 100000 := by
          have := HL.out x (List.mem_of_getElem? hxk)
          rw [← hsp, data_length] at this
          exact this
        have e2 : x.2.length = sd.size := by rw [← hsd, data_length]
        have HFIN : Hid (chk1 (prevOf t k) x ≠ 0 → chk1 (prevOf t k) x = c) := fun h => by
          rw [← HC.out]; exact (check_at (by rw [HN.out]; omega) hxk HA.out h).symm
        have HNXT : Hid (chk1 (prevOf t k) x = 0 → okTo t (k + 1)) := fun h => okTo_succ HA.out hxk h
        have HPRE : Hid (0 < k → ∃ y yp, prevOf t k = some y ∧ yp.data.toList = y ∧ ∀ W, Below wr.heap.size wr W → W.cell? ⟨b1, o1 + (k - 1) * 2, none⟩ = some (.string yp)) := fun h0 => by
          have hyk : t[k - 1]? = some (t[k - 1]'(by rw [HN.out]; omega)) := List.getElem?_eq_getElem _
          generalize t[k - 1]'(by rw [HN.out]; omega) = y at hyk
          obtain ⟨b2, o2, yp, yd, e, hb2, hyp, hyd, cP', cD'⟩ := HR.out (k - 1) y hyk
          injection e with e
          injection e with e1 e2
          subst e1 e2
          exact ⟨y.1, yp, prevOf_pos h0 hyk, hyp, fun W hW => (hW.cell hbr).trans cP'⟩
        obtain ⟨m, hm⟩ : ∃ m, may sp.data.toList = m := ⟨_, rfl⟩
        have HM := Lib.hid (fun W => refmay_any sp m hm W hsps)
        cases m
        · have HC7 : Hid (c = 7) := by
            have hok : okName x.1 = false := by unfold okName; rw [← hsp, hm]; rfl
            show _ = _
            rw [← HFIN.out (by rw [chk1_name hok]; omega), chk1_name hok]
          clear hm hsp hsd e2 hxk cD
          go_wp2_with fail
          refine (HM.out _).mono ?_
          rintro e w1 ⟨rfl, hb1⟩
          have HB1 := Lib.hid (HBN.out _ hb1)
          clear hb1
          go_wp2
          go_ret
          exact ⟨by rw [HC7.out]; rfl, HB1.out⟩
        · cases ho : (sp.toList == [111, 117, 116])
          · obtain ⟨u, hu⟩ : ∃ u, under sp.data.toList outB = u := ⟨_, rfl⟩
            have HU := Lib.hid (fun W => refunder_any sp ⟨#[111, 117, 116]⟩ u hu W hsps)
            have hno : (x.1 == outB) = false := by
              rw [← hsp, ← ho, ByteArray.toList_eq]; rfl
            cases u
            · have hok : okName x.1 = true := by unfold okName; rw [hno, ← hsp, hm, hu]; rfl
              have HOK := Lib.hid hok
              have HE2 := Lib.hid e2
              have HSP := Lib.hid hsp
              clear hm hsp hsd e2 hxk hok hno hu cD
              by_cases h0 : k = 0
              · have h0i : ¬ (0 : Int) < k := by omega
                have hsz : Hid (chk1 (prevOf t k) x = if 65536 < sd.size then 6 else 0) := by
                  show _ = _
                  rw [h0, prevOf_zero, chk1_size0 HOK.out, HE2.out]
                clear h0
                by_cases hs : 65536 < sd.size
                · have hsi : (65536 : Int) < sd.size := by omega
                  have HC6 : Hid (c = 6) := by
                    show _ = _
                    rw [← HFIN.out (by rw [hsz.out, if_pos hs]; omega), hsz.out, if_pos hs]
                  go_wp2_with fail
                  refine (HM.out _).mono ?_
                  rintro e w1 ⟨rfl, hb1⟩
                  go_wp2_with fail
                  refine (HU.out _).mono ?_
                  rintro e w2 ⟨rfl, hb2⟩
                  have hb2' := hb1.trans (hb2.mono hb1.size)
                  have hcD := HDc.out _ hb2'
                  have HB2 := Lib.hid (HBN.out _ hb2')
                  clear hb1 hb2 hb2'
                  go_wp2
                  go_ret
                  exact ⟨by rw [HC6.out]; rfl, HB2.out⟩
                · have hsi : ¬ (65536 : Int) < sd.size := by omega
                  have HN0 : Hid (okTo t (k + 1)) := HNXT.out (by rw [hsz.out, if_neg hs])
                  go_wp2_with fail
                  refine (HM.out _).mono ?_
                  rintro e w1 ⟨rfl, hb1⟩
                  go_wp2_with fail
                  refine (HU.out _).mono ?_
                  rintro e w2 ⟨rfl, hb2⟩
                  have hb2' := hb1.trans (hb2.mono hb1.size)
                  have hcD := HDc.out _ hb2'
                  have HB2 := Lib.hid (HBN.out _ hb2')
                  have HR2 := Lib.hid (HRN.out _ hb2')
                  clear hb1 hb2 hb2'
                  go_wp2
                  go_roundw
                  case rel => exact ⟨k + 1, by omega, by go_num, HN0.out, HR2.out, HB2.out⟩
                  case measure => simp [intOf]; omega
              · have h0i : (0 : Int) < k := by omega
                obtain ⟨y, yp, hpv, hyp, hyc⟩ := HPRE.out (by omega)
                have HYC := Lib.hid hyc
                have f1 : IntKind.i64.wrap ((k : Int) - 1) = (k : Int) - 1 := IntWalk.i64_in _ (by omega)
                have f2 : ((k : Int) - 1).toNat = k - 1 := by omega
                by_cases hq : x.1 = y
                · have hqe : (sp.toList == yp.toList) = true := by
                    rw [ByteArray.toList_eq, ByteArray.toList_eq, HSP.out, hyp, hq]; simp
                  have HC8 : Hid (c = 8) := by
                    show _ = _
                    have := chk1_twice HOK.out hq
                    rw [← hpv] at this
                    rw [← HFIN.out (by rw [this]; omega), this]
                  clear hpv hyp hyc hq
                  go_wp2_with fail
                  refine (HM.out _).mono ?_
                  rintro e w1 ⟨rfl, hb1⟩
                  go_wp2_with fail
                  refine (HU.out _).mono ?_
                  rintro e w2 ⟨rfl, hb2⟩
                  have hb2' := hb1.trans (hb2.mono hb1.size)
                  have hcY := HYC.out _ hb2'
                  have HB2 := Lib.hid (HBN.out _ hb2')
                  clear hb1 hb2 hb2'
                  go_wp2
                  go_ret
                  exact ⟨by rw [HC8.out]; rfl, HB2.out⟩
                · have hqe : (sp.toList == yp.toList) = false := by
                    rw [ByteArray.toList_eq, ByteArray.toList_eq, HSP.out, hyp]; simpa using hq
                  have hbl : Op.bytesLess sp.toList yp.toList = decide (x.1 < y) := by rw [bytesLess_eq, ByteArray.toList_eq, ByteArray.toList_eq, HSP.out, hyp]
                  by_cases hlq : x.1 < y
                  · rw [decide_eq_true hlq] at hbl
                    have HC2 : Hid (c = 2) := by
                      show _ = _
                      have := chk1_order HOK.out hq hlq
                      rw [← hpv] at this
                      rw [← HFIN.out (by rw [this]; omega), this]
                    clear hpv hyp hyc hq hlq
                    go_wp2_with fail
                    refine (HM.out _).mono ?_
                    rintro e w1 ⟨rfl, hb1⟩
                    go_wp2_with fail
                    refine (HU.out _).mono ?_
                    rintro e w2 ⟨rfl, hb2⟩
                    have hb2' := hb1.trans (hb2.mono hb1.size)
                    have hcY := HYC.out _ hb2'
                    have HB2 := Lib.hid (HBN.out _ hb2')
                    clear hb1 hb2 hb2'
                    go_wp2
                    go_ret
                    exact ⟨by rw [HC2.out]; rfl, HB2.out⟩
                  · rw [decide_eq_false hlq] at hbl
                    have hsz : Hid (chk1 (prevOf t k) x = if 65536 < sd.size then 6 else 0) := by
                      show _ = _
                      rw [hpv, chk1_size HOK.out hq hlq, HE2.out]
                    clear hpv hyp hyc hq hlq
                    by_cases hs : 65536 < sd.size
                    · have hsi : (65536 : Int) < sd.size := by omega
                      have HC6 : Hid (c = 6) := by
                        show _ = _
                        rw [← HFIN.out (by rw [hsz.out, if_pos hs]; omega), hsz.out, if_pos hs]
                      go_wp2_with fail
                      refine (HM.out _).mono ?_
                      rintro e w1 ⟨rfl, hb1⟩
                      go_wp2_with fail
                      refine (HU.out _).mono ?_
                      rintro e w2 ⟨rfl, hb2⟩
                      have hb2' := hb1.trans (hb2.mono hb1.size)
                      have hcY := HYC.out _ hb2'
                      have hcD := HDc.out _ hb2'
                      have HB2 := Lib.hid (HBN.out _ hb2')
                      clear hb1 hb2 hb2'
                      go_wp2
                      go_ret
                      exact ⟨by rw [HC6.out]; rfl, HB2.out⟩
                    · have hsi : ¬ (65536 : Int) < sd.size := by omega
                      have HN0 : Hid (okTo t (k + 1)) := HNXT.out (by rw [hsz.out, if_neg hs])
                      go_wp2_with fail
                      refine (HM.out _).mono ?_
                      rintro e w1 ⟨rfl, hb1⟩
                      go_wp2_with fail
                      refine (HU.out _).mono ?_
                      rintro e w2 ⟨rfl, hb2⟩
                      have hb2' := hb1.trans (hb2.mono hb1.size)
                      have hcY := HYC.out _ hb2'
                      have hcD := HDc.out _ hb2'
                      have HB2 := Lib.hid (HBN.out _ hb2')
                      have HR2 := Lib.hid (HRN.out _ hb2')
                      clear hb1 hb2 hb2'
                      go_wp2
                      go_roundw
                      case rel => exact ⟨k + 1, by omega, by go_num, HN0.out, HR2.out, HB2.out⟩
                      case measure => simp [intOf]; omega
            · have HC7 : Hid (c = 7) := by
                have hok : okName x.1 = false := by unfold okName; rw [hno, ← hsp, hm, hu]; rfl
                show _ = _
                rw [← HFIN.out (by rw [chk1_name hok]; omega), chk1_name hok]
              clear hm hsp hsd e2 hxk cD hno hu
              go_wp2_with fail
              refine (HM.out _).mono ?_
              rintro e w1 ⟨rfl, hb1⟩
              go_wp2_with fail
              refine (HU.out _).mono ?_
              rintro e w2 ⟨rfl, hb2⟩
              have HB2 := Lib.hid (HBN.out _ (hb1.trans (hb2.mono hb1.size)))
              clear hb1 hb2
              go_wp2
              go_ret
              exact ⟨by rw [HC7.out]; rfl, HB2.out⟩
          · have HC7 : Hid (c = 7) := by
              have hno : (x.1 == outB) = true := by
                rw [← hsp, ← ho, ByteArray.toList_eq]; rfl
              have hok : okName x.1 = false := by unfold okName; rw [hno, ← hsp, hm]; rfl
              show _ = _
              rw [← HFIN.out (by rw [chk1_name hok]; omega), chk1_name hok]
            clear hm hsp hsd e2 hxk cD
            go_wp2_with fail
            refine (HM.out _).mono ?_
            rintro e w1 ⟨rfl, hb1⟩
            have HB1 := Lib.hid (HBN.out _ hb1)
            clear hb1
            go_wp2
            go_ret
            exact ⟨by rw [HC7.out]; rfl, HB1.out⟩
      · obtain rfl : k = n := by omega
        have HC0 : Hid (c = 0) := by
          show _ = _
          rw [← HC.out]; exact check_ok (by rw [HN.out]; omega) (by rw [HN.out]; exact HA.out)
        go_wp2
        go_ret
        exact ⟨by rw [HC0.out]; rfl, HBW.out⟩
end Tr
end Go.Proofs.YtkldgfdfpanelaaDoor
