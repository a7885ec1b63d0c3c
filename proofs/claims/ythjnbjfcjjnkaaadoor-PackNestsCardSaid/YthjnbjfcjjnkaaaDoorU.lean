/-
  Layer 1 (pack): the walk of the law PackNests.
-/
import Derived.Test.YthjnbjfcjjnkaaaDoorT
namespace Go.Proofs.YthjnbjfcjjnkaaaDoor
namespace Pk
open Go.RowKit

set_option maxHeartbeats 4000000 in
set_option maxRecDepth 100000 in
theorem nests_law (A : Option Addr) (cap : Nat) (xss : List (List Bs)) (A' : Option Addr) (cap' : Nat) (yss : List (List Bs)) (w : World)
    (hx : RRow w w.heap.size A xss) (hn : xss.length ≤ 140737488355328) (hs : ∀ xs ∈ xss, xs.length ≤ 140737488355328 ∧ ∀ x ∈ xs, x.length ≤ 140737488355328)
    (hy : RRow w w.heap.size A' yss) (hm : yss.length ≤ 140737488355328) (ht : ∀ xs ∈ yss, xs.length ≤ 140737488355328 ∧ ∀ x ∈ xs, x.length ≤ 140737488355328)
    (htab : Tab w.heap.size w) :
    Calls Tryd.prog 7 #[.slice A xss.length cap, .slice A' yss.length cap'] w fun e w' => e = .returned (.bool true) ∧ Below w.heap.size w w' := by
  obtain ⟨i0, hi, hz0, hz1, hz2⟩ := info_parts strInfo
  have HX := Lib.hid hx
  have HS := Lib.hid hs
  have HY := Lib.hid hy
  have HT := Lib.hid ht
  have HTAB : Hid (∀ W, Below w.heap.size w W → Tab W.heap.size W) := fun W hW => Lib.tabBelow_of_tabIs (htab.on hW).here
  have HTAB0 := Lib.hid htab
  obtain ⟨n, hln⟩ : ∃ n, xss.length = n := ⟨_, rfl⟩
  obtain ⟨m, hlm⟩ : ∃ m, yss.length = m := ⟨_, rfl⟩
  have HL := Lib.hid hln
  have HM := Lib.hid hlm
  rw [hln] at hn ⊢
  rw [hlm] at hm ⊢
  clear hx hs hy ht htab hln hlm
  by_cases hg1 : 30 < n
  · have hg1' : (30 : Int) < n := by omega
    clear hg1
    go_enter Tryd.func7, Tryd.ntmps7
    go_wp2_with fail
    refine (alive_any w HTAB0.out).mono ?_
    rintro e w1 ⟨rfl, hb1⟩
    have HB := Lib.hid hb1
    clear hb1
    go_wp2
    go_ret
    exact ⟨rfl, HB.out⟩
  · by_cases hg2 : 30 < m
    · have hg1' : (n : Int) ≤ 30 := by omega
      have hg2' : (30 : Int) < m := by omega
      clear hg1 hg2
      go_enter Tryd.func7, Tryd.ntmps7
      go_wp2_with fail
      refine (alive_any w HTAB0.out).mono ?_
      rintro e w1 ⟨rfl, hb1⟩
      have HB := Lib.hid hb1
      clear hb1
      go_wp2
      go_ret
      exact ⟨rfl, HB.out⟩
    · have hg1' : (n : Int) ≤ 30 := by omega
      have hg2' : (m : Int) ≤ 30 := by omega
      have hf0 : ((n : Int) == (m : Int)) = flag xss yss 0 := by
        rw [flag_zero, HL.out, HM.out, Bool.eq_iff_iff, beq_iff_eq, decide_eq_true_iff]; omega
      have HF0 := Lib.hid hf0
      clear hg1 hg2 hf0
      go_enter Tryd.func7, Tryd.ntmps7
      go_wp2_with fail
      refine (alive_any w HTAB0.out).mono ?_
      rintro e w1 ⟨rfl, hb1⟩
      have HB1 := Lib.hid hb1
      clear hb1
      go_wp2
      go_loopw [5, 6, 35] (fun f v i wr => ∃ (k : Nat) (sb : Bool), k ≤ n ∧ i = .int .i64 k ∧ f = .bool sb ∧ Hid (sb = flag xss yss k) ∧ Hid (Short (xss.take k)) ∧ Owns wr w.heap.size v ((xss.take k).map enc) ∧ Below w.heap.size w wr) (fun _ _ i _ => n - (intOf i).toNat)
      case atStart => exact ⟨0, _, Nat.zero_le _, rfl, rfl, HF0.out, Short.nil, Owns.nil _ _, HB1.out⟩
      case round =>
        obtain ⟨k, sb, hk, rfl, rfl, HSB, HSH, ho, hbw⟩ := hrel
        obtain ⟨acc, hacc⟩ : ∃ acc, acc = (xss.take k).map enc := ⟨_, rfl⟩
        have HACC := Lib.hid hacc
        rw [← hacc] at ho
        obtain ⟨Ax, capx, rfl⟩ := ho.form
        have HO := Lib.hid ho
        clear hacc
        have HW := Lib.hid hbw
        clear ho hbw HF0
        by_cases hlt : k < n
        · have hxk : xss[k]? = some (xss[k]'(by rw [HL.out]; exact hlt)) := List.getElem?_eq_getElem _
          generalize xss[k]'(by rw [HL.out]; exact hlt) = xs at hxk
          obtain ⟨b, o, Ar, capr, rfl, hbl, hc0, hrow0⟩ := HX.out k xs hxk
          have hc : wr.cell? ⟨b, o + k, none⟩ = some (.slice Ar xs.length capr) := (HW.out.cell (p := ⟨b, o + k, none⟩) hbl).trans hc0
          have hbd := HS.out xs (List.mem_of_getElem? hxk)
          have hlong := long_any Ar capr w.heap.size xs wr (hrow0.below HW.out (Nat.le_refl _)) (by omega) hbd.2
          have HXK := Lib.hid hxk
          have HR0 := Lib.hid hrow0
          have HLG := Lib.hid hlong
          obtain ⟨q, hq⟩ : ∃ q, xs.length = q := ⟨_, rfl⟩
          have HQ := Lib.hid hq
          have hq1 : q ≤ 140737488355328 := by omega
          rw [hq] at hc
          have hlg2 := HLG.out
          rw [hq] at hlg2
          have HLG2 := Lib.hid hlg2
          clear hc0 hxk hbd hlong hrow0 hq hlg2 HLG
          go_wp2_with fail
          refine HLG2.out.mono ?_
          rintro e w' ⟨rfl, rfl⟩
          cases hlg : longB xs
          · have htx := not_long hlg
            have hex := enc_le xs
            obtain ⟨X, hX⟩ : ∃ X : ByteArray, X.data.toList = enc xs := ⟨⟨(enc xs).toArray⟩, by simp⟩
            have hrx := row_str Ar capr xs X hX wr ((HR0.out.below HW.out (Nat.le_refl _)).more HW.out.size) (by rw [HQ.out]; exact hq1) (by omega) (HTAB.out _ HW.out)
            rw [HQ.out] at hrx
            have HRX := Lib.hid hrx
            have HEX := Lib.hid hX
            have HTX := Lib.hid htx
            have hal : acc.length ≤ 30 := by rw [HACC.out, List.length_map, List.length_take]; omega
            clear hrx hX htx hex hlg HLG2
            go_wp2_with fail
            refine HRX.out.mono ?_
            rintro e w2 ⟨rfl, hb2⟩
            have hw2 : Below w.heap.size w w2 := HW.out.trans (hb2.mono HW.out.size)
            have HW2 := Lib.hid hw2
            have ho2 : Owns w2 w.heap.size (.slice Ax acc.length capx) acc := owns_keep HO.out hb2
            have HO2 := Lib.hid ho2
            clear hb2 hw2 ho2 HRX HO
            go_wp2_with (at_builtin; refine wpList_append_own _ rfl (.tmp 42) (.tmp 45) 22 rfl w.heap.size 9 i0 (.string ⟨#[]⟩) 1 16 Tryd.underlying22 hi hz0 hz1 hz2 rfl (by decide) _ _ _ rfl (HO2.out.alloc _) ⟨w2.heap.size, 0, none⟩ 1 1 [SV (enc xs)] rfl rfl ?c1 ?c2 ?c3 ?c4 ?c5 ?_)
            case c1 =>
              rintro (_ | j) u hj
              · simp only [List.getElem?_cons_zero, Option.some.injEq] at hj
                subst hj
                rw [← HEX.out, ← SV_str]
                simp [Addr.add]
              · simp at hj
            case c2 => intro u hu; obtain rfl := List.mem_singleton.1 hu; rfl
            case c3 => simp only [maxLen]; omega
            case c4 => omega
            case c5 => have := HW2.out.size; simp; omega
            intro v' w3 hown' hgrow _
            have ho3 : Owns w3 w.heap.size v' ((xss.take (k + 1)).map enc) := by
              rw [take_snoc _ _ _ HXK.out, List.map_append, ← HACC.out]
              unfold Owns
              rw [List.length_append, List.map_append]
              exact hown'
            have hw3 : Below w.heap.size w w3 := (HW2.out.alloc HW2.out.size _).grown hgrow (by have := HW2.out.size; simp; omega) (fun g hg => (HO2.out.lt g hg).1)
            have hsh3 : Short (xss.take (k + 1)) := by
              rw [take_snoc _ _ _ HXK.out]
              exact HSH.out.snoc HTX.out
            obtain ⟨A3, cap3, rfl⟩ := ho3.form
            obtain ⟨L3, hL3⟩ : ∃ L, ((xss.take (k + 1)).map enc).length = L := ⟨_, rfl⟩
            have HO3 : Hid (Owns w3 w.heap.size (.slice A3 L3 cap3) ((xss.take (k + 1)).map enc)) := by rw [← hL3]; exact ho3
            rw [hL3]
            have HW3 := Lib.hid hw3
            have HSH3 := Lib.hid hsh3
            clear ho3 hw3 hsh3 hL3 hown' hgrow HO2 HW2 HEX HSH
            cases sb
            · have HFF := Lib.hid (flag_false _ _ _ HSB.out.symm)
              go_wp2
              go_roundw
              case rel => exact ⟨k + 1, false, by omega, by go_num, rfl, HFF.out.symm, HSH3.out, HO3.out, HW3.out⟩
              case measure => simp [intOf]; omega
            · have hft := HSB.out.symm
              have hnm : n = m := by
                have h := hft
                unfold flag at h
                rw [Bool.and_eq_true, decide_eq_true_eq, HL.out, HM.out] at h
                exact h.1
              have hkm : (k : Int) < m := by omega
              have hkm' : k < m := by omega
              have hyk : yss[k]? = some (yss[k]'(by rw [HM.out]; exact hkm')) := List.getElem?_eq_getElem _
              generalize yss[k]'(by rw [HM.out]; exact hkm') = ys at hyk
              obtain ⟨b', o', Ay, capy, rfl, hbl', hc0', hrow0'⟩ := HY.out k ys hyk
              obtain ⟨q', hq'⟩ : ∃ q, ys.length = q := ⟨_, rfl⟩
              have hbd' := HT.out ys (List.mem_of_getElem? hyk)
              have hsame : Calls Tryd.prog 13 #[.slice Ar q capr, .slice Ay q' capy] w3 fun e w' => e = .returned (.bool (decide (xs = ys))) ∧ ∃ k, w' = w3.drewN k := by
                have h := same_any Ar Ay capr capy w.heap.size xs ys w3 (HR0.out.below HW3.out (Nat.le_refl _)) (hrow0'.below HW3.out (Nat.le_refl _)) (by rw [HQ.out]; omega) (by omega)
                rw [HQ.out, hq'] at h
                exact h
              have hc3 : w3.cell? ⟨b', o' + k, none⟩ = some (.slice Ay q' capy) := by
                rw [← hq']
                exact (HW3.out.cell (p := ⟨b', o' + k, none⟩) hbl').trans hc0'
              have hft2 := flag_true _ _ _ _ _ hft HXK.out hyk
              obtain ⟨sb', hsb'⟩ : ∃ b, b = flag xss yss (k + 1) := ⟨_, rfl⟩
              rw [← hft2, ← hsb'] at hsame
              have HSM := Lib.hid hsame
              have HSB' := Lib.hid hsb'
              clear hft hft2 hsb' hsame hbd' hrow0' hc0' hyk hq' hnm hkm' HSB
              go_wp2_with fail
              refine HSM.out.mono ?_
              rintro e w4 ⟨rfl, d, rfl⟩
              have HW4 := Lib.hid (below_dn HW3.out d)
              have HO4 : Hid (Owns (w3.drewN d) w.heap.size (.slice A3 L3 cap3) ((xss.take (k + 1)).map enc)) := HO3.out
              clear HO3 HW3 HSM
              go_wp2
              go_roundw
              case rel => exact ⟨k + 1, sb', by omega, by go_num, rfl, HSB'.out, HSH3.out, HO4.out, HW4.out⟩
              case measure => simp [intOf]; omega
          · have HBW := HW.out
            go_wp2
            go_ret
            exact ⟨rfl, HBW⟩
        · -- behind the first loop
          have hkn : k = n := by omega
          have hall : xss.take k = xss := List.take_of_length_le (by rw [HL.out]; omega)
          have hacc := HACC.out
          rw [hall] at hacc
          have hsh := HSH.out
          rw [hall] at hsh
          have hsb := HSB.out
          rw [hkn, ← HL.out, flag_all] at hsb
          have hal : acc.length = n := by rw [hacc, List.length_map, HL.out]
          have HACC1 := Lib.hid hacc
          have HSHX := Lib.hid hsh
          have HSBX := Lib.hid hsb
          rw [hal] at HO ⊢
          have HAL := Lib.hid hal
          obtain ⟨wa, rfl⟩ : ∃ wo : World, wo = wr := ⟨_, rfl⟩
          clear hall hacc hsh hsb hal hkn HACC HSH HSB
          go_wp2
          go_loopw [7, 65] (fun v i wr => ∃ k : Nat, k ≤ m ∧ i = .int .i64 k ∧ Hid (Short (yss.take k)) ∧ Owns wr wa.heap.size v ((yss.take k).map enc) ∧ Below wa.heap.size wa wr) (fun _ i _ => m - (intOf i).toNat)
          case atStart => exact ⟨0, Nat.zero_le _, rfl, Short.nil, Owns.nil _ _, Below.refl _ _⟩
          case round =>
            obtain ⟨j, hj, rfl, HSH, ho, hbw⟩ := hrel
            obtain ⟨accy, haccy⟩ : ∃ acc, acc = (yss.take j).map enc := ⟨_, rfl⟩
            have HACCY := Lib.hid haccy
            rw [← haccy] at ho
            obtain ⟨Ay, capy, rfl⟩ := ho.form
            have HOY := Lib.hid ho
            have HWY := Lib.hid hbw
            clear haccy ho hbw
            by_cases hltj : j < m
            · have hyk : yss[j]? = some (yss[j]'(by rw [HM.out]; exact hltj)) := List.getElem?_eq_getElem _
              generalize yss[j]'(by rw [HM.out]; exact hltj) = ys at hyk
              obtain ⟨b, o, Ar, capr, rfl, hbl, hc0, hrow0⟩ := HY.out j ys hyk
              have hwr : Below w.heap.size w wr := HW.out.trans (HWY.out.mono HW.out.size)
              have hc : wr.cell? ⟨b, o + j, none⟩ = some (.slice Ar ys.length capr) := (hwr.cell (p := ⟨b, o + j, none⟩) hbl).trans hc0
              have hbd := HT.out ys (List.mem_of_getElem? hyk)
              have hlong := long_any Ar capr w.heap.size ys wr (hrow0.below hwr (Nat.le_refl _)) (by omega) hbd.2
              have HYK := Lib.hid hyk
              have HR0 := Lib.hid hrow0
              have HWR := Lib.hid hwr
              obtain ⟨q, hq⟩ : ∃ q, ys.length = q := ⟨_, rfl⟩
              have HQ := Lib.hid hq
              have hq1 : q ≤ 140737488355328 := by omega
              rw [hq] at hc hlong
              have HLG2 := Lib.hid hlong
              clear hc0 hyk hbd hlong hrow0 hq hwr
              go_wp2_with fail
              refine HLG2.out.mono ?_
              rintro e w' ⟨rfl, rfl⟩
              cases hlg : longB ys
              · have htx := not_long hlg
                have hex := enc_le ys
                obtain ⟨X, hX⟩ : ∃ X : ByteArray, X.data.toList = enc ys := ⟨⟨(enc ys).toArray⟩, by simp⟩
                have hrx := row_str Ar capr ys X hX wr ((HR0.out.below HWR.out (Nat.le_refl _)).more HWR.out.size) (by rw [HQ.out]; exact hq1) (by omega) (HTAB.out _ HWR.out)
                rw [HQ.out] at hrx
                have HRX := Lib.hid hrx
                have HEX := Lib.hid hX
                have HTX := Lib.hid htx
                have haly : accy.length ≤ 30 := by rw [HACCY.out, List.length_map, List.length_take]; omega
                clear hrx hX htx hex hlg HLG2
                go_wp2_with fail
                refine HRX.out.mono ?_
                rintro e w2 ⟨rfl, hb2⟩
                have hw2 : Below wa.heap.size wa w2 := HWY.out.trans (hb2.mono HWY.out.size)
                have HW2 := Lib.hid hw2
                have ho2 : Owns w2 wa.heap.size (.slice Ay accy.length capy) accy := owns_keep HOY.out hb2
                have HO2 := Lib.hid ho2
                clear hb2 hw2 ho2 HRX HOY
                go_wp2_with (at_builtin; refine wpList_append_own _ rfl (.tmp 71) (.tmp 74) 22 rfl wa.heap.size 9 i0 (.string ⟨#[]⟩) 1 16 Tryd.underlying22 hi hz0 hz1 hz2 rfl (by decide) _ _ _ rfl (HO2.out.alloc _) ⟨w2.heap.size, 0, none⟩ 1 1 [SV (enc ys)] rfl rfl ?c1 ?c2 ?c3 ?c4 ?c5 ?_)
                case c1 =>
                  rintro (_ | j) u hj
                  · simp only [List.getElem?_cons_zero, Option.some.injEq] at hj
                    subst hj
                    rw [← HEX.out, ← SV_str]
                    simp [Addr.add]
                  · simp at hj
                case c2 => intro u hu; obtain rfl := List.mem_singleton.1 hu; rfl
                case c3 => simp only [maxLen]; omega
                case c4 => omega
                case c5 => have := HW2.out.size; simp; omega
                intro v' w3 hown' hgrow _
                have ho3 : Owns w3 wa.heap.size v' ((yss.take (j + 1)).map enc) := by
                  rw [take_snoc _ _ _ HYK.out, List.map_append, ← HACCY.out]
                  unfold Owns
                  rw [List.length_append, List.map_append]
                  exact hown'
                have hw3 : Below wa.heap.size wa w3 := (HW2.out.alloc HW2.out.size _).grown hgrow (by have := HW2.out.size; simp; omega) (fun g hg => (HO2.out.lt g hg).1)
                have hsh3 : Short (yss.take (j + 1)) := by
                  rw [take_snoc _ _ _ HYK.out]
                  exact HSH.out.snoc HTX.out
                have HO3 := Lib.hid ho3
                have HW3 := Lib.hid hw3
                have HSH3 := Lib.hid hsh3
                clear ho3 hw3 hsh3 hown' hgrow HO2 HW2 HEX HSH
                go_wp2
                go_roundw
                case rel => exact ⟨j + 1, by omega, by go_num, HSH3.out, HO3.out, HW3.out⟩
                case measure => simp [intOf]; omega
              · have HBW := HWR.out
                go_wp2
                go_ret
                exact ⟨rfl, HBW⟩
            · -- behind the second loop
              have hall : yss.take j = yss := List.take_of_length_le (by rw [HM.out]; omega)
              have hacc := HACCY.out
              rw [hall] at hacc
              have hsh := HSH.out
              rw [hall] at hsh
              have haly : accy.length = m := by rw [hacc, List.length_map, HM.out]
              have HACCY1 := Lib.hid hacc
              have HSHY := Lib.hid hsh
              rw [haly] at HOY ⊢
              have HALY := Lib.hid haly
              have hwb : Below w.heap.size w wr := HW.out.trans (HWY.out.mono HW.out.size)
              have hox : Owns wr w.heap.size (.slice Ax n capx) acc := owns_keep HO.out HWY.out
              have hZl : (enc acc).length ≤ 700000 := by rw [HACC1.out]; exact short_enc xss HSHX.out (by rw [HL.out]; omega)
              have hYl : (enc accy).length ≤ 700000 := by rw [HACCY1.out]; exact short_enc yss HSHY.out (by rw [HM.out]; omega)
              obtain ⟨Z, hZ⟩ : ∃ Z : ByteArray, Z.data.toList = enc acc := ⟨⟨(enc acc).toArray⟩, by simp⟩
              have hrz := row_str Ax capx acc Z hZ wr hox.row (by rw [HAL.out]; exact hn) (by omega) (HTAB.out _ hwb)
              rw [HAL.out] at hrz
              have HRZ := Lib.hid hrz
              have HZ := Lib.hid hZ
              have HWB := Lib.hid hwb
              have HOX := Lib.hid hox
              have HZL := Lib.hid hZl
              have HYL := Lib.hid hYl
              clear hall hacc hsh haly hwb hox hrz hZ hZl hYl HACCY HSH HWY HW HO
              go_wp2_with fail
              refine HRZ.out.mono ?_
              rintro e w7 ⟨rfl, hb7⟩
              have hw7 : Below w.heap.size w w7 := HWB.out.trans (hb7.mono HWB.out.size)
              have HW7 := Lib.hid hw7
              have HOX7 : Hid (Owns w7 w.heap.size (.slice Ax n capx) acc) := owns_keep HOX.out hb7
              have HOY7 : Hid (Owns w7 wa.heap.size (.slice Ay m capy) accy) := owns_keep HOY.out hb7
              have hct := texts_any Z w7 (by rw [← data_length, HZ.out]; have := HZL.out; omega)
              have HCT := Lib.hid hct
              clear hb7 hw7 hct HRZ HOX HOY HWB
              go_wp2_with fail
              refine HCT.out.mono ?_
              rintro e w8 ⟨v, rfl, ho8, hb8⟩
              have hdec : dec Z.data.toList = (0, acc) := by
                rw [HZ.out]
                exact dec_enc acc (by rw [HACC1.out]; exact short_each xss HSHX.out)
              rw [hdec] at ho8 ⊢
              obtain ⟨A8, cap8, rfl⟩ := ho8.form
              have hw8 : Below w.heap.size w w8 := HW7.out.trans (hb8.mono HW7.out.size)
              have HW8 := Lib.hid hw8
              have HOX8 : Hid (Owns w8 w.heap.size (.slice Ax n capx) acc) := owns_keep HOX7.out hb8
              have HOY8 : Hid (Owns w8 wa.heap.size (.slice Ay m capy) accy) := owns_keep HOY7.out hb8
              have HR8 : Hid (SRow w8 w8.heap.size A8 acc) := ho8.row
              simp only [HAL.out, Int.natCast_zero]
              clear hb8 hw8 ho8 hdec HCT HW7 HOX7 HOY7
              go_wp2
              go_loopw [94] (fun i wr => ∃ k : Nat, k ≤ n ∧ i = .int .i64 k ∧ Below w8.heap.size w8 wr) (fun i _ => n - (intOf i).toNat)
              case atStart => exact ⟨0, Nat.zero_le _, rfl, Below.refl _ _⟩
              case round =>
                obtain ⟨k, hk, rfl, hbw⟩ := hrel
                have HWK := Lib.hid hbw
                have hwk : Below w.heap.size w wr := HW8.out.trans (hbw.mono HW8.out.size)
                have HWW := Lib.hid hwk
                clear hbw hwk
                by_cases hlt : k < n
                · have hxk : xss[k]? = some (xss[k]'(by rw [HL.out]; exact hlt)) := List.getElem?_eq_getElem _
                  generalize xss[k]'(by rw [HL.out]; exact hlt) = xs at hxk
                  have hak : acc[k]? = some (enc xs) := by rw [HACC1.out, List.getElem?_map, hxk]; rfl
                  obtain ⟨b8, o8, s8, rfl, hbl8, hs8, hc8⟩ := HR8.out k _ hak
                  have hcs : wr.cell? ⟨b8, o8 + k, none⟩ = some (.string s8) := (HWK.out.cell (p := ⟨b8, o8 + k, none⟩) hbl8).trans hc8
                  have htx : tot xs ≤ 5000 := HSHX.out xs (List.mem_of_getElem? hxk)
                  have hex := enc_le xs
                  have hct := texts_any s8 wr (by rw [← data_length, hs8]; omega)
                  rw [hs8] at hct
                  have HCT := Lib.hid hct
                  have hdec : dec (enc xs) = (0, xs) := dec_enc xs (short_mem htx)
                  have HDEC := Lib.hid hdec
                  obtain ⟨b, o, Ar, capr, rfl, hbl, hc0, hrow0⟩ := HX.out k xs hxk
                  have HR0 := Lib.hid hrow0
                  have hbd := (HS.out xs (List.mem_of_getElem? hxk)).1
                  obtain ⟨q, hq⟩ : ∃ q, xs.length = q := ⟨_, rfl⟩
                  have HQ := Lib.hid hq
                  rw [hq] at hc0 hbd
                  have hki : (k : Int) < n := by omega
                  have HC0 := Lib.hid hc0
                  clear hxk hak hs8 hc8 htx hex hct hdec hrow0 hq hc0
                  go_wp2_with fail
                  refine HCT.out.mono ?_
                  rintro e w9 ⟨v9, rfl, ho9, hb9⟩
                  rw [HDEC.out] at ho9 ⊢
                  obtain ⟨A9, cap9, rfl⟩ := ho9.form
                  have hw9 : Below w.heap.size w w9 := HWW.out.trans (hb9.mono HWW.out.size)
                  have hc9 : w9.cell? ⟨b, o + k, none⟩ = some (.slice Ar q capr) := (hw9.cell (p := ⟨b, o + k, none⟩) hbl).trans HC0.out
                  have hsame : Calls Tryd.prog 13 #[.slice A9 q cap9, .slice Ar q capr] w9 fun e w' => e = .returned (.bool true) ∧ ∃ k, w' = w9.drewN k := by
                    have h := same_any A9 Ar cap9 capr w9.heap.size xs xs w9 ho9.row ((HR0.out.below hw9 (Nat.le_refl _)).more hw9.size) (by rw [HQ.out]; omega) (by rw [HQ.out]; omega)
                    rw [HQ.out, decide_eq_true (rfl : xs = xs)] at h
                    exact h
                  have HSM := Lib.hid hsame
                  have HW9 : Hid (Below w8.heap.size w8 w9) := Lib.hid (HWK.out.trans (hb9.mono HWK.out.size))
                  simp only [HQ.out, Int.natCast_zero]
                  clear ho9 hb9 hw9 hsame HCT HWK HWW
                  go_wp2_with fail
                  refine HSM.out.mono ?_
                  rintro e w10 ⟨rfl, d, rfl⟩
                  go_wp2
                  go_roundw
                  case rel => exact ⟨k + 1, by omega, by go_num, below_dn HW9.out d⟩
                  case measure => simp [intOf]; omega
                · -- behind the third loop
                  have hox : Owns wr w.heap.size (.slice Ax n capx) acc := owns_keep HOX8.out HWK.out
                  have hrx := row_str Ax capx acc Z HZ.out wr hox.row (by rw [HAL.out]; exact hn) (by have := HZL.out; omega) (HTAB.out _ HWW.out)
                  rw [HAL.out] at hrx
                  obtain ⟨Y, hY⟩ : ∃ Y : ByteArray, Y.data.toList = enc accy := ⟨⟨(enc accy).toArray⟩, by simp⟩
                  have hoy : Owns wr wa.heap.size (.slice Ay m capy) accy := owns_keep HOY8.out HWK.out
                  have HRX := Lib.hid hrx
                  have HYY := Lib.hid hY
                  have HOYR := Lib.hid hoy
                  have heq : (Z.toList == Y.toList) = sb := by
                    rw [ByteArray.toList_eq, ByteArray.toList_eq, HZ.out, hY, HSBX.out, Bool.eq_iff_iff, beq_iff_eq, decide_eq_true_iff, HACC1.out, HACCY1.out]
                    refine ⟨fun h => map_enc_inj _ _ HSHX.out HSHY.out (enc_inj (short_each _ HSHX.out) (short_each _ HSHY.out) h), fun h => by rw [h]⟩
                  clear hox hrx hY hoy
                  go_wp2_with fail
                  refine HRX.out.mono ?_
                  rintro e w11 ⟨rfl, hb11⟩
                  have hw11 : Below w.heap.size w w11 := HWW.out.trans (hb11.mono HWW.out.size)
                  have hoy : Owns w11 wa.heap.size (.slice Ay m capy) accy := owns_keep HOYR.out hb11
                  have hry := row_str Ay capy accy Y HYY.out w11 hoy.row (by rw [HALY.out]; exact hm) (by have := HYL.out; omega) (HTAB.out _ hw11)
                  rw [HALY.out] at hry
                  have HRY := Lib.hid hry
                  have HW11 := Lib.hid hw11
                  clear hb11 hw11 hoy hry
                  go_wp2_with fail
                  refine HRY.out.mono ?_
                  rintro e w12 ⟨rfl, hb12⟩
                  have HW12 : Hid (Below w.heap.size w w12) := Lib.hid (HW11.out.trans (hb12.mono HW11.out.size))
                  clear hb12
                  go_wp2
                  go_ret
                  exact ⟨by simp, HW12.out⟩
end Pk
end Go.Proofs.YthjnbjfcjjnkaaaDoor
