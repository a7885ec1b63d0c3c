/-
  Layer 5 (tree): the walk of Paths.
-/
import Derived.Test.YtkldgfdfpanelaaDoorUD
namespace Go.Proofs.YtkldgfdfpanelaaDoor
namespace Tr
open Go.RowKit Go.ChangeShapes Pt

theorem owns_keep {w w' : World} {b : Nat} {v : Value} {t : List Bs} (h : Owns w b v t) (hb : Below w.heap.size w w') : Owns w' b v t := by
  refine ⟨h.1, h.2.imp id ?_⟩
  rintro ⟨g', c, cur, h1, h2, h3, h4⟩
  have hlt : g' < w.heap.size := by
    rcases Nat.lt_or_ge g' w.heap.size with h5 | h5
    · exact h5
    · rw [Array.getElem?_eq_none h5] at h3; cases h3
  exact ⟨g', c, cur, h1, h2, (hb.block g' hlt).trans h3, h4⟩
theorem below_under {d p : Bs} (h : okName p = true) : belowV d p = under p d := by
  have hm : may p = true := by
    unfold okName at h
    simp only [Bool.and_eq_true] at h
    exact h.1.1
  unfold belowV under
  rw [hm]
  by_cases hd : d = []
  · subst hd; rfl
  · rw [beq_eq_false_iff_ne.2 hd]; simp

set_option maxRecDepth 100000 in
set_option maxHeartbeats 4000000 in
theorem paths_any : PPaths := by
  intro A cap n t p w hn hf hx hp
  obtain ⟨i0, hi, hz0, hz1, hz2⟩ := info_parts strInfo
  have hnl : n ≤ 1000 := by rw [← hn]; exact hf.1
  obtain ⟨b, hb⟩ : ∃ b, decide (tcheck t = 0) = b := ⟨_, rfl⟩
  have HT := Lib.hid (istree_any A cap n t b w hb hn hf hx)
  have HX := Lib.hid hx
  have HN := Lib.hid hn
  have HL := Lib.hid hf.2
  cases b
  · have HV : Hid (pathsV t p.data.toList = []) := by
      show _ = _
      unfold pathsV; rw [if_neg (of_decide_eq_false hb)]
    clear hx hn hf hb
    go_enter Tryd.func9, Tryd.ntmps9
    go_wp2_with fail
    refine HT.out.mono ?_
    rintro e w1 ⟨rfl, hb1⟩
    have HB1 := Lib.hid hb1
    clear hb1
    go_wp2_with fail
    go_ret
    unfold GotS
    rw [HV.out]
    exact ⟨none, 0, 0, rfl, rfl, SRow.none_ _ _ _, HB1.out⟩
  · have HPV : Hid (pathsV t p.data.toList = pathsTo t p.data.toList n) := by
      show _ = _
      unfold pathsV pathsTo; rw [if_pos (of_decide_eq_true hb), List.take_of_length_le (by rw [HN.out]; exact Nat.le_refl _)]
    have HOK : Hid (∀ f ∈ t, okName f.1 = true) := fun f hf => (((tree_iff t).1 (of_decide_eq_true hb)).2.2 f hf).1
    clear hx hn hf hb
    go_enter Tryd.func9, Tryd.ntmps9
    go_wp2_with fail
    refine HT.out.mono ?_
    rintro e w1 ⟨rfl, hb1⟩
    have HX1 := Lib.hid (HX.out.below hb1 (Nat.le_refl _))
    have HB1 := Lib.hid hb1
    have HN1 : Hid (Owns w1 w.heap.size (.slice none 0 0) []) := Owns.nil _ _
    clear hb1
    go_wp2_with fail
    go_loopw [5, 13] (fun v i wr => ∃ (k m cap : Nat) (A' : Option Addr), k ≤ n ∧ i = .int .i64 k ∧ v = .slice A' m cap ∧ m ≤ k ∧ Hid ((pathsTo t p.data.toList k).length = m) ∧ Hid (Owns wr w.heap.size (.slice A' m cap) (pathsTo t p.data.toList k)) ∧ Hid (FRow wr w.heap.size A t) ∧ Hid (Below w.heap.size w wr)) (fun _ i _ => n - (intOf i).toNat)
    case atStart => exact ⟨0, 0, 0, none, Nat.zero_le _, rfl, rfl, Nat.le_refl _, rfl, HN1.out, HX1.out, HB1.out⟩
    case round =>
      obtain ⟨k, m, cap1, A', hk, rfl, rfl, hm, HLN, HO, HX, HBW⟩ := hrel
      clear HN1 HX1
      by_cases hlt : k < n
      · have hki : (k : Int) < n := by omega
        have hxk : t[k]? = some (t[k]'(by rw [HN.out]; exact hlt)) := List.getElem?_eq_getElem _
        generalize t[k]'(by rw [HN.out]; exact hlt) = x at hxk
        obtain ⟨b1, o1, sp, sd, rfl, hb1, hsp, hsd, cP, cD⟩ := HX.out k x hxk
        obtain rfl : x = (sp.data.toList, sd.data.toList) := Prod.ext hsp.symm hsd.symm
        have hst := pathsTo_succ (d := p.data.toList) hxk
        have hsps : sp.size ≤ 1000 := by
          have := (HL.out _ (List.mem_of_getElem? hxk)).1
          rw [data_length] at this
          exact this
        have hok := HOK.out _ (List.mem_of_getElem? hxk)
        obtain ⟨L, hL⟩ : ∃ L, pathsTo t p.data.toList k = L := ⟨_, rfl⟩
        rw [hL] at HLN HO hst
        clear hL hxk hsp hsd
        obtain ⟨u, hu⟩ : ∃ u, under sp.data.toList p.data.toList = u := ⟨_, rfl⟩
        have HU := Lib.hid (fun W => under_any sp p u hu W (by omega) (by omega))
        have hbv : belowV p.data.toList sp.data.toList = u := by rw [← hu]; exact below_under hok
        rw [hbv] at hst
        have hbr : b1 < wr.heap.size := Nat.lt_of_lt_of_le hb1 HBW.out.size
        obtain ⟨w0, hw0⟩ : ∃ w0, w0 = wr.alloc (.cells #[.string sp, .string sd] 30) := ⟨_, rfl⟩
        have hs0 : w0.heap.size = wr.heap.size + 1 := by rw [hw0]; simp
        have HB0 : Hid (Below wr.heap.size wr w0) := by rw [hw0]; exact (Below.refl _ _).alloc (Nat.le_refl _) _
        have HC0 : Hid (w0.cell? ⟨wr.heap.size, 0, none⟩ = some (.string sp)) := by show _ = _; rw [hw0]; simp
        have HFX : Hid (∀ W, Below w0.heap.size w0 W → W.cell? ⟨wr.heap.size, 0, none⟩ = some (.string sp) ∧ Hid (FRow W w.heap.size (some ⟨b1, o1, none⟩) t) ∧ Hid (Owns W w.heap.size (.slice A' m cap1) L) ∧ Hid (Below w.heap.size w W)) := fun W hW => by
          have hle := HBW.out.size
          exact ⟨(hW.cell (by show wr.heap.size < _; omega)).trans HC0.out, (HX.out.below HB0.out hle).below hW (by omega), owns_keep (owns_keep HO.out HB0.out) hW, (HBW.out.trans (HB0.out.mono hle)).trans (hW.mono (by omega))⟩
        clear hu hbv hok
        cases u
        · have HST : Hid (pathsTo t p.data.toList (k + 1) = L) := by show _ = _; rw [hst]; simp
          clear hst
          go_wp2_with fail
          rw [← hw0]
          clear hw0
          refine (HU.out _).mono ?_
          rintro e w2 ⟨rfl, hb2⟩
          obtain ⟨f1, HX2, HO2, HW2⟩ := HFX.out _ hb2
          clear hb2
          go_wp2
          go_roundw
          case rel => exact ⟨k + 1, m, cap1, A', by omega, by go_num, rfl, by omega, by rw [HST.out]; exact HLN.out, by rw [HST.out]; exact HO2.out, HX2.out, HW2.out⟩
          case measure => simp [intOf]; omega
        · have HST : Hid (pathsTo t p.data.toList (k + 1) = L ++ [sp.data.toList]) := by show _ = _; rw [hst]; simp
          clear hst
          go_wp2_with fail
          rw [← hw0]
          clear hw0
          refine (HU.out _).mono ?_
          rintro e w3 ⟨rfl, hb2⟩
          obtain ⟨f1, HX3, HO3, HW3⟩ := HFX.out _ hb2
          clear hb2
          go_wp2_with (at_builtin; refine wpList_append_own _ rfl _ _ 31 rfl (w.heap.size) 9 i0 (.string ⟨#[]⟩) 1 16 Tryd.underlying31 hi hz0 hz1 hz2 rfl (by decide) _ m ((L).map SV) rfl ?c0a ⟨w3.heap.size, 0, none⟩ 1 1 [.string sp] rfl rfl ?c1a ?c2a ?c3a ?c4a ?c5a ?_)
          case c0a => have := HO3.out.alloc (.cells #[.string sp] 9); rw [HLN.out] at this; exact this
          case c2a => intro u hu; obtain rfl := List.mem_singleton.1 hu; rfl
          case c3a => simp only [maxLen]; omega
          case c4a => omega
          case c5a => have := HW3.out.size; simp at this ⊢; omega
          · rintro (_ | j) u hj
            · simp only [List.getElem?_cons_zero, Option.some.injEq] at hj
              subst hj
              simp [Addr.add]
            · simp at hj
          intro v' w2 hown' hgrow _
          obtain ⟨g2, cap2, rfl, _, _⟩ := hown'.form (by omega)
          have HW2 := Lib.hid ((HW3.out.alloc (by have := HW3.out.size; simp at this ⊢; omega) _).grown hgrow (by have := HW3.out.size; simp at this ⊢; omega) (fun q hq => (HO3.out.lt q hq).1))
          have HLN2 : Hid ((L ++ [sp.data.toList]).length = m + 1) := by show _ = _; rw [List.length_append, HLN.out]; rfl
          have HO2 : Hid (Owns w2 (w.heap.size) (.slice (some ⟨g2, 0, none⟩) (m + 1) cap2) (L ++ [sp.data.toList])) := by
            show Owns _ _ _ _
            unfold Owns
            rw [HLN2.out, List.map_append]
            rw [SV_str] at hown'
            first | exact hown' | simpa using hown'
          clear hown' hgrow
          have HX2 : Hid (FRow w2 w.heap.size (some ⟨b1, o1, none⟩) t) := HX3.out.keep fun q hq => (HW2.out.cell hq).trans (HW3.out.cell hq).symm
          go_wp2
          go_roundw
          case rel => exact ⟨k + 1, m + 1, cap2, _, by omega, by go_num, rfl, by omega, by rw [HST.out]; exact HLN2.out, by rw [HST.out]; exact HO2.out, HX2.out, HW2.out⟩
          case measure => simp [intOf]; omega
      · obtain rfl : k = n := by omega
        go_wp2
        go_ret
        unfold GotS
        rw [HPV.out]
        exact ⟨A', m, cap1, rfl, HLN.out, by have h := HO.out; rw [← HLN.out] at h; exact h.row, HBW.out⟩
end Tr
end Go.Proofs.YtkldgfdfpanelaaDoor
