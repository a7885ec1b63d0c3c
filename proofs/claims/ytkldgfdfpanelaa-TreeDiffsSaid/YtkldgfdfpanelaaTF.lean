/-
  Layer 5 (tree): the walks of the document's Drop and Paths.
-/
import Derived.Test.YtkldgfdfpanelaaTE
namespace Go.Proofs.Ytkldgfdfpanelaa
namespace Tr
open Go.RowKit Go.ChangeShapes Pt

set_option maxRecDepth 100000 in
set_option maxHeartbeats 4000000 in
theorem refdrop_any (A : Option Addr) (cap B n : Nat) (t : List Fl) (p : ByteArray) (w : World) (hn : t.length = n) (hnm : n ≤ 90000) (hl : ∀ f ∈ t, f.1.length ≤ 100000) (hx : FRow w B A t) (hB : B ≤ w.heap.size) :
    Calls Try.prog 16 #[.slice A n cap, .string p] w (AnsF w (dropV t p.data.toList)) := by
  obtain ⟨i0, hi, hz0, hz1, hz2⟩ := info_parts fileInfo
  obtain ⟨w0, hw0⟩ : ∃ w0, w0 = w.alloc (.cells #[] 29) := ⟨_, rfl⟩
  have hs0 : w0.heap.size = w.heap.size + 1 := by rw [hw0]; simp
  have HB0 : Hid (Below w.heap.size w w0) := by rw [hw0]; exact (Below.refl _ _).alloc (Nat.le_refl _) _
  have HX0 : Hid (FRow w0 w.heap.size A t) := by rw [hw0]; exact (hx.more hB).alloc (Nat.le_refl _) _
  have ho0 : OwnsF w0 w.heap.size (.slice (some ⟨w.heap.size, 0, none⟩) 0 0) [] := by
    rw [hw0]
    exact World.ownsRow_lit (base := w.heap.size) (e := 29) (size := 2) w #[] 0 (Nat.le_refl _) (by decide) rfl
  have HO0 := Lib.hid ho0
  have HN := Lib.hid hn
  have HL := Lib.hid hl
  clear ho0 hx hn hl
  obtain ⟨c, hc⟩ : ∃ c, tcheck t = c := ⟨_, rfl⟩
  have HCH := Lib.hid (fun W (h : FRow W w.heap.size A t) (hW : w.heap.size ≤ W.heap.size) => refcheck_any A cap w.heap.size n t c hc W HN.out (by omega) HL.out h hW)
  by_cases hc0 : c = 0
  · subst hc0
    have HPV : Hid (dropV t p.data.toList = t.filter (fun x => decide (x.1 ≠ p.data.toList))) := by
      show _ = _
      unfold dropV; rw [if_pos hc]
    clear hc
    go_enter Try.func16, Try.ntmps16
    go_wp2_with fail
    rw [← hw0]
    clear hw0
    refine (HCH.out _ HX0.out (by omega)).mono ?_
    rintro e w1 ⟨rfl, hb1⟩
    have HB1 := Lib.hid (HB0.out.trans (hb1.mono HB0.out.size))
    have HX1 := Lib.hid (HX0.out.below hb1 (by omega))
    have HN1 := Lib.hid (HO0.out.later hb1 (Nat.le_refl _))
    clear hb1
    go_wp2_with fail
    go_loopw [5, 14] (fun v i wr => ∃ (k g m cap : Nat), k ≤ n ∧ i = .int .i64 k ∧ v = .slice (some ⟨g, 0, none⟩) m cap ∧ m ≤ k ∧ Hid (((t.take k).filter (fun x => decide (x.1 ≠ p.data.toList))).length = m) ∧ Hid (OwnsF wr w.heap.size (.slice (some ⟨g, 0, none⟩) m cap) ((t.take k).filter (fun x => decide (x.1 ≠ p.data.toList)))) ∧ Hid (FRow wr w.heap.size A t) ∧ Hid (Below w.heap.size w wr)) (fun _ i _ => n - (intOf i).toNat)
    case atStart => exact ⟨0, _, 0, 0, Nat.zero_le _, rfl, rfl, Nat.le_refl _, rfl, HN1.out, HX1.out, HB1.out⟩
    case round =>
      obtain ⟨k, g, m, cap1, hk, rfl, rfl, hm, HLN, HO, HX, HBW⟩ := hrel
      clear HN1 HX1
      by_cases hlt : k < n
      · have hki : (k : Int) < n := by omega
        have hxk : t[k]? = some (t[k]'(by rw [HN.out]; exact hlt)) := List.getElem?_eq_getElem _
        generalize t[k]'(by rw [HN.out]; exact hlt) = x at hxk
        obtain ⟨b1, o1, sp, sd, rfl, hb1, hsp, hsd, cP, cD⟩ := HX.out k x hxk
        obtain rfl : x = (sp.data.toList, sd.data.toList) := Prod.ext hsp.symm hsd.symm
        have hst : (t.take (k + 1)).filter (fun x => decide (x.1 ≠ p.data.toList)) = (t.take k).filter (fun x => decide (x.1 ≠ p.data.toList)) ++ [(sp.data.toList, sd.data.toList)].filter (fun x => decide (x.1 ≠ p.data.toList)) := by rw [take_snoc t k _ hxk, List.filter_append]
        have he : (sp.toList == p.toList) = decide (sp.data.toList = p.data.toList) := by rw [ByteArray.toList_eq, ByteArray.toList_eq]; exact beqB _ _
        obtain ⟨L, hL⟩ : ∃ L, (t.take k).filter (fun x => decide (x.1 ≠ p.data.toList)) = L := ⟨_, rfl⟩
        rw [hL] at HLN HO hst
        clear hL hxk hsp hsd
        by_cases heq : sp.data.toList = p.data.toList
        · rw [decide_eq_true heq] at he
          have HST : Hid ((t.take (k + 1)).filter (fun x => decide (x.1 ≠ p.data.toList)) = L) := by show _ = _; rw [hst]; simp [heq]
          clear hst heq
          go_wp2
          go_roundw
          case rel => exact ⟨k + 1, g, m, cap1, by omega, by go_num, rfl, by omega, by rw [HST.out]; exact HLN.out, by rw [HST.out]; exact HO.out, HX.out, HBW.out⟩
          case measure => simp [intOf]; omega
        · rw [decide_eq_false heq] at he
          have HST : Hid ((t.take (k + 1)).filter (fun x => decide (x.1 ≠ p.data.toList)) = L ++ [(sp.data.toList, sd.data.toList)]) := by show _ = _; rw [hst]; simp [heq]
          clear hst heq
          go_wp2_with (at_builtin; refine wpList_append_own _ rfl _ _ 22 rfl (w.heap.size) 29 i0 (.agg #[.string ⟨#[]⟩, .string ⟨#[]⟩]) 2 32 Try.underlying22 hi hz0 hz1 hz2 rfl (by decide) _ m (cellsF (L)) rfl ?c0a ⟨wr.heap.size, 0, none⟩ 1 1 [.string sp, .string sd] rfl rfl ?c1a ?c2a ?c3a ?c4a ?c5a ?_)
          case c0a => have := HO.out.alloc' (.cells #[.string sp, .string sd] 29); unfold OwnsF at this; rw [HLN.out] at this; exact this
          case c2a => intro u hu; simp only [List.mem_cons, List.mem_nil_iff, or_false] at hu; rcases hu with rfl | rfl <;> rfl
          case c3a => simp only [maxLen]; omega
          case c4a => omega
          case c5a => have := HBW.out.size; simp at this ⊢; omega
          · rintro (_ | _ | j) u hj
            · simp only [List.getElem?_cons_zero, Option.some.injEq] at hj
              subst hj
              simp [Addr.add]
            · simp only [List.getElem?_cons_succ, List.getElem?_cons_zero, Option.some.injEq] at hj
              subst hj
              simp [Addr.add]
            · simp at hj
          intro v' w2 hown' hgrow _
          obtain ⟨g2, cap2, rfl, _, _⟩ := hown'.form (by omega)
          have HW2 := Lib.hid ((HBW.out.alloc (by have := HBW.out.size; simp at this ⊢; omega) _).grown hgrow (by have := HBW.out.size; simp at this ⊢; omega) (fun q hq => (HO.out.lt q hq).1))
          have HLN2 : Hid ((L ++ [(sp.data.toList, sd.data.toList)]).length = m + 1) := by show _ = _; rw [List.length_append, HLN.out]; rfl
          have HO2 : Hid (OwnsF w2 (w.heap.size) (.slice (some ⟨g2, 0, none⟩) (m + 1) cap2) (L ++ [(sp.data.toList, sd.data.toList)])) := by
            show OwnsF _ _ _ _
            unfold OwnsF
            rw [HLN2.out, cellsF_append]
            simp only [SV_str] at hown'
            exact hown'
          clear hown' hgrow
          have HX2 : Hid (FRow w2 w.heap.size (some ⟨b1, o1, none⟩) t) := HX.out.keep fun q hq => (HW2.out.cell hq).trans (HBW.out.cell hq).symm
          go_wp2
          go_roundw
          case rel => exact ⟨k + 1, g2, m + 1, cap2, by omega, by go_num, rfl, by omega, by rw [HST.out]; exact HLN2.out, by rw [HST.out]; exact HO2.out, HX2.out, HW2.out⟩
          case measure => simp [intOf]; omega
      · obtain rfl : k = n := by omega
        have hall : t.take k = t := List.take_of_length_le (by rw [HN.out]; exact Nat.le_refl _)
        rw [hall] at HLN HO
        go_wp2
        go_ret
        unfold AnsF
        rw [HPV.out]
        exact ⟨g, m, cap1, rfl, HLN.out, HO.out, HBW.out⟩
  · have HPV : Hid (dropV t p.data.toList = []) := by
      show _ = _
      unfold dropV; rw [hc, if_neg hc0]
    have h2i : ((c : Int) != 0) = true := by simp; omega
    clear hc
    go_enter Try.func16, Try.ntmps16
    go_wp2_with fail
    rw [← hw0]
    clear hw0
    refine (HCH.out _ HX0.out (by omega)).mono ?_
    rintro e w1 ⟨rfl, hb1⟩
    have HB1 := Lib.hid (HB0.out.trans (hb1.mono HB0.out.size))
    have HN1 := Lib.hid (HO0.out.later hb1 (Nat.le_refl _))
    clear hb1
    go_wp2_with fail
    go_ret
    unfold AnsF
    rw [HPV.out]
    exact ⟨_, 0, 0, rfl, rfl, HN1.out, HB1.out⟩
/-- What a call that answers texts leaves. -/
def AnsS (w : World) (t : List Bs) (e : Ending) (w' : World) : Prop :=
  ∃ g m cap, e = .returned (.slice (some ⟨g, 0, none⟩) m cap) ∧ t.length = m ∧ Owns w' w.heap.size (.slice (some ⟨g, 0, none⟩) m cap) t ∧ Below w.heap.size w w'
theorem owns_later {w w' : World} {b : Nat} {g n cap : Nat} {t : List Bs} (h : Owns w b (.slice (some ⟨g, 0, none⟩) n cap) t) {B : Nat} (hb : Below B w w') (hB : w.heap.size ≤ B) : Owns w' b (.slice (some ⟨g, 0, none⟩) n cap) t := by
  refine ⟨h.1, h.2.imp id ?_⟩
  rintro ⟨g', c, cur, h1, h2, h3, h4⟩
  injection h1 with h1
  injection h1 with h1
  injection h1 with h1
  subst h1
  have hlt : g < w.heap.size := by
    rcases Nat.lt_or_ge g w.heap.size with h5 | h5
    · exact h5
    · rw [Array.getElem?_eq_none h5] at h3; cases h3
  exact ⟨g, c, cur, by simp_all, h2, (hb.block g (by omega)).trans h3, h4⟩

/-- The paths of the first files. -/
def pathsTo (t : List Fl) (d : Bs) (k : Nat) : List Bs := ((t.take k).filter (fun x => belowV d x.1)).map (·.1)
theorem pathsTo_succ {t : List Fl} {d : Bs} {k : Nat} {x : Fl} (hx : t[k]? = some x) : pathsTo t d (k + 1) = pathsTo t d k ++ if belowV d x.1 = true then [x.1] else [] := by
  unfold pathsTo
  rw [take_snoc t k x hx, List.filter_append, List.map_append]
  by_cases h : belowV d x.1 = true
  · rw [if_pos h]; simp [h]
  · rw [if_neg h]; simp [h]

set_option maxRecDepth 100000 in
set_option maxHeartbeats 4000000 in
theorem refpaths_any (A : Option Addr) (cap B n : Nat) (t : List Fl) (p : ByteArray) (w : World) (hn : t.length = n) (hnm : n ≤ 90000) (hl : ∀ f ∈ t, f.1.length ≤ 100000) (hx : FRow w B A t) (hB : B ≤ w.heap.size) :
    Calls Try.prog 21 #[.slice A n cap, .string p] w (AnsS w (pathsV t p.data.toList)) := by
  obtain ⟨i0, hi, hz0, hz1, hz2⟩ := info_parts strInfo
  obtain ⟨w0, hw0⟩ : ∃ w0, w0 = w.alloc (.cells #[] 9) := ⟨_, rfl⟩
  have hs0 : w0.heap.size = w.heap.size + 1 := by rw [hw0]; simp
  have HB0 : Hid (Below w.heap.size w w0) := by rw [hw0]; exact (Below.refl _ _).alloc (Nat.le_refl _) _
  have HX0 : Hid (FRow w0 w.heap.size A t) := by rw [hw0]; exact (hx.more hB).alloc (Nat.le_refl _) _
  have ho0 : Owns w0 w.heap.size (.slice (some ⟨w.heap.size, 0, none⟩) 0 0) [] := by
    rw [hw0]
    exact World.ownsRow_lit (base := w.heap.size) (e := 9) (size := 1) w #[] 0 (Nat.le_refl _) (by decide) rfl
  have HO0 := Lib.hid ho0
  have HN := Lib.hid hn
  have HL := Lib.hid hl
  clear ho0 hx hn hl
  obtain ⟨c, hc⟩ : ∃ c, tcheck t = c := ⟨_, rfl⟩
  have HCH := Lib.hid (fun W (h : FRow W w.heap.size A t) (hW : w.heap.size ≤ W.heap.size) => refcheck_any A cap w.heap.size n t c hc W HN.out (by omega) HL.out h hW)
  by_cases hc0 : c = 0
  · subst hc0
    have HPV : Hid (pathsV t p.data.toList = pathsTo t p.data.toList n) := by
      show _ = _
      unfold pathsV pathsTo; rw [if_pos hc, List.take_of_length_le (by rw [HN.out]; exact Nat.le_refl _)]
    clear hc
    by_cases h0 : p.data.toList = []
    · obtain rfl := str_nil h0
      have HPV : Hid (pathsV t [] = pathsTo t [] n) := HPV
      clear h0
      show Calls _ _ _ _ (AnsS w (pathsV t []))
      go_enter Try.func21, Try.ntmps21
      go_wp2_with fail
      rw [← hw0]
      clear hw0
      refine (HCH.out _ HX0.out (by omega)).mono ?_
      rintro e w1 ⟨rfl, hb1⟩
      have HB1 := Lib.hid (HB0.out.trans (hb1.mono HB0.out.size))
      have HX1 := Lib.hid (HX0.out.below hb1 (by omega))
      have HN1 := Lib.hid (owns_later HO0.out hb1 (Nat.le_refl _))
      clear hb1
      go_wp2_with fail
      go_loopw [5, 14] (fun v i wr => ∃ (k g m cap : Nat), k ≤ n ∧ i = .int .i64 k ∧ v = .slice (some ⟨g, 0, none⟩) m cap ∧ m ≤ k ∧ Hid ((pathsTo t [] k).length = m) ∧ Hid (Owns wr w.heap.size (.slice (some ⟨g, 0, none⟩) m cap) (pathsTo t [] k)) ∧ Hid (FRow wr w.heap.size A t) ∧ Hid (Below w.heap.size w wr)) (fun _ i _ => n - (intOf i).toNat)
      case atStart => exact ⟨0, _, 0, 0, Nat.zero_le _, rfl, rfl, Nat.le_refl _, rfl, HN1.out, HX1.out, HB1.out⟩
      case round =>
        obtain ⟨k, g, m, cap1, hk, rfl, rfl, hm, HLN, HO, HX, HBW⟩ := hrel
        clear HN1 HX1
        by_cases hlt : k < n
        · have hki : (k : Int) < n := by omega
          have hxk : t[k]? = some (t[k]'(by rw [HN.out]; exact hlt)) := List.getElem?_eq_getElem _
          generalize t[k]'(by rw [HN.out]; exact hlt) = x at hxk
          obtain ⟨b1, o1, sp, sd, rfl, hb1, hsp, hsd, cP, cD⟩ := HX.out k x hxk
          obtain rfl : x = (sp.data.toList, sd.data.toList) := Prod.ext hsp.symm hsd.symm
          have hst := pathsTo_succ (d := []) hxk
          have hsps : sp.size ≤ 100000 := by
            have := HL.out _ (List.mem_of_getElem? hxk)
            rw [data_length] at this
            exact this
          obtain ⟨L, hL⟩ : ∃ L, pathsTo t [] k = L := ⟨_, rfl⟩
          rw [hL] at HLN HO hst
          clear hL hxk hsp hsd
          have HST : Hid (pathsTo t [] (k + 1) = L ++ [sp.data.toList]) := by show _ = _; rw [hst]; rfl
          clear hst
          go_wp2_with (at_builtin; refine wpList_append_own _ rfl _ _ 37 rfl (w.heap.size) 9 i0 (.string ⟨#[]⟩) 1 16 Try.underlying37 hi hz0 hz1 hz2 rfl (by decide) _ m ((L).map SV) rfl ?c0b ⟨wr.heap.size, 0, none⟩ 1 1 [.string sp] rfl rfl ?c1b ?c2b ?c3b ?c4b ?c5b ?_)
          case c0b => have := HO.out.alloc (.cells #[.string sp] 9); rw [HLN.out] at this; exact this
          case c2b => intro u hu; obtain rfl := List.mem_singleton.1 hu; rfl
          case c3b => simp only [maxLen]; omega
          case c4b => omega
          case c5b => have := HBW.out.size; simp at this ⊢; omega
          · rintro (_ | j) u hj
            · simp only [List.getElem?_cons_zero, Option.some.injEq] at hj
              subst hj
              simp [Addr.add]
            · simp at hj
          intro v' w2 hown' hgrow _
          obtain ⟨g2, cap2, rfl, _, _⟩ := hown'.form (by omega)
          have HW2 := Lib.hid ((HBW.out.alloc (by have := HBW.out.size; simp at this ⊢; omega) _).grown hgrow (by have := HBW.out.size; simp at this ⊢; omega) (fun q hq => (HO.out.lt q hq).1))
          have HLN2 : Hid ((L ++ [sp.data.toList]).length = m + 1) := by show _ = _; rw [List.length_append, HLN.out]; rfl
          have HO2 : Hid (Owns w2 (w.heap.size) (.slice (some ⟨g2, 0, none⟩) (m + 1) cap2) (L ++ [sp.data.toList])) := by
            show Owns _ _ _ _
            unfold Owns
            rw [HLN2.out, List.map_append]
            rw [SV_str] at hown'
            first | exact hown' | simpa using hown'
          clear hown' hgrow
          have HX2 : Hid (FRow w2 w.heap.size (some ⟨b1, o1, none⟩) t) := HX.out.keep fun q hq => (HW2.out.cell hq).trans (HBW.out.cell hq).symm
          go_wp2
          go_roundw
          case rel => exact ⟨k + 1, g2, m + 1, cap2, by omega, by go_num, rfl, by omega, by rw [HST.out]; exact HLN2.out, by rw [HST.out]; exact HO2.out, HX2.out, HW2.out⟩
          case measure => simp [intOf]; omega
        · obtain rfl : k = n := by omega
          go_wp2
          go_ret
          unfold AnsS
          rw [HPV.out]
          exact ⟨g, m, cap1, rfl, HLN.out, HO.out, HBW.out⟩
    obtain ⟨n1, n2⟩ := ne_facts h0
    have h0' : (p.data.toList == []) = false := by rw [beq_eq_false_iff_ne]; exact h0
    go_enter Try.func21, Try.ntmps21
    go_wp2_with fail
    rw [← hw0]
    clear hw0
    refine (HCH.out _ HX0.out (by omega)).mono ?_
    rintro e w1 ⟨rfl, hb1⟩
    have HB1 := Lib.hid (HB0.out.trans (hb1.mono HB0.out.size))
    have HX1 := Lib.hid (HX0.out.below hb1 (by omega))
    have HN1 := Lib.hid (owns_later HO0.out hb1 (Nat.le_refl _))
    clear hb1
    go_wp2_with fail
    go_loopw [5, 14] (fun v i wr => ∃ (k g m cap : Nat), k ≤ n ∧ i = .int .i64 k ∧ v = .slice (some ⟨g, 0, none⟩) m cap ∧ m ≤ k ∧ Hid ((pathsTo t p.data.toList k).length = m) ∧ Hid (Owns wr w.heap.size (.slice (some ⟨g, 0, none⟩) m cap) (pathsTo t p.data.toList k)) ∧ Hid (FRow wr w.heap.size A t) ∧ Hid (Below w.heap.size w wr)) (fun _ i _ => n - (intOf i).toNat)
    case atStart => exact ⟨0, _, 0, 0, Nat.zero_le _, rfl, rfl, Nat.le_refl _, rfl, HN1.out, HX1.out, HB1.out⟩
    case round =>
      obtain ⟨k, g, m, cap1, hk, rfl, rfl, hm, HLN, HO, HX, HBW⟩ := hrel
      clear HN1 HX1
      by_cases hlt : k < n
      · have hki : (k : Int) < n := by omega
        have hxk : t[k]? = some (t[k]'(by rw [HN.out]; exact hlt)) := List.getElem?_eq_getElem _
        generalize t[k]'(by rw [HN.out]; exact hlt) = x at hxk
        obtain ⟨b1, o1, sp, sd, rfl, hb1, hsp, hsd, cP, cD⟩ := HX.out k x hxk
        obtain rfl : x = (sp.data.toList, sd.data.toList) := Prod.ext hsp.symm hsd.symm
        have hst := pathsTo_succ (d := p.data.toList) hxk
        have hsps : sp.size ≤ 100000 := by
          have := HL.out _ (List.mem_of_getElem? hxk)
          rw [data_length] at this
          exact this
        obtain ⟨L, hL⟩ : ∃ L, pathsTo t p.data.toList k = L := ⟨_, rfl⟩
        rw [hL] at HLN HO hst
        clear hL hxk hsp hsd
        obtain ⟨u, hu⟩ : ∃ u, under sp.data.toList p.data.toList = u := ⟨_, rfl⟩
        have HU := Lib.hid (fun W => refunder_any sp p u hu W hsps)
        have hbv : belowV p.data.toList sp.data.toList = u := by unfold belowV; rw [h0', Bool.false_or, hu]
        rw [hbv] at hst
        have hbr : b1 < wr.heap.size := Nat.lt_of_lt_of_le hb1 HBW.out.size
        have HPc : Hid (∀ W, Below wr.heap.size wr W → W.cell? ⟨b1, o1 + k * 2, none⟩ = some (.string sp)) := fun W hW => (hW.cell hbr).trans cP
        have HRN : Hid (∀ W, Below wr.heap.size wr W → FRow W w.heap.size (some ⟨b1, o1, none⟩) t) := fun W hW => HX.out.keep fun p hp => hW.cell (Nat.lt_of_lt_of_le hp HBW.out.size)
        have HBN : Hid (∀ W, Below wr.heap.size wr W → Below w.heap.size w W) := fun W hW => HBW.out.trans (hW.mono HBW.out.size)
        clear hu hbv
        cases u
        · have HST : Hid (pathsTo t p.data.toList (k + 1) = L) := by show _ = _; rw [hst]; simp
          clear hst
          go_wp2_with fail
          refine (HU.out _).mono ?_
          rintro e w2 ⟨rfl, hb2⟩
          have HW2 := Lib.hid (HBN.out _ hb2)
          have HX2 := Lib.hid (HRN.out _ hb2)
          have HO2 := Lib.hid (owns_later HO.out hb2 (Nat.le_refl _))
          clear hb2
          go_wp2
          go_roundw
          case rel => exact ⟨k + 1, g, m, cap1, by omega, by go_num, rfl, by omega, by rw [HST.out]; exact HLN.out, by rw [HST.out]; exact HO2.out, HX2.out, HW2.out⟩
          case measure => simp [intOf]; omega
        · have HST : Hid (pathsTo t p.data.toList (k + 1) = L ++ [sp.data.toList]) := by show _ = _; rw [hst]; simp
          clear hst
          go_wp2_with fail
          refine (HU.out _).mono ?_
          rintro e w3 ⟨rfl, hb2⟩
          have HW3 := Lib.hid (HBN.out _ hb2)
          have HX3 := Lib.hid (HRN.out _ hb2)
          have HO3 := Lib.hid (owns_later HO.out hb2 (Nat.le_refl _))
          have cP3 := HPc.out _ hb2
          have hcell : w3.cell? ⟨b1, o1 + k * 2, none⟩ = some (.string sp) := cP3
          clear hb2
          go_wp2_with (at_builtin; refine wpList_append_own _ rfl _ _ 37 rfl (w.heap.size) 9 i0 (.string ⟨#[]⟩) 1 16 Try.underlying37 hi hz0 hz1 hz2 rfl (by decide) _ m ((L).map SV) rfl ?c0a ⟨w3.heap.size, 0, none⟩ 1 1 [.string sp] rfl rfl ?c1a ?c2a ?c3a ?c4a ?c5a ?_)
          case c0a => have := HO3.out.alloc (.cells #[.string sp] 9); rw [HLN.out] at this; exact this
          case c2a => intro u hu; obtain rfl := List.mem_singleton.1 hu; rfl
          case c3a => simp only [maxLen]; omega
          case c4a => omega
          case c5a => have := HW3.out.size; simp at this ⊢; omega
          · rintro (_ | j) u hj
            · simp only [List.getElem?_cons_zero, Option.some.injEq] at hj
              subst hj
              simp [Addr.add]
            · simp at hj
          intro v' w2 hown' hgrow _
          obtain ⟨g2, cap2, rfl, _, _⟩ := hown'.form (by omega)
          have HW2 := Lib.hid ((HW3.out.alloc (by have := HW3.out.size; simp at this ⊢; omega) _).grown hgrow (by have := HW3.out.size; simp at this ⊢; omega) (fun q hq => (HO3.out.lt q hq).1))
          have HLN2 : Hid ((L ++ [sp.data.toList]).length = m + 1) := by show _ = _; rw [List.length_append, HLN.out]; rfl
          have HO2 : Hid (Owns w2 (w.heap.size) (.slice (some ⟨g2, 0, none⟩) (m + 1) cap2) (L ++ [sp.data.toList])) := by
            show Owns _ _ _ _
            unfold Owns
            rw [HLN2.out, List.map_append]
            rw [SV_str] at hown'
            first | exact hown' | simpa using hown'
          clear hown' hgrow
          have HX2 : Hid (FRow w2 w.heap.size (some ⟨b1, o1, none⟩) t) := HX3.out.keep fun q hq => (HW2.out.cell hq).trans (HW3.out.cell hq).symm
          go_wp2
          go_roundw
          case rel => exact ⟨k + 1, g2, m + 1, cap2, by omega, by go_num, rfl, by omega, by rw [HST.out]; exact HLN2.out, by rw [HST.out]; exact HO2.out, HX2.out, HW2.out⟩
          case measure => simp [intOf]; omega
      · obtain rfl : k = n := by omega
        go_wp2
        go_ret
        unfold AnsS
        rw [HPV.out]
        exact ⟨g, m, cap1, rfl, HLN.out, HO.out, HBW.out⟩
  · have HPV : Hid (pathsV t p.data.toList = []) := by
      show _ = _
      unfold pathsV; rw [hc, if_neg hc0]
    have h2i : ((c : Int) != 0) = true := by simp; omega
    clear hc
    go_enter Try.func21, Try.ntmps21
    go_wp2_with fail
    rw [← hw0]
    clear hw0
    refine (HCH.out _ HX0.out (by omega)).mono ?_
    rintro e w1 ⟨rfl, hb1⟩
    have HB1 := Lib.hid (HB0.out.trans (hb1.mono HB0.out.size))
    have HN1 := Lib.hid (owns_later HO0.out hb1 (Nat.le_refl _))
    clear hb1
    go_wp2_with fail
    go_ret
    unfold AnsS
    rw [HPV.out]
    exact ⟨_, 0, 0, rfl, rfl, HN1.out, HB1.out⟩
end Tr
end Go.Proofs.Ytkldgfdfpanelaa
