/-
  Layer 7 (disk): the walks of the document's with, pass. Layer 7 (disk): the walks of the document's pass, Append, Sync, Rename, Remove.
-/
import Derived.Test.YtogpigfepebibaaGreatDoorMDB
import Derived.WalkLawsBesides
namespace Go.Proofs.YtogpigfepebibaaGreatDoor
namespace Dk
open Go.RowKit Go.ChangeShapes Kr

theorem moreB (a b : ByteArray) : (!(Op.bytesLess a.toList b.toList || a.toList == b.toList)) = decide (b.data.toList < a.data.toList) := by
  rw [lessB, eqB]
  rcases tri a.data.toList b.data.toList with h | h | h
  · rw [decide_eq_true h, decide_eq_false (fun h2 => lt_no (lt_lt h h2))]; rfl
  · rw [decide_eq_true (ba_eq h), decide_eq_false (fun h2 => ne_of h2 h.symm), Bool.or_true]; rfl
  · rw [decide_eq_true h, decide_eq_false (fun h2 => lt_no (lt_lt h h2)), decide_eq_false (fun e => ne_of h (by rw [e]))]; rfl
def lowF (l : List FF) (f : FF) : List FF := l.filter (fun x => decide (nm x < nm f))
def highF (l : List FF) (f : FF) : List FF := l.filter (fun x => decide (nm f < nm x))
theorem withF_parts (l : List FF) (f : FF) : withF l f = lowF l f ++ [f] ++ highF l f := rfl
theorem low_snoc {l : List FF} {k : Nat} {x : FF} (hx : l[k]? = some x) (f : FF) : lowF (l.take (k + 1)) f = lowF (l.take k) f ++ if nm x < nm f then [x] else [] := by
  unfold lowF
  rw [take_snoc l k x hx, List.filter_append]
  by_cases h : nm x < nm f
  · rw [if_pos h]
    exact congrArg (_ ++ ·) (List.filter_cons_of_pos (p := fun x => decide (nm x < nm f)) (decide_eq_true h))
  · rw [if_neg h]
    exact congrArg (_ ++ ·) (List.filter_cons_of_neg (p := fun x => decide (nm x < nm f)) (fun e => h (of_decide_eq_true e)))
theorem high_snoc {l : List FF} {k : Nat} {x : FF} (hx : l[k]? = some x) (f : FF) : highF (l.take (k + 1)) f = highF (l.take k) f ++ if nm f < nm x then [x] else [] := by
  unfold highF
  rw [take_snoc l k x hx, List.filter_append]
  by_cases h : nm f < nm x
  · rw [if_pos h]
    exact congrArg (_ ++ ·) (List.filter_cons_of_pos (p := fun x => decide (nm f < nm x)) (decide_eq_true h))
  · rw [if_neg h]
    exact congrArg (_ ++ ·) (List.filter_cons_of_neg (p := fun x => decide (nm f < nm x)) (fun e => h (of_decide_eq_true e)))

set_option maxRecDepth 100000 in
set_option maxHeartbeats 4000000 in
theorem with_any (A : Option Addr) (cap B n : Nat) (l : List FF) (left : Int) (f : FF) (w : World) (hn : l.length = n) (hnm : n ≤ 100000) (hx : FRow w B A l) (hB : B ≤ w.heap.size) :
    Calls Tryz.prog 47 #[dval A n cap left, .agg (encF f).toArray] w fun e w' => ∃ A' m cap', e = .returned (.slice A' m cap') ∧ (withF l f).length = m ∧ OwnsF w' w.heap.size (.slice A' m cap') (withF l f) ∧ Below w.heap.size w w' := by
  obtain ⟨i0, hi, hz0, hz1, hz2⟩ := info_parts fileInfo
  have HX := Lib.hid (hx.more hB)
  have HN := Lib.hid hn
  clear hx hn
  obtain ⟨w0, hw0⟩ : ∃ w0, w0 = (w.alloc (.cells #[.slice A n cap, .int .i64 left] 30)).alloc (.cells (encF f).toArray 91) := ⟨_, rfl⟩
  have HX0 : Hid (FRow w0 w.heap.size A l) := by rw [hw0]; exact (HX.out.alloc (Nat.le_refl _) _).alloc (by simp) _
  have HB0 : Hid (Below w.heap.size w w0) := by rw [hw0]; exact ((Below.refl _ _).alloc (Nat.le_refl _) _).alloc (by simp) _
  have hs0 : w0.heap.size = w.heap.size + 2 := by rw [hw0]; simp
  have HC0 : Hid (w0.cell? ⟨w.heap.size, 0, none⟩ = some (.slice A n cap)) := by show _ = _; rw [hw0]; simp
  have HF0 : Hid (∀ j v, (encF f)[j]? = some v → w0.cell? ⟨w.heap.size + 1, j, none⟩ = some v) := fun j v hv => by rw [hw0]; exact new_cell (w.alloc _) (encF f) _ (by simp) hv
  have ho0 : OwnsF (w0.alloc (.cells #[] 91)) (w.heap.size + 2) (.slice (some ⟨w.heap.size + 2, 0, none⟩) 0 0) [] := made_at w0 _ hs0 (by omega)
  have HO0 := Lib.hid ho0
  have HBA : Hid (Below (w.heap.size + 2) w0 (w0.alloc (.cells #[] 91))) := (Below.refl _ _).alloc (by omega) _
  clear HX ho0
  have hw1 : (w.alloc (.cells #[.slice A n cap, .int .i64 left] 30)).alloc (.cells #[.string f.name, .string f.data, .int .i64 (f.sure : Int)] 91) = w0 := hw0.symm
  go_enter Tryz.func47, Tryz.ntmps47
  go_wp2_with (at_builtin; fail)
  first | rw [hw1] | rw [← hw0]
  clear hw0 hw1
  have c0 := HC0.out
  go_wp2
  clear c0
  go_loopw [5, 14] (fun v i wr => ∃ (k m cp : Nat) (A' : Option Addr), k ≤ n ∧ i = .int .i64 k ∧ v = .slice A' m cp ∧ m ≤ k ∧ Hid ((lowF (l.take k) f).length = m) ∧ Hid (OwnsF wr (w.heap.size + 2) (.slice A' m cp) (lowF (l.take k) f)) ∧ Hid (Below (w.heap.size + 2) w0 wr)) (fun _ i _ => n - (intOf i).toNat)
  case atStart => exact ⟨0, 0, 0, _, Nat.zero_le _, rfl, rfl, Nat.le_refl _, rfl, HO0.out, HBA.out⟩
  case round =>
    obtain ⟨k, m, cp, A', hk, rfl, rfl, hm, HL, HO, HB⟩ := hrel
    have hwr : w.heap.size + 2 ≤ wr.heap.size := by have := HB.out.size; omega
    by_cases hlt : k < n
    · have hki : (k : Int) < n := by omega
      have hxk : l[k]? = some (l[k]'(by rw [HN.out]; exact hlt)) := List.getElem?_eq_getElem _
      generalize l[k]'(by rw [HN.out]; exact hlt) = x at hxk
      obtain ⟨b1, o1, rfl, hb1, hcs⟩ := (HX0.out.below HB.out (by omega)) k x hxk
      have c0 := hcs 0 _ (f_name x)
      rw [Nat.add_zero] at c0
      have c1 := hcs 1 _ (f_data x)
      have c2 := hcs 2 _ (f_sure x)
      have d0 := fun o => (World.cell?_alloc_lt wr o ⟨w.heap.size + 1, 0, none⟩ (by show w.heap.size + 1 < _; omega)).trans ((HB.out.cell (p := ⟨w.heap.size + 1, 0, none⟩) (by show w.heap.size + 1 < _; omega)).trans (HF0.out 0 _ (f_name f)))
      have he := lessB x.name f.name
      have hds := low_snoc hxk f
      obtain ⟨L, hL⟩ : ∃ L, lowF (l.take k) f = L := ⟨_, rfl⟩
      rw [hL] at HO HL hds
      clear hcs hxk hL
      by_cases hp : nm x < nm f
      · rw [decide_eq_true hp] at he
        rw [if_pos hp] at hds
        have HDS := Lib.hid hds
        clear hp hds
        go_wp2_with (at_builtin; refine wpList_append_own _ rfl _ _ 28 rfl (w.heap.size + 2) 91 i0 (.agg (encF ⟨nul, nul, 0⟩).toArray) 3 40 Tryz.underlying28 hi hz0 hz1 hz2 rfl (by decide) _ m (L.flatMap encF) rfl ?c0a ⟨wr.heap.size + 1, 0, none⟩ 1 1 (encF x) rfl rfl ?c1a (encF_one x) ?c3a ?c4a ?c5a ?_)
        case c0a => have := fun o1 o2 => (HO.out.alloc o1).alloc o2; unfold OwnsK at this; simp only [HL.out] at this; exact this _ _
        case c3a => simp only [maxLen]; omega
        case c4a => omega
        case c5a => simp; omega
        · intro j u hj
          rw [Addr.add_lit, Nat.zero_add]
          exact new_cell (wr.alloc _) (encF x) _ (by simp) hj
        intro v' w2 hown' hgrow _
        have hO2 := OwnsK.appended HL.out hown'
        have HL2 : Hid ((L ++ [x]).length = m + 1) := by show _ = _; rw [List.length_append, HL.out]; rfl
        obtain ⟨A2, cap2, e⟩ := hO2.form
        rw [HL2.out] at e
        subst e
        have HW2 := Lib.hid (((HB.out.alloc hwr _).alloc (by simp; omega) _).grown hgrow (by simp; omega) (fun q hq => (World.ownsRow.lt HO.out q hq).1))
        have HO2 := Lib.hid hO2
        clear hO2 hown' hgrow
        go_wp2
        go_roundw
        case rel => exact ⟨k + 1, m + 1, cap2, A2, by omega, by go_num, rfl, by omega, by rw [HDS.out]; exact HL2.out, by rw [HDS.out]; exact HO2.out, HW2.out⟩
        case measure => simp [intOf]; omega
      · rw [decide_eq_false hp] at he
        rw [if_neg hp, List.append_nil] at hds
        have HDS := Lib.hid hds
        clear hp hds
        go_wp2
        go_roundw
        case rel => exact ⟨k + 1, m, cp, A', by omega, by go_num, rfl, by omega, by rw [HDS.out]; exact HL.out, by rw [HDS.out]; exact HO.out.alloc _, HB.out.alloc hwr _⟩
        case measure => simp [intOf]; omega
    · obtain rfl : k = n := by omega
      rw [List.take_of_length_le (by rw [HN.out]; omega)] at HL HO
      have d0 := (HB.out.cell (p := ⟨w.heap.size + 1, 0, none⟩) (by show w.heap.size + 1 < _; omega)).trans (HF0.out 0 _ (f_name f))
      have d1 := (HB.out.cell (p := ⟨w.heap.size + 1, 1, none⟩) (by show w.heap.size + 1 < _; omega)).trans (HF0.out 1 _ (f_data f))
      have d2 := (HB.out.cell (p := ⟨w.heap.size + 1, 2, none⟩) (by show w.heap.size + 1 < _; omega)).trans (HF0.out 2 _ (f_sure f))
      obtain ⟨P, hP⟩ : ∃ P, lowF l f = P := ⟨_, rfl⟩
      rw [hP] at HO HL
      have HPP := Lib.hid hP
      clear hP
      go_wp2_with (at_builtin; refine wpList_append_own _ rfl _ _ 28 rfl (w.heap.size + 2) 91 i0 (.agg (encF ⟨nul, nul, 0⟩).toArray) 3 40 Tryz.underlying28 hi hz0 hz1 hz2 rfl (by decide) _ m (P.flatMap encF) rfl ?d0a ⟨wr.heap.size, 0, none⟩ 1 1 (encF f) rfl rfl ?d1a (encF_one f) ?d3a ?d4a ?d5a ?_)
      case d0a => have := fun o1 => HO.out.alloc o1; unfold OwnsK at this; simp only [HL.out] at this; exact this _
      case d3a => simp only [maxLen]; omega
      case d4a => omega
      case d5a => simp; omega
      · intro j u hj
        rw [Addr.add_lit, Nat.zero_add]
        exact new_cell wr (encF f) _ rfl hj
      intro v' w2 hown' hgrow _
      have hO2 := OwnsK.appended HL.out hown'
      have HL2 : Hid ((P ++ [f]).length = m + 1) := by show _ = _; rw [List.length_append, HL.out]; rfl
      obtain ⟨A2, cap2, e⟩ := hO2.form
      rw [HL2.out] at e
      subst e
      have HW2 := Lib.hid ((HB.out.alloc hwr _).grown hgrow (by simp; omega) (fun q hq => (World.ownsRow.lt HO.out q hq).1))
      have HO2 := Lib.hid hO2
      clear hO2 hown' hgrow d0 d1 d2
      have c0 := (HW2.out.cell (p := ⟨w.heap.size, 0, none⟩) (by show w.heap.size < _; omega)).trans HC0.out
      obtain ⟨Q0, hQ0⟩ : ∃ Q0, P ++ [f] = Q0 := ⟨_, rfl⟩
      rw [hQ0] at HO2 HL2
      have HQ := Lib.hid hQ0
      obtain ⟨m0, hm0⟩ : ∃ m0, m0 = m + 1 := ⟨_, rfl⟩
      have hm1 : m0 ≤ k + 1 := by omega
      rw [← hm0] at HO2 HL2
      have hmi : (m : Int) + 1 = m0 := by omega
      clear hQ0 HO HL HB hwr
      go_wp2
      first | rw [← hm0] | skip
      clear c0 hlt hm hmi hm0
      go_loopw [5, 35] (fun v i wr => ∃ (q m cp : Nat) (A' : Option Addr), q ≤ k ∧ i = .int .i64 q ∧ v = .slice A' m cp ∧ m ≤ m0 + q ∧ Hid ((Q0 ++ highF (l.take q) f).length = m) ∧ Hid (OwnsF wr (w.heap.size + 2) (.slice A' m cp) (Q0 ++ highF (l.take q) f)) ∧ Hid (Below (w.heap.size + 2) w0 wr)) (fun _ i _ => k - (intOf i).toNat)
      case atStart => exact ⟨0, m0, _, _, Nat.zero_le _, rfl, rfl, by omega, by show (Q0 ++ []).length = m0; rw [List.append_nil]; exact HL2.out, by show OwnsF _ _ _ (Q0 ++ []); rw [List.append_nil]; exact HO2.out, HW2.out⟩
      case round =>
        obtain ⟨q, m, cp, A', hk, rfl, rfl, hm, HL, HO, HB⟩ := hrel
        have hwr : w.heap.size + 2 ≤ wr.heap.size := by have := HB.out.size; omega
        by_cases hlt : q < k
        · have hki : (q : Int) < k := by omega
          have hxk : l[q]? = some (l[q]'(by rw [HN.out]; exact hlt)) := List.getElem?_eq_getElem _
          generalize l[q]'(by rw [HN.out]; exact hlt) = x at hxk
          obtain ⟨b1, o1, rfl, hb1, hcs⟩ := (HX0.out.below HB.out (by omega)) q x hxk
          have c0 := hcs 0 _ (f_name x)
          rw [Nat.add_zero] at c0
          have c1 := hcs 1 _ (f_data x)
          have c2 := hcs 2 _ (f_sure x)
          have d0 := fun o => (World.cell?_alloc_lt wr o ⟨w.heap.size + 1, 0, none⟩ (by show w.heap.size + 1 < _; omega)).trans ((HB.out.cell (p := ⟨w.heap.size + 1, 0, none⟩) (by show w.heap.size + 1 < _; omega)).trans (HF0.out 0 _ (f_name f)))
          have hds : Q0 ++ highF (l.take (q + 1)) f = Q0 ++ highF (l.take q) f ++ if nm f < nm x then [x] else [] := by rw [high_snoc hxk f, List.append_assoc]
          obtain ⟨L, hL⟩ : ∃ L, Q0 ++ highF (l.take q) f = L := ⟨_, rfl⟩
          rw [hL] at HO HL hds
          clear hcs hxk hL
          by_cases hp : nm f < nm x
          · have l1 : Op.bytesLess x.name.toList f.name.toList = false := by rw [lessB]; exact decide_eq_false (fun h2 => lt_no (lt_lt hp h2))
            have l2 : (x.name.toList == f.name.toList) = false := by rw [eqB]; exact decide_eq_false (fun e => ne_of hp (by unfold nm; rw [e]))
            rw [if_pos hp] at hds
            have HDS := Lib.hid hds
            clear hp hds
            go_wp2_with (at_builtin; refine wpList_append_own _ rfl _ _ 28 rfl (w.heap.size + 2) 91 i0 (.agg (encF ⟨nul, nul, 0⟩).toArray) 3 40 Tryz.underlying28 hi hz0 hz1 hz2 rfl (by decide) _ m (L.flatMap encF) rfl ?e0a ⟨wr.heap.size + 1, 0, none⟩ 1 1 (encF x) rfl rfl ?e1a (encF_one x) ?e3a ?e4a ?e5a ?_)
            case e0a => have := fun o1 o2 => (HO.out.alloc o1).alloc o2; unfold OwnsK at this; simp only [HL.out] at this; exact this _ _
            case e3a => simp only [maxLen]; omega
            case e4a => omega
            case e5a => simp; omega
            · intro j u hj
              rw [Addr.add_lit, Nat.zero_add]
              exact new_cell (wr.alloc _) (encF x) _ (by simp) hj
            intro v' w2 hown' hgrow _
            have hO2 := OwnsK.appended HL.out hown'
            have HL2 : Hid ((L ++ [x]).length = m + 1) := by show _ = _; rw [List.length_append, HL.out]; rfl
            obtain ⟨A2, cap2, e⟩ := hO2.form
            rw [HL2.out] at e
            subst e
            have HW2 := Lib.hid (((HB.out.alloc hwr _).alloc (by simp; omega) _).grown hgrow (by simp; omega) (fun q hq => (World.ownsRow.lt HO.out q hq).1))
            have HO2 := Lib.hid hO2
            clear hO2 hown' hgrow
            go_wp2
            go_roundw
            case rel => exact ⟨q + 1, m + 1, cap2, A2, by omega, by go_num, rfl, by omega, by rw [HDS.out]; exact HL2.out, by rw [HDS.out]; exact HO2.out, HW2.out⟩
            case measure => simp [intOf]; omega
          · rw [if_neg hp, List.append_nil] at hds
            have HDS := Lib.hid hds
            clear hds
            by_cases hq : x.name = f.name
            · have l1 : Op.bytesLess x.name.toList f.name.toList = false := by rw [lessB, hq]; exact decide_eq_false lt_no
              have l2 : (x.name.toList == f.name.toList) = true := by rw [eqB]; exact decide_eq_true hq
              clear hp hq
              go_wp2
              go_roundw
              case rel => exact ⟨q + 1, m, cp, A', by omega, by go_num, rfl, by omega, by rw [HDS.out]; exact HL.out, by rw [HDS.out]; exact HO.out.alloc _, HB.out.alloc hwr _⟩
              case measure => simp [intOf]; omega
            · have l1 : Op.bytesLess x.name.toList f.name.toList = true := by
                rw [lessB]
                rcases tri (nm x) (nm f) with h | h | h
                · exact decide_eq_true h
                · exact absurd (ba_eq h) hq
                · exact absurd h hp
              clear hp hq
              go_wp2
              go_roundw
              case rel => exact ⟨q + 1, m, cp, A', by omega, by go_num, rfl, by omega, by rw [HDS.out]; exact HL.out, by rw [HDS.out]; exact HO.out.alloc _, HB.out.alloc hwr _⟩
              case measure => simp [intOf]; omega

        · obtain rfl : q = k := by omega
          rw [List.take_of_length_le (by rw [HN.out]; omega)] at HL HO
          have HE : Hid (Q0 ++ highF l f = withF l f) := by show _ = _; rw [withF_parts, HPP.out, HQ.out]
          rw [HE.out] at HL HO
          go_wp2
          go_ret
          exact ⟨A', m, cp, rfl, HL.out, HO.out.less (by omega), HB0.out.trans (HB.out.mono (by omega))⟩
end Dk
end Go.Proofs.YtogpigfepebibaaGreatDoor

namespace Go.Proofs.YtogpigfepebibaaGreatDoor
namespace Dk
open Go.RowKit Go.ChangeShapes Kr

set_option maxRecDepth 100000 in
set_option maxHeartbeats 4000000 in
theorem pass_any (A A' : Option Addr) (n cap m cap' : Nat) (left : Int) (w : World) (hl : -1 ≤ left) (hh : left ≤ 9223372036854775807) :
    Calls Tryz.prog 46 #[dval A n cap left, .slice A' m cap'] w fun e w' =>
      e = .returned (.tuple #[if left = 0 then dval A n cap left else dval A' m cap' (if 0 < left then left - 1 else left), .int .i64 (if left = 0 then 18 else 0)]) ∧ Below w.heap.size w w' := by
  by_cases h0 : left = 0
  · rw [if_pos h0, if_pos h0]
    subst h0
    go_enter Tryz.func46, Tryz.ntmps46
    go_wp2
    go_returns
    exact ⟨rfl, ((Below.refl _ _).alloc (Nat.le_refl _) _).alloc (by simp) _⟩
  · rw [if_neg h0, if_neg h0]
    have h1 : (left == 0) = false := beq_eq_false_iff_ne.2 h0
    by_cases hp : 0 < left
    · rw [if_pos hp]
      go_enter Tryz.func46, Tryz.ntmps46
      go_wp2
      go_returns
      exact ⟨rfl, ((Below.refl _ _).alloc (Nat.le_refl _) _).alloc (by simp) _⟩
    · rw [if_neg hp]
      go_enter Tryz.func46, Tryz.ntmps46
      go_wp2
      go_returns
      exact ⟨rfl, ((Below.refl _ _).alloc (Nat.le_refl _) _).alloc (by simp) _⟩
end Dk
end Go.Proofs.YtogpigfepebibaaGreatDoor
