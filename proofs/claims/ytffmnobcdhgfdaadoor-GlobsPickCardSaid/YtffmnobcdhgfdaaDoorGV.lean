/-
  Layer 4 (globs): the walks of the document's Insert and Pick.
-/
import Derived.Test.YtffmnobcdhgfdaaDoorGU
import Derived.Laws.Cover1
import Derived.Sort.Walk0
namespace Go.Proofs.YtffmnobcdhgfdaaDoor
namespace Gl
open Go.RowKit Pt Go.ChangeShapes

set_option maxRecDepth 100000 in
set_option maxHeartbeats 4000000 in
theorem insert_any (A : Option Addr) (cap n B : Nat) (l : List Bs) (s : ByteArray) (w : World) (hn : l.length = n) (hnm : n ≤ 100000) (hs : s.size ≤ 100000) (hr : SRow w B A l) (hB : B ≤ w.heap.size) :
    Calls Tryd.prog 39 #[.slice A n cap, .string s] w fun e w' => ∃ g m cap', e = .returned (.slice (some ⟨g, 0, none⟩) m cap') ∧ (insR l s.data.toList).length = m ∧ Owns w' w.heap.size (.slice (some ⟨g, 0, none⟩) m cap') (insR l s.data.toList) ∧ Below w.heap.size w w' := by
  obtain ⟨i0, hi, hz0, hz1, hz2⟩ := info_parts strInfo
  have HN := Lib.hid hn
  have HR := Lib.hid hr
  clear hn hr
  obtain ⟨t, ht⟩ : ∃ t, s.data.toList = t := ⟨_, rfl⟩
  rw [ht]
  have HSE := Lib.hid ht
  clear ht
  have ho0 : Owns (w.alloc (.cells #[] 9)) w.heap.size (.slice (some ⟨w.heap.size, 0, none⟩) 0 0) [] := World.ownsRow_lit w #[] 0 (Nat.le_refl _) (by decide) rfl
  have HO0 := Lib.hid ho0
  clear ho0
  go_enter Tryd.func39, Tryd.ntmps39
  go_wp2
  go_loopw [5, 6, 12] (fun v d i wr => ∃ (k g m cap : Nat) (b : Bool), k ≤ n ∧ i = .int .i64 k ∧ v = .slice (some ⟨g, 0, none⟩) m cap ∧ d = .bool b ∧ m ≤ 2 * k ∧ Hid ((insRun t (l.take k)).1.length = m) ∧ Hid ((insRun t (l.take k)).2 = b) ∧ Hid (Owns wr w.heap.size (.slice (some ⟨g, 0, none⟩) m cap) (insRun t (l.take k)).1) ∧ Hid (Below w.heap.size w wr)) (fun _ _ i _ => n - (intOf i).toNat)
  case atStart => exact ⟨0, w.heap.size, 0, 0, false, Nat.zero_le _, rfl, rfl, rfl, by omega, rfl, rfl, HO0.out, (Below.refl _ _).alloc (Nat.le_refl _) _⟩
  case round =>
    obtain ⟨k, g, m, cap1, b, hk, rfl, rfl, rfl, hm, HLN, HDN, HO, HBW⟩ := hrel
    clear HO0
    by_cases hlt : k < n
    · have hki : (k : Int) < n := by omega
      have hxk : l[k]? = some (l[k]'(by rw [HN.out]; exact hlt)) := List.getElem?_eq_getElem _
      generalize l[k]'(by rw [HN.out]; exact hlt) = x at hxk
      obtain ⟨b1, o1, sx, rfl, _, hsx, cX⟩ := (HR.out.below HBW.out hB) k x hxk
      have hst : insRun t (l.take (k + 1)) = insStep t (insRun t (l.take k)) x := by rw [take_snoc l k x hxk, insRun_snoc]
      have hbl : Op.bytesLess sx.toList s.toList = decide (x < t) := by rw [bytesLess_eq, ByteArray.toList_eq, ByteArray.toList_eq, hsx, HSE.out]
      have heq : (sx.toList == s.toList) = decide (x = t) := by rw [str_is, hsx, ByteArray.toList_eq, HSE.out]
      have HSX := Lib.hid hsx
      obtain ⟨L, hL⟩ : ∃ L, (insRun t (l.take k)).1 = L := ⟨_, rfl⟩
      rw [hL] at HLN HO
      have hpair : insRun t (l.take k) = (L, b) := by rw [← hL, ← HDN.out]
      rw [hpair] at hst
      clear hL hpair HDN hxk hsx
      cases b
      · by_cases hsl : t ≤ x
        · have hnl : ¬ x < t := List.not_lt.2 hsl
          rw [decide_eq_false hnl] at hbl
          by_cases he : x = t
          · rw [decide_eq_true he] at heq
            have hst2 : insRun t (l.take (k + 1)) = (L ++ [t], true) := by
              rw [hst]; unfold insStep; simp [hsl, he]
            have HST := Lib.hid hst2
            clear hst hst2 hsl hnl he
            go_wp2_with (at_builtin; refine wpList_append_own _ rfl _ _ 26 rfl w.heap.size 9 i0 (.string ⟨#[]⟩) 1 16 Tryd.underlying26 hi hz0 hz1 hz2 rfl (by decide) _ m ((L).map SV) rfl ?c0a ⟨wr.heap.size, 0, none⟩ 1 1 [.string s] rfl rfl ?c1a ?c2a ?c3a ?c4a ?c5a ?_)
            case c0a => have := HO.out.alloc (.cells #[.string s] 9); rw [HLN.out] at this; exact this
            case c2a => first | rfl | (intro u hu; obtain rfl := List.mem_singleton.1 hu; rfl)
            case c3a => simp only [maxLen]; omega
            case c4a => omega
            case c5a => have := HBW.out.size; simp; omega
            · rintro (_ | j) u hj
              · simp only [List.getElem?_cons_zero, Option.some.injEq] at hj
                subst hj
                simp [Addr.add]
              · simp at hj
            intro v' w2 hown' hgrow _
            obtain ⟨g2, cap2, rfl, _, _⟩ := hown'.form (by omega)
            have HW2 := Lib.hid ((HBW.out.alloc HBW.out.size _).grown hgrow (by have := HBW.out.size; simp; omega) (fun q hq => (HO.out.lt q hq).1))
            have HLN2 : Hid ((L ++ [t]).length = m + 1) := by show _ = _; rw [List.length_append, HLN.out]; rfl
            have HO2 : Hid (Owns w2 w.heap.size (.slice (some ⟨g2, 0, none⟩) (m + 1) cap2) (L ++ [t])) := by
              show Owns _ _ _ _
              unfold Owns
              rw [HLN2.out, List.map_append, ← HSE.out]
              rw [SV_str] at hown'
              first | exact hown' | simpa using hown'
            clear hown' hgrow
            go_wp2
            go_roundw
            case rel => exact ⟨k + 1, g2, m + 1, cap2, true, by omega, by go_num, rfl, rfl, by omega, by rw [HST.out]; exact HLN2.out, by rw [HST.out]; rfl, by rw [HST.out]; exact HO2.out, HW2.out⟩
            case measure => simp [intOf]; omega
          · rw [decide_eq_false he] at heq
            have hst2 : insRun t (l.take (k + 1)) = (L ++ [t] ++ [x], true) := by
              rw [hst]; unfold insStep; simp [hsl, he]
            have HST := Lib.hid hst2
            clear hst hst2 hsl hnl he
            go_wp2_with (at_builtin; refine wpList_append_own _ rfl _ _ 26 rfl w.heap.size 9 i0 (.string ⟨#[]⟩) 1 16 Tryd.underlying26 hi hz0 hz1 hz2 rfl (by decide) _ m ((L).map SV) rfl ?c0b ⟨wr.heap.size, 0, none⟩ 1 1 [.string s] rfl rfl ?c1b ?c2b ?c3b ?c4b ?c5b ?_)
            case c0b => have := HO.out.alloc (.cells #[.string s] 9); rw [HLN.out] at this; exact this
            case c2b => first | rfl | (intro u hu; obtain rfl := List.mem_singleton.1 hu; rfl)
            case c3b => simp only [maxLen]; omega
            case c4b => omega
            case c5b => have := HBW.out.size; simp; omega
            · rintro (_ | j) u hj
              · simp only [List.getElem?_cons_zero, Option.some.injEq] at hj
                subst hj
                simp [Addr.add]
              · simp at hj
            intro v' w2 hown' hgrow _
            obtain ⟨g2, cap2, rfl, _, _⟩ := hown'.form (by omega)
            have HW2 := Lib.hid ((HBW.out.alloc HBW.out.size _).grown hgrow (by have := HBW.out.size; simp; omega) (fun q hq => (HO.out.lt q hq).1))
            have HLN2 : Hid ((L ++ [t]).length = m + 1) := by show _ = _; rw [List.length_append, HLN.out]; rfl
            have HO2 : Hid (Owns w2 w.heap.size (.slice (some ⟨g2, 0, none⟩) (m + 1) cap2) (L ++ [t])) := by
              show Owns _ _ _ _
              unfold Owns
              rw [HLN2.out, List.map_append, ← HSE.out]
              rw [SV_str] at hown'
              first | exact hown' | simpa using hown'
            clear hown' hgrow
            go_wp2_with (at_builtin; refine wpList_append_own _ rfl _ _ 26 rfl w.heap.size 9 i0 (.string ⟨#[]⟩) 1 16 Tryd.underlying26 hi hz0 hz1 hz2 rfl (by decide) _ (m + 1) (((L ++ [t])).map SV) rfl ?c0c ⟨w2.heap.size, 0, none⟩ 1 1 [.string sx] rfl rfl ?c1c ?c2c ?c3c ?c4c ?c5c ?_)
            case c0c => have := HO2.out.alloc (.cells #[.string sx] 9); rw [HLN2.out] at this; exact this
            case c2c => first | rfl | (intro u hu; obtain rfl := List.mem_singleton.1 hu; rfl)
            case c3c => simp only [maxLen]; omega
            case c4c => omega
            case c5c => have := HW2.out.size; simp; omega
            · rintro (_ | j) u hj
              · simp only [List.getElem?_cons_zero, Option.some.injEq] at hj
                subst hj
                simp [Addr.add]
              · simp at hj
            intro v' w3 hown' hgrow _
            obtain ⟨g3, cap3, rfl, _, _⟩ := hown'.form (by omega)
            have HW3 := Lib.hid ((HW2.out.alloc HW2.out.size _).grown hgrow (by have := HW2.out.size; simp; omega) (fun q hq => (HO2.out.lt q hq).1))
            have HLN3 : Hid (((L ++ [t]) ++ [x]).length = (m + 1) + 1) := by show _ = _; rw [List.length_append, HLN2.out]; rfl
            have HO3 : Hid (Owns w3 w.heap.size (.slice (some ⟨g3, 0, none⟩) ((m + 1) + 1) cap3) ((L ++ [t]) ++ [x])) := by
              show Owns _ _ _ _
              unfold Owns
              rw [HLN3.out, List.map_append, ← HSX.out]
              rw [SV_str] at hown'
              first | exact hown' | simpa using hown'
            clear hown' hgrow
            go_wp2
            go_roundw
            case rel => exact ⟨k + 1, g3, m + 1 + 1, cap3, true, by omega, by go_num, rfl, rfl, by omega, by rw [HST.out]; exact HLN3.out, by rw [HST.out]; rfl, by rw [HST.out]; exact HO3.out, HW3.out⟩
            case measure => simp [intOf]; omega
        · have hxs : x < t := List.not_le.1 hsl
          rw [decide_eq_true hxs] at hbl
          have he : x ≠ t := fun e => by subst e; exact lt_no hxs
          rw [decide_eq_false he] at heq
          have hst2 : insRun t (l.take (k + 1)) = (L ++ [x], false) := by
            rw [hst]; unfold insStep; simp [hsl, he]
          have HST := Lib.hid hst2
          clear hst hst2 hsl hxs he
          go_wp2_with (at_builtin; refine wpList_append_own _ rfl _ _ 26 rfl w.heap.size 9 i0 (.string ⟨#[]⟩) 1 16 Tryd.underlying26 hi hz0 hz1 hz2 rfl (by decide) _ m ((L).map SV) rfl ?c0d ⟨wr.heap.size, 0, none⟩ 1 1 [.string sx] rfl rfl ?c1d ?c2d ?c3d ?c4d ?c5d ?_)
          case c0d => have := HO.out.alloc (.cells #[.string sx] 9); rw [HLN.out] at this; exact this
          case c2d => first | rfl | (intro u hu; obtain rfl := List.mem_singleton.1 hu; rfl)
          case c3d => simp only [maxLen]; omega
          case c4d => omega
          case c5d => have := HBW.out.size; simp; omega
          · rintro (_ | j) u hj
            · simp only [List.getElem?_cons_zero, Option.some.injEq] at hj
              subst hj
              simp [Addr.add]
            · simp at hj
          intro v' w2 hown' hgrow _
          obtain ⟨g2, cap2, rfl, _, _⟩ := hown'.form (by omega)
          have HW2 := Lib.hid ((HBW.out.alloc HBW.out.size _).grown hgrow (by have := HBW.out.size; simp; omega) (fun q hq => (HO.out.lt q hq).1))
          have HLN2 : Hid ((L ++ [x]).length = m + 1) := by show _ = _; rw [List.length_append, HLN.out]; rfl
          have HO2 : Hid (Owns w2 w.heap.size (.slice (some ⟨g2, 0, none⟩) (m + 1) cap2) (L ++ [x])) := by
            show Owns _ _ _ _
            unfold Owns
            rw [HLN2.out, List.map_append, ← HSX.out]
            rw [SV_str] at hown'
            first | exact hown' | simpa using hown'
          clear hown' hgrow
          go_wp2
          go_roundw
          case rel => exact ⟨k + 1, g2, m + 1, cap2, false, by omega, by go_num, rfl, rfl, by omega, by rw [HST.out]; exact HLN2.out, by rw [HST.out]; rfl, by rw [HST.out]; exact HO2.out, HW2.out⟩
          case measure => simp [intOf]; omega
      · by_cases he : x = t
        · rw [decide_eq_true he] at heq
          have hst2 : insRun t (l.take (k + 1)) = (L, true) := by
            rw [hst]; unfold insStep; simp [he]
          have HST := Lib.hid hst2
          clear hst hst2 he hbl
          go_wp2
          go_roundw
          case rel => exact ⟨k + 1, g, m, cap1, true, by omega, by go_num, rfl, rfl, by omega, by rw [HST.out]; exact HLN.out, by rw [HST.out]; rfl, by rw [HST.out]; exact HO.out, HBW.out⟩
          case measure => simp [intOf]; omega
        · rw [decide_eq_false he] at heq
          have hst2 : insRun t (l.take (k + 1)) = (L ++ [x], true) := by
            rw [hst]; unfold insStep; simp [he]
          have HST := Lib.hid hst2
          clear hst hst2 he hbl
          go_wp2_with (at_builtin; refine wpList_append_own _ rfl _ _ 26 rfl w.heap.size 9 i0 (.string ⟨#[]⟩) 1 16 Tryd.underlying26 hi hz0 hz1 hz2 rfl (by decide) _ m ((L).map SV) rfl ?c0e ⟨wr.heap.size, 0, none⟩ 1 1 [.string sx] rfl rfl ?c1e ?c2e ?c3e ?c4e ?c5e ?_)
          case c0e => have := HO.out.alloc (.cells #[.string sx] 9); rw [HLN.out] at this; exact this
          case c2e => first | rfl | (intro u hu; obtain rfl := List.mem_singleton.1 hu; rfl)
          case c3e => simp only [maxLen]; omega
          case c4e => omega
          case c5e => have := HBW.out.size; simp; omega
          · rintro (_ | j) u hj
            · simp only [List.getElem?_cons_zero, Option.some.injEq] at hj
              subst hj
              simp [Addr.add]
            · simp at hj
          intro v' w2 hown' hgrow _
          obtain ⟨g2, cap2, rfl, _, _⟩ := hown'.form (by omega)
          have HW2 := Lib.hid ((HBW.out.alloc HBW.out.size _).grown hgrow (by have := HBW.out.size; simp; omega) (fun q hq => (HO.out.lt q hq).1))
          have HLN2 : Hid ((L ++ [x]).length = m + 1) := by show _ = _; rw [List.length_append, HLN.out]; rfl
          have HO2 : Hid (Owns w2 w.heap.size (.slice (some ⟨g2, 0, none⟩) (m + 1) cap2) (L ++ [x])) := by
            show Owns _ _ _ _
            unfold Owns
            rw [HLN2.out, List.map_append, ← HSX.out]
            rw [SV_str] at hown'
            first | exact hown' | simpa using hown'
          clear hown' hgrow
          go_wp2
          go_roundw
          case rel => exact ⟨k + 1, g2, m + 1, cap2, true, by omega, by go_num, rfl, rfl, by omega, by rw [HST.out]; exact HLN2.out, by rw [HST.out]; rfl, by rw [HST.out]; exact HO2.out, HW2.out⟩
          case measure => simp [intOf]; omega
    · obtain rfl : k = n := by omega
      have hall : l.take k = l := List.take_of_length_le (by rw [HN.out]; exact Nat.le_refl _)
      rw [hall] at HLN HDN HO
      cases b
      · have hins : insR l t = (insRun t l).1 ++ [t] := by unfold insR; rw [HDN.out]; simp
        have HIN := Lib.hid hins
        generalize (insRun t l).1 = L at HLN HO HIN
        clear hins HDN hall
        go_wp2_with (at_builtin; refine wpList_append_own _ rfl _ _ 26 rfl w.heap.size 9 i0 (.string ⟨#[]⟩) 1 16 Tryd.underlying26 hi hz0 hz1 hz2 rfl (by decide) _ m ((L).map SV) rfl ?c0f ⟨wr.heap.size, 0, none⟩ 1 1 [.string s] rfl rfl ?c1f ?c2f ?c3f ?c4f ?c5f ?_)
        case c0f => have := HO.out.alloc (.cells #[.string s] 9); rw [HLN.out] at this; exact this
        case c2f => first | rfl | (intro u hu; obtain rfl := List.mem_singleton.1 hu; rfl)
        case c3f => simp only [maxLen]; omega
        case c4f => omega
        case c5f => have := HBW.out.size; simp; omega
        · rintro (_ | j) u hj
          · simp only [List.getElem?_cons_zero, Option.some.injEq] at hj
            subst hj
            simp [Addr.add]
          · simp at hj
        intro v' w2 hown' hgrow _
        obtain ⟨g2, cap2, rfl, _, _⟩ := hown'.form (by omega)
        have HW2 := Lib.hid ((HBW.out.alloc HBW.out.size _).grown hgrow (by have := HBW.out.size; simp; omega) (fun q hq => (HO.out.lt q hq).1))
        have HLN2 : Hid ((L ++ [t]).length = m + 1) := by show _ = _; rw [List.length_append, HLN.out]; rfl
        have HO2 : Hid (Owns w2 w.heap.size (.slice (some ⟨g2, 0, none⟩) (m + 1) cap2) (L ++ [t])) := by
          show Owns _ _ _ _
          unfold Owns
          rw [HLN2.out, List.map_append, ← HSE.out]
          rw [SV_str] at hown'
          first | exact hown' | simpa using hown'
        clear hown' hgrow
        go_wp2
        go_ret
        exact ⟨g2, m + 1, cap2, rfl, by rw [HIN.out]; exact HLN2.out, by rw [HIN.out]; exact HO2.out, HW2.out⟩
      · have hins : insR l t = (insRun t l).1 := by unfold insR; rw [HDN.out]; simp
        have HIN := Lib.hid hins
        clear hins HDN hall
        go_wp2
        go_ret
        exact ⟨g, m, cap1, rfl, by rw [HIN.out]; exact HLN.out, by rw [HIN.out]; exact HO.out, HBW.out⟩

theorem pickR_len (l : List Bs) : (pickR l).length ≤ l.length := by
  rw [← pick_eq]
  unfold Lib.compact Lib.compactUpTo
  rw [List.length_map]
  refine Nat.le_trans (List.length_filter_le _ _) ?_
  simp
def sel (yes no : List Bs) (x : Bs) : Bool := anyM yes x && !anyM no x
def pickL (paths yes no : List Bs) : List Bs := pickR (paths.filter (sel yes no))
theorem filter_snoc (l : List Bs) (f : Bs → Bool) (k : Nat) (x : Bs) (h : l[k]? = some x) : (l.take (k + 1)).filter f = (l.take k).filter f ++ if f x = true then [x] else [] := by
  rw [take_snoc l k x h, List.filter_append]
  cases hf : f x <;> simp [hf]
theorem pick_len (l : List Bs) (f : Bs → Bool) (k : Nat) : (pickR ((l.take k).filter f)).length ≤ k := by
  refine Nat.le_trans (pickR_len _) (Nat.le_trans (List.length_filter_le _ _) ?_)
  rw [List.length_take]; omega

set_option maxRecDepth 100000 in
set_option maxHeartbeats 4000000 in
theorem refpick_any (A1 A2 A3 : Option Addr) (c1 c2 c3 n1 n2 n3 : Nat) (paths yes no : List Bs) (w : World) (h1 : paths.length = n1) (h2 : yes.length = n2) (h3 : no.length = n3) (b1 : n1 ≤ 100000) (b2 : n2 ≤ 100000) (b3 : n3 ≤ 100000)
    (l1 : ∀ x ∈ paths, x.length ≤ 100000) (l2 : ∀ x ∈ yes, x.length ≤ 100000) (l3 : ∀ x ∈ no, x.length ≤ 100000) (r1 : SRow w w.heap.size A1 paths) (r2 : SRow w w.heap.size A2 yes) (r3 : SRow w w.heap.size A3 no) :
    Calls Tryd.prog 17 #[.slice A1 n1 c1, .slice A2 n2 c2, .slice A3 n3 c3] w fun e w' => ∃ g m cap', e = .returned (.slice (some ⟨g, 0, none⟩) m cap') ∧ (pickL paths yes no).length = m ∧ SRow w' w'.heap.size (some ⟨g, 0, none⟩) (pickL paths yes no) ∧ Below w.heap.size w w' := by
  have H1 := Lib.hid h1
  have H2 := Lib.hid h2
  have H3 := Lib.hid h3
  have L1 := Lib.hid l1
  have L2 := Lib.hid l2
  have L3 := Lib.hid l3
  have R1 := Lib.hid r1
  have R2 := Lib.hid r2
  have R3 := Lib.hid r3
  clear h1 h2 h3 l1 l2 l3 r1 r2 r3
  go_enter Tryd.func17, Tryd.ntmps17
  go_wp2
  go_loopw [7, 13] (fun v i wr => ∃ (k g m cap : Nat), k ≤ n1 ∧ i = .int .i64 k ∧ v = .slice (some ⟨g, 0, none⟩) m cap ∧ m ≤ k ∧ Hid ((pickR ((paths.take k).filter (sel yes no))).length = m) ∧ Hid (SRow wr wr.heap.size (some ⟨g, 0, none⟩) (pickR ((paths.take k).filter (sel yes no)))) ∧ Hid (Below w.heap.size w wr)) (fun _ i _ => n1 - (intOf i).toNat)
  case atStart => exact ⟨0, w.heap.size, 0, 0, Nat.zero_le _, rfl, rfl, Nat.le_refl _, rfl, SRow.none_ _ _ _, (Below.refl _ _).alloc (Nat.le_refl _) _⟩
  case round =>
    obtain ⟨k, g, m, cap, hk, rfl, rfl, hm, HLN, HO, HBW⟩ := hrel
    by_cases hlt : k < n1
    · have hki : (k : Int) < n1 := by omega
      have hxk : paths[k]? = some (paths[k]'(by rw [H1.out]; exact hlt)) := List.getElem?_eq_getElem _
      generalize paths[k]'(by rw [H1.out]; exact hlt) = x at hxk
      obtain ⟨b1, o1, sx, rfl, _, hsx, cX⟩ := (R1.out.below HBW.out (Nat.le_refl _)) k x hxk
      have hsxs : sx.size ≤ 100000 := by
        have := L1.out x (List.mem_of_getElem? hxk)
        rw [← hsx, data_length] at this
        exact this
      have hfs := filter_snoc paths (sel yes no) k x hxk
      obtain ⟨ry, hry⟩ : ∃ r, anyM yes x = r := ⟨_, rfl⟩
      obtain ⟨rn, hrn⟩ : ∃ r, anyM no x = r := ⟨_, rfl⟩
      have hsel : sel yes no x = (ry && !rn) := by unfold sel; rw [hry, hrn]
      rw [hsel] at hfs
      have HY := Lib.hid (fun W h => refsome_any A2 c2 n2 w.heap.size yes sx ry (by rw [hsx]; exact hry) W H2.out b2 L2.out hsxs h)
      have HNO := Lib.hid (fun W h => refsome_any A3 c3 n3 w.heap.size no sx rn (by rw [hsx]; exact hrn) W H3.out b3 L3.out hsxs h)
      have HRY := Lib.hid (R2.out.below HBW.out (Nat.le_refl _))
      have HRN := Lib.hid (R3.out.below HBW.out (Nat.le_refl _))
      have hml := pick_len paths (sel yes no) (k + 1)
      have HSX := Lib.hid hsx
      clear hry hrn hsel hsx hxk
      cases ry
      · rw [Bool.false_and, if_neg (by simp), List.append_nil] at hfs
        have HFS := Lib.hid hfs
        clear hfs
        go_wp2_with fail
        refine (HY.out _ HRY.out).mono ?_
        rintro e w1 ⟨rfl, hb1⟩
        have HB1 := Lib.hid (HBW.out.trans (hb1.mono HBW.out.size))
        have HO1 := Lib.hid ((srow_later HO.out hb1).more hb1.size)
        clear hb1
        go_wp2
        go_roundw
        case rel => exact ⟨k + 1, g, m, cap, by omega, by go_num, rfl, by omega, by show _ = _; rw [HFS.out]; exact HLN.out, by show SRow _ _ _ _; rw [HFS.out]; exact HO1.out, HB1.out⟩
        case measure => simp [intOf]; omega
      · rw [Bool.true_and] at hfs
        cases rn
        · rw [if_pos (by rfl)] at hfs
          rw [hfs, pickR_snoc] at hml
          have HFS := Lib.hid hfs
          obtain ⟨L, hL⟩ : ∃ L, pickR ((paths.take k).filter (sel yes no)) = L := ⟨_, rfl⟩
          have hpk : pickR ((paths.take (k + 1)).filter (sel yes no)) = insR L x := by rw [hfs, pickR_snoc, hL]
          rw [hL] at HLN HO hml
          have HPK := Lib.hid hpk
          have HML := Lib.hid hml
          clear hfs hL hpk HFS hml
          go_wp2_with fail
          refine (HY.out _ HRY.out).mono ?_
          rintro e w1 ⟨rfl, hb1⟩
          have HB1 := Lib.hid (HBW.out.trans (hb1.mono HBW.out.size))
          have HO1 := Lib.hid ((srow_later HO.out hb1).more hb1.size)
          have HRN1 := Lib.hid (srow_later HRN.out hb1)
          clear hb1
          go_wp2_with fail
          refine (HNO.out _ HRN1.out).mono ?_
          rintro e w2 ⟨rfl, hb2⟩
          have HB2 := Lib.hid (HB1.out.trans (hb2.mono HB1.out.size))
          have HO2 := Lib.hid ((srow_later HO1.out hb2).more hb2.size)
          clear hb2
          go_wp2_with fail
          refine (insert_any (some ⟨g, 0, none⟩) cap m w2.heap.size L sx w2 HLN.out (by omega) hsxs HO2.out (Nat.le_refl _)).mono ?_
          rintro e w3 ⟨g3, m3, cap3, rfl, hl3, ho3, hb3⟩
          rw [HSX.out] at hl3 ho3
          have hm3 : m3 ≤ k + 1 := by have := HML.out; omega
          have HB3 := Lib.hid (HB2.out.trans (hb3.mono HB2.out.size))
          have HO3 := Lib.hid ho3.row
          have HL3 := Lib.hid hl3
          clear hb3 ho3 hl3
          go_wp2
          go_roundw
          case rel => exact ⟨k + 1, g3, m3, cap3, by omega, by go_num, rfl, hm3, by show _ = _; rw [HPK.out]; exact HL3.out, by show SRow _ _ _ _; rw [HPK.out]; exact HO3.out, HB3.out⟩
          case measure => simp [intOf]; omega
        · rw [if_neg (by simp), List.append_nil] at hfs
          have HFS := Lib.hid hfs
          clear hfs
          go_wp2_with fail
          refine (HY.out _ HRY.out).mono ?_
          rintro e w1 ⟨rfl, hb1⟩
          have HB1 := Lib.hid (HBW.out.trans (hb1.mono HBW.out.size))
          have HO1 := Lib.hid ((srow_later HO.out hb1).more hb1.size)
          have HRN1 := Lib.hid (srow_later HRN.out hb1)
          clear hb1
          go_wp2_with fail
          refine (HNO.out _ HRN1.out).mono ?_
          rintro e w2 ⟨rfl, hb2⟩
          have HB2 := Lib.hid (HB1.out.trans (hb2.mono HB1.out.size))
          have HO2 := Lib.hid ((srow_later HO1.out hb2).more hb2.size)
          clear hb2
          go_wp2
          go_roundw
          case rel => exact ⟨k + 1, g, m, cap, by omega, by go_num, rfl, by omega, by show _ = _; rw [HFS.out]; exact HLN.out, by show SRow _ _ _ _; rw [HFS.out]; exact HO2.out, HB2.out⟩
          case measure => simp [intOf]; omega
    · obtain rfl : k = n1 := by omega
      have hall : paths.take k = paths := List.take_of_length_le (by rw [H1.out]; exact Nat.le_refl _)
      rw [hall] at HLN HO
      clear hall
      go_wp2
      go_ret
      exact ⟨g, m, cap, rfl, HLN.out, HO.out, HBW.out⟩
end Gl
end Go.Proofs.YtffmnobcdhgfdaaDoor
