/-
  Layer 4 (globs): the walk of Pick.
-/
import Derived.Test.YtffmnobcdhgfdaaDoorGV
import Derived.Test.YtffmnobcdhgfdaaDoorShelfB
import Derived.Sort.OwnSorted
import Derived.Lib.OwnBridge
namespace Go.Proofs.YtffmnobcdhgfdaaDoor
namespace Gl
open Go.RowKit Pt Go.ChangeShapes

theorem owns_later {w w' : World} {base : Nat} {v : Value} {xs : List Bs} (h : Owns w base v xs) (hb : Below w.heap.size w w') : Owns w' base v xs := World.ownsRow.kept (row := none) h ⟨hb.os, hb.tape, hb.output, hb.size, fun k hk _ => hb.block k hk⟩ (by cases v.ownBlock <;> simp)

set_option maxRecDepth 100000 in
set_option maxHeartbeats 8000000 in
theorem gpick_any (A1 A2 A3 : Option Addr) (c1 c2 c3 n1 n2 n3 : Nat) (paths yes no : List Bs) (w : World) (hmx : Mx w) (h1 : paths.length = n1) (h2 : yes.length = n2) (h3 : no.length = n3) (b1 : n1 ≤ 100000) (b2 : n2 ≤ 100000) (b3 : n3 ≤ 100000)
    (l1 : ∀ x ∈ paths, x.length ≤ 100000) (l2 : ∀ x ∈ yes, x.length ≤ 100000) (l3 : ∀ x ∈ no, x.length ≤ 100000) (r1 : SRow w w.heap.size A1 paths) (r2 : SRow w w.heap.size A2 yes) (r3 : SRow w w.heap.size A3 no) :
    Calls Tryd.prog 16 #[.slice A1 n1 c1, .slice A2 n2 c2, .slice A3 n3 c3] w fun e w' => ∃ A m cap', e = .returned (.slice A m cap') ∧ (pickL paths yes no).length = m ∧ SRow w' w'.heap.size A (pickL paths yes no) ∧ Below w.heap.size w w' := by
  obtain ⟨i0, hi, hz0, hz1, hz2⟩ := info_parts strInfo
  have H1 := Lib.hid h1
  have H2 := Lib.hid h2
  have H3 := Lib.hid h3
  have L1 := Lib.hid l1
  have L2 := Lib.hid l2
  have L3 := Lib.hid l3
  have R1 := Lib.hid r1
  have R2 := Lib.hid r2
  have R3 := Lib.hid r3
  have HX := Lib.hid hmx
  clear h1 h2 h3 l1 l2 l3 r1 r2 r3 hmx
  go_enter Tryd.func16, Tryd.ntmps16
  go_wp2
  go_loopw [7, 13] (fun v i wr => ∃ (k m cap : Nat) (A : Option Addr), k ≤ n1 ∧ i = .int .i64 k ∧ v = .slice A m cap ∧ m ≤ k ∧ Hid (((paths.take k).filter (sel yes no)).length = m) ∧ Hid (Owns wr w.heap.size (.slice A m cap) ((paths.take k).filter (sel yes no))) ∧ Hid (Below w.heap.size w wr)) (fun _ i _ => n1 - (intOf i).toNat)
  case atStart => exact ⟨0, 0, 0, none, Nat.zero_le _, rfl, rfl, Nat.le_refl _, rfl, Owns.nil _ _, Below.refl _ _⟩
  case round =>
    obtain ⟨k, m, cap, A, hk, rfl, rfl, hm, HLN, HO, HBW⟩ := hrel
    by_cases hlt : k < n1
    · have hki : (k : Int) < n1 := by omega
      have hxk : paths[k]? = some (paths[k]'(by rw [H1.out]; exact hlt)) := List.getElem?_eq_getElem _
      generalize paths[k]'(by rw [H1.out]; exact hlt) = x at hxk
      obtain ⟨b1, o1, sx, rfl, _, hsx, cX⟩ := (R1.out.below HBW.out (Nat.le_refl _)) k x hxk
      have hsxs : sx.size ≤ 100000 := by
        have := L1.out x (List.mem_of_getElem? hxk)
        rw [← hsx, data_length] at this
        exact this
      have hfs := filter_snoc paths (sel yes no) k x hxk
      obtain ⟨ry, hry⟩ : ∃ r, anyM yes x = r := ⟨_, rfl⟩
      obtain ⟨rn, hrn⟩ : ∃ r, anyM no x = r := ⟨_, rfl⟩
      have hsel : sel yes no x = (ry && !rn) := by unfold sel; rw [hry, hrn]
      rw [hsel] at hfs
      obtain ⟨L, hL⟩ : ∃ L, (paths.take k).filter (sel yes no) = L := ⟨_, rfl⟩
      rw [hL] at HLN HO hfs
      -- the path's own cell
      have d0 := made_cell wr (.string sx) 9
      have hbw : Below wr.heap.size wr (wr.alloc (.cells #[.string sx] 9)) := (Below.refl _ _).alloc (Nat.le_refl _) _
      have HB0 := Lib.hid (HBW.out.trans (hbw.mono HBW.out.size))
      have HX0 := Lib.hid ((HX.out.later HBW.out).later hbw)
      have HO0 : Hid (Owns (wr.alloc (.cells #[.string sx] 9)) w.heap.size (.slice A m cap) L) := HO.out.alloc _
      have HY := Lib.hid (fun W (h : Below w.heap.size w W) hc hx => contf_any wr.heap.size A2 c2 n2 w.heap.size yes sx ry (by rw [hsx]; exact hry) W H2.out b2 L2.out hsxs (R2.out.below h (Nat.le_refl _)) hc hx)
      have HNO := Lib.hid (fun W (h : Below w.heap.size w W) hc hx => contf_any wr.heap.size A3 c3 n3 w.heap.size no sx rn (by rw [hsx]; exact hrn) W H3.out b3 L3.out hsxs (R3.out.below h (Nat.le_refl _)) hc hx)
      have HSX := Lib.hid hsx
      have hwz := HBW.out.size
      clear hry hrn hsel hsx hxk hL hbw
      obtain ⟨d0, d0f⟩ := d0
      have HD0 := Lib.hid d0
      cases ry
      · rw [Bool.false_and, if_neg (by simp), List.append_nil] at hfs
        have HFS := Lib.hid hfs
        clear hfs
        go_wp2_with fail
        refine (HY.out _ HB0.out HD0.out HX0.out).mono ?_
        rintro e w1 ⟨rfl, hb1⟩
        have HB1 := Lib.hid (HB0.out.trans (hb1.mono HB0.out.size))
        have HO1 : Hid (Owns w1 w.heap.size (.slice A m cap) L) := owns_later HO0.out hb1
        have HX1 := Lib.hid (HX0.out.later hb1)
        have d1 := later_cell HD0.out hb1
        have HD1 := Lib.hid d1
        clear hb1
        go_wp2
        go_roundw
        case rel => exact ⟨k + 1, m, cap, A, by omega, by go_num, rfl, by omega, by show _ = _; rw [HFS.out]; exact HLN.out, by show Owns _ _ _ _; rw [HFS.out]; exact HO1.out, HB1.out⟩
        case measure => simp [intOf]; omega
      · rw [Bool.true_and] at hfs
        cases rn
        · rw [if_pos (by rfl)] at hfs
          have HFS := Lib.hid hfs
          clear hfs
          go_wp2_with fail
          refine (HY.out _ HB0.out HD0.out HX0.out).mono ?_
          rintro e w1 ⟨rfl, hb1⟩
          have HB1 := Lib.hid (HB0.out.trans (hb1.mono HB0.out.size))
          have HO1 : Hid (Owns w1 w.heap.size (.slice A m cap) L) := owns_later HO0.out hb1
          have HX1 := Lib.hid (HX0.out.later hb1)
          have d1 := later_cell HD0.out hb1
          have HD1 := Lib.hid d1
          clear hb1
          go_wp2_with fail
          refine (HNO.out _ HB1.out HD1.out HX1.out).mono ?_
          rintro e w2 ⟨rfl, hb2⟩
          have HB2 := Lib.hid (HB1.out.trans (hb2.mono HB1.out.size))
          have HO2 : Hid (Owns w2 w.heap.size (.slice A m cap) L) := owns_later HO1.out hb2
          have d2 := later_cell HD1.out hb2
          clear hb2
          go_wp2_with (at_builtin; refine wpList_append_own _ rfl _ _ 26 rfl w.heap.size 9 i0 (.string ⟨#[]⟩) 1 16 Tryd.underlying26 hi hz0 hz1 hz2 rfl (by decide) _ m ((L).map SV) rfl ?c0a ⟨w2.heap.size, 0, none⟩ 1 1 [.string sx] rfl rfl ?c1a ?c2a ?c3a ?c4a ?c5a ?_)
          case c0a => have := HO2.out.alloc (.cells #[.string sx] 9); rw [HLN.out] at this; exact this
          case c2a => first | rfl | (intro u hu; obtain rfl := List.mem_singleton.1 hu; rfl)
          case c3a => simp only [maxLen]; omega
          case c4a => omega
          case c5a => have := HB2.out.size; simp; omega
          · rintro (_ | j) u hj
            · simp only [List.getElem?_cons_zero, Option.some.injEq] at hj
              subst hj
              simp [Addr.add]
            · simp at hj
          intro v' w4 hown' hgrow _
          obtain ⟨g4, cap4, rfl, _, _⟩ := hown'.form (by omega)
          have HW4 := Lib.hid ((HB2.out.alloc HB2.out.size _).grown hgrow (by have := HB2.out.size; simp; omega) (fun q hq => (HO2.out.lt q hq).1))
          have HLN4 : Hid ((L ++ [x]).length = m + 1) := by show _ = _; rw [List.length_append, HLN.out]; rfl
          have HO4 : Hid (Owns w4 w.heap.size (.slice (some ⟨g4, 0, none⟩) (m + 1) cap4) (L ++ [x])) := by
            show Owns _ _ _ _
            unfold Owns
            rw [HLN4.out, List.map_append, ← HSX.out]
            rw [SV_str] at hown'
            first | exact hown' | simpa using hown'
          clear hown' hgrow
          go_wp2
          go_roundw
          case rel => exact ⟨k + 1, m + 1, cap4, _, by omega, by go_num, rfl, by omega, by show _ = _; rw [HFS.out]; exact HLN4.out, by show Owns _ _ _ _; rw [HFS.out]; exact HO4.out, HW4.out⟩
          case measure => simp [intOf]; omega
        · rw [if_neg (by simp), List.append_nil] at hfs
          have HFS := Lib.hid hfs
          clear hfs
          go_wp2_with fail
          refine (HY.out _ HB0.out HD0.out HX0.out).mono ?_
          rintro e w1 ⟨rfl, hb1⟩
          have HB1 := Lib.hid (HB0.out.trans (hb1.mono HB0.out.size))
          have HO1 : Hid (Owns w1 w.heap.size (.slice A m cap) L) := owns_later HO0.out hb1
          have HX1 := Lib.hid (HX0.out.later hb1)
          have d1 := later_cell HD0.out hb1
          have HD1 := Lib.hid d1
          clear hb1
          go_wp2_with fail
          refine (HNO.out _ HB1.out HD1.out HX1.out).mono ?_
          rintro e w2 ⟨rfl, hb2⟩
          have HB2 := Lib.hid (HB1.out.trans (hb2.mono HB1.out.size))
          have HO2 : Hid (Owns w2 w.heap.size (.slice A m cap) L) := owns_later HO1.out hb2
          have d2 := later_cell HD1.out hb2
          clear hb2
          go_wp2
          go_roundw
          case rel => exact ⟨k + 1, m, cap, A, by omega, by go_num, rfl, by omega, by show _ = _; rw [HFS.out]; exact HLN.out, by show Owns _ _ _ _; rw [HFS.out]; exact HO2.out, HB2.out⟩
          case measure => simp [intOf]; omega
    · obtain rfl : k = n1 := by omega
      have hall : paths.take k = paths := List.take_of_length_le (by rw [H1.out]; exact Nat.le_refl _)
      rw [hall] at HLN HO
      obtain ⟨L, hL⟩ : ∃ L, paths.filter (sel yes no) = L := ⟨_, rfl⟩
      have hpl : pickL paths yes no = Lib.compact (L.mergeSort fun x y => decide (x ≤ y)) := by rw [pick_eq, ← hL]; rfl
      rw [hL] at HLN HO
      have HPL := Lib.hid hpl
      clear hall hL hpl
      by_cases h0 : m = 0
      · subst h0
        have hL0 : L = [] := List.eq_nil_of_length_eq_zero HLN.out
        have hp0 : pickL paths yes no = [] := by rw [HPL.out, hL0, pick_eq]; rfl
        have HP0 := Lib.hid hp0
        clear hp0 hL0
        go_wp2_with fail
        refine (Tryd.slices_Sort_string_none A cap wr).mono ?_
        rintro e w1 ⟨rfl, rfl⟩
        go_wp2_with fail
        refine (Tryd.slices_Compact_string_empty A cap w1).mono ?_
        rintro e w2 ⟨rfl, rfl⟩
        go_wp2
        go_ret
        exact ⟨A, 0, cap, rfl, by rw [HP0.out]; rfl, by rw [HP0.out]; exact SRow.none_ _ _ _, HBW.out⟩
      · have hown := HO.out
        unfold Owns at hown
        rw [HLN.out] at hown
        rcases hown.2 with ⟨_, hz⟩ | ⟨g, cap', cur, hv, hbase, hb, hc1, hc2, hc3, hc4⟩
        · exact absurd hz h0
        · injection hv with hA _ hcc
          subst hA hcc
          have hlen := HLN.out
          subst hlen
          have HH : Hid (Go.Sort.Holds encStr wr g 0 L.toArray) := holds_of_block hb (by have e : L.map SV = L.map encStr := rfl; rw [← e]; simpa using hc4)
          have hg : g < wr.heap.size := (Array.getElem?_eq_some_iff.1 hb).1
          have hml : (L.mergeSort fun x y => decide (x ≤ y)).length = L.length := by simp
          go_wp2_with fail
          refine (Tryd.slices_Sort_string g 0 cap L wr HH.out hg (by omega)).mono ?_
          rintro e w1 ⟨rfl, q1, os, rfl⟩
          have hos := ownsRow_sorted (n := q1) (os := os) (ts := L.mergeSort fun x y => decide (x ≤ y)) hml hbase hb hc1 hc2 hc3
          have hbs := HBW.out.grown (grownBy_sorted (n := q1) (os := os) (L.mergeSort fun x y => decide (x ≤ y)).toArray) HBW.out.size (fun q hq => by cases hq; exact hbase)
          obtain ⟨Y, hY⟩ : ∃ Y, (L.mergeSort fun x y => decide (x ≤ y)) = Y := ⟨_, rfl⟩
          rw [hY] at hos hbs hml ⊢
          obtain ⟨W1, hW1⟩ : ∃ W1, Go.Sort.grow (Go.Sort.putRow encStr (Go.Sort.ahead wr q1) g 0 Y.toArray) os = W1 := ⟨_, rfl⟩
          rw [hW1] at hos hbs ⊢
          have HPY : Hid (pickL paths yes no = Lib.compact Y) := by show _ = _; rw [HPL.out, hY]
          have HOS := Lib.hid hos
          have HBS := Lib.hid hbs
          clear hos hbs hW1 hY hb hc3 hc4 hown
          obtain ⟨g', cap', hv', _, _, hnc, hcm, hyl, hh⟩ := Lib.holds_of_ownsRow HOS.out (by simp)
          injection hv' with hv' _ hcc
          injection hv' with hv'
          injection hv' with hgg
          subst hgg hcc
          have HH2 := Lib.hid hh
          clear hh
          have hci : ((L.length : Nat) : Int) ≤ 100000 := by omega
          go_wp2_with fail
          rw [← hml]
          refine (Tryd.slices_Compact_string g 0 cap Y W1 HH2.out (by omega) (by omega)).mono ?_
          rintro e w2 ⟨rfl, q2, rfl⟩
          have hcl : (Lib.compact Y).length ≤ Y.length := by
            unfold Lib.compact Lib.compactUpTo
            rw [List.length_map]
            refine Nat.le_trans (List.length_filter_le _ _) ?_
            simp
          have hfin := Lib.ownsRow_putRow (q := q2) (k := (Lib.compact Y).length) (ys := Lib.compact Y ++ List.replicate (Y.length - (Lib.compact Y).length) []) HOS.out (by rw [List.length_append, List.length_replicate]; omega) (by omega)
          rw [List.take_left] at hfin
          have hbf := Lib.below_putRow (enc := encStr) (q := q2) (d := (Lib.compact Y ++ List.replicate (Y.length - (Lib.compact Y).length) []).toArray) HBS.out hbase
          obtain ⟨W2, hW2⟩ : ∃ W2, Go.Sort.putRow encStr (Go.Sort.ahead W1 q2) g 0 (Lib.compact Y ++ List.replicate (Y.length - (Lib.compact Y).length) []).toArray = W2 := ⟨_, rfl⟩
          rw [hW2] at hfin hbf ⊢
          have HF : Hid (Owns W2 w.heap.size (.slice (some ⟨g, 0, none⟩) (Lib.compact Y).length cap) (Lib.compact Y)) := hfin
          have HBF := Lib.hid hbf
          clear hfin hbf hW2 hcl
          go_wp2
          go_ret
          exact ⟨_, _, _, rfl, by rw [HPY.out], by rw [HPY.out]; exact HF.out.row, HBF.out⟩
end Gl
end Go.Proofs.YtffmnobcdhgfdaaDoor
