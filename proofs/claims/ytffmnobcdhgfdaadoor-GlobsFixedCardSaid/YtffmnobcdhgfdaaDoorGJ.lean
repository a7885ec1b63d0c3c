/-
  Layer 4 (globs): the walk of globs.May.
-/
import Derived.Test.YtffmnobcdhgfdaaDoorGI
namespace Go.Proofs.YtffmnobcdhgfdaaDoor
namespace Gl
open Go.RowKit Go.Shelf Pt
attribute [local go_sem] Oper.semAt_some

def okP (q : Bs) : Bool := q == star || !hasSS q
theorem stab_cell {Bn B : Nat} {a : Addr} {v : Value} {W W' : World} {row : Option Nat} (h : W.cell? a = some v) (hg : W.grownBy W' row) (hr : ∀ r, row = some r → r = Bn ∨ (B ≤ r ∧ ∃ o : Obj, W.heap[r]? = some o ∧ o.isCells = false)) (h1 : a.block ≠ Bn) (h2 : a.block < B) : W'.cell? a = some v :=
  (World.cell?_of_block (hg.block a.block (cell_lt h) (fun e => by rcases hr a.block e.symm with h | ⟨h, _⟩ <;> omega))).trans h
theorem stab_frozen {Bn B : Nat} {a : Addr} {v : Value} {W W' : World} {row : Option Nat} (h : W.cell? a = some v) (hf : W.frozen? a = false) (hg : W.grownBy W' row) (hr : ∀ r, row = some r → r = Bn ∨ (B ≤ r ∧ ∃ o : Obj, W.heap[r]? = some o ∧ o.isCells = false)) (h1 : a.block ≠ Bn) (h2 : a.block < B) : W'.frozen? a = false :=
  (World.frozen?_of_block (hg.block a.block (cell_lt h) (fun e => by rcases hr a.block e.symm with h | ⟨h, _⟩ <;> omega))).trans hf

theorem rep1 (s X : ByteArray) (c : UInt8) (hX : X.data.toList = Lib.replaceAll s.data.toList [c] [120]) (hs : s.size ≤ 100000) (w : World) (hm : Mx w) :
    Calls Tryd.prog 27 #[.string s, .string ⟨#[c]⟩, .string ⟨#[120]⟩] w fun e w' => e = .returned (.string X) ∧ Below w.heap.size w w' := by
  obtain ⟨m, hm⟩ := hm
  have hc := Lib.countB_le ⟨#[c]⟩ (by show 1 ≤ 1; exact Nat.le_refl _) s.size s (Nat.le_refl _)
  refine (Tryd.strings_ReplaceAll s ⟨#[c]⟩ ⟨#[120]⟩ m w (by omega) hm (by show 1 ≤ 1; exact Nat.le_refl _) (by have : (ByteArray.mk #[120]).size = 1 := rfl; rw [this]; omega)).mono ?_
  rintro e w' ⟨rfl, hb⟩
  refine ⟨?_, hb⟩
  congr 2
  exact str_eq (by rw [hX])
theorem con_any (q : ByteArray) (b : Bool) (hb : hasSS q.data.toList = b) (hq : q.size ≤ 100000) (w : World) (hm : Mx w) :
    Calls Tryd.prog 25 #[.string q, .string ⟨#[42, 42]⟩] w fun e w' => e = .returned (.bool b) ∧ w' = w := by
  obtain ⟨m, hm⟩ := hm
  refine (Tryd.strings_Contains q ⟨#[42, 42]⟩ m w (by omega) hm).mono ?_
  rintro e w' ⟨rfl, rfl⟩
  exact ⟨by rw [← hb, ← con_ss], rfl⟩

set_option maxRecDepth 100000 in
set_option maxHeartbeats 8000000 in
theorem gmay_any (s : ByteArray) (b : Bool) (hb : pmay s.data.toList = b) (w : World) (hs : s.size ≤ 100000) (hm : Mx w) :
    Calls Tryd.prog 9 #[.string s] w fun e w' => e = .returned (.bool b) ∧ Below w.heap.size w w' := by
  have hcode := pmay_code s.data.toList
  rw [hb] at hcode
  have HE := Lib.hid hcode
  clear hb hcode
  refine (callsIn_wide (n := 9)).1 ?_
  refine callsIn_of_wp_marks Tryd.func9 rfl trivial ?_ rfl
  simp only [Tryd.ntmps9, List.size_toArray, List.length_cons, List.length_nil, Nat.reduceAdd, Nat.reduceSub, Array.replicate_succ, Array.replicate_zero, List.push_toArray, List.append_toArray, List.nil_append, List.cons_append]
  gi_wp2_with fail
  refine ⟨trivial, (callsIn_wide.2 (splitSeq_any _ _)).mono ?_⟩
  rintro e w' ⟨rfl, rfl⟩
  gi_wp2
  have c0 := made_cell w (.bool false) 4
  have c1 := made_cell (w.alloc (.cells #[.bool false] 4)) (.string s) 9
  have c2 := made_cell ((w.alloc (.cells #[.bool false] 4)).alloc (.cells #[.string s] 9)) (.string ⟨#[47]⟩) 9
  have c3 := made_cell (((w.alloc (.cells #[.bool false] 4)).alloc (.cells #[.string s] 9)).alloc (.cells #[.string ⟨#[47]⟩] 9)) (.int .i64 0) 3
  simp only [World.size_alloc] at c1 c2 c3
  have d0 := past_cell (.cells #[.int .i64 0] 3) (past_cell (.cells #[.string ⟨#[47]⟩] 9) (past_cell (.cells #[.string s] 9) c0))
  have d1 := past_cell (.cells #[.int .i64 0] 3) (past_cell (.cells #[.string ⟨#[47]⟩] 9) c1)
  have d2 := past_cell (.cells #[.int .i64 0] 3) c2
  have hB0 : Below w.heap.size w ((((w.alloc (.cells #[.bool false] 4)).alloc (.cells #[.string s] 9)).alloc (.cells #[.string ⟨#[47]⟩] 9)).alloc (.cells #[.int .i64 0] 3)) := ((((Below.refl _ w).alloc (Nat.le_refl _) _).alloc (by simp) _).alloc (by simp; omega) _).alloc (by simp; omega) _
  have hsz : ((((w.alloc (.cells #[.bool false] 4)).alloc (.cells #[.string s] 9)).alloc (.cells #[.string ⟨#[47]⟩] 9)).alloc (.cells #[.int .i64 0] 3)).heap.size = w.heap.size + 4 := by simp
  obtain ⟨W0, hW0⟩ : ∃ W0, (((w.alloc (.cells #[.bool false] 4)).alloc (.cells #[.string s] 9)).alloc (.cells #[.string ⟨#[47]⟩] 9)).alloc (.cells #[.int .i64 0] 3) = W0 := ⟨_, rfl⟩
  rw [hW0] at c3 d0 d1 d2 hB0 hsz ⊢
  clear hW0 c0 c1 c2
  have h0l := hm.lt
  have HST := Lib.hid (seq_parts 8 (by omega) (w.heap.size + 1) s hs W0 (by omega) d1.1 d1.2 d2.1 c3.1)
  refine range_cell (by omega) (gf := 61) (Bn := w.heap.size + 1) (lb := #[.pointer (some ⟨w.heap.size + 1 + 1, 0, none⟩), .pointer (some ⟨w.heap.size + 1, 0, none⟩), .pointer (some ⟨w.heap.size + 1 + 1 + 1, 0, none⟩)]) rfl (enters_of Tryd.func61 (by kernel_rfl) rfl) (by omega) HST.out rfl
    (fun pre W => (∀ q ∈ pcl pre, okP q = true) ∧ W.cell? ⟨w.heap.size, 0, none⟩ = some (.bool false) ∧ W.frozen? ⟨w.heap.size, 0, none⟩ = false ∧ Mx W ∧ Below w.heap.size w W)
    (fun pre W => (∃ q ∈ pcl pre, okP q = false) ∧ W.cell? ⟨w.heap.size, 0, none⟩ = some (.bool false) ∧ Below w.heap.size w W)
    (fun s A B row hs hg hr => ⟨hs.1, stab_cell hs.2.1 hg hr (by simp) (by show w.heap.size < _; omega), stab_frozen hs.2.1 hs.2.2.1 hg hr (by simp) (by show w.heap.size < _; omega), by
      obtain ⟨m, hm⟩ := hs.2.2.2.1
      exact ⟨m, stab_cell hm hg hr (by show 0 ≠ _; omega) (by show 0 < _; omega)⟩, hs.2.2.2.2.grown hg hs.2.2.2.2.size (fun k e => by rcases hr k e with h | ⟨h, _⟩ <;> omega)⟩)
    (fun s A B row hs hg hr => ⟨hs.1, stab_cell hs.2.1 hg hr (by simp) (by show w.heap.size < _; omega), hs.2.2.grown hg hs.2.2.size (fun k e => by rcases hr k e with h | ⟨h, _⟩ <;> omega)⟩)
    ⟨by simp [pcl], d0.1, d0.2, hm.later hB0, hB0⟩
    (fun x => { tmps := #[.string s, undef, .pointer (some ⟨w.heap.size, 0, none⟩), .string x.1, .string s, .func (.func 61) #[] #[.pointer (some ⟨w.heap.size + 1 + 1, 0, none⟩), .pointer (some ⟨w.heap.size + 1, 0, none⟩), .pointer (some ⟨w.heap.size + 1 + 1 + 1, 0, none⟩)], .string x.1, undef, undef, undef, undef, undef, undef, undef, undef, undef, undef], defers := [] }) ?assign ?body ?done ?stop
  case assign =>
    intro l x W K hK
    gi_wp2
    exact hK
  case body =>
    rintro l pre x W ⟨hco, hc0, hf0, hmx, hB⟩ _
    have hst := star_beq (s := x.1) rfl
    have HCO := Lib.hid hco
    have HBE := Lib.hid hB
    have HMX := Lib.hid hmx
    have hxs := x.2
    have HB1 := Lib.hid (hB.setCell (p := ⟨w.heap.size, 0, none⟩) (Nat.le_refl _) (.bool false))
    have HS1 := Lib.hid (World.cell?_setCell_same' W ⟨w.heap.size, 0, none⟩ (.bool false) (by rw [hc0]; rfl))
    clear hco hB hmx
    have hsn : okP x.1.data.toList = true → ∀ q ∈ pcl (pre ++ [x]), okP q = true := by
      intro hok q hq
      rw [pcl_snoc] at hq
      rcases List.mem_append.1 hq with hq | hq
      · exact HCO.out q hq
      · simp only [List.mem_singleton] at hq
        rw [hq]; exact hok
    by_cases hxe : x.1.data.toList = star
    · rw [decide_eq_true hxe] at hst
      have HSN := Lib.hid (hsn (by rw [hxe]; rfl))
      clear hsn hxe
      gi_wp2
      refine ⟨trivial, ?_⟩
      gi_wp2
      exact ⟨KeepsOthers.refl _, Below.refl _ _, HSN.out, hc0, hf0, HMX.out, HBE.out⟩
    · rw [decide_eq_false hxe] at hst
      obtain ⟨r, hr⟩ : ∃ r, hasSS x.1.data.toList = r := ⟨_, rfl⟩
      have hok : okP x.1.data.toList = !r := by
        unfold okP
        rw [hr, beq_eq_false_iff_ne.2 hxe, Bool.false_or]
      have HC := Lib.hid (con_any x.1 r hr hxs W HMX.out)
      cases r
      · have HSN := Lib.hid (hsn hok)
        clear hsn hxe hr hok
        gi_wp2_with fail
        refine ⟨trivial, (CallsIn.inRound l (callsIn_wide.2 HC.out)).mono ?_⟩
        rintro e w' ⟨rfl, rfl⟩
        gi_wp2
        exact ⟨KeepsOthers.refl _, Below.refl _ _, HSN.out, hc0, hf0, HMX.out, HBE.out⟩
      · have HOK := Lib.hid hok
        clear hsn hxe hr hok
        gi_wp2_with fail
        refine ⟨trivial, (CallsIn.inRound l (callsIn_wide.2 HC.out)).mono ?_⟩
        rintro e w' ⟨rfl, rfl⟩
        gi_wp2
        exact ⟨KeepsOthers.setCell _ _ _, rfl, ⟨_, by rw [pcl_snoc]; simp, HOK.out⟩, HS1.out, HB1.out⟩
  case done =>
    rintro D ys W hD hS ⟨hco, hc0, hf0, hmx, hB⟩ hK
    obtain ⟨X, hX⟩ : ∃ X : ByteArray, X.data.toList = Lib.replaceAll s.data.toList [42] [120] := ⟨⟨(Lib.replaceAll s.data.toList [42] [120]).toArray⟩, by simp⟩
    obtain ⟨Z, hZ⟩ : ∃ Z : ByteArray, Z.data.toList = s.data.toList.map sub := ⟨⟨(s.data.toList.map sub).toArray⟩, by simp⟩
    have hXs : X.size ≤ 100000 := by rw [← data_length, hX, rep_all 42 120 (by decide), List.length_map, data_length]; exact hs
    have hZs : Z.size ≤ 100000 := by rw [← data_length, hZ, List.length_map, data_length]; exact hs
    have hmb : may Z.data.toList = b := by
      rw [hZ, ← HE.out]
      unfold codeMay
      have : (parts s.data.toList).all (fun q => q == star || !hasSS q) = true := by
        rw [List.all_eq_true, ← hS]; exact hco
      rw [this, Bool.true_and]
    have HR1 := Lib.hid (fun W hm => rep1 s X 42 hX hs W hm)
    have HR2 := Lib.hid (fun W hm => rep1 X Z 63 (hZ.trans (rep_two s X hX).symm) hXs W hm)
    have HM := Lib.hid (fun W => may_any Z b hmb W hZs)
    have hDl := (Array.getElem?_eq_some_iff.1 hK).1
    have HB := Lib.hid hB
    clear hmb hX hZ hco hS hB HE
    gi_wp2_with fail
    refine ⟨trivial, (callsIn_wide.2 (HR1.out W hmx)).mono ?_⟩
    rintro e w1 ⟨rfl, hb1⟩
    have hm1 := hmx.later hb1
    gi_wp2_with fail
    refine ⟨trivial, (callsIn_wide.2 (HR2.out w1 hm1)).mono ?_⟩
    rintro e w2 ⟨rfl, hb2⟩
    gi_wp2_with fail
    refine ⟨trivial, (callsIn_wide.2 (HM.out w2)).mono ?_⟩
    rintro e w3 ⟨rfl, hb3⟩
    have hbb : Below W.heap.size W w3 := (hb1.trans (hb2.mono hb1.size)).trans (hb3.mono (Nat.le_trans hb1.size hb2.size))
    have hc3 := later_cell hc0 hbb
    have hf3 := later_frozen hc0 hf0 hbb
    have hK3 : w3.heap[D]? = some (.deferred (some [])) := (hbb.block D hDl).trans hK
    have HBW := Lib.hid (HB.out.trans (hbb.mono HB.out.size))
    clear hb1 hb2 hb3 hbb hc0 hf0 hm1 hmx hK
    gi_wp2
    have hK' : (w3.setCell ⟨w.heap.size, 0, none⟩ (.bool b)).heap[D]? = some (.deferred (some [])) := (KeepsOthers.setCell _ _ _).same D _ hK3 rfl
    refine ⟨by simp, .inl ⟨_, _, rfl, run_takeDeferred hK', ?_⟩⟩
    have hc5 := cell_kept (World.cell?_setCell_same' w3 ⟨w.heap.size, 0, none⟩ (.bool b) (by rw [hc3]; rfl)) (grownBy_putObj' _ D (.deferred none)) (fun r e => by cases e; exact ⟨_, hK', rfl⟩)
    refine ⟨.bool b, ?_, rfl, (HBW.out.setCell (p := ⟨w.heap.size, 0, none⟩) (Nat.le_refl _) _).trans (belowK_b (w := w) (Nat.le_refl _) _ D _ _ (by omega) hK' rfl rfl)⟩
    simp [results, Tryd.f9, go_sem, hc5]
  case stop =>
    rintro D pre W hD hpre ⟨hin, hcr, hB⟩ hK
    have hbf : b = false := by
      rw [← HE.out]
      unfold codeMay
      obtain ⟨q, hq, hn⟩ := hin
      have : (parts s.data.toList).all (fun q => q == star || !hasSS q) = false := by
        rw [List.all_eq_false]
        exact ⟨q, hpre.subset hq, by unfold okP at hn; rw [hn]; simp⟩
      rw [this, Bool.false_and]
    have HBF := Lib.hid hbf
    clear hbf hin hpre HE
    gi_wp2
    refine ⟨by simp, .inl ⟨_, _, rfl, run_takeDeferred hK, ?_⟩⟩
    have hc5 := cell_kept hcr (grownBy_putObj' _ D (.deferred none)) (fun r e => by cases e; exact ⟨_, hK, rfl⟩)
    refine ⟨.bool false, ?_, by rw [HBF.out], hB.trans (belowK_b (w := w) (Nat.le_refl _) W D _ _ (by omega) hK rfl rfl)⟩
    simp [results, Tryd.f9, go_sem, hc5]
end Gl
end Go.Proofs.YtffmnobcdhgfdaaDoor
