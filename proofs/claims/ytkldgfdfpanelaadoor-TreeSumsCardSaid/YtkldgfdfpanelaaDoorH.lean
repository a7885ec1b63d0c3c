/-
  Layer 3 (path): the walks of count, May.
-/
import Derived.Test.YtkldgfdfpanelaaDoorG
namespace Go.Proofs.YtkldgfdfpanelaaDoor
namespace Pt
open Go.RowKit Go.Shelf
attribute [local go_sem] Oper.semAt_some

theorem made_cell (W : World) (v : Value) (t : TypeId) : (W.alloc (.cells #[v] t)).cell? ⟨W.heap.size, 0, none⟩ = some v ∧ (W.alloc (.cells #[v] t)).frozen? ⟨W.heap.size, 0, none⟩ = false := by
  constructor <;> simp
theorem past_cell {W : World} {a : Addr} {v : Value} (o : Obj) (h : W.cell? a = some v ∧ W.frozen? a = false) : (W.alloc o).cell? a = some v ∧ (W.alloc o).frozen? a = false :=
  ⟨cell_kept h.1 (World.grownBy_alloc W o none) (fun r e => by cases e), (frozen_kept h.1 (World.grownBy_alloc W o none) (fun r e => by cases e)).trans h.2⟩
theorem cnt_done {l : Bs} {xs : List Bs} (h : xs = parts l) (hc : ∀ p ∈ xs, comp p = true) (hn : xs.length ≤ 16) : cnt l = xs.length := by
  subst h
  exact cnt_may (may_mk hc hn)
theorem cnt_stop {l : Bs} {xs : List Bs} (h : xs <+: parts l) (hx : 16 < xs.length ∨ ∃ p ∈ xs, comp p = false) : cnt l = 0 := by
  refine cnt_not ?_
  cases hm : may l
  · rfl
  · rcases hx with hx | ⟨p, hp, hc⟩
    · have := h.length_le
      have := may_len hm
      omega
    · have := may_all hm p (h.subset hp)
      rw [hc] at this
      cases this

set_option maxRecDepth 100000 in
set_option maxHeartbeats 4000000 in
theorem count_any (s : ByteArray) (w : World) (hs : s.size ≤ 100000) :
    Calls Tryd.prog 46 #[.string s] w fun e w' => e = .returned (.int .i64 (cnt s.data.toList)) ∧ Below w.heap.size w w' := by
  refine (callsIn_wide (n := 9)).1 ?_
  refine callsIn_of_wp_marks Tryd.func46 rfl trivial ?_ rfl
  simp only [Tryd.ntmps46, List.size_toArray, List.length_cons, List.length_nil, Nat.reduceAdd, Nat.reduceSub, Array.replicate_succ, Array.replicate_zero, List.push_toArray, List.append_toArray, List.nil_append, List.cons_append]
  gi_wp2_with fail
  refine ⟨trivial, (callsIn_wide.2 (comps_any _ _)).mono ?_⟩
  rintro e w' ⟨rfl, rfl⟩
  gi_wp2
  have c0 := made_cell w (.int .i64 0) 3
  have c1 := made_cell (w.alloc (.cells #[.int .i64 0] 3)) (.int .i64 0) 3
  have c2 := made_cell ((w.alloc (.cells #[.int .i64 0] 3)).alloc (.cells #[.int .i64 0] 3)) (.string s) 9
  simp only [World.size_alloc] at c1 c2
  have hB0 : Below w.heap.size w (((w.alloc (.cells #[.int .i64 0] 3)).alloc (.cells #[.int .i64 0] 3)).alloc (.cells #[.string s] 9)) := (((Below.refl _ w).alloc (Nat.le_refl _) _).alloc (by simp) _).alloc (by simp; omega) _
  have f0 := past_cell (.cells #[.string s] 9) (past_cell (.cells #[.int .i64 0] 3) c0)
  have f1 := past_cell (.cells #[.string s] 9) c1
  have hsz : (((w.alloc (.cells #[.int .i64 0] 3)).alloc (.cells #[.int .i64 0] 3)).alloc (.cells #[.string s] 9)).heap.size = w.heap.size + 3 := by simp
  obtain ⟨W0, hW0⟩ : ∃ W0, (((w.alloc (.cells #[.int .i64 0] 3)).alloc (.cells #[.int .i64 0] 3)).alloc (.cells #[.string s] 9)) = W0 := ⟨_, rfl⟩
  rw [hW0] at c2 hB0 f0 f1 hsz ⊢
  clear hW0 c0 c1
  have hst := comps_stops 8 (by omega) (w.heap.size + 1 + 1) s hs W0 (by omega) c2.1
  have HST := Lib.hid hst
  clear hst
  refine wpIn_rangeFunc_ownF rfl (by omega) (gf := 57) (lb := #[.pointer (some ⟨w.heap.size + 1 + 1, 0, none⟩)]) rfl trivial (enters_of Tryd.func57 (by kernel_rfl) rfl)
    HST.out (fun _ _ => trivial) (fun _ _ _ _ _ _ _ _ => trivial) (Below.refl _ _) (fun _ => rfl)
    (fun pre W => ((∀ p ∈ pcl pre, comp p = true) ∧ pre.length ≤ 16 ∧ W.cell? ⟨w.heap.size, 0, none⟩ = some (.int .i64 0) ∧ W.frozen? ⟨w.heap.size, 0, none⟩ = false ∧ W.cell? ⟨w.heap.size + 1, 0, none⟩ = some (.int .i64 pre.length) ∧ W.frozen? ⟨w.heap.size + 1, 0, none⟩ = false) ∧ Below w.heap.size w W)
    (fun c pre W => (c = .ret ∧ (16 < (pcl pre).length ∨ ∃ p ∈ pcl pre, comp p = false) ∧ W.cell? ⟨w.heap.size, 0, none⟩ = some (.int .i64 0)) ∧ Below w.heap.size w W)
    (OwnFrom.and (Own.from (fun s A B row hs hg hr => ⟨hs.1, hs.2.1, cell_kept hs.2.2.1 hg hr, (frozen_kept hs.2.2.1 hg hr).trans hs.2.2.2.1, cell_kept hs.2.2.2.2.1 hg hr, (frozen_kept hs.2.2.2.2.1 hg hr).trans hs.2.2.2.2.2⟩) _) (ownFrom_below (Nat.le_refl _) (by omega)))
    (fun c => OwnFrom.and (Own.from (fun s A B row hs hg hr => ⟨hs.1, hs.2.1, cell_kept hs.2.2 hg hr⟩) _) (ownFrom_below (Nat.le_refl _) (by omega)))
    ⟨⟨by simp [pcl], by simp, f0.1, f0.2, f1.1, f1.2⟩, hB0⟩
    (fun x => { tmps := #[.string s, undef, .pointer (some ⟨w.heap.size, 0, none⟩), .pointer (some ⟨w.heap.size + 1, 0, none⟩), .string x.1, .string s, .func (.func 57) #[] #[.pointer (some ⟨w.heap.size + 1 + 1, 0, none⟩)], .string x.1, undef, undef, undef, undef, undef, undef, undef, undef, undef, undef], defers := [] }) ?assign ?body ?done ?stop
  case assign =>
    intro l x W K hK
    gi_wp2
    exact hK
  case body =>
    rintro l pre x W ⟨⟨hco, hln, hc0, hf0, hc1, hf1⟩, hB⟩ _
    have HP := Lib.hid (part_any x.1)
    have HCO := Lib.hid hco
    have HBE := Lib.hid hB
    have hxs := x.2
    have hB' := hB
    clear hco hB
    have hB1 := fun (v : Value) => hB'.setCell (p := ⟨w.heap.size + 1, 0, none⟩) (by simp) v
    have hB2 := fun (v : Value) => (hB1 v).setCell (p := ⟨w.heap.size, 0, none⟩) (Nat.le_refl _) (.int .i64 0)
    have hS1 := fun (v : Value) => World.cell?_setCell_same' W ⟨w.heap.size + 1, 0, none⟩ v (by rw [hc1]; rfl)
    have hS0 : ∀ v : Value, (W.setCell ⟨w.heap.size + 1, 0, none⟩ v).cell? ⟨w.heap.size, 0, none⟩ = some (.int .i64 0) := fun v => (World.cell?_setCell_other _ _ _ _ (fun e => absurd (congrArg Addr.block e) (by simp))).trans hc0
    have hS2 := fun (v : Value) => World.cell?_setCell_same' (W.setCell ⟨w.heap.size + 1, 0, none⟩ v) ⟨w.heap.size, 0, none⟩ (.int .i64 0) (by rw [hS0]; rfl)
    have HB1 := Lib.hid hB1
    have HB2 := Lib.hid hB2
    have HS1 := Lib.hid hS1
    have HS0 := Lib.hid hS0
    have HS2 := Lib.hid hS2
    clear hB1 hB2 hS1 hS0 hS2 hB'
    by_cases h16 : 16 < pre.length + 1
    · have hd : (16 : Int) < (pre.length : Int) + 1 := by omega
      have H16 : Hid (16 < (pcl (pre ++ [x])).length) := by show _ < _; rw [pcl_len, List.length_append]; exact h16
      clear h16
      gi_wp2
      refine ⟨trivial, ?_⟩
      gi_wp2
      exact ⟨(KeepsOthers.setCell _ _ _).trans (KeepsOthers.setCell _ _ _), ⟨rfl, .inl H16.out, HS2.out _⟩, HB2.out _⟩
    · have hd : decide ((16 : Int) < (pre.length : Int) + 1) = false := by rw [decide_eq_false_iff_not]; omega
      have hcp := fun W => HP.out W (by omega)
      cases hcc : comp x.1.data.toList
      · rw [hcc] at hcp
        have HC := Lib.hid hcp
        have HN := Lib.hid hcc
        clear hcp hcc
        gi_wp2_with fail
        refine ⟨trivial, (CallsIn.inRound l (callsIn_wide.2 (HC.out _))).mono ?_⟩
        rintro e w' ⟨rfl, rfl⟩
        gi_wp2
        exact ⟨(KeepsOthers.setCell _ _ _).trans (KeepsOthers.setCell _ _ _), ⟨rfl, .inr ⟨_, by rw [pcl_snoc]; simp, HN.out⟩, HS2.out _⟩, HB2.out _⟩
      · rw [hcc] at hcp
        have HC := Lib.hid hcp
        have HN := Lib.hid hcc
        clear hcp hcc
        gi_wp2_with fail
        refine ⟨trivial, (CallsIn.inRound l (callsIn_wide.2 (HC.out _))).mono ?_⟩
        rintro e w' ⟨rfl, rfl⟩
        gi_wp2
        refine ⟨KeepsOthers.setCell _ _ _, trivial, ⟨?_, by rw [List.length_append]; simp; omega, HS0.out _, by rw [World.frozen?_setCell]; exact hf0, ?_, by rw [World.frozen?_setCell]; exact hf1⟩, HB1.out _⟩
        · intro p hp
          rw [pcl_snoc] at hp
          rcases List.mem_append.1 hp with hp | hp
          · exact HCO.out p hp
          · simp only [List.mem_singleton] at hp
            rw [hp]
            exact HN.out
        · rw [HS1.out, List.length_append]
          rfl
  case done =>
    rintro D ys W hD hS ⟨⟨hco, hln, hc0, hf0, hc1, hf1⟩, hB⟩ hK
    gi_wp2
    have hK' := (KeepsOthers.setCell W ⟨w.heap.size, 0, none⟩ (.int .i64 ys.length)).same D _ hK rfl
    refine ⟨by simp, .inl ⟨_, _, rfl, run_takeDeferred hK', ?_⟩⟩
    have hc5 := cell_kept (World.cell?_setCell_same' W ⟨w.heap.size, 0, none⟩ (.int .i64 ys.length) (by rw [hc0]; rfl)) (grownBy_putObj' _ D (.deferred none)) (fun r e => by cases e; exact ⟨_, hK', rfl⟩)
    refine ⟨.int .i64 ys.length, ?_, by rw [cnt_done hS hco (by rw [pcl_len]; exact hln), pcl_len], (hB.setCell (p := ⟨w.heap.size, 0, none⟩) (Nat.le_refl _) _).trans (belowK_b (w := w) (Nat.le_refl _) _ D _ _ (by omega) hK' rfl rfl)⟩
    simp [results, Tryd.f46, go_sem, hc5]
  case stop =>
    rintro D c pre W hD hpre ⟨⟨rfl, hin, hcr⟩, hB⟩ hK
    gi_wp2
    refine ⟨by simp, .inl ⟨_, _, rfl, run_takeDeferred hK, ?_⟩⟩
    have hc5 := cell_kept hcr (grownBy_putObj' _ D (.deferred none)) (fun r e => by cases e; exact ⟨_, hK, rfl⟩)
    refine ⟨.int .i64 0, ?_, by rw [cnt_stop hpre hin]; rfl, hB.trans (belowK_b (w := w) (Nat.le_refl _) W D _ _ (by omega) hK rfl rfl)⟩
    simp [results, Tryd.f46, go_sem, hc5]
end Pt
end Go.Proofs.YtkldgfdfpanelaaDoor
