/-
  Layer 3 (path): the walks of May, isDirectory, only, Base.
-/
import Derived.Test.YtaoebhggkalmlaaH
namespace Go.Proofs.Ytaoebhggkalmlaa
namespace Pt
open Go.RowKit Go.Shelf

theorem may_any (s : ByteArray) (b : Bool) (hb : may s.data.toList = b) (w : World) (hs : s.size ≤ 100000) :
    Calls Try.prog 9 #[.string s] w fun e w' => e = .returned (.bool b) ∧ Below w.heap.size w w' := by
  have hc := count_any s w hs
  have hp := cnt_pos s.data.toList
  generalize cnt s.data.toList = n at hc hp
  rw [hb] at hp
  have HC := Lib.hid hc
  have hb' : b = decide (0 < n) := hp.symm
  have HB := Lib.hid hb'
  clear hc hp hb hb'
  go_enter Try.func9, Try.ntmps9
  go_wp2_with fail
  refine HC.out.mono ?_
  rintro e w1 ⟨rfl, hb1⟩
  have HB1 := Lib.hid hb1
  clear hb1
  go_wp2
  go_ret
  rw [HB.out]
  exact ⟨rfl, HB1.out⟩

theorem isdir_any (s : ByteArray) (b : Bool) (hb : isDir s.data.toList = b) (w : World) (hs : s.size ≤ 100000) :
    Calls Try.prog 24 #[.string s] w fun e w' => e = .returned (.bool b) ∧ Below w.heap.size w w' := by
  by_cases h0 : s.data.toList = []
  · obtain rfl := str_nil h0
    have hb' : b = true := by rw [← hb]; rfl
    subst hb'
    clear hb h0
    go_enter Try.func24, Try.ntmps24
    go_wp2_with fail
    go_ret
    exact ⟨rfl, Below.refl _ _⟩
  · obtain ⟨n1, n2⟩ := ne_facts h0
    have h0' : (s.data.toList == []) = false := by rw [beq_eq_false_iff_ne]; exact h0
    have hb' : may s.data.toList = b := by rw [← hb]; unfold isDir; rw [h0', Bool.false_or]
    have HM := Lib.hid (may_any s b hb' w hs)
    clear hb hb' h0 h0'
    go_enter Try.func24, Try.ntmps24
    go_wp2_with fail
    refine HM.out.mono ?_
    rintro e w1 ⟨rfl, hb1⟩
    have HB1 := Lib.hid hb1
    clear hb1
    go_wp2_with fail
    go_ret
    exact ⟨rfl, HB1.out⟩

/-- A path, or else nothing. -/
def onlyOf (l : Bs) : Bs := if may l = true then l else []
theorem onlyOf_may {l : Bs} (h : may l = true) : onlyOf l = l := by unfold onlyOf; rw [if_pos h]
theorem onlyOf_not {l : Bs} (h : may l = false) : onlyOf l = [] := by unfold onlyOf; rw [if_neg (by simp [h])]
theorem onlyOf_last (l : Bs) : (parts (onlyOf l)).getLastD [] = baseOf l := by
  cases h : may l
  · rw [onlyOf_not h, baseOf_not h]; rfl
  · rw [onlyOf_may h]; unfold baseOf; rw [if_pos h]
theorem only_any (s X : ByteArray) (hX : X.data.toList = onlyOf s.data.toList) (w : World) (hs : s.size ≤ 100000) :
    Calls Try.prog 27 #[.string s] w fun e w' => e = .returned (.string X) ∧ Below w.heap.size w w' := by
  cases hm : may s.data.toList
  · obtain rfl := str_nil (hX.trans (onlyOf_not hm))
    have HM := Lib.hid (may_any s false hm w hs)
    clear hm hX
    go_enter Try.func27, Try.ntmps27
    go_wp2_with fail
    refine HM.out.mono ?_
    rintro e w1 ⟨rfl, hb1⟩
    have HB1 := Lib.hid hb1
    clear hb1
    go_wp2_with fail
    go_ret
    exact ⟨rfl, HB1.out⟩
  · obtain rfl := str_eq (hX.trans (onlyOf_may hm))
    have HM := Lib.hid (may_any X true hm w hs)
    clear hm hX
    go_enter Try.func27, Try.ntmps27
    go_wp2_with fail
    refine HM.out.mono ?_
    rintro e w1 ⟨rfl, hb1⟩
    have HB1 := Lib.hid hb1
    clear hb1
    go_wp2_with fail
    go_ret
    exact ⟨rfl, HB1.out⟩
theorem only_size {s X : ByteArray} (hX : X.data.toList = onlyOf s.data.toList) : X.size ≤ s.size := by
  rw [← data_length, hX, ← data_length]
  cases hm : may s.data.toList
  · rw [onlyOf_not hm]; simp
  · rw [onlyOf_may hm]; exact Nat.le_refl _

section
attribute [local go_sem] Oper.semAt_some
set_option maxRecDepth 100000 in
set_option maxHeartbeats 4000000 in
theorem base_any (s X : ByteArray) (hX : X.data.toList = baseOf s.data.toList) (w : World) (hs : s.size ≤ 100000) :
    Calls Try.prog 16 #[.string s] w fun e w' => e = .returned (.string X) ∧ Below w.heap.size w w' := by
  obtain ⟨O, hO⟩ : ∃ O : ByteArray, O.data.toList = onlyOf s.data.toList := ⟨⟨(onlyOf s.data.toList).toArray⟩, by simp⟩
  have hOs : O.size ≤ 100000 := Nat.le_trans (only_size hO) hs
  have hlast : (parts O.data.toList).getLastD [] = X.data.toList := by rw [hO, onlyOf_last, hX]
  have HO := Lib.hid (fun W => only_any s O hO W hs)
  have HL := Lib.hid hlast
  clear hO hX hlast
  refine (callsIn_wide (n := 9)).1 ?_
  refine callsIn_of_wp_marks Try.func16 rfl trivial ?_ rfl
  simp only [Try.ntmps16, List.size_toArray, List.length_cons, List.length_nil, Nat.reduceAdd, Nat.reduceSub, Array.replicate_succ, Array.replicate_zero, List.push_toArray, List.append_toArray, List.nil_append, List.cons_append]
  gi_wp2_with fail
  refine ⟨trivial, (callsIn_wide.2 (HO.out _)).mono ?_⟩
  rintro e W1 ⟨rfl, hb1⟩
  gi_wp2_with fail
  refine ⟨trivial, (callsIn_wide.2 (comps_any _ _)).mono ?_⟩
  rintro e w' ⟨rfl, rfl⟩
  gi_wp2
  have c0 := made_cell w (.string ⟨#[]⟩) 9
  have hlt0 : w.heap.size < (w.alloc (.cells #[.string ⟨#[]⟩] 9)).heap.size := by simp
  have d0 : W1.cell? ⟨w.heap.size, 0, none⟩ = some (.string ⟨#[]⟩) ∧ W1.frozen? ⟨w.heap.size, 0, none⟩ = false :=
    ⟨(hb1.cell (p := ⟨w.heap.size, 0, none⟩) hlt0).trans c0.1, (hb1.frozen (p := ⟨w.heap.size, 0, none⟩) hlt0).trans c0.2⟩
  have f0 := past_cell (.cells #[.string O] 9) d0
  have c2 := made_cell W1 (.string O) 9
  have hs1 : w.heap.size + 1 ≤ W1.heap.size := by have := hb1.size; simpa using this
  have hB0 : Below w.heap.size w (W1.alloc (.cells #[.string O] 9)) := (((Below.refl _ w).alloc (Nat.le_refl _) _).trans (hb1.mono (by simp))).alloc (by omega) _
  have hsz : (W1.alloc (.cells #[.string O] 9)).heap.size = W1.heap.size + 1 := by simp
  obtain ⟨W0, hW0⟩ : ∃ W0, W1.alloc (.cells #[.string O] 9) = W0 := ⟨_, rfl⟩
  rw [hW0] at c2 hB0 f0 hsz ⊢
  clear hW0 c0 d0 hb1
  have HST := Lib.hid (comps_stops 8 (by omega) W1.heap.size O hOs W0 (by omega) c2.1)
  refine wpIn_rangeFunc_ownF rfl (by omega) (gf := 33) (lb := #[.pointer (some ⟨W1.heap.size, 0, none⟩)]) rfl trivial (enters_of Try.func33 (by kernel_rfl) rfl)
    HST.out (fun _ _ => trivial) (fun _ _ _ _ _ _ _ _ => trivial) (Below.refl _ _) (fun _ => rfl)
    (fun pre W => ((∃ Y : ByteArray, W.cell? ⟨w.heap.size, 0, none⟩ = some (.string Y) ∧ Y.data.toList = (pcl pre).getLastD []) ∧ W.frozen? ⟨w.heap.size, 0, none⟩ = false) ∧ Below w.heap.size w W)
    (fun _ _ _ => False)
    (OwnFrom.and (Own.from (fun s A B row hs hg hr => by
      obtain ⟨⟨Y, hY, hl⟩, hf⟩ := hs
      exact ⟨⟨Y, cell_kept hY hg hr, hl⟩, (frozen_kept hY hg hr).trans hf⟩) _) (ownFrom_below (Nat.le_refl _) (by omega)))
    (fun _ _ _ _ _ hs _ _ => hs)
    ⟨⟨⟨_, f0.1, rfl⟩, f0.2⟩, hB0⟩
    (fun x => { tmps := #[.string s, undef, .string ⟨#[]⟩, .pointer (some ⟨w.heap.size, 0, none⟩), .string x.1, .string s, .string O, .func (.func 33) #[] #[.pointer (some ⟨W1.heap.size, 0, none⟩)], .string x.1, undef, undef], defers := [] }) ?assign ?body ?done ?stop
  case assign =>
    intro l x W K hK
    gi_wp2
    exact hK
  case body =>
    rintro l pre x W ⟨⟨⟨Y, hc, _⟩, hf⟩, hB⟩ _
    have HB := Lib.hid hB
    clear hB
    gi_wp2
    exact ⟨KeepsOthers.setCell _ _ _, trivial, ⟨⟨x.1, World.cell?_setCell_same' _ _ _ (by rw [hc]; rfl), by rw [pcl_snoc]; simp⟩, by rw [World.frozen?_setCell]; exact hf⟩, HB.out.setCell (p := ⟨w.heap.size, 0, none⟩) (Nat.le_refl _) _⟩
  case done =>
    rintro D ys W hD hS ⟨⟨⟨Y, hc, hl⟩, hf⟩, hB⟩ hK
    obtain rfl : Y = X := str_eq (by rw [hl, hS, HL.out])
    have HB := Lib.hid hB
    clear hB hl hS
    gi_wp2
    refine ⟨by simp, .inl ⟨_, _, rfl, run_takeDeferred hK, ?_⟩⟩
    exact ⟨_, results_tmp rfl _ _ _, rfl, HB.out.trans (belowK_b (w := w) (Nat.le_refl _) W D _ _ (by omega) hK rfl rfl)⟩
  case stop =>
    rintro D c pre W _ _ h _
    exact h.elim
end
end Pt
end Go.Proofs.Ytaoebhggkalmlaa
