/-
  Layer 5 (tree): what the rows' arguments read as.
-/
import Derived.Test.YtkldgfdfpanelaaRows
import Derived.Test.YtkldgfdfpanelaaUE
import Derived.Test.YtkldgfdfpanelaaUF
import Derived.Test.YtkldgfdfpanelaaUH
import Derived.Test.YtkldgfdfpanelaaTK
import Derived.WalkKit
import Derived.ProofKit
import Derived.OpenShut
import Derived.SizedLaws
import Derived.SliceStrings
import Derived.Carry
import Derived.Deep.DeepHandedRow
import Derived.MakeChecks
import Derived.Deep.Slices
import Derived.Deep.SlicePairs
import Derived.Deep.Fields23
import Derived.Lib.SmallJoins
namespace Go.Proofs.Ytkldgfdfpanelaa
namespace Tr
open Go.ChangeShapes Go.WideShapes Go.ChangeAt Go.RowKit Go.Deep Pt

theorem own : ownKnob Try.prog.godebug = none := by kernel_rfl
theorem laidOut : laidOutB Try.prog = true := by kernel_rfl
theorem weights_of {H : Type} {ts : List TypeId} {ds : List (DataW H)} (h : (DataW.weightsEach Try.prog ts ds).all (· ≤ reachBytes) = true) {j : Nat} {t : TypeId} {d : DataW H} (ht : ts[j]? = some t) (hd : ds[j]? = some d) :
    ∀ n ∈ d.weights Try.prog t, n ≤ reachBytes := fun n hn => by
  have := List.all_eq_true.1 h _ (DataW.weights_mem_each ht hd n hn)
  simpa using this
theorem cells_str : Try.prog.cellsOf 9 = 1 := by kernel_rfl
theorem cells_file : Try.prog.cellsOf 29 = 2 := by kernel_rfl

def strOf : Value → Bs
  | .string s => s.data.toList
  | _ => []

/-- A slice of files among the arguments: what a walk asks of it. -/
theorem open_files {H : Type} {enc : TypeId × Value → H} {W : World} {base : Nat} {v : Value} {d : DataW H} {ps : List MemPlace}
    (hok : Value.okWide Try.prog W .any base 22 v) (h : DataW.Trod enc Try.prog W 0 (fun _ => true) true 22 v d ps) :
    ∃ (A : Option Addr) (cap n : Nat) (t : List Fl), v = .slice A n cap ∧ t.length = n ∧ FRow W W.heap.size A t ∧ n ≤ cap ∧ n ≤ 9223372036854775807 ∧ (A = none → cap = 0) := by
  obtain ⟨a0, len, cap, rfl⟩ := okWide_slice Try.underlying22 hok
  obtain ⟨fuel, hf⟩ := h
  rcases open_slice_pairs Try.underlying22 Try.underlying29 cells_file rfl rfl cells_str cells_str hf with ⟨hcs, hx⟩ | ⟨a, len', cap', m, k, V0, V1, D0, D1, P0, P1, hcs, _, hl, hm, hmm, hx, hall⟩
  · have e : Value.slice a0 len cap = .slice none 0 0 := by simpa [Value.cells] using hcs
    injection e with e1 e2 e3
    subst e1 e2 e3
    exact ⟨none, 0, 0, [], rfl, rfl, FRow.none_ _ _ _, Nat.le_refl _, by omega, fun _ => rfl⟩
  · have e : Value.slice a0 len cap = .slice (some a) len' cap' := by simpa [Value.cells] using hcs
    injection e with e1 e2 e3
    subst e1 e2 e3
    have hml : len ≤ m := by rw [hmm]; split <;> omega
    refine ⟨some a, cap, len, (List.range len).map fun i => (strOf (V0 i), strOf (V1 i)), rfl, by simp, ?_, hl, by unfold maxLen at hm; omega, fun h => by cases h⟩
    intro j f hj
    rw [List.getElem?_map, Option.map_eq_some_iff] at hj
    obtain ⟨i, hi, rfl⟩ := hj
    obtain ⟨hji, hi2⟩ := List.getElem?_eq_some_iff.1 hi
    rw [List.getElem_range] at hi2
    subst hi2
    rw [List.length_range] at hji
    obtain ⟨h1, h2, h3, h4⟩ := hall j (by omega)
    obtain ⟨s, hs, _⟩ := DataW.trod_string Try.underlying9 h3
    obtain ⟨d', hd, _⟩ := DataW.trod_string Try.underlying9 h4
    have hs' : V0 j = .string s := by simpa using hs
    have hd' : V1 j = .string d' := by simpa using hd
    rw [hs'] at h1
    rw [hd'] at h2
    have hblk := World.block_lt_of_cell? _ _ h1
    have h01 := (hall 0 (by omega)).1
    obtain ⟨b, off, spot⟩ := a
    have hspot : spot = none := by simpa [Addr.add] using World.cell?_spot h01
    subst hspot
    rw [Addr.add_lit] at h1 h2
    refine ⟨b, off, s, d', rfl, ?_, by rw [hs']; rfl, by rw [hd']; rfl, h1, by rw [Nat.add_assoc]; exact h2⟩
    rw [Addr.add_lit] at hblk
    exact hblk

/-- A file among the arguments. -/
theorem open_file {H : Type} {enc : TypeId × Value → H} {W : World} {base : Nat} {v : Value} {d : DataW H} {ps : List MemPlace}
    (hok : Value.okWide Try.prog W .any base 29 v) (h : DataW.Trod enc Try.prog W 0 (fun _ => true) true 29 v d ps) :
    ∃ s d' : ByteArray, v = .agg #[.string s, .string d'] ∧ s.size ≤ 9223372036854775807 ∧ d'.size ≤ 9223372036854775807 := by
  obtain ⟨c0, c1, y0, y1, m, rfl, rfl, rfl, h0, h1⟩ := Go.Joins.open_agg2 Try.underlying29 (by kernel_rfl) cells_file hok h
  obtain ⟨s, hs, _, hs2⟩ := DataW.trod_string Try.underlying9 h0
  obtain ⟨d', hd, _, hd2⟩ := DataW.trod_string Try.underlying9 h1
  have hs' : c0 = .string s := by simpa using hs
  have hd' : c1 = .string d' := by simpa using hd
  subst hs' hd'
  exact ⟨s, d', rfl, by unfold maxLen at hs2; omega, by unfold maxLen at hd2; omega⟩
end Tr
end Go.Proofs.Ytkldgfdfpanelaa
