/-
  Layer 5 (tree): what the row's arguments read as; and what the listed tables give.
-/
import Derived.Test.YtkldgfdfpanelaaDoorRows
import Derived.Test.YtkldgfdfpanelaaDoorVC
import Derived.WalkKit
import Derived.ProofKit
import Derived.OpenShut
import Derived.SizedLaws
import Derived.SliceStrings
import Derived.Carry
import Derived.Deep.DeepHandedRow
import Derived.MakeChecks
import Derived.Deep.Slices
import Derived.Deep.SlicePairs
import Derived.Deep.Fields23
import Derived.Lib.SmallJoins
import Derived.Lib.LaidTab
import Derived.Stop.LaidErr
namespace Go.Proofs.YtkldgfdfpanelaaDoor
namespace Tr
open Go.ChangeShapes Go.WideShapes Go.ChangeAt Go.RowKit Go.Deep Pt

theorem own : ownKnob Tryd.prog.godebug = none := by kernel_rfl
theorem laidOut : laidOutB Tryd.prog = true := by kernel_rfl
theorem weights_of {H : Type} {ts : List TypeId} {ds : List (DataW H)} (h : (DataW.weightsEach Tryd.prog ts ds).all (· ≤ reachBytes) = true) {j : Nat} {t : TypeId} {d : DataW H} (ht : ts[j]? = some t) (hd : ds[j]? = some d) :
    ∀ n ∈ d.weights Tryd.prog t, n ≤ reachBytes := fun n hn => by
  have := List.all_eq_true.1 h _ (DataW.weights_mem_each ht hd n hn)
  simpa using this
theorem cells_str : Tryd.prog.cellsOf 9 = 1 := by kernel_rfl
theorem cells_file : Tryd.prog.cellsOf 30 = 2 := by kernel_rfl

def strOf : Value → Bs
  | .string s => s.data.toList
  | _ => []

/-- A slice of files among the arguments: what a walk asks of it. -/
theorem open_files {H : Type} {enc : TypeId × Value → H} {W : World} {base : Nat} {v : Value} {d : DataW H} {ps : List MemPlace}
    (hok : Value.okWide Tryd.prog W .any base 22 v) (h : DataW.Trod enc Tryd.prog W 0 (fun _ => true) true 22 v d ps) :
    ∃ (A : Option Addr) (cap n : Nat) (t : List Fl), v = .slice A n cap ∧ t.length = n ∧ FRow W W.heap.size A t ∧ n ≤ cap ∧ n ≤ 9223372036854775807 ∧ (A = none → cap = 0) := by
  obtain ⟨a0, len, cap, rfl⟩ := okWide_slice Tryd.underlying22 hok
  obtain ⟨fuel, hf⟩ := h
  rcases open_slice_pairs Tryd.underlying22 Tryd.underlying30 cells_file rfl rfl cells_str cells_str hf with ⟨hcs, hx⟩ | ⟨a, len', cap', m, k, V0, V1, D0, D1, P0, P1, hcs, _, hl, hm, hmm, hx, hall⟩
  · have e : Value.slice a0 len cap = .slice none 0 0 := by simpa [Value.cells] using hcs
    injection e with e1 e2 e3
    subst e1 e2 e3
    exact ⟨none, 0, 0, [], rfl, rfl, FRow.none_ _ _ _, Nat.le_refl _, by omega, fun _ => rfl⟩
  · have e : Value.slice a0 len cap = .slice (some a) len' cap' := by simpa [Value.cells] using hcs
    injection e with e1 e2 e3
    subst e1 e2 e3
    have hml : len ≤ m := by rw [hmm]; split <;> omega
    refine ⟨some a, cap, len, (List.range len).map fun i => (strOf (V0 i), strOf (V1 i)), rfl, by simp, ?_, hl, by unfold maxLen at hm; omega, fun h => by cases h⟩
    intro j f hj
    rw [List.getElem?_map, Option.map_eq_some_iff] at hj
    obtain ⟨i, hi, rfl⟩ := hj
    obtain ⟨hji, hi2⟩ := List.getElem?_eq_some_iff.1 hi
    rw [List.getElem_range] at hi2
    subst hi2
    rw [List.length_range] at hji
    obtain ⟨h1, h2, h3, h4⟩ := hall j (by omega)
    obtain ⟨s, hs, _⟩ := DataW.trod_string Tryd.underlying9 h3
    obtain ⟨d', hd, _⟩ := DataW.trod_string Tryd.underlying9 h4
    have hs' : V0 j = .string s := by simpa using hs
    have hd' : V1 j = .string d' := by simpa using hd
    rw [hs'] at h1
    rw [hd'] at h2
    have hblk := World.block_lt_of_cell? _ _ h1
    have h01 := (hall 0 (by omega)).1
    obtain ⟨b, off, spot⟩ := a
    have hspot : spot = none := by simpa [Addr.add] using World.cell?_spot h01
    subst hspot
    rw [Addr.add_lit] at h1 h2
    refine ⟨b, off, s, d', rfl, ?_, by rw [hs']; rfl, by rw [hd']; rfl, h1, by rw [Nat.add_assoc]; exact h2⟩
    rw [Addr.add_lit] at hblk
    exact hblk

theorem gTabS : Tryd.prog.globalNamed "bloomery/sha.roundKeys" = some 0 := by kernel_rfl
theorem gTabSType : (Tryd.prog.globals[0]?).map (·.type) = some 68 := by kernel_rfl
theorem gTabP : Tryd.prog.globalNamed "internal/strconv.uint64pow10" = some 1 := by kernel_rfl
theorem gTabPType : (Tryd.prog.globals[1]?).map (·.type) = some 95 := by kernel_rfl
/-- What the row's list gives. -/
theorem tab_of {W : World} (h : laidMetH Tryd.prog [("math/bits.deBruijn32tab", Rows.laid_math_bits_deBruijn32tab), ("math/bits.deBruijn64tab", Rows.laid_math_bits_deBruijn64tab), ("internal/strconv.uint64pow10", Rows.laid_internal_strconv_uint64pow10), ("bloomery/sha.roundKeys", Rows.laid_bloomery_sha_roundKeys)] W)
    (hp : ([("math/bits.deBruijn32tab", (Rows.laid_math_bits_deBruijn32tab : DataW Unit)), ("math/bits.deBruijn64tab", Rows.laid_math_bits_deBruijn64tab), ("internal/strconv.uint64pow10", Rows.laid_internal_strconv_uint64pow10), ("bloomery/sha.roundKeys", Rows.laid_bloomery_sha_roundKeys)].all fun x => x.2.handleName?.isNone) = true) : Pk.Tab W.heap.size W ∧ Sh.Tab W ∧ 0 < W.heap.size := by
  rw [MakeChecks.laidMetH_plain _ _ _ hp] at h
  have h2 := h.tail.tail
  have h3 := h.tail.tail.tail
  have e : (Rows.laid_internal_strconv_uint64pow10 : DataW Unit) = Lib.tabData .u64 Lib.pow10Tab := by kernel_rfl
  have e3 : (Rows.laid_bloomery_sha_roundKeys : DataW Unit) = Lib.tabData .u32 (Sh.K.map fun x => (x.toNat : Int)) := by kernel_rfl
  rw [e] at h2
  rw [e3] at h3
  have ht := Lib.tabIs_of_head gTabS gTabSType Tryd.underlying68 Tryd.underlying44 (by kernel_rfl) (by kernel_rfl) h3
  have hT : Sh.Tab W := fun k hk => by
    have hc := ht.cell gTabS k (by rw [List.length_map, Sh.K_length]; exact hk)
    rw [hc]
    congr 2
    rw [List.getD_eq_getElem?_getD, List.getElem?_map, List.getElem?_eq_getElem (by rw [Sh.K_length]; exact hk), List.getD_eq_getElem?_getD, List.getElem?_eq_getElem (by rw [Sh.K_length]; exact hk)]
    rfl
  exact ⟨Lib.tabBelow_of_tabIs (Lib.tabIs_of_head gTabP gTabPType Tryd.underlying95 Tryd.underlying46 (by kernel_rfl) (by kernel_rfl) h2), hT, World.block_lt_of_cell? _ _ (hT 0 (by decide))⟩

end Tr
end Go.Proofs.YtkldgfdfpanelaaDoor
