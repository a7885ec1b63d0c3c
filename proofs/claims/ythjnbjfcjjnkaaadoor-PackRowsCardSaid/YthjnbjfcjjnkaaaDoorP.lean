/-
  Layer 1 (pack): what the rows' arguments read as: a slice of strings; and what the listed tables give.
-/
import Derived.Test.YthjnbjfcjjnkaaaDoorRows
import Derived.Test.YthjnbjfcjjnkaaaDoorB
import Derived.Test.YthjnbjfcjjnkaaaDoorD
import Derived.WalkKit
import Derived.ProofKit
import Derived.OpenShut
import Derived.SizedLaws
import Derived.SliceStrings
import Derived.Carry
import Derived.Deep.DeepHandedRow
import Derived.Lib.LaidTab
import Derived.Stop.LaidErr
import Derived.MakeChecks
namespace Go.Proofs.YthjnbjfcjjnkaaaDoor
namespace Pk
open Go.ChangeShapes Go.WideShapes Go.ChangeAt Go.RowKit

theorem own : ownKnob Tryd.prog.godebug = none := by kernel_rfl
theorem laidOut : laidOutB Tryd.prog = true := by kernel_rfl
theorem cells_str : Tryd.prog.cellsOf 9 = 1 := by kernel_rfl
theorem bytes_str : Tryd.prog.bytesOf 9 = 16 := by kernel_rfl
theorem gTab : Tryd.prog.globalNamed "internal/strconv.uint64pow10" = some 2 := by kernel_rfl

theorem gTabType : (Tryd.prog.globals[2]?).map (·.type) = some 84 := by kernel_rfl

theorem weights_strs {H : Type} : ∀ (L : List ByteArray) (s : ByteArray), s ∈ L → s.data.toList.length ∈ DataW.weightsAll Tryd.prog 9 (strs (H := H) L)
  | [], _, h => by cases h
  | a :: L, s, h => by
    simp only [strs, List.map_cons, DataW.weightsAll, DataW.weights]
    rcases List.mem_cons.1 h with rfl | h
    · simp
    · exact List.mem_append_right _ (weights_strs L s h)

/-- A slice of strings among the arguments: what a walk asks of it. -/
theorem open_row {H : Type} {enc : TypeId × Value → H} {W : World} {base : Nat} {v : Value} {d : DataW H} {ps : List MemPlace}
    (hok : Value.okWide Tryd.prog W .any base 22 v) (h : DataW.Trod enc Tryd.prog W 0 (fun _ => true) true 22 v d ps) (hlt : ∀ x ∈ ps, x.block < W.heap.size)
    (hw : ∀ n ∈ d.weights Tryd.prog 22, n ≤ reachBytes) :
    ∃ (A : Option Addr) (cap : Nat) (xs : List Bs), v = .slice A xs.length cap ∧ SRow W W.heap.size A xs ∧ xs.length ≤ 140737488355328 ∧ ∀ x ∈ xs, x.length ≤ 140737488355328 := by
  obtain ⟨a0, len, cap, rfl⟩ := okWide_slice Tryd.underlying22 hok
  obtain ⟨fuel, hf⟩ := h
  rcases open_strings Tryd.underlying22 Tryd.underlying9 cells_str hf with ⟨hcs, hx⟩ | ⟨a, len', cap', ss, hcs, _, hl, hm, hz, hx, hcell, hws⟩
  · simp [Value.cells] at hcs
    obtain ⟨rfl, rfl, rfl⟩ := hcs
    exact ⟨none, 0, [], rfl, SRow.none_ _ _ _, by simp, by simp⟩
  · simp [Value.cells] at hcs
    obtain ⟨rfl, rfl, rfl⟩ := hcs
    simp only [Prod.mk.injEq] at hx
    obtain ⟨rfl, rfl⟩ := hx
    simp only [if_true] at hz
    have hr : reachBytes = 140737488351232 := rfl
    have hxl : ((ss.take len).map (·.data.toList)).length = len := by rw [List.length_map, List.length_take]; omega
    refine ⟨some a, cap, (ss.take len).map (·.data.toList), by rw [hxl], ?_, ?_, ?_⟩
    · intro j x hj
      have hjl : j < len := by have := (List.getElem?_eq_some_iff.1 hj).1; rw [hxl] at this; exact this
      have hc0 := hcell 0 (by omega)
      have hcj := hcell j (by omega)
      obtain ⟨b, off, spot⟩ := a
      have hspot : spot = none := by simpa [Addr.add] using World.cell?_spot hc0
      subst hspot
      refine ⟨b, off, ss.getD j ByteArray.empty, rfl, hlt (.cell b off) (MemPlace.mem_row.2 ⟨0, by omega, by simp⟩), ?_, ?_⟩
      · rw [List.getElem?_map, List.getElem?_take_of_lt hjl, Option.map_eq_some_iff] at hj
        obtain ⟨s, hs, rfl⟩ := hj
        rw [List.getD_eq_getElem?_getD, hs]; rfl
      · rw [show (⟨b, off, none⟩ : Addr).add j = ⟨b, off + j, none⟩ from by unfold Addr.add; split <;> simp_all] at hcj
        exact hcj
    · rw [hxl]
      have := hw _ (by simp only [DataW.weights, Tryd.underlying22]; exact List.mem_cons_self)
      rw [bytes_str] at this
      simp only [strs, List.length_map, List.length_take, List.length_drop] at this
      omega
    · intro x hxm
      obtain ⟨s, hs, rfl⟩ := List.mem_map.1 hxm
      have := hw s.data.toList.length (by
        simp only [DataW.weights, Tryd.underlying22]
        exact List.mem_cons_of_mem _ (List.mem_append_left _ (weights_strs _ s hs)))
      omega

theorem weights_of {H : Type} {ts : List TypeId} {ds : List (DataW H)} (h : (DataW.weightsEach Tryd.prog ts ds).all (· ≤ reachBytes) = true) {j : Nat} {t : TypeId} {d : DataW H} (ht : ts[j]? = some t) (hd : ds[j]? = some d) :
    ∀ n ∈ d.weights Tryd.prog t, n ≤ reachBytes := fun n hn => by
  have := List.all_eq_true.1 h _ (DataW.weights_mem_each ht hd n hn)
  simpa using this

/-- What the rows' lists give. -/
theorem tab_of {W : World} {l : List (String × DataW Unit)} (h : laidMetH Tryd.prog (("math/bits.deBruijn32tab", Rows.laid_math_bits_deBruijn32tab) :: ("math/bits.deBruijn64tab", Rows.laid_math_bits_deBruijn64tab) :: ("internal/strconv.uint64pow10", Rows.laid_internal_strconv_uint64pow10) :: l) W)
    (hp : ((("math/bits.deBruijn32tab", Rows.laid_math_bits_deBruijn32tab) :: ("math/bits.deBruijn64tab", Rows.laid_math_bits_deBruijn64tab) :: ("internal/strconv.uint64pow10", Rows.laid_internal_strconv_uint64pow10) :: l).all fun x => x.2.handleName?.isNone) = true) : Tab W.heap.size W := by
  rw [MakeChecks.laidMetH_plain _ _ _ hp] at h
  have h2 := h.tail.tail
  have e : (Rows.laid_internal_strconv_uint64pow10 : DataW Unit) = Lib.tabData .u64 Lib.pow10Tab := by kernel_rfl
  rw [e] at h2
  exact Lib.tabBelow_of_tabIs (Lib.tabIs_of_head gTab gTabType Tryd.underlying84 Tryd.underlying65 (by kernel_rfl) (by kernel_rfl) h2)

end Pk
end Go.Proofs.YthjnbjfcjjnkaaaDoor
