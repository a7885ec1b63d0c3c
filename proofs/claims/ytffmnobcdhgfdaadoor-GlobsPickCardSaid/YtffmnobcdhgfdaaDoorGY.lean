/-
  Layer 4 (globs): what the rows' arguments read as, and what the world's shape says of the library's variable.
-/
import Derived.Test.YtffmnobcdhgfdaaDoorRows
import Derived.Test.YtffmnobcdhgfdaaDoorGX
import Derived.Test.YtffmnobcdhgfdaaDoorGS
import Derived.WalkKit
import Derived.ProofKit
import Derived.OpenShut
import Derived.SizedLaws
import Derived.SliceStrings
import Derived.Carry
import Derived.Deep.DeepHandedRow
import Derived.Shelf.Vars
import Derived.MakeChecks
import Derived.Deep.Slices
namespace Go.Proofs.YtffmnobcdhgfdaaDoor
namespace Gl
open Pt
open Go.ChangeShapes Go.WideShapes Go.ChangeAt Go.RowKit

theorem own : ownKnob Tryd.prog.godebug = none := by kernel_rfl
theorem laidOut : laidOutB Tryd.prog = true := by kernel_rfl
theorem cells_str : Tryd.prog.cellsOf 9 = 1 := by kernel_rfl
theorem bytes_str : Tryd.prog.bytesOf 9 = 16 := by kernel_rfl

theorem weights_strs {H : Type} : ∀ (L : List ByteArray) (s : ByteArray), s ∈ L → s.data.toList.length ∈ DataW.weightsAll Tryd.prog 9 (strs (H := H) L)
  | [], _, h => by cases h
  | a :: L, s, h => by
    simp only [strs, List.map_cons, DataW.weightsAll, DataW.weights]
    rcases List.mem_cons.1 h with rfl | h
    · simp
    · exact List.mem_append_right _ (weights_strs L s h)

set_option maxRecDepth 100000 in
theorem open_row_core {H : Type} {enc : TypeId × Value → H} {W : World} {fuel : Nat} {v : Value} {y : DataW H × List MemPlace}
    (hf : DataW.trod enc Tryd.prog W 0 (fun _ => true) true fuel 26 [v] = some y) (hw : ∀ n ∈ y.1.weights Tryd.prog 26, n ≤ reachBytes) :
    ∃ (A : Option Addr) (cap : Nat) (xs : List Bs), v = .slice A xs.length cap ∧ SRow W W.heap.size A xs ∧ xs.length ≤ 140737488355328 ∧ (∀ x ∈ xs, x.length ≤ 140737488355328) ∧ (A = none → cap = 0) := by
  rcases open_strings Tryd.underlying26 Tryd.underlying9 cells_str hf with ⟨hcs, hx⟩ | ⟨a, len, cap, ss, hcs, _, hl, hm, hz, hx, hcell, hws⟩
  · obtain rfl : v = .slice none 0 0 := by simpa using hcs
    exact ⟨none, 0, [], rfl, SRow.none_ _ _ _, by simp, by simp, fun _ => rfl⟩
  · obtain rfl : v = .slice (some a) len cap := by simpa using hcs
    subst hx
    simp only [if_true] at hz
    have hr : reachBytes = 140737488351232 := rfl
    have hxl : ((ss.take len).map (·.data.toList)).length = len := by rw [List.length_map, List.length_take]; omega
    refine ⟨some a, cap, (ss.take len).map (·.data.toList), by rw [hxl], ?_, ?_, ?_, fun h => by cases h⟩
    · intro j x hj
      have hjl : j < len := by have := (List.getElem?_eq_some_iff.1 hj).1; rw [hxl] at this; exact this
      have hc0 := hcell 0 (by omega)
      have hcj := hcell j (by omega)
      have hblk := World.block_lt_of_cell? _ _ hc0
      obtain ⟨b, off, spot⟩ := a
      have hspot : spot = none := by simpa [Addr.add] using World.cell?_spot hc0
      subst hspot
      refine ⟨b, off, ss.getD j ByteArray.empty, rfl, ?_, ?_, ?_⟩
      · rw [block_add] at hblk
        exact hblk
      · rw [List.getElem?_map, List.getElem?_take_of_lt hjl, Option.map_eq_some_iff] at hj
        obtain ⟨s, hs, rfl⟩ := hj
        rw [List.getD_eq_getElem?_getD, hs]; rfl
      · rw [show (⟨b, off, none⟩ : Addr).add j = ⟨b, off + j, none⟩ from by unfold Addr.add; split <;> simp_all] at hcj
        exact hcj
    · rw [hxl]
      have := hw _ (by simp only [DataW.weights, Tryd.underlying26]; exact List.mem_cons_self)
      rw [bytes_str] at this
      simp only [strs, List.length_map, List.length_take, List.length_drop] at this
      omega
    · intro x hxm
      obtain ⟨s, hs, rfl⟩ := List.mem_map.1 hxm
      have := hw s.data.toList.length (by
        simp only [DataW.weights, Tryd.underlying26]
        exact List.mem_cons_of_mem _ (List.mem_append_left _ (weights_strs _ s hs)))
      omega

set_option maxRecDepth 100000 in
/-- A slice of strings among the arguments: what a walk asks of it. -/
theorem open_row {H : Type} {enc : TypeId × Value → H} {W : World} {base : Nat} {v : Value} {d : DataW H} {ps : List MemPlace}
    (hok : Value.okWide Tryd.prog W .any base 26 v) (h : DataW.Trod enc Tryd.prog W 0 (fun _ => true) true 26 v d ps)
    (hw : ∀ n ∈ d.weights Tryd.prog 26, n ≤ reachBytes) :
    ∃ (A : Option Addr) (cap : Nat) (xs : List Bs), v = .slice A xs.length cap ∧ SRow W W.heap.size A xs ∧ xs.length ≤ 140737488355328 ∧ (∀ x ∈ xs, x.length ≤ 140737488355328) ∧ (A = none → cap = 0) := by
  obtain ⟨a0, len, cap, rfl⟩ := okWide_slice Tryd.underlying26 hok
  obtain ⟨fuel, hf⟩ := h
  exact open_row_core (y := (d, ps)) (by simpa [Value.cells] using hf) hw

theorem weights_of {H : Type} {ts : List TypeId} {ds : List (DataW H)} (h : (DataW.weightsEach Tryd.prog ts ds).all (· ≤ reachBytes) = true) {j : Nat} {t : TypeId} {d : DataW H} (ht : ts[j]? = some t) (hd : ds[j]? = some d) :
    ∀ n ∈ d.weights Tryd.prog t, n ≤ reachBytes := fun n hn => by
  have := List.all_eq_true.1 h _ (DataW.weights_mem_each ht hd n hn)
  simpa using this

theorem mx_of {w : World} (h : w.ShapedOpen Tryd.prog) : Mx w :=
  cell_of_shapedOpen_int (zero := #[.int .i64 0]) (t := 3) h (of_decide_eq_true (by kernel_rfl)) (by kernel_rfl) rfl (by kernel_rfl) (by kernel_rfl) Tryd.underlying3

set_option maxRecDepth 100000 in
theorem pick_row (A1 : Option Addr) (c1 : Nat) (paths : List Bs) (A2 : Option Addr) (c2 : Nat) (yes : List Bs) (A3 : Option Addr) (c3 : Nat) (no : List Bs) (w : World) (hmx : Mx w)
    (r1 : SRow w w.heap.size A1 paths) (d1 : paths.length ≤ 140737488355328) (l1 : ∀ x ∈ paths, x.length ≤ 140737488355328)
    (r2 : SRow w w.heap.size A2 yes) (d2 : yes.length ≤ 140737488355328) (l2 : ∀ x ∈ yes, x.length ≤ 140737488355328)
    (r3 : SRow w w.heap.size A3 no) (d3 : no.length ≤ 140737488355328) (l3 : ∀ x ∈ no, x.length ≤ 140737488355328) :
    Calls Tryd.prog 4 #[.slice A1 paths.length c1, .slice A2 yes.length c2, .slice A3 no.length c3] w fun e w' => e = .returned (.bool true) ∧ Below w.heap.size w w' :=
  pick_law A1 A2 A3 c1 c2 c3 _ _ _ paths yes no w hmx rfl rfl rfl d1 d2 d3 l1 l2 l3 r1 r2 r3
end Gl
end Go.Proofs.YtffmnobcdhgfdaaDoor
