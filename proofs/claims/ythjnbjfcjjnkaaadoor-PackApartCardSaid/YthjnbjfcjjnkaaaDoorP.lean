/-
  Layer 1 (pack): what the rows' arguments read as: a slice of strings; and what the listed tables give.
-/
import Derived.Test.YthjnbjfcjjnkaaaDoorRows
import Derived.Test.YthjnbjfcjjnkaaaDoorB
import Derived.Test.YthjnbjfcjjnkaaaDoorD
import Derived.WalkKit
import Derived.ProofKit
import Derived.OpenShut
import Derived.SizedLaws
import Derived.SliceStrings
import Derived.Carry
import Derived.Deep.DeepHandedRow
import Derived.Lib.LaidTab
import Derived.Stop.LaidErr
import Derived.MakeChecks
import Derived.Deep.Slices
namespace Go.Proofs.YthjnbjfcjjnkaaaDoor
namespace Pk
open Go.ChangeShapes Go.WideShapes Go.ChangeAt Go.RowKit

theorem own : ownKnob Tryd.prog.godebug = none := by kernel_rfl
theorem laidOut : laidOutB Tryd.prog = true := by kernel_rfl
theorem cells_str : Tryd.prog.cellsOf 9 = 1 := by kernel_rfl
theorem bytes_str : Tryd.prog.bytesOf 9 = 16 := by kernel_rfl
theorem gTab : Tryd.prog.globalNamed "internal/strconv.uint64pow10" = some 2 := by kernel_rfl

theorem gTabType : (Tryd.prog.globals[2]?).map (·.type) = some 84 := by kernel_rfl

theorem weights_strs {H : Type} : ∀ (L : List ByteArray) (s : ByteArray), s ∈ L → s.data.toList.length ∈ DataW.weightsAll Tryd.prog 9 (strs (H := H) L)
  | [], _, h => by cases h
  | a :: L, s, h => by
    simp only [strs, List.map_cons, DataW.weightsAll, DataW.weights]
    rcases List.mem_cons.1 h with rfl | h
    · simp
    · exact List.mem_append_right _ (weights_strs L s h)

theorem open_row_core {H : Type} {enc : TypeId × Value → H} {W : World} {fuel : Nat} {v : Value} {y : DataW H × List MemPlace}
    (hf : DataW.trod enc Tryd.prog W 0 (fun _ => true) true fuel 22 [v] = some y) (hw : ∀ n ∈ y.1.weights Tryd.prog 22, n ≤ reachBytes) :
    ∃ (A : Option Addr) (cap : Nat) (xs : List Bs), v = .slice A xs.length cap ∧ SRow W W.heap.size A xs ∧ xs.length ≤ 140737488355328 ∧ (∀ x ∈ xs, x.length ≤ 140737488355328) ∧ (A = none → cap = 0) := by
  rcases open_strings Tryd.underlying22 Tryd.underlying9 cells_str hf with ⟨hcs, hx⟩ | ⟨a, len, cap, ss, hcs, _, hl, hm, hz, hx, hcell, hws⟩
  · obtain rfl : v = .slice none 0 0 := by simpa using hcs
    exact ⟨none, 0, [], rfl, SRow.none_ _ _ _, by simp, by simp, fun _ => rfl⟩
  · obtain rfl : v = .slice (some a) len cap := by simpa using hcs
    subst hx
    simp only [if_true] at hz
    have hr : reachBytes = 140737488351232 := rfl
    have hxl : ((ss.take len).map (·.data.toList)).length = len := by rw [List.length_map, List.length_take]; omega
    refine ⟨some a, cap, (ss.take len).map (·.data.toList), by rw [hxl], ?_, ?_, ?_, fun h => by cases h⟩
    · intro j x hj
      have hjl : j < len := by have := (List.getElem?_eq_some_iff.1 hj).1; rw [hxl] at this; exact this
      have hc0 := hcell 0 (by omega)
      have hcj := hcell j (by omega)
      have hblk := World.block_lt_of_cell? _ _ hc0
      obtain ⟨b, off, spot⟩ := a
      have hspot : spot = none := by simpa [Addr.add] using World.cell?_spot hc0
      subst hspot
      refine ⟨b, off, ss.getD j ByteArray.empty, rfl, ?_, ?_, ?_⟩
      · rw [block_add] at hblk
        exact hblk
      · rw [List.getElem?_map, List.getElem?_take_of_lt hjl, Option.map_eq_some_iff] at hj
        obtain ⟨s, hs, rfl⟩ := hj
        rw [List.getD_eq_getElem?_getD, hs]; rfl
      · rw [show (⟨b, off, none⟩ : Addr).add j = ⟨b, off + j, none⟩ from by unfold Addr.add; split <;> simp_all] at hcj
        exact hcj
    · rw [hxl]
      have := hw _ (by simp only [DataW.weights, Tryd.underlying22]; exact List.mem_cons_self)
      rw [bytes_str] at this
      simp only [strs, List.length_map, List.length_take, List.length_drop] at this
      omega
    · intro x hxm
      obtain ⟨s, hs, rfl⟩ := List.mem_map.1 hxm
      have := hw s.data.toList.length (by
        simp only [DataW.weights, Tryd.underlying22]
        exact List.mem_cons_of_mem _ (List.mem_append_left _ (weights_strs _ s hs)))
      omega

/-- A slice of strings among the arguments: what a walk asks of it. -/
theorem open_row {H : Type} {enc : TypeId × Value → H} {W : World} {base : Nat} {v : Value} {d : DataW H} {ps : List MemPlace}
    (hok : Value.okWide Tryd.prog W .any base 22 v) (h : DataW.Trod enc Tryd.prog W 0 (fun _ => true) true 22 v d ps)
    (hw : ∀ n ∈ d.weights Tryd.prog 22, n ≤ reachBytes) :
    ∃ (A : Option Addr) (cap : Nat) (xs : List Bs), v = .slice A xs.length cap ∧ SRow W W.heap.size A xs ∧ xs.length ≤ 140737488355328 ∧ (∀ x ∈ xs, x.length ≤ 140737488355328) ∧ (A = none → cap = 0) := by
  obtain ⟨a0, len, cap, rfl⟩ := okWide_slice Tryd.underlying22 hok
  obtain ⟨fuel, hf⟩ := h
  exact open_row_core (y := (d, ps)) (by simpa [Value.cells] using hf) hw

/-- Rows in memory, one slice of strings a cell. -/
def RRow (w : World) (B : Nat) (A : Option Addr) (xss : List (List Bs)) : Prop :=
  ∀ j xs, xss[j]? = some xs → ∃ b o A' cap, A = some ⟨b, o, none⟩ ∧ b < B ∧ w.cell? ⟨b, o + j, none⟩ = some (.slice A' xs.length cap) ∧ SRow w B A' xs

theorem cells_row : Tryd.prog.cellsOf 22 = 1 := by kernel_rfl
theorem bytes_row : Tryd.prog.bytesOf 22 = 24 := by kernel_rfl

theorem weights_all {H : Type} {e : TypeId} : ∀ (L : List (DataW H)) (d : DataW H), d ∈ L → ∀ n ∈ d.weights Tryd.prog e, n ∈ DataW.weightsAll Tryd.prog e L
  | [], _, h, _, _ => by cases h
  | a :: L, d, h, n, hn => by
    simp only [DataW.weightsAll]
    rcases List.mem_cons.1 h with rfl | h
    · exact List.mem_append_left _ hn
    · exact List.mem_append_right _ (weights_all L d h n hn)

theorem choose_list {α : Type} (P : Nat → α → Prop) : ∀ (n : Nat), (∀ i, i < n → ∃ x, P i x) → ∃ l : List α, l.length = n ∧ ∀ i x, l[i]? = some x → P i x
  | 0, _ => ⟨[], rfl, fun i x h => by simp at h⟩
  | n + 1, h => by
    obtain ⟨l, hl, hp⟩ := choose_list P n (fun i hi => h i (by omega))
    obtain ⟨x, hx⟩ := h n (by omega)
    refine ⟨l ++ [x], by simp [hl], fun i y hy => ?_⟩
    by_cases hi : i < l.length
    · rw [List.getElem?_append_left hi] at hy
      exact hp i y hy
    · have hlt := (List.getElem?_eq_some_iff.1 hy).1
      rw [List.length_append, List.length_singleton] at hlt
      obtain rfl : i = l.length := by omega
      rw [List.getElem?_append_right (by omega)] at hy
      simp only [Nat.sub_self, List.getElem?_cons_zero, Option.some.injEq] at hy
      subst hy
      rw [hl]
      exact hx

/-- A slice of such slices among the arguments. -/
theorem open_rows {H : Type} {enc : TypeId × Value → H} {W : World} {base : Nat} {v : Value} {d : DataW H} {ps : List MemPlace}
    (hok : Value.okWide Tryd.prog W .any base 40 v) (h : DataW.Trod enc Tryd.prog W 0 (fun _ => true) true 40 v d ps)
    (hw : ∀ n ∈ d.weights Tryd.prog 40, n ≤ reachBytes) :
    ∃ (A : Option Addr) (cap : Nat) (xss : List (List Bs)), v = .slice A xss.length cap ∧ RRow W W.heap.size A xss ∧ xss.length ≤ 140737488355328 ∧ (∀ xs ∈ xss, xs.length ≤ 140737488355328 ∧ ∀ x ∈ xs, x.length ≤ 140737488355328) := by
  obtain ⟨a0, len, cap, rfl⟩ := okWide_slice Tryd.underlying40 hok
  obtain ⟨fuel, hf⟩ := h
  rcases Go.Deep.open_slice1 Tryd.underlying40 cells_row hf with ⟨hcs, hx⟩ | ⟨a, len', cap', m, n, V, D, Pl, hcs, _, hl, hm, hmm, hx, hcell⟩
  · simp [Value.cells] at hcs
    obtain ⟨rfl, rfl, rfl⟩ := hcs
    exact ⟨none, 0, [], rfl, fun j xs h => by simp at h, by simp, by simp⟩
  · simp [Value.cells] at hcs
    obtain ⟨rfl, rfl, rfl⟩ := hcs
    simp only [Prod.mk.injEq] at hx
    obtain ⟨rfl, rfl⟩ := hx
    simp only [if_true] at hmm
    have hr : reachBytes = 140737488351232 := rfl
    obtain ⟨xss, hxl, hxp⟩ := choose_list (fun i (xs : List Bs) => ∃ b o A' cap'', a = ⟨b, o, none⟩ ∧ b < W.heap.size ∧ W.cell? ⟨b, o + i, none⟩ = some (.slice A' xs.length cap'') ∧ SRow W W.heap.size A' xs ∧ xs.length ≤ 140737488355328 ∧ ∀ x ∈ xs, x.length ≤ 140737488355328) len (fun i hi => by
      obtain ⟨hc, ht⟩ := hcell i (by omega)
      have hwi : ∀ n ∈ (D i).weights Tryd.prog 22, n ≤ reachBytes := fun n hn => hw n (by
        simp only [DataW.weights, Tryd.underlying40]
        exact List.mem_cons_of_mem _ (List.mem_append_left _ (weights_all _ (D i) (List.mem_map.2 ⟨i, List.mem_range.2 hi, rfl⟩) n hn)))
      obtain ⟨A', cap'', xs, hv, h1, h2, h3, _⟩ := open_row_core ht hwi
      rw [hv] at hc
      have hblk := World.block_lt_of_cell? _ _ hc
      have hc0 := (hcell 0 (by omega)).1
      rw [block_add] at hblk
      obtain ⟨b, off, spot⟩ := a
      have hspot : spot = none := by simpa [Addr.add] using World.cell?_spot hc0
      subst hspot
      rw [show (⟨b, off, none⟩ : Addr).add i = ⟨b, off + i, none⟩ from by unfold Addr.add; split <;> simp_all] at hc
      exact ⟨xs, b, off, A', cap'', rfl, hblk, hc, h1, h2, h3⟩)
    refine ⟨some a, cap, xss, by rw [hxl], ?_, ?_, ?_⟩
    · intro j xs hj
      obtain ⟨b, o, A', cap'', rfl, h1, h2, h3, _⟩ := hxp j xs hj
      exact ⟨b, o, A', cap'', rfl, h1, h2, h3⟩
    · rw [hxl]
      have := hw _ (by simp only [DataW.weights, Tryd.underlying40]; exact List.mem_cons_self)
      rw [bytes_row] at this
      simp only [List.length_map, List.length_range] at this
      omega
    · intro xs hxm
      obtain ⟨j, hj⟩ := List.getElem?_of_mem hxm
      obtain ⟨_, _, _, _, _, _, _, _, h4, h5⟩ := hxp j xs hj
      exact ⟨h4, h5⟩

theorem weights_of {H : Type} {ts : List TypeId} {ds : List (DataW H)} (h : (DataW.weightsEach Tryd.prog ts ds).all (· ≤ reachBytes) = true) {j : Nat} {t : TypeId} {d : DataW H} (ht : ts[j]? = some t) (hd : ds[j]? = some d) :
    ∀ n ∈ d.weights Tryd.prog t, n ≤ reachBytes := fun n hn => by
  have := List.all_eq_true.1 h _ (DataW.weights_mem_each ht hd n hn)
  simpa using this

theorem wf_u16 {z : Int} (h : (Lit.int .u16 z).wf = true) : 0 ≤ z ∧ z ≤ 65535 := by
  have h1 : IntKind.u16.min = 0 := rfl
  have h2 : IntKind.u16.max = 65535 := rfl
  simp only [Lit.wf, Bool.and_eq_true, decide_eq_true_eq] at h
  omega
theorem wf_i64 {z : Int} (h : (Lit.int .i64 z).wf = true) : -9223372036854775808 ≤ z ∧ z ≤ 9223372036854775807 := by
  have h1 : IntKind.i64.min = -9223372036854775808 := rfl
  have h2 : IntKind.i64.max = 9223372036854775807 := rfl
  simp only [Lit.wf, Bool.and_eq_true, decide_eq_true_eq] at h
  omega

/-- What the rows' lists give. -/
theorem tab_of {W : World} {l : List (String × DataW Unit)} (h : laidMetH Tryd.prog (("math/bits.deBruijn32tab", Rows.laid_math_bits_deBruijn32tab) :: ("math/bits.deBruijn64tab", Rows.laid_math_bits_deBruijn64tab) :: ("internal/strconv.uint64pow10", Rows.laid_internal_strconv_uint64pow10) :: l) W)
    (hp : ((("math/bits.deBruijn32tab", Rows.laid_math_bits_deBruijn32tab) :: ("math/bits.deBruijn64tab", Rows.laid_math_bits_deBruijn64tab) :: ("internal/strconv.uint64pow10", Rows.laid_internal_strconv_uint64pow10) :: l).all fun x => x.2.handleName?.isNone) = true) : Tab W.heap.size W := by
  rw [MakeChecks.laidMetH_plain _ _ _ hp] at h
  have h2 := h.tail.tail
  have e : (Rows.laid_internal_strconv_uint64pow10 : DataW Unit) = Lib.tabData .u64 Lib.pow10Tab := by kernel_rfl
  rw [e] at h2
  exact Lib.tabBelow_of_tabIs (Lib.tabIs_of_head gTab gTabType Tryd.underlying84 Tryd.underlying65 (by kernel_rfl) (by kernel_rfl) h2)

end Pk
end Go.Proofs.YthjnbjfcjjnkaaaDoor
