/-
  Layer 4 (globs): an array of three strings among the arguments.
-/
import Derived.Test.YtffmnobcdhgfdaaDoorGY
import Derived.Test.YtffmnobcdhgfdaaDoorHS
namespace Go.Proofs.YtffmnobcdhgfdaaDoor
namespace Gl
open Pt
open Go.ChangeShapes Go.WideShapes Go.ChangeAt Go.RowKit

set_option maxRecDepth 100000 in
theorem open_str3 {H : Type} {enc : TypeId × Value → H} {W : World} {base : Nat} {v : Value} {d : DataW H} {ps : List MemPlace}
    (hok : Value.okWide Tryd.prog W .any base 33 v) (h : DataW.Trod enc Tryd.prog W 0 (fun _ => true) true 33 v d ps) :
    ∃ p q t : ByteArray, v = .agg #[.string p, .string q, .string t] ∧ p.size ≤ 9223372036854775807 ∧ q.size ≤ 9223372036854775807 ∧ t.size ≤ 9223372036854775807 := by
  unfold Value.okWide at hok
  rw [Tryd.underlying33] at hok
  obtain ⟨cs, rfl, hsz, _⟩ := hok
  have hc3 : Tryd.prog.cellsOf 33 = 3 := by kernel_rfl
  have hc1 : Tryd.prog.cellsOf 9 = 1 := by kernel_rfl
  rw [hc3] at hsz
  obtain ⟨fuel, hf⟩ := h
  obtain ⟨xs, m, rfl, hx, hl, hxl, hat⟩ := DataW.trod_array Tryd.underlying33 hf
  have key : ∀ i, i < 3 → ∃ s : ByteArray, cs.toList[i]? = some (.string s) ∧ s.size ≤ 9223372036854775807 := by
    intro i hi
    have h1 := hat i hi
    rw [hc1, List.getElem?_eq_getElem (by omega)] at h1
    obtain ⟨s, hs, _, hm⟩ := DataW.trod_string Tryd.underlying9 h1
    refine ⟨s, ?_, by unfold maxLen at hm; omega⟩
    have := congrArg (·[0]?) hs
    simpa [List.getElem?_take, List.getElem?_drop, Value.cells] using this
  obtain ⟨p, hp, hp1⟩ := key 0 (by omega)
  obtain ⟨q, hq, hq1⟩ := key 1 (by omega)
  obtain ⟨t, ht, ht1⟩ := key 2 (by omega)
  refine ⟨p, q, t, ?_, hp1, hq1, ht1⟩
  congr 1
  apply Array.toList_inj.1
  apply List.ext_getElem?
  intro i
  match i with
  | 0 => exact hp
  | 1 => exact hq
  | 2 => exact ht
  | i + 3 => rw [List.getElem?_eq_none (by simp; omega), List.getElem?_eq_none (by simp)]

theorem sets_row (A1 : Option Addr) (c1 : Nat) (paths : List Bs) (p q t : ByteArray) (w : World) (hmx : Mx w) (r1 : SRow w w.heap.size A1 paths) (d1 : paths.length ≤ 140737488355328) (l1 : ∀ x ∈ paths, x.length ≤ 140737488355328)
    (hp : p.size ≤ 9223372036854775807) (hq : q.size ≤ 9223372036854775807) (ht : t.size ≤ 9223372036854775807) :
    Calls Tryd.prog 7 #[.slice A1 paths.length c1, .agg #[.string p, .string q, .string t]] w fun e w' => e = .returned (.bool true) ∧ Below w.heap.size w w' :=
  sets_law A1 c1 _ paths p q t w hmx rfl d1 l1 r1 hp hq ht
end Gl
end Go.Proofs.YtffmnobcdhgfdaaDoor
