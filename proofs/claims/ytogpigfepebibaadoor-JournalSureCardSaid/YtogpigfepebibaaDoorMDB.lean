/-
  Layer 7 (disk): the walks of the document's At, Read. Layer 7 (disk): the walks of the document's New, Budget, Names, without.
-/
import Derived.Test.YtogpigfepebibaaDoorMDA
import Derived.OwnWalk
import Derived.Handy
import Derived.Laws.NewBlocks
namespace Go.Proofs.YtogpigfepebibaaDoor
namespace Dk
open Go.RowKit Go.ChangeShapes Kr

abbrev dval (A : Option Addr) (n cap : Nat) (left : Int) : Value := .agg #[.slice A n cap, .int .i64 left]
/-- The place of a name's file. -/
def idx (l : List FF) (p : ByteArray) : Int := match l.findIdx? (fun f => decide (f.name = p)) with
  | none => -1
  | some i => i
theorem idx_none {l : List FF} {p : ByteArray} : at? l p = none ↔ idx l p = -1 := by
  unfold at? idx
  rw [List.find?_eq_none]
  cases h : l.findIdx? (fun f => decide (f.name = p)) with
  | none =>
    rw [List.findIdx?_eq_none_iff] at h
    simp only [iff_true]
    exact fun x hx => by rw [h x hx]; exact Bool.false_ne_true
  | some i =>
    constructor
    · intro h2
      obtain ⟨h3, h4, _⟩ := List.findIdx?_eq_some_iff_getElem.1 h
      exact absurd h4 (h2 _ (List.getElem_mem _))
    · intro h2
      have : (i : Int) = -1 := h2
      omega
theorem idx_some {l : List FF} {p : ByteArray} {k : Nat} {f : FF} (ho : ∀ j g, j < k → l[j]? = some g → g.name ≠ p) (hx : l[k]? = some f) (hf : f.name = p) : at? l p = some f ∧ idx l p = k := by
  have h : l.findIdx? (fun f => decide (f.name = p)) = some k := by
    rw [List.findIdx?_eq_some_iff_getElem]
    obtain ⟨hk, rfl⟩ := List.getElem?_eq_some_iff.1 hx
    refine ⟨hk, decide_eq_true hf, fun j hj => ?_⟩
    have := ho j l[j] hj (List.getElem?_eq_getElem _)
    simpa using this
  refine ⟨?_, by unfold idx; rw [h]⟩
  unfold at?
  rw [List.find?_eq_some_iff_getElem]
  obtain ⟨hk, rfl⟩ := List.getElem?_eq_some_iff.1 hx
  refine ⟨decide_eq_true hf, k, hk, rfl, fun j hj => ?_⟩
  have := ho j l[j] hj (List.getElem?_eq_getElem _)
  simpa using this
theorem idx_no {l : List FF} {p : ByteArray} {n : Nat} (hn : l.length = n) (ho : ∀ j g, j < n → l[j]? = some g → g.name ≠ p) : at? l p = none ∧ idx l p = -1 := by
  have h : at? l p = none := at_none.2 fun f hf => by
    obtain ⟨j, hj⟩ := List.getElem?_of_mem hf
    exact ho j f (by have := (List.getElem?_eq_some_iff.1 hj).1; omega) hj
  exact ⟨h, idx_none.1 h⟩
/-- Where a file stands. -/
theorem idx_at {l : List FF} {p : ByteArray} : (at? l p = none ∧ idx l p = -1) ∨ ∃ k f, at? l p = some f ∧ idx l p = (k : Nat) ∧ l[k]? = some f := by
  cases h : at? l p with
  | none => exact .inl ⟨rfl, idx_none.1 h⟩
  | some f =>
    refine .inr ?_
    unfold at? at h
    obtain ⟨h1, k, hk, h2, h3⟩ := List.find?_eq_some_iff_getElem.1 h
    have hx : l[k]? = some f := by rw [List.getElem?_eq_getElem hk, h2]
    obtain ⟨h4, h5⟩ := idx_some (l := l) (p := p) (fun j g hj hg => by
      obtain ⟨hjl, rfl⟩ := List.getElem?_eq_some_iff.1 hg
      have := h3 j hj
      simpa using this) hx (by simpa using h1)
    exact ⟨k, f, rfl, h5, hx⟩

end Dk
end Go.Proofs.YtogpigfepebibaaDoor

namespace Go.Proofs.YtogpigfepebibaaDoor
namespace Dk
open Go.RowKit Go.ChangeShapes Kr

theorem strInfo : (Tryd.prog.info? 9).map (fun i => (i.zero, i.size, i.bytes)) = some (some (.string ⟨#[]⟩), 1, 16) := by kernel_rfl
abbrev OwnsN (w : World) (base : Nat) (v : Value) (l : List ByteArray) : Prop := OwnsK encN 1 9 w base v l
theorem encF_one (f : FF) : ∀ u ∈ encF f, u.oneCell' = true := by
  intro u hu
  unfold encF at hu
  simp at hu
  rcases hu with rfl | rfl | rfl <;> rfl
theorem new_cell (W : World) (cs : List Value) (T : TypeId) {g j : Nat} {v : Value} (hg : g = W.heap.size) (h : cs[j]? = some v) : (W.alloc (.cells cs.toArray T)).cell? ⟨g, j, none⟩ = some v := by
  rw [World.cell?_alloc_at _ _ _ _ hg]
  simpa using h
theorem made_at {α : Type} {enc : α → List Value} {k : Nat} {T : TypeId} (W : World) (base : Nat) {g : Nat} (hg : W.heap.size = g) (hb : base ≤ W.heap.size) : OwnsK enc k T (W.alloc (.cells #[] T)) base (.slice (some ⟨g, 0, none⟩) 0 0) [] := by
  subst hg
  exact OwnsK.made W base hb
theorem drop_snoc {l : List FF} {k : Nat} {x : FF} (hx : l[k]? = some x) (p : ByteArray) : dropF (l.take (k + 1)) p = dropF (l.take k) p ++ if x.name = p then [] else [x] := by
  unfold dropF
  rw [take_snoc l k x hx, List.filter_append]
  by_cases h : x.name = p <;> simp [h]

theorem names_snoc {l : List FF} {k : Nat} {x : FF} (hx : l[k]? = some x) : (l.take (k + 1)).map (·.name) = (l.take k).map (·.name) ++ [x.name] := by
  rw [take_snoc l k x hx, List.map_append]; rfl

end Dk
end Go.Proofs.YtogpigfepebibaaDoor
