/-
  Blocks of cells: read, written whole, turned. Of no program.
-/
import Derived.Test.YtpiiklpehfkdaaaKR
import Derived.Laws.OwnMore
import Derived.Laws.Rows
import Derived.Laws.ResultCell
namespace Go.Proofs.Ytpiiklpehfkdaaa
namespace Kr
open Go.RowKit

/-- Block g is just the cells l, of element type t, none frozen. -/
def Row (w : World) (g : Nat) (t : TypeId) (l : List Value) : Prop := w.heap[g]? = some (.cells l.toArray t (0, 0))

section
variable {w w' : World} {g : Nat} {t : TypeId} {l : List Value}
theorem Row.lt (h : Row w g t l) : g < w.heap.size := (Array.getElem?_eq_some_iff.1 h).1
theorem Row.cell (h : Row w g t l) (j : Nat) : w.cell? ⟨g, j, none⟩ = l[j]? := by
  have := cell_of_row w g j l.toArray t (0, 0) h
  rw [this]; simp
theorem Row.frozen (h : Row w g t l) (j : Nat) : w.frozen? ⟨g, j, none⟩ = false := by
  unfold Row at h
  simp [World.frozen?, h]
theorem Row.fresh (w : World) (t : TypeId) (cs : Array Value) : Row (w.alloc (.cells cs t)) w.heap.size t cs.toList := by
  unfold Row
  rw [Array.toArray_toList]
  exact heap_alloc_new w _
theorem Row.new_at (w : World) (t : TypeId) (cs : Array Value) (l : List Value) {g : Nat} (hg : w.heap.size = g) (h : cs = l.toArray) : Row (w.alloc (.cells cs t)) g t l := by
  subst hg h
  exact heap_alloc_new w _
theorem Row.alloc (h : Row w g t l) (o : Obj) : Row (w.alloc o) g t l := (Below.heap_alloc w o g h.lt).trans h
theorem Row.drewN (h : Row w g t l) (n : Nat) : Row (w.drewN n) g t l := h
theorem Row.set (h : Row w g t l) (j : Nat) (u : Value) : Row (w.setCell ⟨g, j, none⟩ u) g t (l.set j u) := by
  unfold Row at h ⊢
  rw [heap_setCell_same w g j l.toArray t u h]
  simp
theorem Row.far (h : Row w g t l) {p : Addr} (hp : g ≠ p.block) (u : Value) : Row (w.setCell p u) g t l := (Below.heap_setCell w p u g hp).trans h
theorem Row.below {B : Nat} (h : Row w g t l) (hb : Below B w w') (hg : g < B) : Row w' g t l := (hb.block g hg).trans h
theorem Row.grown {row : Option Nat} (h : Row w g t l) (hb : w.grownBy w' row) (hg : some g ≠ row) : Row w' g t l := (hb.block g h.lt hg).trans h
theorem Row.laid (h : Row w g t l) (l' : List Value) : Row (w.setRow g l'.toArray) g t l' := setRow_heap w g _ _ t _ h
theorem Row.apart (h : Row w g t l) {k : Nat} (hk : g ≠ k) (cs : Array Value) : Row (w.setRow k cs) g t l := (setRow_other w k g cs hk).trans h
end

theorem below_drewN {B : Nat} {a w : World} (h : Below B a w) (n : Nat) : Below B a (w.drewN n) := ⟨h.os, h.tape, h.output, h.size, h.block⟩
theorem below_laid {B g : Nat} {w0 w : World} (hb : Below B w0 w) (hBg : B ≤ g) (cs : Array Value) : Below B w0 (w.setRow g cs) :=
  hb.trans ⟨rfl, rfl, rfl, by simp, fun k hk => setRow_other w g k cs (by omega)⟩

section
variable {P : Program}
/-- A whole array (or struct) is read out of the middle of a block. -/
theorem run_load_seg (w : World) (ty : TypeId) (g o : Nat) (L : List Value) (d : TypeDesc) (hc : ∀ j v, L[j]? = some v → w.cell? ⟨g, o + j, none⟩ = some v)
    (hu : P.underlying ty = some d) (hd : (match d with | .struct _ | .array _ _ => true | _ => false) = true) (hi : (P.info? ty).map (·.size) = some L.length) :
    (loadVar ty ⟨g, o, none⟩).run P w = .ok (.agg L.toArray) w := by
  have hl : (loadCells ⟨g, o, none⟩ L.length).run P w = .ok L.toArray w :=
    run_loadCells_list (P := P) w ⟨g, o, none⟩ L (fun j v hv => by
      have hadd : (⟨g, o, none⟩ : Addr).add j = ⟨g, o + j, none⟩ := by unfold Addr.add; split <;> simp_all
      rw [hadd]
      exact hc j v hv)
  cases hq : P.info? ty with
  | none => simp [hq] at hi
  | some i =>
    have hs : i.size = L.length := by simpa [hq] using hi
    have hagg : (isAgg ty).run P w = .ok true w := by
      unfold isAgg
      rw [Sem.run_bind, run_underlying hu w]
      cases d <;> simp_all
    simp [loadVar, Sem.run_bind, hagg, sizeOf, typeInfo, hq, hs, hl]

theorem wpList_load_seg {ops : Array Oper} {rest : List Oper} {o : Oper} {a : Act} {w : World} {Q : Exit → Act → World → Prop} (hgd : o.guard = none) (ty : TypeId) (x : Operand) (ho : o.op = .load ty x)
    (g off : Nat) (hx : a.eval x = .pointer (some ⟨g, off, none⟩)) (L : List Value) (d : TypeDesc) (hc : ∀ j v, L[j]? = some v → w.cell? ⟨g, off + j, none⟩ = some v)
    (hu : P.underlying ty = some d) (hd : (match d with | .struct _ | .array _ _ => true | _ => false) = true) (hi : (P.info? ty).map (·.size) = some L.length)
    (h : wpList P ops Q rest (a.put o.dst (.agg L.toArray)) w) : wpList P ops Q (o :: rest) a w :=
  wpList_plain hgd fun K hK => by
    unfold Oper.wp execOp
    simp only [ho, hx, Instr.loadAt, Instr.sureAddr, Sem.run_bind, Sem.run_pure, Result.andThen_ok, run_load_seg w ty g off L d hc hu hd hi]
    exact hK _ _ h

/-- An array's value, asked at an index. -/
theorem index_run (t e : TypeId) (n : Nat) (L : List Value) (k : Nat) (v : Value) (hu : P.underlying t = some (.array n e)) (hn : L.length = n) (hl : L[k]? = some v) (de : TypeDesc)
    (hue : P.underlying e = some de) (hd : (match de with | .struct _ | .array _ _ => true | _ => false) = false) (hi : (P.info? e).map (·.size) = some 1) (W : World) :
    (Instr.index t (.agg L.toArray) (.int .i64 k)).run P W = .ok v W := by
  obtain ⟨hk, hv⟩ := List.getElem?_eq_some_iff.1 hl
  cases hq : P.info? e with
  | none => simp [hq] at hi
  | some i =>
    have hs : i.size = 1 := by simpa [hq] using hi
    have hagg : (isAgg e).run P W = .ok false W := by
      unfold isAgg
      rw [Sem.run_bind, run_underlying hue W]
      cases de <;> simp_all
    simp [Instr.index, asIntOf, run_underlying hu, hq, sizeOf, typeInfo, hs, part, hagg, hl]
    intro h; omega
end
/-- Block g alone has turned. -/
def Turn (g : Nat) (w w' : World) : Prop := w'.os = w.os ∧ w'.tape = w.tape ∧ w'.output = w.output ∧ w'.heap.size = w.heap.size ∧ ∀ k, k ≠ g → w'.heap[k]? = w.heap[k]?
theorem Row.turn {w w' : World} {g k : Nat} {t : TypeId} {l : List Value} (h : Row w k t l) (ht : Turn g w w') (hk : k ≠ g) : Row w' k t l := (ht.2.2.2.2 k hk).trans h
theorem below_turn {B g : Nat} {w0 w w' : World} (hb : Below B w0 w) (ht : Turn g w w') (hB : B ≤ g) : Below B w0 w' :=
  hb.trans ⟨ht.1, ht.2.1, ht.2.2.1, by rw [ht.2.2.2.1]; exact Nat.le_refl _, fun k hk => ht.2.2.2.2 k (by omega)⟩

section
variable {P : Program}
/-- A whole array (or struct) is stored over a block of its size. -/
theorem wpList_store_all {ops : Array Oper} {rest : List Oper} {o : Oper} {a : Act} {w : World} {Q : Exit → Act → World → Prop} (hgd : o.guard = none) (ty : TypeId) (x y : Operand) (ho : o.op = .store ty x y)
    (g : Nat) (L : List Value) (hx : a.eval x = .pointer (some ⟨g, 0, none⟩)) (hy : a.eval y = .agg L.toArray)
    (t : TypeId) (old : List Value) (hg : Row w g t old) (hi : (P.info? ty).map (·.size) = some L.length) (hold : old.length = L.length) (h1 : L.toArray.all (·.oneCell') = true)
    (h : ∀ w', Hid (Row w' g t L) → Hid (Turn g w w') → wpList P ops Q rest (a.put o.dst undef) w') : wpList P ops Q (o :: rest) a w := by
  refine wpList_store_row hgd ty x y ho g L.toArray hx hy t old.toArray hg (by simpa using hi) (by simpa using hold) h1 ?_
  exact h _ (Row.laid hg L) ⟨rfl, rfl, rfl, by simp, fun k hk => setRow_other w g k _ hk⟩
theorem wpList_load_all {ops : Array Oper} {rest : List Oper} {o : Oper} {a : Act} {w : World} {Q : Exit → Act → World → Prop} (hgd : o.guard = none) (ty : TypeId) (x : Operand) (ho : o.op = .load ty x)
    (g : Nat) (hx : a.eval x = .pointer (some ⟨g, 0, none⟩)) (t : TypeId) (L : List Value) (d : TypeDesc) (hg : Row w g t L)
    (hu : P.underlying ty = some d) (hd : (match d with | .struct _ | .array _ _ => true | _ => false) = true) (hi : (P.info? ty).map (·.size) = some L.length)
    (h : wpList P ops Q rest (a.put o.dst (.agg L.toArray)) w) : wpList P ops Q (o :: rest) a w :=
  wpList_load_row hgd ty x ho g hx t L.toArray (0, 0) d hg hu hd (by simpa using hi) h
end

/-- Two results, the first one an array that lies in a block. -/
theorem results_row_tmp {P : Program} {fn : Func} {p u : Tmp} {ty : TypeId} (h : fn.results = #[.cell p ty, .tmp u]) (tmps : Array Value) (w : World) (g : Nat) (t : TypeId) (L : List Value) (d : TypeDesc)
    (hp : tmps.getD p undef = .pointer (some ⟨g, 0, none⟩)) (hg : Row w g t L) (hu : P.underlying ty = some d) (hd : (match d with | .struct _ | .array _ _ => true | _ => false) = true) (hi : (P.info? ty).map (·.size) = some L.length) :
    (results fn tmps).run P w = .ok (.tuple #[.agg L.toArray, tmps.getD u undef]) w := by
  rw [results_cell_tmp h, hp]
  have hl := run_loadVar_row (P := P) w g t ty L.toArray (0, 0) d hg hu hd (by simpa using hi)
  simp [asAddr, Result.andThen, hl]

end Kr
end Go.Proofs.Ytpiiklpehfkdaaa
