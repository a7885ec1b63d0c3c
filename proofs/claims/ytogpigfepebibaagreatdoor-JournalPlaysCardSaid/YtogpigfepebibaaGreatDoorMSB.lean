/-
  Layer 2 (sha): rows of cells in memory, and operations on whole arrays.
-/
import Derived.Test.YtogpigfepebibaaGreatDoorMSA
import Derived.Below
import Derived.Laws.OwnMore
import Derived.Laws.Rows
namespace Go.Proofs.YtogpigfepebibaaGreatDoor
namespace Sh
open Go.RowKit

/-- Block g is just the cells l, of element type t, none frozen. -/
def Row (w : World) (g : Nat) (t : TypeId) (l : List Value) : Prop := w.heap[g]? = some (.cells l.toArray t (0, 0))

section
variable {w w' : World} {g : Nat} {t : TypeId} {l : List Value}
theorem Row.lt (h : Row w g t l) : g < w.heap.size := (Array.getElem?_eq_some_iff.1 h).1
theorem Row.cell (h : Row w g t l) (j : Nat) : w.cell? ⟨g, j, none⟩ = l[j]? := by
  have := cell_of_row w g j l.toArray t (0, 0) h
  rw [this]; simp
theorem Row.frozen (h : Row w g t l) (j : Nat) : w.frozen? ⟨g, j, none⟩ = false := by
  unfold Row at h
  simp [World.frozen?, h]
theorem Row.fresh (w : World) (t : TypeId) (cs : Array Value) : Row (w.alloc (.cells cs t)) w.heap.size t cs.toList := by
  unfold Row
  rw [Array.toArray_toList]
  exact heap_alloc_new w _
theorem Row.new_at (w : World) (t : TypeId) (cs : Array Value) (l : List Value) {g : Nat} (hg : w.heap.size = g) (h : cs = l.toArray) : Row (w.alloc (.cells cs t)) g t l := by
  subst hg h
  exact heap_alloc_new w _
theorem Row.alloc (h : Row w g t l) (o : Obj) : Row (w.alloc o) g t l := (Below.heap_alloc w o g h.lt).trans h
theorem Row.drewN (h : Row w g t l) (n : Nat) : Row (w.drewN n) g t l := h
theorem Row.set (h : Row w g t l) (j : Nat) (u : Value) : Row (w.setCell ⟨g, j, none⟩ u) g t (l.set j u) := by
  unfold Row at h ⊢
  rw [heap_setCell_same w g j l.toArray t u h]
  simp
theorem Row.far (h : Row w g t l) {p : Addr} (hp : g ≠ p.block) (u : Value) : Row (w.setCell p u) g t l := (Below.heap_setCell w p u g hp).trans h
theorem Row.below {B : Nat} (h : Row w g t l) (hb : Below B w w') (hg : g < B) : Row w' g t l := (hb.block g hg).trans h
theorem Row.grown {row : Option Nat} (h : Row w g t l) (hb : w.grownBy w' row) (hg : some g ≠ row) : Row w' g t l := (hb.block g h.lt hg).trans h
theorem Row.laid (h : Row w g t l) (l' : List Value) : Row (w.setRow g l'.toArray) g t l' := setRow_heap w g _ _ t _ h
theorem Row.apart (h : Row w g t l) {k : Nat} (hk : g ≠ k) (cs : Array Value) : Row (w.setRow k cs) g t l := (setRow_other w k g cs hk).trans h
end

theorem below_drewN {B : Nat} {a w : World} (h : Below B a w) (n : Nat) : Below B a (w.drewN n) := ⟨h.os, h.tape, h.output, h.size, h.block⟩
theorem below_laid {B g : Nat} {w0 w : World} (hb : Below B w0 w) (hBg : B ≤ g) (cs : Array Value) : Below B w0 (w.setRow g cs) :=
  hb.trans ⟨rfl, rfl, rfl, by simp, fun k hk => setRow_other w g k cs (by omega)⟩

section
variable {P : Program}
/-- A whole array (or struct) is read out of the middle of a block. -/
theorem run_load_seg (w : World) (ty : TypeId) (g o : Nat) (L : List Value) (d : TypeDesc) (hc : ∀ j v, L[j]? = some v → w.cell? ⟨g, o + j, none⟩ = some v)
    (hu : P.underlying ty = some d) (hd : (match d with | .struct _ | .array _ _ => true | _ => false) = true) (hi : (P.info? ty).map (·.size) = some L.length) :
    (loadVar ty ⟨g, o, none⟩).run P w = .ok (.agg L.toArray) w := by
  have hl : (loadCells ⟨g, o, none⟩ L.length).run P w = .ok L.toArray w :=
    run_loadCells_list (P := P) w ⟨g, o, none⟩ L (fun j v hv => by
      have hadd : (⟨g, o, none⟩ : Addr).add j = ⟨g, o + j, none⟩ := by unfold Addr.add; split <;> simp_all
      rw [hadd]
      exact hc j v hv)
  cases hq : P.info? ty with
  | none => simp [hq] at hi
  | some i =>
    have hs : i.size = L.length := by simpa [hq] using hi
    have hagg : (isAgg ty).run P w = .ok true w := by
      unfold isAgg
      rw [Sem.run_bind, run_underlying hu w]
      cases d <;> simp_all
    simp [loadVar, Sem.run_bind, hagg, sizeOf, typeInfo, hq, hs, hl]

theorem wpList_load_seg {ops : Array Oper} {rest : List Oper} {o : Oper} {a : Act} {w : World} {Q : Exit → Act → World → Prop} (hgd : o.guard = none) (ty : TypeId) (x : Operand) (ho : o.op = .load ty x)
    (g off : Nat) (hx : a.eval x = .pointer (some ⟨g, off, none⟩)) (L : List Value) (d : TypeDesc) (hc : ∀ j v, L[j]? = some v → w.cell? ⟨g, off + j, none⟩ = some v)
    (hu : P.underlying ty = some d) (hd : (match d with | .struct _ | .array _ _ => true | _ => false) = true) (hi : (P.info? ty).map (·.size) = some L.length)
    (h : wpList P ops Q rest (a.put o.dst (.agg L.toArray)) w) : wpList P ops Q (o :: rest) a w :=
  wpList_plain hgd fun K hK => by
    unfold Oper.wp execOp
    simp only [ho, hx, Instr.loadAt, Instr.sureAddr, Sem.run_bind, Sem.run_pure, Result.andThen_ok, run_load_seg w ty g off L d hc hu hd hi]
    exact hK _ _ h

/-- An array's value, asked at an index. -/
theorem index_run (t e : TypeId) (n : Nat) (L : List Value) (k : Nat) (v : Value) (hu : P.underlying t = some (.array n e)) (hn : L.length = n) (hl : L[k]? = some v) (de : TypeDesc)
    (hue : P.underlying e = some de) (hd : (match de with | .struct _ | .array _ _ => true | _ => false) = false) (hi : (P.info? e).map (·.size) = some 1) (W : World) :
    (Instr.index t (.agg L.toArray) (.int .i64 k)).run P W = .ok v W := by
  obtain ⟨hk, hv⟩ := List.getElem?_eq_some_iff.1 hl
  cases hq : P.info? e with
  | none => simp [hq] at hi
  | some i =>
    have hs : i.size = 1 := by simpa [hq] using hi
    have hagg : (isAgg e).run P W = .ok false W := by
      unfold isAgg
      rw [Sem.run_bind, run_underlying hue W]
      cases de <;> simp_all
    first
      | (simp [Instr.index, asIntOf, run_underlying hu, hq, sizeOf, typeInfo, hs, part, hagg, hl]; intro h; omega)
      | (simp [Instr.index, asIntOf, run_underlying hu, hq, sizeOf, typeInfo, hs, part, hagg, show (k : Int) < n by omega, hl]; intro h; omega)
end
/-- Block g alone has turned. -/
def Turn (g : Nat) (w w' : World) : Prop := w'.os = w.os ∧ w'.tape = w.tape ∧ w'.output = w.output ∧ w'.heap.size = w.heap.size ∧ ∀ k, k ≠ g → w'.heap[k]? = w.heap[k]?
theorem Row.turn {w w' : World} {g k : Nat} {t : TypeId} {l : List Value} (h : Row w k t l) (ht : Turn g w w') (hk : k ≠ g) : Row w' k t l := (ht.2.2.2.2 k hk).trans h
theorem below_turn {B g : Nat} {w0 w w' : World} (hb : Below B w0 w) (ht : Turn g w w') (hB : B ≤ g) : Below B w0 w' :=
  hb.trans ⟨ht.1, ht.2.1, ht.2.2.1, by rw [ht.2.2.2.1]; exact Nat.le_refl _, fun k hk => ht.2.2.2.2 k (by omega)⟩

section
variable {P : Program}
/-- A whole array (or struct) is stored over a block of its size. -/
theorem wpList_store_all {ops : Array Oper} {rest : List Oper} {o : Oper} {a : Act} {w : World} {Q : Exit → Act → World → Prop} (hgd : o.guard = none) (ty : TypeId) (x y : Operand) (ho : o.op = .store ty x y)
    (g : Nat) (L : List Value) (hx : a.eval x = .pointer (some ⟨g, 0, none⟩)) (hy : a.eval y = .agg L.toArray)
    (t : TypeId) (old : List Value) (hg : Row w g t old) (hi : (P.info? ty).map (·.size) = some L.length) (hold : old.length = L.length) (h1 : L.toArray.all (·.oneCell') = true)
    (h : ∀ w', Hid (Row w' g t L) → Hid (Turn g w w') → wpList P ops Q rest (a.put o.dst undef) w') : wpList P ops Q (o :: rest) a w := by
  refine wpList_store_row hgd ty x y ho g L.toArray hx hy t old.toArray hg (by simpa using hi) (by simpa using hold) h1 ?_
  exact h _ (Row.laid hg L) ⟨rfl, rfl, rfl, by simp, fun k hk => setRow_other w g k _ hk⟩
theorem wpList_load_all {ops : Array Oper} {rest : List Oper} {o : Oper} {a : Act} {w : World} {Q : Exit → Act → World → Prop} (hgd : o.guard = none) (ty : TypeId) (x : Operand) (ho : o.op = .load ty x)
    (g : Nat) (hx : a.eval x = .pointer (some ⟨g, 0, none⟩)) (t : TypeId) (L : List Value) (d : TypeDesc) (hg : Row w g t L)
    (hu : P.underlying ty = some d) (hd : (match d with | .struct _ | .array _ _ => true | _ => false) = true) (hi : (P.info? ty).map (·.size) = some L.length)
    (h : wpList P ops Q rest (a.put o.dst (.agg L.toArray)) w) : wpList P ops Q (o :: rest) a w :=
  wpList_load_row hgd ty x ho g hx t L.toArray (0, 0) d hg hu hd (by simpa using hi) h
end

section
variable {P : Program} {f : FuncId} {args : Array Value} {W : World} {v : Value} {G : Nat → World}
/-- A callee inside a region that draws its order: it leaves the world alone. -/
theorem quiet_s (h : Calls P f args W fun e w' => e = .returned v ∧ W = w') (hg : ∃ m, W = G m) : Calls P f args W fun e w' => e = .returned v ∧ ∃ m, w' = G m :=
  h.mono fun _ _ ⟨he, hw⟩ => ⟨he, by obtain ⟨m, hm⟩ := hg; exact ⟨m, hw.symm.trans hm⟩⟩
/-- .. it draws. -/
theorem quiet_d (h : Calls P f args W fun e w' => e = .returned v ∧ ∃ m, w' = W.drewN m) (hg : ∀ k, ∃ m, W.drewN k = G m) : Calls P f args W fun e w' => e = .returned v ∧ ∃ m, w' = G m :=
  h.mono fun _ _ ⟨he, k, hw⟩ => ⟨he, by obtain ⟨m, hm⟩ := hg k; exact ⟨m, hw.trans hm⟩⟩
theorem drawn_one (w : World) (a : Nat) (k : Nat) : ∃ m, (w.drewN a).drewN k = w.drewN m := ⟨_, World.drewN_drewN _ _ _⟩
theorem drawn_two (w : World) (a b : Nat) (k : Nat) : ∃ m, (w.drewN (a + b)).drewN k = w.drewN (a + m) := ⟨b + k, by rw [World.drewN_drewN, Nat.add_assoc]⟩
end
theorem rl_lit (x : W) (z : Int) (h0 : -32 < z) (h1 : z < 0) (w : World) :
    Calls Tryz.prog 103 #[.int .u32 (x.toNat : Int), .int .i64 z] w fun e w' => e = .returned (.int .u32 ((rotr x z.natAbs).toNat : Int)) ∧ w = w' :=
  rl_any x z z.natAbs (by omega) (by omega) (by omega) w
/-- The rounds' constants, in the program's variable. -/
def Tab (w : World) : Prop := ∀ k, k < 64 → w.cell? ⟨0, k, none⟩ = some (.int .u32 ((K.getD k 0).toNat : Int))
theorem Tab.below {w w' : World} {B : Nat} (h : Tab w) (hb : Below B w w') (hB : 0 < B) : Tab w' := fun k hk => (hb.cell (p := ⟨0, k, none⟩) hB).trans (h k hk)

theorem rotated_e (x : W) (w : World) :
    Calls Tryz.prog 96 #[.int .u32 (x.toNat : Int), .int .i64 6, .int .i64 11, .int .i64 25] w fun e w' => e = .returned (.int .u32 ((rot3 x 6 11 25).toNat : Int)) ∧ w = w' :=
  rotated_any x 6 11 25 (by decide) (by decide) (by decide) (by decide) (by decide) (by decide) w
theorem rotated_a (x : W) (w : World) :
    Calls Tryz.prog 96 #[.int .u32 (x.toNat : Int), .int .i64 2, .int .i64 13, .int .i64 22] w fun e w' => e = .returned (.int .u32 ((rot3 x 2 13 22).toNat : Int)) ∧ w = w' :=
  rotated_any x 2 13 22 (by decide) (by decide) (by decide) (by decide) (by decide) (by decide) w
end Sh
end Go.Proofs.YtogpigfepebibaaGreatDoor
