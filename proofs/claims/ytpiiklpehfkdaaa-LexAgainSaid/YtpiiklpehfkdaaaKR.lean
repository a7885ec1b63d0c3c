/-
  Rows of elements of k cells each, of no program: those that came in (KRow), those that a call has made (OwnsK); stores, cuts, loads.
-/
import Derived.WalkKit
import Derived.Below
import Derived.Laws.OwnMore
import Derived.Laws.IdiomCopy
import Derived.Deep.Draws
import Derived.Great.BuildSlice
import Derived.StillTailTactics
namespace Go.Proofs.Ytpiiklpehfkdaaa
namespace Kr
open Go.RowKit

/-- A load of cells that stand one behind the other, in the walk's form. -/
theorem load_list (P : Program) (w : World) (a : Addr) (cs : List Value) (k : Nat) (hk : cs.length = k) (h : ∀ j v, cs[j]? = some v → w.cell? (a.add j) = some v) : (loadCellsFrom a 0 k #[]).run P w = .ok cs.toArray w := by
  subst hk
  have := run_loadCells_list (P := P) (w := w) a cs h
  simpa [loadCells] using this

section
variable {α : Type} {enc : α → List Value} {k : Nat} {T : TypeId}

/-- A slice's address under which elements of k cells stand, below block B. -/
def KRow (enc : α → List Value) (k : Nat) (w : World) (B : Nat) (A : Option Addr) (t : List α) : Prop :=
  ∀ j x, t[j]? = some x → ∃ b o, A = some ⟨b, o, none⟩ ∧ b < B ∧ ∀ i v, (enc x)[i]? = some v → w.cell? ⟨b, o + j * k + i, none⟩ = some v
theorem KRow.none_ (w : World) (B : Nat) (A : Option Addr) : KRow enc k w B A [] := fun j x h => by simp at h
theorem KRow.keep {w w' : World} {B : Nat} {A : Option Addr} {t : List α} (h : KRow enc k w B A t) (hk : ∀ p : Addr, p.block < B → w'.cell? p = w.cell? p) : KRow enc k w' B A t := fun j x hx => by
  obtain ⟨b, o, h1, h2, h3⟩ := h j x hx
  exact ⟨b, o, h1, h2, fun i v hv => (hk _ h2).trans (h3 i v hv)⟩
theorem KRow.below {w w' : World} {B B' : Nat} {A : Option Addr} {t : List α} (h : KRow enc k w B A t) (hb : Below B' w w') (hB : B ≤ B') : KRow enc k w' B A t := h.keep fun _ hp => (hb.mono hB).cell hp
theorem KRow.more {w : World} {B B' : Nat} {A : Option Addr} {t : List α} (h : KRow enc k w B A t) (hB : B ≤ B') : KRow enc k w B' A t := fun j x hx => by
  obtain ⟨b, o, h1, h2, h3⟩ := h j x hx
  exact ⟨b, o, h1, by omega, h3⟩
/-- In a later world, its own heap the bound. -/
theorem KRow.later {w w' : World} {A : Option Addr} {t : List α} (h : KRow enc k w w.heap.size A t) (hb : Below w.heap.size w w') : KRow enc k w' w'.heap.size A t := (h.below hb (Nat.le_refl _)).more hb.size
theorem KRow.drewN {w : World} {B : Nat} {A : Option Addr} {t : List α} (h : KRow enc k w B A t) (n : Nat) : KRow enc k (w.drewN n) B A t := h
theorem KRow.alloc {w : World} {B : Nat} {A : Option Addr} {t : List α} (h : KRow enc k w B A t) (hB : B ≤ w.heap.size) (o : Obj) : KRow enc k (w.alloc o) B A t :=
  h.keep fun p hp => World.cell?_alloc_lt w o p (by omega)
/-- The cells of a part of an element. -/
theorem KRow.part {w : World} {B b o j i m : Nat} {t : List α} {x : α} {cs : List Value} (h : KRow enc k w B (some ⟨b, o, none⟩) t) (hx : t[j]? = some x) (hc : ((enc x).drop i).take m = cs) : ∀ q v, cs[q]? = some v → w.cell? ⟨b, o + j * k + i + q, none⟩ = some v := fun q v hv => by
  obtain ⟨b', o', e, _, h3⟩ := h j x hx
  injection e with e
  injection e with e1 e2
  subst e1 e2
  rw [← hc, List.getElem?_take] at hv
  split at hv
  · rw [List.getElem?_drop] at hv
    rw [Nat.add_assoc]
    exact h3 (i + q) v hv
  · cases hv
theorem KRow.load {P : Program} {w : World} {B b o j : Nat} {t : List α} {x : α} (h : KRow enc k w B (some ⟨b, o, none⟩) t) (hx : t[j]? = some x) (hk : (enc x).length = k) : (loadCellsFrom ⟨b, o + j * k, none⟩ 0 k #[]).run P w = .ok (enc x).toArray w :=
  load_list P w _ (enc x) k hk (fun i v hi => by
    obtain ⟨b', o', e, _, h3⟩ := h j x hx
    injection e with e
    injection e with e1 e2
    subst e1 e2
    rw [Addr.add_lit]
    exact h3 i v hi)
theorem load_part {P : Program} {w : World} {b o m : Nat} {cs : List Value} (hm : cs.length = m) (h : ∀ q v, cs[q]? = some v → w.cell? ⟨b, o + q, none⟩ = some v) : (loadCellsFrom ⟨b, o, none⟩ 0 m #[]).run P w = .ok cs.toArray w :=
  load_list P w _ cs m hm (fun i v hi => by rw [Addr.add_lit]; exact h i v hi)

theorem flat_length (hk : ∀ x, (enc x).length = k) : ∀ t : List α, (t.flatMap enc).length = t.length * k
  | [] => by simp
  | x :: t => by
    rw [List.flatMap_cons, List.length_append, hk, flat_length hk t, List.length_cons, Nat.add_mul, Nat.one_mul, Nat.add_comm]
theorem flat_at (hk : ∀ x, (enc x).length = k) : ∀ (t : List α) (j : Nat) (x : α), t[j]? = some x → ∀ i v, (enc x)[i]? = some v → (t.flatMap enc)[j * k + i]? = some v
  | [], j, x, h, _, _, _ => by simp at h
  | y :: t, 0, x, h, i, v, hv => by
    injection h with h
    subst h
    have hi := (List.getElem?_eq_some_iff.1 hv).1
    rw [List.flatMap_cons, Nat.zero_mul, Nat.zero_add, List.getElem?_append_left hi]
    exact hv
  | y :: t, j + 1, x, h, i, v, hv => by
    have ih := flat_at hk t j x h i v hv
    rw [List.flatMap_cons, List.getElem?_append_right (by rw [hk, Nat.add_mul]; omega), hk]
    rw [show (j + 1) * k + i - k = j * k + i by rw [Nat.add_mul]; omega]
    exact ih
theorem flat_take (hk : ∀ x, (enc x).length = k) (t : List α) (n : Nat) : (t.take n).flatMap enc = (t.flatMap enc).take (n * k) := by
  have e : t.flatMap enc = (t.take n).flatMap enc ++ (t.drop n).flatMap enc := by rw [← List.flatMap_append, List.take_append_drop]
  by_cases hn : n ≤ t.length
  · rw [e, List.take_left' (by rw [flat_length hk, List.length_take, Nat.min_eq_left hn])]
  · rw [List.take_of_length_le (by omega), List.take_of_length_le (by rw [flat_length hk]; exact Nat.mul_le_mul_right _ (by omega))]
theorem flat_drop (hk : ∀ x, (enc x).length = k) (t : List α) (n : Nat) : (t.drop n).flatMap enc = (t.flatMap enc).drop (n * k) := by
  have e : t.flatMap enc = (t.take n).flatMap enc ++ (t.drop n).flatMap enc := by rw [← List.flatMap_append, List.take_append_drop]
  by_cases hn : n ≤ t.length
  · rw [e, List.drop_left' (by rw [flat_length hk, List.length_take, Nat.min_eq_left hn])]
  · rw [List.drop_of_length_le (by omega), List.drop_of_length_le (by rw [flat_length hk]; exact Nat.mul_le_mul_right _ (by omega))]
    rfl

/-- A row that a call has made. -/
def OwnsK (enc : α → List Value) (k : Nat) (T : TypeId) (w : World) (base : Nat) (v : Value) (t : List α) : Prop := w.ownsRow base T k v t.length (t.flatMap enc)
theorem OwnsK.nil (w : World) (base : Nat) : OwnsK enc k T w base (.slice none 0 0) [] := World.ownsRow_nil _ _ _ _
theorem OwnsK.made (w : World) (base : Nat) (hb : base ≤ w.heap.size) : OwnsK enc k T (w.alloc (.cells #[] T)) base (.slice (some ⟨w.heap.size, 0, none⟩) 0 0) [] :=
  World.ownsRow_lit (base := base) (e := T) (size := k) w #[] 0 hb (by decide) (by simp)
theorem OwnsK.form {w : World} {base : Nat} {v : Value} {t : List α} (h : OwnsK enc k T w base v t) : ∃ A cap, v = .slice A t.length cap := by
  rcases h.2 with ⟨hv, h0⟩ | ⟨g, cap, cur, hv, _⟩
  · exact ⟨none, 0, by rw [hv, h0]⟩
  · exact ⟨_, _, hv⟩
theorem OwnsK.alloc {w : World} {base : Nat} {v : Value} {t : List α} (h : OwnsK enc k T w base v t) (o : Obj) : OwnsK enc k T (w.alloc o) base v t := World.ownsRow.alloc h o
theorem OwnsK.drewN {w : World} {base : Nat} {v : Value} {t : List α} (h : OwnsK enc k T w base v t) (n : Nat) : OwnsK enc k T (w.drewN n) base v t := h
theorem OwnsK.less {w : World} {b b' : Nat} {v : Value} {t : List α} (h : OwnsK enc k T w b v t) (hb : b' ≤ b) : OwnsK enc k T w b' v t := by
  refine ⟨h.1, h.2.imp id ?_⟩
  rintro ⟨g, cap, cur, h1, h2, h3⟩
  exact ⟨g, cap, cur, h1, Nat.le_trans hb h2, h3⟩
theorem OwnsK.keep {w w' : World} {b : Nat} {v : Value} {t : List α} (h : OwnsK enc k T w b v t) (hb : Below w.heap.size w w') : OwnsK enc k T w' b v t := by
  refine ⟨h.1, h.2.imp id ?_⟩
  rintro ⟨g', c, cur, h1, h2, h3, h4⟩
  have hlt : g' < w.heap.size := by
    rcases Nat.lt_or_ge g' w.heap.size with h5 | h5
    · exact h5
    · rw [Array.getElem?_eq_none h5] at h3; cases h3
  exact ⟨g', c, cur, h1, h2, (hb.block g' hlt).trans h3, h4⟩
theorem OwnsK.row (hk : ∀ x, (enc x).length = k) {w : World} {base : Nat} {A : Option Addr} {cap n : Nat} {t : List α} (h : OwnsK enc k T w base (.slice A n cap) t) : KRow enc k w w.heap.size A t := by
  intro j x hx
  have hl := (List.getElem?_eq_some_iff.1 hx).1
  rcases h.2 with ⟨_, h0⟩ | ⟨g, cap', cur, hv, _⟩
  · omega
  · injection hv with hA
    subst hA
    refine ⟨g, 0, rfl, (h.lt g rfl).2, fun i v hv => ?_⟩
    have hc := h.cells (g := g) rfl (j * k + i) v (flat_at hk t j x hx i v hv)
    rw [Addr.add_lit, Nat.zero_add] at hc
    rw [Nat.zero_add]
    exact hc
/-- Behind an append of one element. -/
theorem OwnsK.appended {w : World} {base n : Nat} {v : Value} {t : List α} {x : α} (hn : t.length = n) (h : w.ownsRow base T k v (n + 1) (t.flatMap enc ++ enc x)) : OwnsK enc k T w base v (t ++ [x]) := by
  unfold OwnsK
  rw [List.length_append, hn, List.flatMap_append]
  simpa using h
end

theorem list_put {xs r : List Value} {o : Nat} {v : Value} (h : o + 1 + r.length ≤ xs.length) : (xs.set o v).take (o + 1) ++ r ++ (xs.set o v).drop (o + 1 + r.length) = xs.take o ++ (v :: r) ++ xs.drop (o + (v :: r).length) := by
  have h1 : (xs.set o v).take (o + 1) = xs.take o ++ [v] := by
    rw [List.take_set, List.take_add_one, List.getElem?_eq_getElem (by omega : o < xs.length)]
    simp only [Option.toList_some]
    rw [List.set_append_right _ _ (by simp; omega)]
    congr 1
    have : o - (xs.take o).length = 0 := by simp; omega
    rw [this]; rfl
  have h2 : (xs.set o v).drop (o + 1 + r.length) = xs.drop (o + (v :: r).length) := by
    rw [List.drop_set, if_pos (by omega)]
    congr 1
    simp; omega
  rw [h1, h2]
  simp
/-- Cells written one by one into a row that a call has made. -/
theorem row_stores {B g n cap : Nat} {e : TypeId} {size : Nat} : ∀ (vs : List Value) (o : Nat) (xs : List Value) (w : World), w.ownsRow B e size (.slice (some ⟨g, 0, none⟩) n cap) n xs → o + vs.length ≤ n * size →
    (w.setCells g o vs).ownsRow B e size (.slice (some ⟨g, 0, none⟩) n cap) n (xs.take o ++ vs ++ xs.drop (o + vs.length)) ∧ w.grownBy (w.setCells g o vs) (some g)
  | [], o, xs, w, h, hl => ⟨by simpa [World.setCells] using h, ⟨rfl, rfl, rfl, Nat.le_refl _, fun _ _ _ => rfl⟩⟩
  | v :: r, o, xs, w, h, hl => by
    obtain ⟨h1, h2⟩ := World.ownsRow.stored h o v
    have hx := h.1
    simp only [List.length_cons] at hl
    obtain ⟨h3, h4⟩ := row_stores r (o + 1) (xs.set o v) (w.setCell ⟨g, o, none⟩ v) h1 (by omega)
    rw [list_put (by omega)] at h3
    exact ⟨h3, ⟨h4.os.trans h2.os, h4.tape.trans h2.tape, h4.output.trans h2.output, Nat.le_trans h2.size h4.size, fun k hk hn => (h4.block k (Nat.lt_of_lt_of_le hk h2.size) hn).trans (h2.block k hk hn)⟩⟩
/-- Fewer of a row's first elements. -/
theorem row_less {w : World} {B g n cap m : Nat} {e : TypeId} {size : Nat} {xs : List Value} (h : w.ownsRow B e size (.slice (some ⟨g, 0, none⟩) n cap) n xs) (hm : m ≤ n) : w.ownsRow B e size (.slice (some ⟨g, 0, none⟩) m cap) m (xs.take (m * size)) := by
  have hms : m * size ≤ n * size := Nat.mul_le_mul_right _ hm
  rcases h.2 with ⟨h', _⟩ | ⟨g', cap', cur, h', hb, hg, hnc, hcm, hcs, htake⟩
  · simp at h'
  · simp only [Value.slice.injEq, Option.some.injEq, Addr.mk.injEq, and_true, true_and] at h'
    obtain ⟨rfl, rfl⟩ := h'
    refine ⟨by rw [List.length_take, h.1]; omega, .inr ⟨g, cap, cur, rfl, hb, hg, by omega, hcm, hcs, ?_⟩⟩
    rw [← htake, List.take_take]; congr 1; omega

/-- What a call leaves that may write blocks of S alone: all other blocks are as they were. -/
structure Away (S : Nat → Prop) (w w' : World) : Prop where
  os : w'.os = w.os
  tape : w'.tape = w.tape
  output : w'.output = w.output
  size : w.heap.size ≤ w'.heap.size
  block : ∀ q, q < w.heap.size → ¬ S q → w'.heap[q]? = w.heap[q]?
theorem Away.of {S : Nat → Prop} {w w' : World} (h : Below w.heap.size w w') : Away S w w' := ⟨h.os, h.tape, h.output, h.size, fun q hq _ => h.block q hq⟩
theorem Away.below {S : Nat → Prop} {B : Nat} {w w' : World} (h : Away S w w') (hS : ∀ q, S q → B ≤ q) (hB : B ≤ w.heap.size) : Below B w w' :=
  ⟨h.os, h.tape, h.output, h.size, fun q hq => h.block q (by omega) (fun hs => by have := hS q hs; omega)⟩
theorem Away.cell {S : Nat → Prop} {w w' : World} (h : Away S w w') {p : Addr} (hp : p.block < w.heap.size) (hn : ¬ S p.block) : w'.cell? p = w.cell? p := World.cell?_of_block (w := w) (h.block p.block hp hn)
theorem Away.trans {S : Nat → Prop} {a b c : World} (h : Away S a b) (h' : Away S b c) : Away S a c :=
  ⟨h'.os.trans h.os, h'.tape.trans h.tape, h'.output.trans h.output, Nat.le_trans h.size h'.size, fun q hq hn => (h'.block q (Nat.lt_of_lt_of_le hq h.size) hn).trans (h.block q hq hn)⟩

section
variable {P : Program} {ops : Array Oper} {rest : List Oper} {o : Oper} {a : Act} {w : World} {K : Act → World → Prop} {Q : Exit → Act → World → Prop}
/-- A whole struct or array is loaded, wherever its cells stand. -/
theorem wp_load_at (ty : TypeId) (x : Operand) (ho : o.op = .load ty x) (p : Addr) (hx : a.eval x = .pointer (some p)) (cs : List Value) (k : Nat)
    (hagg : (isAgg ty).run P w = .ok true w) (hsz : (sizeOf ty).run P w = .ok k w) (hk : cs.length = k) (hc : ∀ j v, cs[j]? = some v → w.cell? (p.add j) = some v)
    (h : K (a.put o.dst (.agg cs.toArray)) w) : o.wp P a w K Q := by
  subst hk
  have hl := run_loadCells_list (P := P) w p cs hc
  unfold Oper.wp execOp
  simp only [ho, hx, Instr.loadAt, Instr.sureAddr, Sem.run_bind, Sem.run_pure, Result.andThen_ok, loadVar, hagg, if_true, hsz, hl]
  exact h
theorem wpList_load_at (hgd : o.guard = none) (ty : TypeId) (x : Operand) (ho : o.op = .load ty x) (p : Addr) (hx : a.eval x = .pointer (some p)) (cs : List Value) (k : Nat)
    (hagg : (isAgg ty).run P w = .ok true w) (hsz : (sizeOf ty).run P w = .ok k w) (hk : cs.length = k) (hc : ∀ j v, cs[j]? = some v → w.cell? (p.add j) = some v)
    (h : wpList P ops Q rest (a.put o.dst (.agg cs.toArray)) w) : wpList P ops Q (o :: rest) a w :=
  wpList_plain hgd fun _ hK => wp_load_at ty x ho p hx cs k hagg hsz hk hc (hK _ _ h)
/-- A slice literal of one element of k cells. -/
theorem wpList_lit_one (hgd : o.guard = none) (t e : TypeId) (x : Operand) (ho : o.op = .buildSlice t 1 #[(0, x)]) (cs : List Value) (k : Nat) (hx : a.eval x = .agg cs.toArray)
    (ie : TypeInfo) (z : Value) (hu : P.underlying t = some (.slice e)) (hie : P.info? e = some ie) (hz : ie.zero = some z) (hk : ie.size = k) (hcs : cs.length = k) (hpos : 0 < k) (hsmall : k ≤ 2 ^ 24)
    (h : wpList P ops Q rest (a.put o.dst (.slice (some ⟨w.heap.size, 0, none⟩) 1 1)) (w.alloc (.cells cs.toArray e))) : wpList P ops Q (o :: rest) a w := by
  refine wpList_buildSlice hgd t e 1 #[(0, x)] ho cs.toArray ie z hu hie hz (by omega) (by omega) ?_ h
  have hw := Great.fill_whole (s := k) hpos [.agg cs.toArray] ((Array.range (1 * ie.size)).map (z.cells[· % z.cells.size]!)) (by intro v hv; obtain rfl := List.mem_singleton.1 hv; simp [Value.cells, hcs]) (by simp [hk])
  simpa [hx, hk, Value.cells] using hw
/-- The same among the reads of a region that draws its order. -/
theorem wpStill_load_at {Q : Act → Prop} (hw : Region.wanted o (yielded ops a.tmps) = true) (ty : TypeId) (x : Operand) (ho : o.op = .load ty x) (p : Addr) (hx : a.eval x = .pointer (some p)) (cs : List Value) (k : Nat)
    (hagg : (isAgg ty).run P w = .ok true w) (hsz : (sizeOf ty).run P w = .ok k w) (hk : cs.length = k) (hc : ∀ j v, cs[j]? = some v → w.cell? (p.add j) = some v)
    (h : wpStill P ops w Q rest (a.put o.dst (.agg cs.toArray))) : wpStill P ops w Q (o :: rest) a := by
  subst hk
  have hl := run_loadCells_list (P := P) w p cs hc
  unfold wpStill
  rw [if_pos hw]
  unfold Oper.still execOp
  simp only [ho, hx, Instr.loadAt, Instr.sureAddr, Sem.run_bind, Sem.run_pure, Result.andThen_ok, loadVar, hagg, if_true, hsz, hl]
  exact ⟨rfl, h⟩
/-- The same for a guarded operation whose guard holds. -/
theorem wpList_load_want (hw : Region.wanted o (yielded ops a.tmps) = true) (ty : TypeId) (x : Operand) (ho : o.op = .load ty x) (p : Addr) (hx : a.eval x = .pointer (some p)) (cs : List Value) (k : Nat)
    (hagg : (isAgg ty).run P w = .ok true w) (hsz : (sizeOf ty).run P w = .ok k w) (hk : cs.length = k) (hc : ∀ j v, cs[j]? = some v → w.cell? (p.add j) = some v)
    (h : wpList P ops Q rest (a.put o.dst (.agg cs.toArray)) w) : wpList P ops Q (o :: rest) a w :=
  wpList_step fun K hK => by
    rw [if_pos hw]
    exact wp_load_at ty x ho p hx cs k hagg hsz hk hc (hK _ _ h)
end
end Kr
end Go.Proofs.Ytpiiklpehfkdaaa
