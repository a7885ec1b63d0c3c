/-
  Layer 4 (globs): rows of bools that a call has made, and the library's variable that is carried along.
-/
import Derived.Test.YtffmnobcdhgfdaaDoorGN
import Derived.Test.YtffmnobcdhgfdaaDoorD
import Derived.ArgAppend
import Derived.OwnWalk
import Derived.Laws.MakeOwn
namespace Go.Proofs.YtffmnobcdhgfdaaDoor
namespace Gl
open Go.RowKit Pt

/-- A row of bools at block g. -/
def Bl (w : World) (g : Nat) (L : List Bool) : Prop :=
  g < w.heap.size ∧ ∀ j, j < L.length → w.cell? ⟨g, j, none⟩ = some (.bool (L.getD j false)) ∧ w.frozen? ⟨g, j, none⟩ = false

section
variable {w w' : World} {g : Nat} {L : List Bool}
theorem Bl.lt (h : Bl w g L) : g < w.heap.size := h.1
theorem Bl.at (h : Bl w g L) (j : Nat) (hj : j < L.length) : w.cell? ⟨g, j, none⟩ = some (.bool (L.getD j false)) := (h.2 j hj).1
theorem Bl.fr (h : Bl w g L) (j : Nat) (hj : j < L.length) : w.frozen? ⟨g, j, none⟩ = false := (h.2 j hj).2
theorem Bl.keep (h : Bl w g L) (hb : w'.heap[g]? = w.heap[g]?) : Bl w' g L := by
  obtain ⟨h1, h2⟩ := h
  refine ⟨?_, fun j hj => ⟨(World.cell?_of_block (a := ⟨g, j, none⟩) hb).trans (h2 j hj).1, (World.frozen?_of_block (a := ⟨g, j, none⟩) hb).trans (h2 j hj).2⟩⟩
  have : w'.heap[g]? ≠ none := by rw [hb]; simp; omega
  rcases Nat.lt_or_ge g w'.heap.size with hlt | hge
  · exact hlt
  · exact absurd (Array.getElem?_eq_none hge) this
theorem Bl.later (h : Bl w g L) (hb : Below w.heap.size w w') : Bl w' g L := h.keep (hb.block g h.1)
theorem Bl.below {B : Nat} (h : Bl w g L) (hb : Below B w w') (hg : g < B) : Bl w' g L := h.keep (hb.block g hg)
theorem Bl.alloc (h : Bl w g L) (o : Obj) : Bl (w.alloc o) g L := h.keep (Below.heap_alloc w o g h.1)
theorem Bl.drewN (h : Bl w g L) (n : Nat) : Bl (w.drewN n) g L := h
theorem Bl.drew (h : Bl w g L) : Bl w.drew g L := h
theorem Bl.set (h : Bl w g L) (j : Nat) (b : Bool) (hj : j < L.length) : Bl (w.setCell ⟨g, j, none⟩ (.bool b)) g (L.set j b) := by
  obtain ⟨h1, h2⟩ := h
  refine ⟨by simpa using h1, fun k hk => ⟨?_, by rw [World.frozen?_setCell]; exact (h2 k (by simpa using hk)).2⟩⟩
  by_cases e : k = j
  · subst e
    rw [World.cell?_setCell_same' _ _ _ (by rw [(h2 k hj).1]; rfl)]
    congr 2
    rw [List.getD_eq_getElem?_getD, List.getElem?_set, if_pos rfl, if_pos hj]; rfl
  · rw [World.cell?_setCell_other _ _ _ _ (fun x => e (by injection x with _ x; exact x.symm))]
    rw [(h2 k (by simpa using hk)).1]
    congr 2
    rw [List.getD_eq_getElem?_getD, List.getD_eq_getElem?_getD, List.getElem?_set, if_neg (fun x => e x.symm)]
theorem Bl.other (h : Bl w g L) (p : Addr) (v : Value) (hp : p.block ≠ g) : Bl (w.setCell p v) g L := h.keep (Below.heap_setCell _ _ _ _ (fun e => hp e.symm))
end

/-- The first k answers of f, the others no. -/
def prt (f : Nat → Bool) (n k : Nat) : List Bool := (List.range n).map (fun j => decide (j < k) && f j)
theorem prt_len (f : Nat → Bool) (n k : Nat) : (prt f n k).length = n := by simp [prt]
theorem prt_zero (f : Nat → Bool) (n : Nat) : prt f n 0 = List.replicate n false := by
  refine List.ext_getElem (by simp [prt]) fun i h1 h2 => ?_
  simp [prt]
theorem prt_all (f : Nat → Bool) (n : Nat) : prt f n n = (List.range n).map f := by
  refine List.ext_getElem (by simp [prt]) fun i h1 h2 => ?_
  simp [prt] at h1 ⊢
  intro _; exact h1
theorem prt_getD (f : Nat → Bool) {n k j : Nat} (hj : j < n) (hk : j < k) : (prt f n k).getD j false = f j := by
  rw [List.getD_eq_getElem?_getD, List.getElem?_eq_getElem (by rw [prt_len]; exact hj)]
  simp [prt, hk]
theorem prt_set (f : Nat → Bool) {n k : Nat} (hk : k < n) : (prt f n k).set k (f k) = prt f n (k + 1) := by
  refine List.ext_getElem (by simp [prt]) fun i h1 h2 => ?_
  rw [List.getElem_set]
  simp only [prt, List.getElem_map, List.getElem_range]
  by_cases e : k = i
  · subst e; rw [if_pos rfl, decide_eq_true (Nat.lt_succ_self _), Bool.true_and]
  · rw [if_neg e]
    congr 1
    exact decide_eq_decide.2 ⟨fun h => by omega, fun h => by omega⟩
theorem prt_skip (f : Nat → Bool) {n k : Nat} (hf : f k = false) : prt f n (k + 1) = prt f n k := by
  refine List.ext_getElem (by simp [prt]) fun i h1 h2 => ?_
  simp only [prt, List.getElem_map, List.getElem_range]
  by_cases e : i = k
  · subst e; rw [hf, Bool.and_false, Bool.and_false]
  · congr 1
    exact decide_eq_decide.2 ⟨fun h => by omega, fun h => by omega⟩

theorem boolInfo : (Tryd.prog.info? 4).map (fun i => (i.zero, i.size, i.bytes)) = some (some (.bool false), 1, 1) := by kernel_rfl

theorem cell_made (w : World) (vs : Array Value) (e : TypeId) (j : Nat) : (w.alloc (.cells vs e)).cell? ⟨w.heap.size, j, none⟩ = vs[j]? ∧ (w.alloc (.cells vs e)).frozen? ⟨w.heap.size, j, none⟩ = false := by
  constructor <;> simp

/-- make, of bools. -/
theorem wpList_make_bl {P : Program} (w : World) {ops : Array Oper} {rest : List Oper} {o : Oper} {a : Act} {Q : Exit → Act → World → Prop} (hgd : o.guard = none) (l c : Operand) (t : TypeId) (hop : o.op = Op.makeSlice t l c)
    (e : TypeId) (i : TypeInfo) (ht : P.underlying t = some (.slice e)) (hi : P.info? e = some i) (hz : i.zero = some (.bool false)) (hsize : i.size = 1) (hb16 : i.bytes ≤ 16)
    (kl kc : IntKind) (L C : Int) (n : Nat) (hl : a.eval l = .int kl L) (hc : a.eval c = .int kc C) (hL : L = (n : Int)) (hC : C = (n : Int)) (hm : n ≤ 1000000)
    (h : ∀ w', Hid (Bl w' w.heap.size (List.replicate n false)) → Hid (Below w.heap.size w w') → Hid (w'.heap.size = w.heap.size + 1) → wpList P ops Q rest (a.put o.dst (.slice (some ⟨w.heap.size, 0, none⟩) n n)) w') : wpList P ops Q (o :: rest) a w := by
  subst hL hC
  have hbm : i.bytes * n ≤ 16 * 1000000 := Nat.mul_le_mul hb16 hm
  have hrun := run_make (P := P) w t e i (.bool false) ht hi hz kl kc (n : Int) (n : Int) (by omega) (by omega) (by
    have h : ((i.bytes * n : Nat) : Int) ≤ 281474976710656 := by omega
    rwa [Int.natCast_mul] at h) (by omega)
  have hzc : (Value.bool false).cells = #[.bool false] := rfl
  rw [hzc, hsize, Nat.mul_one, Int.toNat_natCast] at hrun
  have hr : madeCells #[Value.bool false] n = (List.replicate n (Value.bool false)).toArray := by rw [← toList_madeCells_one, Array.toArray_toList]
  rw [hr] at hrun
  refine wpList_plain hgd fun K hK' => ?_
  unfold Oper.wp
  simp [execOp, hop, hl, hc, hrun, Result.andThen]
  refine hK' _ _ (h _ ⟨by simp, fun j hj => ?_⟩ ((Below.refl _ _).alloc (Nat.le_refl _) _) (by show _ = _; simp))
  rw [List.length_replicate] at hj
  obtain ⟨h1, h2⟩ := cell_made w (Array.replicate n (Value.bool false)) e j
  refine ⟨?_, h2⟩
  rw [h1, Array.getElem?_replicate, if_pos hj, List.getD_eq_getElem?_getD, List.getElem?_replicate, if_pos hj]; rfl

theorem below_drewN {B : Nat} {a w : World} (h : Below B a w) (n : Nat) : Below B a (w.drewN n) := ⟨h.os, h.tape, h.output, h.size, h.block⟩

/-- internal/bytealg.MaxLen: some int. -/
def Mx (w : World) : Prop := ∃ m, w.cell? ⟨0, 0, none⟩ = some (.int .i64 m)
theorem cell_lt {w : World} {a : Addr} {v : Value} (h : w.cell? a = some v) : a.block < w.heap.size := by
  rcases Nat.lt_or_ge a.block w.heap.size with hl | hl
  · exact hl
  · exfalso
    have : w.heap[a.block]? = none := Array.getElem?_eq_none hl
    simp [World.cell?, this] at h
theorem Mx.lt {w : World} (h : Mx w) : 0 < w.heap.size := by
  obtain ⟨m, h⟩ := h
  exact cell_lt h
theorem Mx.below {w w' : World} {B : Nat} (h : Mx w) (hb : Below B w w') (h0 : 0 < B) : Mx w' := by
  obtain ⟨m, h⟩ := h
  exact ⟨m, (hb.cell (p := ⟨0, 0, none⟩) h0).trans h⟩
theorem Mx.later {w w' : World} (h : Mx w) (hb : Below w.heap.size w w') : Mx w' := h.below hb h.lt
theorem Mx.alloc {w : World} (h : Mx w) (o : Obj) : Mx (w.alloc o) := h.later ((Below.refl _ _).alloc (Nat.le_refl _) _)
theorem Mx.drewN {w : World} (h : Mx w) (n : Nat) : Mx (w.drewN n) := h
end Gl
end Go.Proofs.YtffmnobcdhgfdaaDoor
