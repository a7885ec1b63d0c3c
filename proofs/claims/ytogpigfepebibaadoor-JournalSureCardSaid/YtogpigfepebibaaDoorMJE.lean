/-
  Layer 8 (journal): the document's disks from call to call; the walk of its clear. Layer 8 (journal): the walk of the document's anew. Layer 8 (journal): the walk of the document's Open.
-/
import Derived.Test.YtogpigfepebibaaDoorMJD
import Derived.Test.YtogpigfepebibaaDoorMDI
import Derived.Test.YtogpigfepebibaaDoorMDG
import Derived.Test.YtogpigfepebibaaDoorMDO
import Derived.Laws.ResultCell
namespace Go.Proofs.YtogpigfepebibaaDoor
namespace Jl
open Go.RowKit Go.ChangeShapes Kr Dk

/-- Files in hand: they lie where they did, below B0, or in blocks from base on. -/
def RefTo (B0 base : Nat) (A : Option Addr) (l : List FF) (A' : Option Addr) (m : Nat) (W : World) : Prop :=
  l.length = m ∧ ((A' = A ∧ FRow W B0 A' l) ∨ ((∀ q, A' = some q → base ≤ q.block ∧ q.block < W.heap.size) ∧ FRow W W.heap.size A' l))
section
variable {B0 base x m : Nat} {A A' : Option Addr} {l : List FF} {W W' : World}
theorem RefTo.start (hx : FRow W B0 A l) (hn : l.length = m) : RefTo B0 base A l A m W := ⟨hn, .inl ⟨rfl, hx⟩⟩
theorem RefTo.row (h : RefTo B0 base A l A' m W) (hB : B0 ≤ W.heap.size) : FRow W W.heap.size A' l := h.2.elim (fun h => h.2.more hB) (fun h => h.2)
theorem RefTo.below (h : RefTo B0 base A l A' m W) (hb : Below W.heap.size W W') (hB : B0 ≤ W.heap.size) : RefTo B0 base A l A' m W' :=
  ⟨h.1, h.2.imp (fun h => ⟨h.1, h.2.below hb hB⟩) (fun h => ⟨fun q hq => ⟨(h.1 q hq).1, Nat.lt_of_lt_of_le (h.1 q hq).2 hb.size⟩, h.2.later hb⟩)⟩
theorem turn_cell (ht : Turn x W W') (p : Addr) (h : p.block ≠ x) : W'.cell? p = W.cell? p := by
  unfold World.cell?
  rw [ht.2.2.2.2 _ h]
theorem RefTo.turn (h : RefTo B0 base A l A' m W) (ht : Turn x W W') (h0 : B0 ≤ x) (h1 : x < base) : RefTo B0 base A l A' m W' := by
  refine ⟨h.1, h.2.imp (fun h => ⟨h.1, h.2.keep fun p hp => turn_cell ht p (by omega)⟩) (fun h => ⟨fun q hq => by have := ht.2.2.2.1; have := h.1 q hq; omega, fun j y hy => ?_⟩)⟩
  obtain ⟨b', o', h2, h3, h4⟩ := h.2 j y hy
  have h5 : base ≤ b' := (h.1 _ h2).1
  exact ⟨b', o', h2, by rw [ht.2.2.2.1]; exact h3, fun i v hv => (turn_cell ht ⟨b', _, none⟩ (by show b' ≠ x; omega)).trans (h4 i v hv)⟩
theorem row_low {w : World} {B B' : Nat} (h : FRow w B A l) (hA : ∀ q, A = some q → q.block < B') : FRow w B' A l := fun j y hy => by
  obtain ⟨b, o, h1, _, h3⟩ := h j y hy
  exact ⟨b, o, h1, hA _ h1, h3⟩
theorem RefTo.next {D : DD × Nat} {e : Ending} (h : RefTo B0 base A l A' m W) (hA : ∀ q, A = some q → q.block < B0) (hb : base ≤ W.heap.size) (hr : RefAns W A' D e W') :
    ∃ A2 m2 cap2, e = .returned (.tuple #[dval A2 m2 cap2 D.1.left, .int .i64 (D.2 : Int)]) ∧ RefTo B0 base A D.1.files A2 m2 W' ∧ Below W.heap.size W W' := by
  obtain ⟨⟨A2, m2, cap2, he, hl, h3⟩, hbl⟩ := hr
  refine ⟨A2, m2, cap2, he, ⟨hl, ?_⟩, hbl⟩
  rcases h3 with ⟨rfl, hx⟩ | ⟨hf, hx⟩
  · rcases h.2 with ⟨rfl, _⟩ | ⟨hf, _⟩
    · exact .inl ⟨rfl, row_low hx hA⟩
    · exact .inr ⟨fun q hq => ⟨(hf q hq).1, Nat.lt_of_lt_of_le (hf q hq).2 hbl.size⟩, hx.more hbl.size⟩
  · exact .inr ⟨fun q hq => ⟨Nat.le_trans hb (hf q hq).1, (hf q hq).2⟩, hx⟩
theorem RefTo.ans {D : DD × Nat} {w : World} {cap : Nat} (h : RefTo w.heap.size base A D.1.files A' m W) (hB : w.heap.size ≤ base) (hb : Below w.heap.size w W) : RefAns w A D (.returned (.tuple #[dval A' m cap D.1.left, .int .i64 (D.2 : Int)])) W :=
  ⟨⟨A', m, cap, rfl, h.1, h.2.imp id (fun h => ⟨fun q hq => ⟨Nat.le_trans hB (h.1 q hq).1, (h.1 q hq).2⟩, h.2⟩)⟩, hb⟩
end

end Jl
end Go.Proofs.YtogpigfepebibaaDoor

namespace Go.Proofs.YtogpigfepebibaaDoor
namespace Jl
open Go.RowKit Go.ChangeShapes Kr Dk

theorem ne_zero {k : Nat} (h : k ≠ 0) : ((k : Int) != 0) = true := by simp; omega
theorem is_zero {k : Nat} (h : k = 0) : ((k : Int) != 0) = false := by subst h; rfl

end Jl
end Go.Proofs.YtogpigfepebibaaDoor

namespace Go.Proofs.YtogpigfepebibaaDoor
namespace Jl
open Go.RowKit Go.ChangeShapes Kr Dk

/-- A journal of the document's: five cells. -/
abbrev lj (A : Option Addr) (n cap : Nat) (left : Int) (nm : ByteArray) (is br : Bool) : List Value := [.slice A n cap, .int .i64 left, .string nm, .bool is, .bool br]
abbrev jval (A : Option Addr) (n cap : Nat) (left : Int) (nm : ByteArray) (is br : Bool) : Value := .agg (lj A n cap left nm is br).toArray
abbrev zj : List Value := lj none 0 0 0 nul false false
theorem j_one (A : Option Addr) (n cap : Nat) (left : Int) (nm : ByteArray) (is br : Bool) : (lj A n cap left nm is br).toArray.all (·.oneCell') = true := by simp [lj, Value.oneCell']
theorem results_cell_tmp2a {fn : Func} {p u v : Tmp} {ty : TypeId} (h : fn.results = #[.cell p ty, .tmp u, .tmp v]) (tmps : Array Value) (P : Program) (w : World) :
    (results fn tmps).run P w =
      ((asAddr (tmps.getD p undef)).run P w).andThen fun a w₁ => ((loadVar ty a).run P w₁).andThen fun x w₂ => .ok (.tuple #[x, tmps.getD u undef, tmps.getD v undef]) w₂ := by
  simp only [results, h]
  simp [Sem.run_bind, Result.andThen]
/-- A struct that lies in a cell, and two results beside it. -/
theorem results_cell_tmp2 {P : Program} {fn : Func} {p u v : Tmp} {ty : TypeId} (h : fn.results = #[.cell p ty, .tmp u, .tmp v]) (tmps : Array Value) (w : World) (g : Nat) (t : TypeId) (L : List Value) (d : TypeDesc)
    (hp : tmps.getD p undef = .pointer (some ⟨g, 0, none⟩)) (hg : Row w g t L) (hu : P.underlying ty = some d) (hd : (match d with | .struct _ | .array _ _ => true | _ => false) = true) (hi : (P.info? ty).map (·.size) = some L.length) :
    (results fn tmps).run P w = .ok (.tuple #[.agg L.toArray, tmps.getD u undef, tmps.getD v undef]) w := by
  have hl := run_loadVar_row (P := P) w g t ty L.toArray (0, 0) d hg hu hd (by simpa using hi)
  rw [results_cell_tmp2a h, hp]
  simp [asAddr, Result.andThen, hl]
/-- A row that lies from block B on. -/
def From (A : Option Addr) (B : Nat) : Prop := ∀ q, A = some q → B ≤ q.block
theorem from_at {B g o : Nat} (h : B ≤ g) : From (some ⟨g, o, none⟩) B := fun q hq => by
  injection hq with hq
  subst hq
  exact h
theorem From.less {A : Option Addr} {B B' : Nat} (h : From A B) (hB : B' ≤ B) : From A B' := fun q hq => Nat.le_trans hB (h q hq)
theorem owns_from {α : Type} {enc : α → List Value} {k : Nat} {T : TypeId} {w : World} {base n cap : Nat} {A : Option Addr} {t : List α} (h : OwnsK enc k T w base (.slice A n cap) t) : From A base := fun q hq => by
  rcases h.2 with ⟨hv, _⟩ | ⟨g, c, cur, hv, hg, _⟩
  · injection hv with hv; rw [hq] at hv; cases hv
  · injection hv with hv
    rw [hq] at hv
    injection hv with hv
    rw [hv]
    exact hg
/-- What Open answers. -/
def OpenAns (w : World) (A : Option Addr) (p : ByteArray) (O : Op) (e : Ending) (w' : World) : Prop :=
  ∃ A' m cap' Ar capr, e = .returned (.tuple #[jval A' m cap' O.disk.left (if O.is = true then p else nul) O.is false, .slice Ar O.recs.length capr, .int .i64 (O.err : Int)]) ∧ RefTo w.heap.size w.heap.size A O.disk.files A' m w' ∧ NRow w' w'.heap.size Ar O.recs ∧ From Ar w.heap.size ∧ Below w.heap.size w w'
theorem RefTo.lies {B0 base m : Nat} {A A' : Option Addr} {l : List FF} {W : World} (h : RefTo B0 base A l A' m W) (hA : ∀ q, A = some q → q.block < B0) (hB : B0 ≤ W.heap.size) : ∀ q, A' = some q → q.block < W.heap.size := fun q hq => by
  rcases h.2 with ⟨h1, _⟩ | ⟨h1, _⟩
  · rw [h1] at hq; exact Nat.lt_of_lt_of_le (hA q hq) hB
  · exact (h1 q hq).2
theorem read_le {M : Nat} {D : DD} (h : Fit M D) (p : ByteArray) : (readV D p).1.size ≤ M := by
  unfold readV
  split
  · exact Nat.zero_le _
  · rename_i f hf
    exact h.size f (at_mem hf)
theorem fit_clear {M : Nat} {D : DD} (h : Fit M D) (p : ByteArray) : Fit M (clearV D p).1 := by
  unfold clearV
  split
  · exact h
  · exact fit_remove h _
theorem turn_set2 (w : World) (g : Nat) (u v : Value) : Turn g w ((w.setCell ⟨g, 0, none⟩ u).setCell ⟨g, 1, none⟩ v) := by
  have hb := ((Below.refl 0 w).setCell (p := ⟨g, 0, none⟩) (Nat.zero_le _) u).setCell (p := ⟨g, 1, none⟩) (Nat.zero_le _) v
  refine ⟨hb.os, hb.tape, hb.output, by simp, fun k hk => ?_⟩
  exact (Below.heap_setCell _ ⟨g, 1, none⟩ v k hk).trans (Below.heap_setCell _ ⟨g, 0, none⟩ u k hk)
theorem fit_anew {M : Nat} {D : DD} (h : Fit M D) (p x : ByteArray) : Fit (M + x.size + 1) (anewV D p x).1 := by
  have h1 := fit_append h (nw p) x
  unfold anewV
  split
  · exact h1
  · split
    · exact fit_sync h1 _
    · exact fit_rename (fit_sync h1 _) _ _

end Jl
end Go.Proofs.YtogpigfepebibaaDoor
