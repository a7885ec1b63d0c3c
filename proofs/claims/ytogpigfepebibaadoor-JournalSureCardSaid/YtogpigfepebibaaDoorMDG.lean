/-
  Layer 7 (disk): what the document's writing calls answer; the walk of its Sync. Layer 7 (disk): the walk of the document's Append.
-/
import Derived.Test.YtogpigfepebibaaDoorMDE
import Derived.Test.YtogpigfepebibaaDoorMKR
import Derived.Deep.RegionHeld3
namespace Go.Proofs.YtogpigfepebibaaDoor
namespace Dk
open Go.RowKit Go.ChangeShapes Kr

theorem emptyB (p : ByteArray) : p.toList.isEmpty = decide (p = nul) := by
  rw [ByteArray.toList_eq]
  by_cases h : p = nul
  · subst h; rfl
  · rw [decide_eq_false h, List.isEmpty_eq_false_iff]
    exact fun e => h (ba_eq e)
abbrev zdisk : List Value := [.slice none 0 0, .int .i64 0]
abbrev ldisk (A : Option Addr) (n cap : Nat) (left : Int) : List Value := [.slice A n cap, .int .i64 left]
theorem disk_one (A : Option Addr) (n cap : Nat) (left : Int) : (ldisk A n cap left).toArray.all (·.oneCell') = true := by simp [ldisk, Value.oneCell']
/-- Another disk, and an error's number: its files lie where they did, below B0, or in blocks from base on. -/
def RefAt (B0 base : Nat) (A : Option Addr) (D : DD × Nat) (e : Ending) (w' : World) : Prop :=
  ∃ A' m cap', e = .returned (.tuple #[dval A' m cap' D.1.left, .int .i64 (D.2 : Int)]) ∧ D.1.files.length = m ∧ ((A' = A ∧ FRow w' B0 A' D.1.files) ∨ ((∀ q, A' = some q → base ≤ q.block ∧ q.block < w'.heap.size) ∧ FRow w' w'.heap.size A' D.1.files))
/-- What a writing call of the document's answers. -/
def RefAns (w : World) (A : Option Addr) (D : DD × Nat) (e : Ending) (w' : World) : Prop := RefAt w.heap.size w.heap.size A D e w' ∧ Below w.heap.size w w'
theorem ans_same {w w' : World} {A : Option Addr} {n cap e : Nat} {l : List FF} {left : Int} (hn : l.length = n) (hx : FRow w w.heap.size A l) (hb : Below w.heap.size w w') :
    RefAns w A (⟨l, left⟩, e) (.returned (.tuple #[dval A n cap left, .int .i64 (e : Int)])) w' := ⟨⟨A, n, cap, rfl, hn, .inl ⟨rfl, hx.below hb (Nat.le_refl _)⟩⟩, hb⟩
theorem far2 (W : World) (b : Nat) (u v : Value) (p : Addr) (h : b ≠ p.block) : ((W.setCell ⟨b, 0, none⟩ u).setCell ⟨b, 1, none⟩ v).cell? p = W.cell? p :=
  (World.cell?_setCell_far _ _ _ _ h).trans (World.cell?_setCell_far _ _ _ _ h)
/-- .. and the answer laid into block b. -/
theorem RefAt.laid {B0 base b : Nat} {A : Option Addr} {D : DD × Nat} {e : Ending} {w' : World} (h : RefAt B0 base A D e w') (h0 : B0 ≤ b) (h1 : b < base) (u v : Value) :
    RefAt B0 B0 A D e ((w'.setCell ⟨b, 0, none⟩ u).setCell ⟨b, 1, none⟩ v) := by
  obtain ⟨A', m, cap', he, hl, ⟨e1, hx⟩ | ⟨hf, hx⟩⟩ := h
  · exact ⟨A', m, cap', he, hl, .inl ⟨e1, hx.keep fun p hp => far2 _ _ _ _ _ (by omega)⟩⟩
  · refine ⟨A', m, cap', he, hl, .inr ⟨fun q hq => by have := hf q hq; exact ⟨by omega, by simp; omega⟩, fun j x hj => ?_⟩⟩
    obtain ⟨b', o', h2, h3, h4⟩ := hx j x hj
    have h5 : base ≤ b' := (hf _ h2).1
    exact ⟨b', o', h2, by simpa using h3, fun i v hv => (far2 _ _ _ _ ⟨b', _, none⟩ (by show b ≠ b'; omega)).trans (h4 i v hv)⟩
/-- The cells of a disk, and of a file, that a call has laid. -/
abbrev SitC (x y : Nat) (A : Option Addr) (n cap : Nat) (left : Int) (f : FF) (W : World) : Prop :=
  W.cell? ⟨x, 0, none⟩ = some (.slice A n cap) ∧ W.cell? ⟨x, 1, none⟩ = some (.int .i64 left) ∧ W.cell? ⟨y, 0, none⟩ = some (.string f.name) ∧ W.cell? ⟨y, 1, none⟩ = some (.string f.data) ∧ W.cell? ⟨y, 2, none⟩ = some (.int .i64 (f.sure : Int))
theorem SitC.laid {x y b n cap : Nat} {A : Option Addr} {left : Int} {f : FF} {W : World} (h : SitC x y A n cap left f W) (hx : b ≠ x) (hy : b ≠ y) (u v : Value) : SitC x y A n cap left f ((W.setCell ⟨b, 0, none⟩ u).setCell ⟨b, 1, none⟩ v) :=
  ⟨(far2 _ _ _ _ ⟨x, 0, none⟩ hx).trans h.1, (far2 _ _ _ _ ⟨x, 1, none⟩ hx).trans h.2.1, (far2 _ _ _ _ ⟨y, 0, none⟩ hy).trans h.2.2.1, (far2 _ _ _ _ ⟨y, 1, none⟩ hy).trans h.2.2.2.1, (far2 _ _ _ _ ⟨y, 2, none⟩ hy).trans h.2.2.2.2⟩
theorem SitC.below {x y n cap : Nat} {A : Option Addr} {left : Int} {f : FF} {W W' : World} (h : SitC x y A n cap left f W) (hb : Below W.heap.size W W') (hx : x < W.heap.size) (hy : y < W.heap.size) : SitC x y A n cap left f W' :=
  ⟨(hb.cell (p := ⟨x, 0, none⟩) hx).trans h.1, (hb.cell (p := ⟨x, 1, none⟩) hx).trans h.2.1, (hb.cell (p := ⟨y, 0, none⟩) hy).trans h.2.2.1, (hb.cell (p := ⟨y, 1, none⟩) hy).trans h.2.2.2.1, (hb.cell (p := ⟨y, 2, none⟩) hy).trans h.2.2.2.2⟩
theorem SitC.made {x n cap : Nat} {A : Option Addr} {left : Int} (f : FF) {W : World} {T : TypeId} (h0 : W.cell? ⟨x, 0, none⟩ = some (.slice A n cap)) (h1 : W.cell? ⟨x, 1, none⟩ = some (.int .i64 left)) (hx : x < W.heap.size) : SitC x W.heap.size A n cap left f (W.alloc (.cells (encF f).toArray T)) :=
  ⟨(World.cell?_alloc_lt W _ ⟨x, 0, none⟩ hx).trans h0, (World.cell?_alloc_lt W _ ⟨x, 1, none⟩ hx).trans h1, new_cell W (encF f) _ rfl rfl, new_cell W (encF f) _ rfl rfl, new_cell W (encF f) _ rfl rfl⟩

end Dk
end Go.Proofs.YtogpigfepebibaaDoor

namespace Go.Proofs.YtogpigfepebibaaDoor
namespace Dk
open Go.RowKit Go.ChangeShapes Kr

theorem file_ones (f : FF) : (encF f).toArray.all (·.oneCell') = true := by simp [encF, Value.oneCell']
theorem row_sit {W : World} {x g n cap : Nat} {A : Option Addr} {left : Int} {f : FF} {T : TypeId} (h0 : W.cell? ⟨x, 0, none⟩ = some (.slice A n cap)) (h1 : W.cell? ⟨x, 1, none⟩ = some (.int .i64 left)) (h : Row W g T (encF f)) : SitC x g A n cap left f W :=
  ⟨h0, h1, h.cell 0, h.cell 1, h.cell 2⟩
end Dk
end Go.Proofs.YtogpigfepebibaaDoor
