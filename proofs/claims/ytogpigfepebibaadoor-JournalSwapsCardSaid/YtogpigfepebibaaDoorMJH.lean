/-
  Layer 8 (journal): the walk of the document's Add. Layer 8 (journal): the walk of the document's Swap.
-/
import Derived.Test.YtogpigfepebibaaDoorMJE
namespace Go.Proofs.YtogpigfepebibaaDoor
namespace Jl
open Go.RowKit Go.ChangeShapes Kr Dk

/-- What Add and Swap answer: the disk, whether the journal is broken, the error's number. -/
def RefJ (w : World) (A : Option Addr) (nm : ByteArray) (is : Bool) (R : DD × Bool × Nat) (e : Ending) (w' : World) : Prop :=
  ∃ A' m cap', e = .returned (.tuple #[jval A' m cap' R.1.left nm is R.2.1, .int .i64 (R.2.2 : Int)]) ∧ RefTo w.heap.size w.heap.size A R.1.files A' m w' ∧ Below w.heap.size w w'
/-- Nothing is done. -/
def Idle (is br : Bool) : Prop := is = false ∨ br = true
instance (is br : Bool) : Decidable (Idle is br) := by unfold Idle; infer_instance
def brokeV (R : DD × Nat) : DD × Bool × Nat := (R.1, R.2 != 0, R.2)
def addJ (H : Bs → Bs) (is br : Bool) (D : DD) (p r : ByteArray) : DD × Bool × Nat := if Idle is br then (D, br, 19) else if (frameV H r).2 ≠ 0 then (D, br, (frameV H r).2) else brokeV (putV D p (frameV H r).1)
def swapJ (H : Bs → Bs) (is br : Bool) (D : DD) (p : ByteArray) (l : List ByteArray) : DD × Bool × Nat := if Idle is br then (D, br, 19) else if (framesV H l).2 ≠ 0 then (D, br, (framesV H l).2) else brokeV (restV D p (framesV H l).1)
theorem RefTo.back {B0 base m : Nat} {A A' : Option Addr} {l : List FF} {W : World} (h : RefTo B0 base A l A' m W) (hB : B0 ≤ base) : RefTo B0 B0 A l A' m W := ⟨h.1, h.2.imp id (fun h => ⟨fun q hq => ⟨Nat.le_trans hB (h.1 q hq).1, (h.1 q hq).2⟩, h.2⟩)⟩
theorem turn_set1 (w : World) (g o : Nat) (u : Value) : Turn g w (w.setCell ⟨g, o, none⟩ u) := by
  have hb := (Below.refl 0 w).setCell (p := ⟨g, o, none⟩) (Nat.zero_le _) u
  exact ⟨hb.os, hb.tape, hb.output, by simp, fun k hk => Below.heap_setCell _ ⟨g, o, none⟩ u k hk⟩
theorem turn_trans {g : Nat} {w w' w2 : World} (h : Turn g w w') (h2 : Turn g w' w2) : Turn g w w2 :=
  ⟨h2.1.trans h.1, h2.2.1.trans h.2.1, h2.2.2.1.trans h.2.2.1, h2.2.2.2.1.trans h.2.2.2.1, fun k hk => (h2.2.2.2.2 k hk).trans (h.2.2.2.2 k hk)⟩
theorem turn_set3 (w : World) (g : Nat) (u v x : Value) : Turn g w (((w.setCell ⟨g, 0, none⟩ u).setCell ⟨g, 1, none⟩ v).setCell ⟨g, 4, none⟩ x) := turn_trans (turn_set2 w g u v) (turn_set1 _ g 4 x)
theorem ne_cast (k : Nat) : ((k : Int) != 0) = (k != 0) := by
  by_cases h : k = 0
  · subst h; rfl
  · rw [ne_zero h]; simp [h]

end Jl
end Go.Proofs.YtogpigfepebibaaDoor

namespace Go.Proofs.YtogpigfepebibaaDoor
namespace Jl
open Go.RowKit Go.ChangeShapes Kr Dk

end Jl
end Go.Proofs.YtogpigfepebibaaDoor
