/-
  Layer 2 (sha): digests held against each other.
-/
import Derived.Test.YtkldgfdfpanelaaDoorSL
import Derived.Stop.BytesEq
namespace Go.Proofs.YtkldgfdfpanelaaDoor
namespace Sh
open Go.RowKit

theorem eq_same (l : Bs) (hl : l.length = 32) (W : World) : (binOp .eql 26 (.agg (bvals l).toArray) (.agg (bvals l).toArray)).run Tryd.prog W = .ok (.bool true) W := by
  have h := run_eql_bytes (P := Tryd.prog) W 26 5 32 Tryd.underlying26 Tryd.underlying5 (fun w => by kernel_rfl) l l hl hl
  rw [beq_self_eq_true] at h
  exact h
theorem no_guard : Tryd.prog.eqGuardType Tryd.prog.depth 26 = false := by kernel_rfl

end Sh
end Go.Proofs.YtkldgfdfpanelaaDoor
