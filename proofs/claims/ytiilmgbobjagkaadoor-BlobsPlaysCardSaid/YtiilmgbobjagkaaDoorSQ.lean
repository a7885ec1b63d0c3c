/-
  Layer 2 (sha): digests held against each other.
-/
import Derived.Test.YtiilmgbobjagkaaDoorSI
import Derived.Stop.BytesEq
namespace Go.Proofs.YtiilmgbobjagkaaDoor
namespace Sh
open Go.RowKit

theorem eq_same (l : Bs) (hl : l.length = 32) (W : World) : (binOp .eql 29 (.agg (bvals l).toArray) (.agg (bvals l).toArray)).run Tryd.prog W = .ok (.bool true) W := by
  have h := run_eql_bytes (P := Tryd.prog) W 29 5 32 Tryd.underlying29 Tryd.underlying5 (fun w => by kernel_rfl) l l hl hl
  rw [beq_self_eq_true] at h
  exact h
theorem neq_same (l : Bs) (hl : l.length = 32) (W : World) : (binOp .neq 29 (.agg (bvals l).toArray) (.agg (bvals l).toArray)).run Tryd.prog W = .ok (.bool false) W := by
  have h := run_equalIn_bytes (P := Tryd.prog) W 9998 29 5 32 Tryd.underlying29 Tryd.underlying5 (fun w => by kernel_rfl) l l hl hl
  rw [beq_self_eq_true] at h
  have e : (binOp .neq 29 (.agg (bvals l).toArray) (.agg (bvals l).toArray)).run Tryd.prog W = ((Op.equalIn 10000 29 (.agg (bvals l).toArray) (.agg (bvals l).toArray)).run Tryd.prog W).andThen fun b w' => .ok (.bool (!b)) w' := run_neq_struct (P := Tryd.prog) W 29 (bvals l).toArray (bvals l).toArray
  rw [e]
  have h' : (Op.equalIn 10000 29 (.agg (bvals l).toArray) (.agg (bvals l).toArray)).run Tryd.prog W = .ok true W := h
  rw [h']
  rfl
theorem no_guard : Tryd.prog.eqGuardType Tryd.prog.depth 29 = false := by kernel_rfl

end Sh
end Go.Proofs.YtiilmgbobjagkaaDoor
