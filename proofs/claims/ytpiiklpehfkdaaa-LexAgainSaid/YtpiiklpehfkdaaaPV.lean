/-
  Layer 9 (lex): what the rows' arguments read as; the landed lexer keeps the contract.
-/
import Derived.Test.YtpiiklpehfkdaaaRows
import Derived.Test.YtpiiklpehfkdaaaPG
import Derived.Test.YtpiiklpehfkdaaaPH
import Derived.Test.YtpiiklpehfkdaaaNI
import Derived.WalkKit
import Derived.ProofKit
import Derived.OpenShut
import Derived.SizedLaws
import Derived.SliceStrings
import Derived.Carry
import Derived.Deep.DeepHandedRow
import Derived.MakeChecks
namespace Go.Proofs.Ytpiiklpehfkdaaa
namespace Lx
open Go.ChangeShapes Go.WideShapes Go.ChangeAt Go.RowKit Kr

theorem lxkeeps : LxKeeps := ⟨all_any, quote_any⟩
theorem own : ownKnob Try.prog.godebug = none := by kernel_rfl
theorem laidOut : laidOutB Try.prog = true := by kernel_rfl
theorem wf_u8 {z : Int} (h : (Lit.int .u8 z).wf = true) : 0 ≤ z ∧ z ≤ 255 := by
  have h1 : IntKind.u8.min = 0 := rfl
  have h2 : IntKind.u8.max = 255 := rfl
  simp only [Lit.wf, Bool.and_eq_true, decide_eq_true_eq] at h
  omega
theorem u8_nat {z : Int} (h : (Lit.int .u8 z).wf = true) : ∃ n : Nat, z = n ∧ n < 256 := ⟨z.toNat, by have := wf_u8 h; omega, by have := wf_u8 h; omega⟩
end Lx
end Go.Proofs.Ytpiiklpehfkdaaa
