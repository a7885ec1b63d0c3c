/-
  Layer 7 (disk): the walks of the document's pass, Append, Sync, Rename, Remove.
-/
import Derived.Test.YteikfdijcepimaaDE
namespace Go.Proofs.Yteikfdijcepimaa
namespace Dk
open Go.RowKit Go.ChangeShapes Kr

set_option maxRecDepth 100000 in
set_option maxHeartbeats 4000000 in
theorem pass_any (A A' : Option Addr) (n cap m cap' : Nat) (left : Int) (w : World) (hl : -1 ≤ left) (hh : left ≤ 9223372036854775807) :
    Calls Try.prog 39 #[dval A n cap left, .slice A' m cap'] w fun e w' =>
      e = .returned (.tuple #[if left = 0 then dval A n cap left else dval A' m cap' (if 0 < left then left - 1 else left), .int .i64 (if left = 0 then 18 else 0)]) ∧ Below w.heap.size w w' := by
  by_cases h0 : left = 0
  · rw [if_pos h0, if_pos h0]
    subst h0
    go_enter Try.func39, Try.ntmps39
    go_wp2
    go_returns
    exact ⟨rfl, ((Below.refl _ _).alloc (Nat.le_refl _) _).alloc (by simp) _⟩
  · rw [if_neg h0, if_neg h0]
    have h1 : (left == 0) = false := beq_eq_false_iff_ne.2 h0
    by_cases hp : 0 < left
    · rw [if_pos hp]
      go_enter Try.func39, Try.ntmps39
      go_wp2
      go_returns
      exact ⟨rfl, ((Below.refl _ _).alloc (Nat.le_refl _) _).alloc (by simp) _⟩
    · rw [if_neg hp]
      go_enter Try.func39, Try.ntmps39
      go_wp2
      go_returns
      exact ⟨rfl, ((Below.refl _ _).alloc (Nat.le_refl _) _).alloc (by simp) _⟩
end Dk
end Go.Proofs.Yteikfdijcepimaa
