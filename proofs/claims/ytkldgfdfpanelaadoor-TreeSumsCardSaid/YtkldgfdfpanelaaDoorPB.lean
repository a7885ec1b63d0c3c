/-
  Layer 1 (pack): slices of strings in memory, and the walks of long and Same.
-/
import Derived.Test.YtkldgfdfpanelaaDoorPA
import Derived.Below
import Derived.Deep.Draws
import Derived.Laws.OwnMore
import Derived.DataElems
import Derived.ChangeSlices
namespace Go.Proofs.YtkldgfdfpanelaaDoor
namespace Pk
open Go.RowKit Go.ChangeShapes

/-- A slice's address under which strings stand, below block B: the rows of bytes xs. -/
def SRow (w : World) (B : Nat) (A : Option Addr) (xs : List Bs) : Prop :=
  ∀ j x, xs[j]? = some x → ∃ b o s, A = some ⟨b, o, none⟩ ∧ b < B ∧ s.data.toList = x ∧ w.cell? ⟨b, o + j, none⟩ = some (.string s)

theorem SRow.none_ (w : World) (B : Nat) (A : Option Addr) : SRow w B A [] := fun j x h => by simp at h
theorem SRow.keep {w w' : World} {B : Nat} {A : Option Addr} {xs : List Bs} (h : SRow w B A xs) (hk : ∀ p : Addr, p.block < B → w'.cell? p = w.cell? p) : SRow w' B A xs := fun j x hx => by
  obtain ⟨b, o, s, h1, h2, h3, h4⟩ := h j x hx
  exact ⟨b, o, s, h1, h2, h3, (hk _ h2).trans h4⟩
theorem SRow.below {w w' : World} {B B' : Nat} {A : Option Addr} {xs : List Bs} (h : SRow w B A xs) (hb : Below B' w w') (hB : B ≤ B') : SRow w' B A xs := h.keep fun _ hp => (hb.mono hB).cell hp
theorem SRow.more {w : World} {B B' : Nat} {A : Option Addr} {xs : List Bs} (h : SRow w B A xs) (hB : B ≤ B') : SRow w B' A xs := fun j x hx => by
  obtain ⟨b, o, s, h1, h2, h3, h4⟩ := h j x hx
  exact ⟨b, o, s, h1, by omega, h3, h4⟩
theorem SRow.drewN {w : World} {B : Nat} {A : Option Addr} {xs : List Bs} (h : SRow w B A xs) (n : Nat) : SRow (w.drewN n) B A xs := h
theorem SRow.alloc {w : World} {B : Nat} {A : Option Addr} {xs : List Bs} (h : SRow w B A xs) (hB : B ≤ w.heap.size) (o : Obj) : SRow (w.alloc o) B A xs :=
  h.keep fun p hp => World.cell?_alloc_lt w o p (by omega)

/-- The total that long asks of. -/
def tot : List Bs → Nat
  | [] => 0
  | s :: r => s.length + 1 + tot r
theorem tot_append (a b : List Bs) : tot (a ++ b) = tot a + tot b := by
  induction a with
  | nil => simp [tot]
  | cons s r ih => simp [tot, ih]; omega
theorem tot_take (xs : List Bs) (k : Nat) : tot (xs.take k) ≤ tot xs := by
  have := tot_append (xs.take k) (xs.drop k)
  rw [List.take_append_drop] at this
  omega
theorem take_snoc {α : Type} (xs : List α) (k : Nat) (x : α) (h : xs[k]? = some x) : xs.take (k + 1) = xs.take k ++ [x] := by
  obtain ⟨hk, rfl⟩ := List.getElem?_eq_some_iff.1 h
  rw [List.take_succ_eq_append_getElem hk]
theorem tot_snoc (xs : List Bs) (k : Nat) (x : Bs) (h : xs[k]? = some x) : tot (xs.take (k + 1)) = tot (xs.take k) + x.length + 1 := by
  rw [take_snoc xs k x h, tot_append]
  simp [tot]; omega
theorem tot_len (xs : List Bs) : xs.length ≤ tot xs := by
  induction xs with
  | nil => simp
  | cons s r ih => simp [tot]; omega
theorem tot_mem {xs : List Bs} {s : Bs} (h : s ∈ xs) : s.length < tot xs := by
  induction xs with
  | nil => cases h
  | cons a r ih =>
    rcases List.mem_cons.1 h with rfl | h
    · simp [tot]; omega
    · have := ih h; simp [tot]; omega

def longB (xs : List Bs) : Bool := decide (5000 < tot xs)

end Pk
end Go.Proofs.YtkldgfdfpanelaaDoor
