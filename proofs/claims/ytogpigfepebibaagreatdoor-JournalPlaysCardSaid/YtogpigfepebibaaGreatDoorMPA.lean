/-
  Layer 1 (pack): the walks of the functions that make no memory: digit, mayFollow, length. Layer 1 (pack): slices of strings in memory, and the walks of long and Same.
-/
import Derived.Test.YtogpigfepebibaaGreatDoorProg
import Derived.Test.YtogpigfepebibaaGreatDoorMPMath
import Derived.WalkKit
import Derived.BigQuiet
import Derived.Deep.QuietTactic
import Derived.Lib.Hide
import Derived.Laws.Strings
import Derived.Below
import Derived.Deep.Draws
import Derived.Laws.OwnMore
import Derived.DataElems
import Derived.ChangeSlices
namespace Go.Proofs.YtogpigfepebibaaGreatDoor
namespace Pk
open Go.RowKit

theorem data_length (s : ByteArray) : s.data.toList.length = s.size := rfl
theorem ext_data (s : ByteArray) (i j : Nat) : (s.extract i j).data.toList = (s.data.toList.drop i).take (j - i) := by
  simp [ByteArray.data_extract, Array.toList_extract, List.extract_eq_take_drop]
theorem ext_front (s : ByteArray) (j : Nat) : (s.extract 0 j).data.toList = s.data.toList.take j := by rw [ext_data]; simp
theorem ext_rest (s : ByteArray) (i : Nat) : (s.extract i s.size).data.toList = s.data.toList.drop i := by
  rw [ext_data, List.take_of_length_le (by rw [List.length_drop, data_length]; omega)]
theorem drop_at (s : ByteArray) (k : Nat) (h : k < s.size) : s.data.toList.drop k = s[k] :: s.data.toList.drop (k + 1) := by
  rw [List.drop_eq_getElem_cons (by rw [data_length]; exact h)]; rfl
theorem take_at (s : ByteArray) (k : Nat) (h : k < s.size) : s.data.toList.take (k + 1) = s.data.toList.take k ++ [s[k]] := by
  rw [List.take_succ_eq_append_getElem (by rw [data_length]; exact h)]; rfl
theorem isD_int (c : UInt8) : isD c = (decide ((48 : Int) ≤ c.toNat) && decide ((c.toNat : Int) ≤ 57)) := by
  unfold isD
  congr 1 <;> (rw [Bool.eq_iff_iff]; simp only [decide_eq_true_eq]; omega)

def mayB (l : Bs) (c : Int) : Bool := decide (48 ≤ c) && decide (c ≤ 57) && !(l == [48]) && decide (l.length < 9)

/-- What length answers. -/
def lenV : Nat ⊕ (Nat × Nat) → Value
  | .inl e => .tuple #[.int .i64 0, .int .i64 0, .int .i64 (e : Int)]
  | .inr (n, k) => .tuple #[.int .i64 (n : Int), .int .i64 (k : Int), .int .i64 0]

/-- What may follow, in the spelling of the reading. -/
theorem may_eq (b : ByteArray) (k n : Nat) (hk : k < b.size) (h48 : b.data.toList.take k = [48] ↔ (0 < k ∧ n = 0)) :
    mayB (b.extract 0 k).data.toList b[k].toNat = (isD b[k] && !bad n k) := by
  have hl : (b.data.toList.take k).length = k := by rw [List.length_take, data_length]; omega
  have h1 : (b.data.toList.take k == [48]) = (decide (0 < k) && decide (n = 0)) := by
    rw [Bool.eq_iff_iff]; simp [h48]
  have h2 : decide (k < 9) = !decide (9 ≤ k) := by rw [Bool.eq_iff_iff]; simp
  rw [ext_front, isD_int]
  unfold mayB bad
  rw [hl, h1, h2]
  simp only [Bool.not_or, Bool.and_assoc]

theorem next48 (b : ByteArray) (k n : Nat) (hk : k < b.size) (hn : n < 10 ^ k) (h48 : b.data.toList.take k = [48] ↔ (0 < k ∧ n = 0)) (hd : isD b[k] = true) (hb : bad n k = false) :
    b.data.toList.take (k + 1) = [48] ↔ (0 < k + 1 ∧ n * 10 + (b[k].toNat - 48) = 0) := by
  have hl : (b.data.toList.take k).length = k := by rw [List.length_take, data_length]; omega
  have hc : 48 ≤ b[k].toNat := by simp [isD] at hd; omega
  rw [take_at b k hk]
  constructor
  · intro h
    have h1 := congrArg List.length h
    simp only [List.length_append, List.length_cons, List.length_nil, hl] at h1
    obtain rfl : k = 0 := by omega
    have h2 : b[0] = 48 := by simpa using h
    have h3 : b[0].toNat = 48 := by rw [h2]; rfl
    have h4 : n < 1 := by simpa using hn
    omega
  · rintro ⟨_, h⟩
    clear hn
    have hn : n = 0 := by omega
    have hk0 : k = 0 := by simp [bad, hn] at hb; omega
    subst hk0
    have : b[0].toNat = 48 := by omega
    have : b[0] = 48 := UInt8.toNat_inj.1 this
    simp [this]

end Pk
end Go.Proofs.YtogpigfepebibaaGreatDoor

namespace Go.Proofs.YtogpigfepebibaaGreatDoor
namespace Pk
open Go.RowKit Go.ChangeShapes

/-- A slice's address under which strings stand, below block B: the rows of bytes xs. -/
def SRow (w : World) (B : Nat) (A : Option Addr) (xs : List Bs) : Prop :=
  ∀ j x, xs[j]? = some x → ∃ b o s, A = some ⟨b, o, none⟩ ∧ b < B ∧ s.data.toList = x ∧ w.cell? ⟨b, o + j, none⟩ = some (.string s)

theorem SRow.none_ (w : World) (B : Nat) (A : Option Addr) : SRow w B A [] := fun j x h => by simp at h
theorem SRow.keep {w w' : World} {B : Nat} {A : Option Addr} {xs : List Bs} (h : SRow w B A xs) (hk : ∀ p : Addr, p.block < B → w'.cell? p = w.cell? p) : SRow w' B A xs := fun j x hx => by
  obtain ⟨b, o, s, h1, h2, h3, h4⟩ := h j x hx
  exact ⟨b, o, s, h1, h2, h3, (hk _ h2).trans h4⟩
theorem SRow.below {w w' : World} {B B' : Nat} {A : Option Addr} {xs : List Bs} (h : SRow w B A xs) (hb : Below B' w w') (hB : B ≤ B') : SRow w' B A xs := h.keep fun _ hp => (hb.mono hB).cell hp
theorem SRow.more {w : World} {B B' : Nat} {A : Option Addr} {xs : List Bs} (h : SRow w B A xs) (hB : B ≤ B') : SRow w B' A xs := fun j x hx => by
  obtain ⟨b, o, s, h1, h2, h3, h4⟩ := h j x hx
  exact ⟨b, o, s, h1, by omega, h3, h4⟩
theorem SRow.drewN {w : World} {B : Nat} {A : Option Addr} {xs : List Bs} (h : SRow w B A xs) (n : Nat) : SRow (w.drewN n) B A xs := h
theorem SRow.alloc {w : World} {B : Nat} {A : Option Addr} {xs : List Bs} (h : SRow w B A xs) (hB : B ≤ w.heap.size) (o : Obj) : SRow (w.alloc o) B A xs :=
  h.keep fun p hp => World.cell?_alloc_lt w o p (by omega)

/-- The total that long asks of. -/
def tot : List Bs → Nat
  | [] => 0
  | s :: r => s.length + 1 + tot r
theorem tot_append (a b : List Bs) : tot (a ++ b) = tot a + tot b := by
  induction a with
  | nil => simp [tot]
  | cons s r ih => simp [tot, ih]; omega
theorem tot_take (xs : List Bs) (k : Nat) : tot (xs.take k) ≤ tot xs := by
  have := tot_append (xs.take k) (xs.drop k)
  rw [List.take_append_drop] at this
  omega
theorem take_snoc {α : Type} (xs : List α) (k : Nat) (x : α) (h : xs[k]? = some x) : xs.take (k + 1) = xs.take k ++ [x] := by
  obtain ⟨hk, rfl⟩ := List.getElem?_eq_some_iff.1 h
  rw [List.take_succ_eq_append_getElem hk]
theorem tot_snoc (xs : List Bs) (k : Nat) (x : Bs) (h : xs[k]? = some x) : tot (xs.take (k + 1)) = tot (xs.take k) + x.length + 1 := by
  rw [take_snoc xs k x h, tot_append]
  simp [tot]; omega
theorem tot_len (xs : List Bs) : xs.length ≤ tot xs := by
  induction xs with
  | nil => simp
  | cons s r ih => simp [tot]; omega
theorem tot_mem {xs : List Bs} {s : Bs} (h : s ∈ xs) : s.length < tot xs := by
  induction xs with
  | nil => cases h
  | cons a r ih =>
    rcases List.mem_cons.1 h with rfl | h
    · simp [tot]; omega
    · have := ih h; simp [tot]; omega

def longB (xs : List Bs) : Bool := decide (5000 < tot xs)

end Pk
end Go.Proofs.YtogpigfepebibaaGreatDoor
