/-
  Layer 1 (pack): the walk of the law PackNests.
-/
import Derived.Test.YthjnbjfcjjnkaaaDoorH
import Derived.Test.YthjnbjfcjjnkaaaDoorK
import Derived.Test.YthjnbjfcjjnkaaaDoorP
namespace Go.Proofs.YthjnbjfcjjnkaaaDoor
namespace Pk
open Go.RowKit

theorem RRow.keep {w w' : World} {B : Nat} {A : Option Addr} {xss : List (List Bs)} (h : RRow w B A xss) (hk : ∀ p : Addr, p.block < B → w'.cell? p = w.cell? p) : RRow w' B A xss := fun j xs hx => by
  obtain ⟨b, o, A', cap, h1, h2, h3, h4⟩ := h j xs hx
  exact ⟨b, o, A', cap, h1, h2, (hk _ h2).trans h3, h4.keep hk⟩
theorem RRow.below {w w' : World} {B B' : Nat} {A : Option Addr} {xss : List (List Bs)} (h : RRow w B A xss) (hb : Below B' w w') (hB : B ≤ B') : RRow w' B A xss := h.keep fun _ hp => (hb.mono hB).cell hp

/-- All rows are short. -/
def Short (xss : List (List Bs)) : Prop := ∀ xs ∈ xss, tot xs ≤ 5000
theorem Short.nil : Short [] := fun _ h => by cases h
theorem Short.snoc {xss : List (List Bs)} {xs : List Bs} (h : Short xss) (hx : tot xs ≤ 5000) : Short (xss ++ [xs]) := fun ys hy => by
  rcases List.mem_append.1 hy with hy | hy
  · exact h ys hy
  · rw [List.mem_singleton.1 hy]; exact hx
theorem short_mem {xs : List Bs} (h : tot xs ≤ 5000) : ∀ s ∈ xs, s.length < 1000000000 := fun s hs => by have := tot_mem hs; omega
theorem short_tot : ∀ (xss : List (List Bs)), Short xss → tot (xss.map enc) ≤ xss.length * 10001
  | [], _ => by simp [tot]
  | xs :: r, h => by
    have h1 := enc_le xs
    have h2 := h xs (by simp)
    have h3 := short_tot r (fun ys hy => h ys (by simp [hy]))
    simp only [List.map_cons, tot, List.length_cons]
    omega
theorem short_enc (xss : List (List Bs)) (h : Short xss) (hn : xss.length ≤ 30) : (enc (xss.map enc)).length ≤ 700000 := by
  have h1 := enc_le (xss.map enc)
  have h2 := short_tot xss h
  omega
theorem short_each (xss : List (List Bs)) (h : Short xss) : ∀ s ∈ xss.map enc, s.length < 1000000000 := fun s hs => by
  obtain ⟨xs, hx, rfl⟩ := List.mem_map.1 hs
  have h1 := enc_le xs
  have h2 := h xs hx
  omega
theorem map_enc_inj : ∀ (a b : List (List Bs)), Short a → Short b → a.map enc = b.map enc → a = b
  | [], [], _, _, _ => rfl
  | [], _ :: _, _, _, h => by simp at h
  | _ :: _, [], _, _, h => by simp at h
  | x :: a, y :: b, ha, hb, h => by
    simp only [List.map_cons, List.cons.injEq] at h
    rw [enc_inj (short_mem (ha x (by simp))) (short_mem (hb y (by simp))) h.1, map_enc_inj a b (fun z hz => ha z (by simp [hz])) (fun z hz => hb z (by simp [hz])) h.2]

/-- The law's flag, behind k rounds. -/
def flag (xss yss : List (List Bs)) (k : Nat) : Bool := decide (xss.length = yss.length) && decide (xss.take k = yss.take k)
theorem flag_zero (xss yss : List (List Bs)) : flag xss yss 0 = decide (xss.length = yss.length) := by simp [flag]
theorem flag_all (xss yss : List (List Bs)) : flag xss yss xss.length = decide (xss = yss) := by
  unfold flag
  rw [Bool.eq_iff_iff]
  simp only [Bool.and_eq_true, decide_eq_true_eq]
  constructor
  · rintro ⟨h1, h2⟩
    rw [List.take_length, h1, List.take_length] at h2
    exact h2
  · rintro rfl
    exact ⟨rfl, rfl⟩
theorem flag_false (xss yss : List (List Bs)) (k : Nat) (h : flag xss yss k = false) : flag xss yss (k + 1) = false := by
  unfold flag at *
  rw [Bool.and_eq_false_iff] at *
  rcases h with h | h
  · exact .inl h
  · refine .inr ?_
    rw [decide_eq_false_iff_not] at *
    intro e
    apply h
    have := congrArg (List.take k) e
    rwa [List.take_take, List.take_take, Nat.min_eq_left (by omega)] at this
theorem flag_true (xss yss : List (List Bs)) (k : Nat) (xs ys : List Bs) (h : flag xss yss k = true) (hx : xss[k]? = some xs) (hy : yss[k]? = some ys) : flag xss yss (k + 1) = decide (xs = ys) := by
  unfold flag at *
  rw [Bool.and_eq_true, decide_eq_true_eq, decide_eq_true_eq] at h
  rw [decide_eq_true h.1, Bool.true_and, take_snoc _ _ _ hx, take_snoc _ _ _ hy, h.2, Bool.eq_iff_iff, decide_eq_true_iff, decide_eq_true_iff]
  constructor
  · intro e; simpa using e
  · intro e; rw [e]
end Pk
end Go.Proofs.YthjnbjfcjjnkaaaDoor
