/-
  Layer 9 (lex): places of a text's bytes, gaps skipped.
-/
import Derived.Test.YtpiiklpehfkdaaaNP
import Derived.Test.YtpiiklpehfkdaaaNF
namespace Go.Proofs.Ytpiiklpehfkdaaa
namespace Lx
open Go.RowKit Kr

/-- How many bytes stand ahead of the first line feed. -/
def lineV (l : Bs) : Nat := (l.takeWhile notNl).length
theorem line_le (l : Bs) : lineV l ≤ l.length := tw_le _ _

/-- The place of a byte of a text. -/
def plT (T : Bs) (k : Nat) : Pl := adv (1, 1) (T.take k)
theorem adv_col : ∀ (s : Bs) (p : Pl), 1 ≤ p.2 → 1 ≤ (adv p s).2
  | [], p, h => h
  | c :: s, p, h => adv_col s (step p c) (by unfold step; split <;> simp <;> omega)
theorem pl_bounds (T : Bs) (k : Nat) : 1 ≤ (plT T k).2 ∧ (plT T k).2 ≤ k + 1 ∧ (plT T k).1 ≤ k + 1 := by
  have h1 := adv_col (T.take k) (1, 1) (Nat.le_refl _)
  have h2 := adv_le (T.take k) (1, 1)
  have h3 := List.length_take_le k T
  unfold plT
  simp only at h2
  omega
/-- Where the line begins. -/
def stT (T : Bs) (k : Nat) : Nat := k + 1 - (plT T k).2
theorem pl_next {T : Bs} {k : Nat} (h : k < T.length) : plT T (k + 1) = step (plT T k) (T.getD k 0) := by
  unfold plT
  rw [take_snoc T h, adv_app]
  rfl
theorem pl_more (T : Bs) (k n : Nat) : plT T (k + n) = adv (plT T k) ((T.drop k).take n) := by
  unfold plT
  rw [← adv_app, List.take_add]
/-- Bytes that are no line feeds: the line stays. -/
theorem st_more {T : Bs} {k n : Nat} (hn : k + n ≤ T.length) (h : ∀ x ∈ (T.drop k).take n, x ≠ 10) : (plT T (k + n)).1 = (plT T k).1 ∧ stT T (k + n) = stT T k := by
  have e := pl_more T k n
  rw [adv_plain _ _ h, List.length_take, List.length_drop, Nat.min_eq_left (by omega)] at e
  have hb := pl_bounds T k
  refine ⟨by rw [e], ?_⟩
  unfold stT
  rw [e]
  show k + n + 1 - ((plT T k).2 + n) = k + 1 - (plT T k).2
  omega
theorem tw_none10 : ∀ (s : Bs), ∀ x ∈ s.takeWhile notNl, x ≠ 10 := fun s x hx => by
  have := tw_mem notNl s x hx
  unfold notNl at this
  simpa using this
theorem cut_gap {T : Bs} {k : Nat} {c : UInt8} {r : Bs} (h : T.drop k = c :: r) (hg : isG c = true) : cut (plT T k) (T.drop k) = cut (plT T (k + 1)) (T.drop (k + 1)) := by
  have hf : firstV (T.drop k) = ⟨0, [], 1, 0⟩ := by rw [h, first_cons, if_pos hg]
  rw [cut_skip (by rw [h]; simp) _ (by rw [hf]) (by rw [hf]), hf, ← pl_more, List.drop_drop]
theorem cut_note {T : Bs} {k : Nat} {r : Bs} (h : T.drop k = 35 :: r) : cut (plT T k) (T.drop k) = cut (plT T (k + lineV (T.drop k))) (T.drop (k + lineV (T.drop k))) := by
  have hf : firstV (T.drop k) = ⟨0, [], lineV (T.drop k), 0⟩ := by
    unfold lineV
    rw [h, first_cons, if_neg (by decide), if_pos rfl]
  rw [cut_skip (by rw [h]; simp) _ (by rw [hf]) (by rw [hf]), hf, ← pl_more, List.drop_drop]
theorem line_pos {T : Bs} {k : Nat} {r : Bs} (h : T.drop k = 35 :: r) : 1 ≤ lineV (T.drop k) := by
  unfold lineV
  rw [h, tw_pos (by decide)]
  omega
theorem cut_from (s : ByteArray) (i : Int) (n : Nat) (hi : i = (n : Int)) (h2 : n ≤ s.size) (W : World) :
    (Instr.slice 9 (.string s) (some (.int .i64 i)) none none).run Try.prog W = .ok (.string (ofB ((toB s).drop n))) W := by
  subst hi
  rw [run_slice_string_l W 9 s Try.underlying9 .i64 _ (by omega) (by omega)]
  congr 2
  refine ba_eq ?_
  rw [toB_ofB]
  show (s.extract n s.size).data.toList = s.data.toList.drop n
  simp only [ByteArray.data_extract, Array.toList_extract, List.extract_eq_take_drop]
  refine List.take_of_length_le ?_
  rw [List.length_drop]
  exact Nat.le_refl _

end Lx
end Go.Proofs.Ytpiiklpehfkdaaa
