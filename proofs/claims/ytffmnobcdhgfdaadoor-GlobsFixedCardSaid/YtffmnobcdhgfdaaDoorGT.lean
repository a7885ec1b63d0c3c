/-
  Layer 4 (globs): which paths are picked, in rising order, none twice: no program, no world.
-/
import Derived.Test.YtffmnobcdhgfdaaDoorGR
import Derived.Lib.SlicesCompact
import Derived.Sort.KeysCollected
namespace Go.Proofs.YtffmnobcdhgfdaaDoor
namespace Gl
open Pt

abbrev Rising (l : List Bs) : Prop := l.Pairwise (· < ·)
theorem lt_of {a b : Bs} (h : a ≤ b) (hn : a ≠ b) : a < b := by
  rcases Decidable.em (a < b) with h1 | h1
  · exact h1
  · exact absurd (List.le_antisymm h (List.not_lt.1 h1)) hn
theorem lt_no {a : Bs} : ¬ a < a := List.lt_irrefl a
theorem le_of {a b : Bs} (h : a < b) : a ≤ b := List.le_of_lt h
theorem lt_le {a b c : Bs} (h : a < b) (h2 : b ≤ c) : a < c := by
  refine lt_of (List.le_trans (le_of h) h2) (fun e => ?_)
  subst e
  exact (List.not_lt.2 h2) h
theorem le_lt {a b c : Bs} (h : a ≤ b) (h2 : b < c) : a < c := by
  refine lt_of (List.le_trans h (le_of h2)) (fun e => ?_)
  subst e
  exact (List.not_lt.2 h) h2
theorem lt_lt {a b c : Bs} (h : a < b) (h2 : b < c) : a < c := lt_le h (le_of h2)

theorem rising_one {l l' : List Bs} (h : Rising l) (h' : Rising l') (hm : ∀ x, x ∈ l ↔ x ∈ l') : l = l' := by
  have nd : ∀ {l : List Bs}, Rising l → l.Nodup := fun h => h.imp (fun hab e => by subst e; exact lt_no hab)
  have hp := (List.perm_ext_iff_of_nodup (nd h) (nd h')).2 hm
  exact List.Perm.eq_of_pairwise (le := fun a b => a < b) (fun a b _ _ h1 h2 => absurd (lt_lt h1 h2) lt_no) h h' hp

/-- Insert: the walk's state behind each text. -/
def insStep (s : Bs) (st : List Bs × Bool) (x : Bs) : List Bs × Bool :=
  let st1 := if (!st.2 && decide (s ≤ x)) = true then (st.1 ++ [s], true) else st
  (if x = s then st1.1 else st1.1 ++ [x], st1.2)
def insRun (s : Bs) (l : List Bs) : List Bs × Bool := l.foldl (insStep s) ([], false)
def insR (l : List Bs) (s : Bs) : List Bs := if (insRun s l).2 = true then (insRun s l).1 else (insRun s l).1 ++ [s]
theorem insRun_snoc (s : Bs) (l : List Bs) (x : Bs) : insRun s (l ++ [x]) = insStep s (insRun s l) x := by
  unfold insRun; rw [List.foldl_append]; rfl
def insAt (l : List Bs) (s : Bs) : List Bs := l.filter (fun x => decide (x < s)) ++ s :: l.filter (fun x => decide (s < x))
theorem filter_all' {l : List Bs} {f : Bs → Bool} (h : ∀ x ∈ l, f x = true) : l.filter f = l := List.filter_eq_self.2 h
theorem insRun_eq (s : Bs) (l : List Bs) (h : Rising l) : insRun s l = if (l.all fun x => decide (x < s)) = true then (l, false) else (insAt l s, true) := by
  -- by prefixes: the last text first
  obtain ⟨r, rfl⟩ : ∃ r, l = r.reverse := ⟨l.reverse, by simp⟩
  induction r with
  | nil => rfl
  | cons x r ih =>
    rw [List.reverse_cons] at h ⊢
    have hp := List.pairwise_append.1 h
    have ih := ih hp.1
    have hx : ∀ y ∈ r.reverse, y < x := fun y hy => hp.2.2 y hy x (by simp)
    rw [insRun_snoc, ih]
    generalize r.reverse = q at hx
    by_cases ha : (q.all fun x => decide (x < s)) = true
    · rw [if_pos ha]
      unfold insStep
      by_cases hsx : s ≤ x
      · have hxs : ¬ x < s := List.not_lt.2 hsx
        have hn : ((q ++ [x]).all fun x => decide (x < s)) = false := by
          rw [List.all_append]; simp [hxs]
        rw [hn, if_neg (by simp : ¬ (false = true))]
        simp only [Bool.not_false, Bool.true_and, decide_eq_true hsx, if_true]
        have e1 : (q ++ [x]).filter (fun x => decide (x < s)) = q := by
          rw [List.filter_append, filter_all' (fun y hy => List.all_eq_true.1 ha y hy)]
          simp [hxs]
        have hq0 : q.filter (fun x => decide (s < x)) = [] := by
          rw [List.filter_eq_nil_iff]
          intro y hy
          have := List.all_eq_true.1 ha y hy
          rw [decide_eq_true_eq] at this
          simp only [decide_eq_true_eq]
          intro h2
          exact lt_no (lt_lt this h2)
        unfold insAt
        rw [e1, List.filter_append, hq0]
        by_cases he : x = s
        · subst he; simp [lt_no]
        · have hlt : s < x := lt_of hsx (fun e => he e.symm)
          simp [he, hlt]
      · have hxs : x < s := List.not_le.1 hsx
        have hn : ((q ++ [x]).all fun x => decide (x < s)) = true := by
          rw [List.all_append, ha]; simp [hxs]
        rw [hn, if_pos rfl]
        have he : x ≠ s := fun e => by subst e; exact lt_no hxs
        simp [hsx, he]
    · rw [if_neg ha]
      have hn : ¬ ((q ++ [x]).all fun x => decide (x < s)) = true := by
        rw [List.all_append, Bool.and_eq_true]
        exact fun h => ha h.1
      rw [if_neg hn]
      have hlt : s < x := by
        rw [Bool.not_eq_true, List.all_eq_false] at ha
        obtain ⟨y, hy, hys⟩ := ha
        rw [decide_eq_true_eq] at hys
        exact le_lt (List.not_lt.1 hys) (hx y hy)
      have hxs : ¬ x < s := fun h2 => lt_no (lt_lt h2 hlt)
      have he : x ≠ s := fun e => by subst e; exact lt_no hlt
      unfold insStep insAt
      simp [he, hlt, hxs]
theorem insR_eq (s : Bs) (l : List Bs) (h : Rising l) : insR l s = insAt l s := by
  unfold insR
  rw [insRun_eq s l h]
  by_cases ha : (l.all fun x => decide (x < s)) = true
  · rw [if_pos ha]
    simp only [Bool.false_eq_true, if_false]
    unfold insAt
    rw [filter_all' (fun y hy => List.all_eq_true.1 ha y hy)]
    have hq0 : l.filter (fun x => decide (s < x)) = [] := by
      rw [List.filter_eq_nil_iff]
      intro y hy
      have := List.all_eq_true.1 ha y hy
      rw [decide_eq_true_eq] at this
      simp only [decide_eq_true_eq]
      intro h2
      exact lt_no (lt_lt this h2)
    rw [hq0]
  · rw [if_neg ha]; rfl
theorem insAt_rising (s : Bs) (l : List Bs) (h : Rising l) : Rising (insAt l s) := by
  unfold insAt
  refine List.pairwise_append.2 ⟨h.filter _, List.pairwise_cons.2 ⟨?_, h.filter _⟩, ?_⟩
  · intro y hy
    have := (List.mem_filter.1 hy).2
    simpa using this
  · intro a ha b hb
    have h1 := (List.mem_filter.1 ha).2
    rw [decide_eq_true_eq] at h1
    rcases List.mem_cons.1 hb with rfl | hb
    · exact h1
    · have h2 := (List.mem_filter.1 hb).2
      rw [decide_eq_true_eq] at h2
      exact lt_lt h1 h2
theorem insAt_mem (s : Bs) (l : List Bs) (x : Bs) : x ∈ insAt l s ↔ x = s ∨ x ∈ l := by
  unfold insAt
  rw [List.mem_append, List.mem_cons, List.mem_filter, List.mem_filter, decide_eq_true_eq, decide_eq_true_eq]
  constructor
  · rintro (⟨h, _⟩ | h | ⟨h, _⟩)
    · exact .inr h
    · exact .inl h
    · exact .inr h
  · rintro (h | h)
    · exact .inr (.inl h)
    · by_cases h1 : x < s
      · exact .inl ⟨h, h1⟩
      · by_cases h2 : x = s
        · exact .inr (.inl h2)
        · exact .inr (.inr ⟨h, lt_of (List.not_lt.1 h1) (fun e => h2 e.symm)⟩)
theorem insR_rising {l : List Bs} (s : Bs) (h : Rising l) : Rising (insR l s) := by rw [insR_eq s l h]; exact insAt_rising s l h
theorem insR_mem {l : List Bs} (s : Bs) (h : Rising l) (x : Bs) : x ∈ insR l s ↔ x = s ∨ x ∈ l := by rw [insR_eq s l h]; exact insAt_mem s l x

/-- Picked one by one. -/
def pickR (l : List Bs) : List Bs := l.foldl insR []
theorem pickR_snoc (l : List Bs) (x : Bs) : pickR (l ++ [x]) = insR (pickR l) x := by unfold pickR; rw [List.foldl_append]; rfl
theorem pickR_spec (l : List Bs) : Rising (pickR l) ∧ ∀ x, x ∈ pickR l ↔ x ∈ l := by
  obtain ⟨r, rfl⟩ : ∃ r, l = r.reverse := ⟨l.reverse, by simp⟩
  induction r with
  | nil => exact ⟨List.Pairwise.nil, fun x => Iff.rfl⟩
  | cons x r ih =>
    rw [List.reverse_cons, pickR_snoc]
    refine ⟨insR_rising x ih.1, fun y => ?_⟩
    rw [insR_mem x ih.1, ih.2, List.mem_append, List.mem_singleton]
    exact Or.comm

/-- Sorted, and compacted. -/
theorem compact_spec (ys : List Bs) (h : ys.Pairwise (· ≤ ·)) : Rising (Lib.compact ys) ∧ ∀ x, x ∈ Lib.compact ys ↔ x ∈ ys := by
  have hget : ∀ j (hj : j < ys.length), ys.toArray[j]! = ys[j] := fun j hj => by
    rw [getElem!_pos ys.toArray j (by simpa using hj)]; simp
  have key : ∀ m, m ≤ ys.length → Rising (Lib.compactUpTo ys.toArray m) ∧ (∀ x ∈ Lib.compactUpTo ys.toArray m, 0 < m ∧ x ≤ ys.toArray[m - 1]!) ∧ ∀ x, x ∈ Lib.compactUpTo ys.toArray m ↔ ∃ j, j < m ∧ ys.toArray[j]! = x := by
    intro m
    induction m with
    | zero =>
      intro _
      refine ⟨List.Pairwise.nil, fun x hx => ?_, fun x => ⟨fun hx => ?_, fun ⟨j, hj, _⟩ => by omega⟩⟩
      · simp [Lib.compactUpTo] at hx
      · simp [Lib.compactUpTo] at hx
    | succ m ih =>
      intro hm
      obtain ⟨i1, i2, i3⟩ := ih (by omega)
      rw [Lib.compactUpTo_succ]
      have hle : ∀ x ∈ Lib.compactUpTo ys.toArray m, x ≤ ys.toArray[m]! := by
        intro x hx
        obtain ⟨h0, hx⟩ := i2 x hx
        refine List.le_trans hx ?_
        rw [hget (m - 1) (by omega), hget m (by omega)]
        exact List.pairwise_iff_getElem.1 h (m - 1) m (by omega) (by omega) (by omega)
      cases hk : Lib.keeps ys.toArray m
      · rw [if_neg (by simp), List.append_nil]
        unfold Lib.keeps at hk
        rw [decide_eq_false_iff_not, not_or, Decidable.not_not] at hk
        refine ⟨i1, fun x hx => ⟨by omega, by rw [Nat.add_sub_cancel]; exact hle x hx⟩, fun x => ?_⟩
        rw [i3]
        constructor
        · rintro ⟨j, hj, e⟩; exact ⟨j, by omega, e⟩
        · rintro ⟨j, hj, e⟩
          by_cases hjm : j = m
          · subst hjm
            exact ⟨j - 1, by omega, hk.2.symm.trans e⟩
          · exact ⟨j, by omega, e⟩
      · rw [if_pos rfl]
        unfold Lib.keeps at hk
        rw [decide_eq_true_eq] at hk
        refine ⟨List.pairwise_append.2 ⟨i1, by simp, ?_⟩, fun x hx => ⟨by omega, ?_⟩, fun x => ?_⟩
        · intro a ha b hb
          rw [List.mem_singleton] at hb
          subst hb
          obtain ⟨h0, ha2⟩ := i2 a ha
          rcases hk with hk | hk
          · omega
          · refine le_lt ha2 (lt_of ?_ (fun e => hk e.symm))
            rw [hget (m - 1) (by omega), hget m (by omega)]
            exact List.pairwise_iff_getElem.1 h (m - 1) m (by omega) (by omega) (by omega)
        · rw [Nat.add_sub_cancel]
          rcases List.mem_append.1 hx with hx | hx
          · exact hle x hx
          · rw [List.mem_singleton] at hx
            rw [hx]; exact List.le_refl _
        · rw [List.mem_append, List.mem_singleton, i3]
          constructor
          · rintro (⟨j, hj, e⟩ | e)
            · exact ⟨j, by omega, e⟩
            · exact ⟨m, by omega, e.symm⟩
          · rintro ⟨j, hj, e⟩
            by_cases hjm : j = m
            · subst hjm; exact .inr e.symm
            · exact .inl ⟨j, by omega, e⟩
  obtain ⟨k1, _, k3⟩ := key ys.length (Nat.le_refl _)
  refine ⟨k1, fun x => (k3 x).trans ?_⟩
  constructor
  · rintro ⟨j, hj, rfl⟩
    rw [hget j hj]; exact List.getElem_mem hj
  · intro hx
    obtain ⟨j, hj, rfl⟩ := List.getElem_of_mem hx
    exact ⟨j, hj, hget j hj⟩
theorem sort_spec (xs : List Bs) : (xs.mergeSort fun x y => decide (x ≤ y)).Pairwise (· ≤ ·) ∧ ∀ x, x ∈ (xs.mergeSort fun x y => decide (x ≤ y)) ↔ x ∈ xs := by
  have tr : ∀ a b c : Bs, decide (a ≤ b) = true → decide (b ≤ c) = true → decide (a ≤ c) = true := fun a b c h1 h2 => by rw [decide_eq_true_eq] at *; exact List.le_trans h1 h2
  have to : ∀ a b : Bs, (decide (a ≤ b) || decide (b ≤ a)) = true := fun a b => by rw [Bool.or_eq_true, decide_eq_true_eq, decide_eq_true_eq]; exact List.le_total a b
  refine ⟨(List.pairwise_mergeSort tr to xs).imp (fun h => by simpa using h), fun x => (List.mergeSort_perm xs _).mem_iff⟩
theorem pick_eq (xs : List Bs) : Lib.compact (xs.mergeSort fun x y => decide (x ≤ y)) = pickR xs := by
  obtain ⟨s1, s2⟩ := sort_spec xs
  obtain ⟨c1, c2⟩ := compact_spec _ s1
  obtain ⟨p1, p2⟩ := pickR_spec xs
  exact rising_one c1 p1 (fun x => by rw [c2, s2, p2])
end Gl
end Go.Proofs.YtffmnobcdhgfdaaDoor
