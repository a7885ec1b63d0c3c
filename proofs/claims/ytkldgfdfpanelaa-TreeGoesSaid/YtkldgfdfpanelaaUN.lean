/-
  Layer 5 (tree): law Goes: the differences done one by one.
-/
import Derived.Test.YtkldgfdfpanelaaTK
import Derived.Test.YtkldgfdfpanelaaUM
import Derived.Test.YtkldgfdfpanelaaUB
namespace Go.Proofs.Ytkldgfdfpanelaa
namespace Tr
open Go.RowKit Go.ChangeShapes Pt

def smallF (f : Fl) : Prop := f.1.length ≤ 300 ∧ f.2.length ≤ 300
/-- Behind the first k differences. -/
structure Gone (a b : List Fl) (D : List Ch) (k : Nat) (t : List Fl) : Prop where
  len : t.length ≤ 30 + k
  tree : Tree t
  small : ∀ f ∈ t, smallF f
  got : ∀ p, get t p = if (∃ c ∈ D.take k, c.1 = p) then get b p else get a p

theorem diff_tells {a b : List Fl} (ha : tcheck a = 0) (hb : tcheck b = 0) : Tells a b (diffV a b) := by
  unfold diffV
  rw [if_pos ⟨ha, hb⟩]
  exact diffL_tells ((tree_iff a).1 ha).2.1 b
theorem get_mem {t : List Fl} {p d : Bs} (h : get t p = some d) : (p, d) ∈ t := by
  unfold get at h
  cases h2 : t.find? (fun f => f.1 == p) with
  | none => rw [h2] at h; cases h
  | some f =>
    rw [h2] at h
    injection h with h
    have h3 := List.find?_some h2
    have h4 := List.mem_of_find?_eq_some h2
    have h5 : f.1 = p := by simpa using h3
    subst h5 h
    exact h4
theorem tells_zero {a b : List Fl} {D : List Ch} (h : Tells a b D) {p : Bs} (hp : ∀ c ∈ D, c.1 ≠ p) : get a p = get b p := by
  cases ha : get a p with
  | none =>
    cases hb : get b p with
    | none => rfl
    | some y =>
      have hk := kind_added ha hb
      exact absurd rfl (hp (p, 1) ((h.2 p 1).2 ⟨.inr (by rw [hb]; simp), hk.symm, by omega⟩))
  | some x =>
    cases hb : get b p with
    | none =>
      have hk := kind_gone (a := a) hb
      exact absurd rfl (hp (p, 2) ((h.2 p 2).2 ⟨.inl (by rw [ha]; simp), hk.symm, by omega⟩))
    | some y =>
      by_cases he : x = y
      · rw [he]
      · have hk := kind_both ha hb
        rw [if_neg he] at hk
        exact absurd rfl (hp (p, 3) ((h.2 p 3).2 ⟨.inl (by rw [ha]; simp), hk.symm, by omega⟩))
theorem gone_start {a b : List Fl} {D : List Ch} (ha : tcheck a = 0) (hl : a.length ≤ 30) (hs : ∀ f ∈ a, smallF f) : Gone a b D 0 a :=
  ⟨by omega, (tree_iff a).1 ha, hs, fun p => by rw [if_neg (by rintro ⟨c, hc, _⟩; simp at hc)]⟩
theorem gone_end {a b t : List Fl} {D : List Ch} (hb : tcheck b = 0) (h : Tells a b D) {k : Nat} (hk : D.length ≤ k) (hg : Gone a b D k t) : t = b := by
  refine rise_ext hg.tree.2.1 ((tree_iff b).1 hb).2.1 (fun p => ?_)
  rw [hg.got p, List.take_of_length_le hk]
  split
  · rfl
  · rename_i hn
    exact tells_zero h (fun c hc e => hn ⟨c, hc, e⟩)
theorem take_in {D : List Ch} {k : Nat} {c : Ch} (hc : D[k]? = some c) (p : Bs) : (∃ d ∈ D.take (k + 1), d.1 = p) ↔ (∃ d ∈ D.take k, d.1 = p) ∨ c.1 = p := by
  rw [take_snoc D k c hc]
  constructor
  · rintro ⟨d, hd, e⟩
    rcases List.mem_append.1 hd with h | h
    · exact .inl ⟨d, h, e⟩
    · obtain rfl := List.mem_singleton.1 h
      exact .inr e
  · rintro (⟨d, hd, e⟩ | e)
    · exact ⟨d, List.mem_append_left _ hd, e⟩
    · exact ⟨c, List.mem_append_right _ (List.mem_singleton.2 rfl), e⟩
theorem gone_drop {a b t : List Fl} {D : List Ch} {k : Nat} {c : Ch} (hc : D[k]? = some c) (hg : Gone a b D k t) (hb : get b c.1 = none) : Gone a b D (k + 1) (dropV t c.1) := by
  have hd : dropV t c.1 = t.filter (fun x => decide (x.1 ≠ c.1)) := by unfold dropV; rw [if_pos ((tree_iff t).2 hg.tree)]
  rw [hd]
  refine ⟨Nat.le_trans (List.length_filter_le _ _) (by have := hg.len; omega), drop_tree hg.tree _, fun f hf => hg.small f (List.mem_filter.1 hf).1, fun p => ?_⟩
  rw [drop_get hg.tree.2.1, hg.got p]
  by_cases hp : c.1 = p
  · rw [if_pos hp, if_pos ((take_in hc p).2 (.inr hp)), ← hp, hb]
  · rw [if_neg hp]
    by_cases h : ∃ d ∈ D.take k, d.1 = p
    · rw [if_pos h, if_pos ((take_in hc p).2 (.inl h))]
    · rw [if_neg h, if_neg (fun h2 => ((take_in hc p).1 h2).elim h hp)]
theorem gone_put {a b t : List Fl} {D : List Ch} {k : Nat} {c : Ch} {y : Bs} (hc : D[k]? = some c) (hk : k ≤ 900) (hg : Gone a b D k t) (htb : tcheck b = 0) (hsb : ∀ f ∈ b, smallF f) (hb : get b c.1 = some y) : Gone a b D (k + 1) (putV t (c.1, y)) := by
  have hm := get_mem hb
  have hr := hg.tree.2.1
  have ht : Tree (withF t (c.1, y)) := by
    refine ⟨Nat.le_trans (withF_len _ hr) (by have := hg.len; omega), withF_rise _ hr, fun f hf => ?_⟩
    rcases (withF_mem _ hr f).1 hf with rfl | ⟨h, _⟩
    · exact ((tree_iff b).1 htb).2.2 _ hm
    · exact hg.tree.2.2 f h
  have hd : putV t (c.1, y) = withF t (c.1, y) := by unfold putV; rw [if_pos ((tree_iff t).2 hg.tree), if_pos ((tree_iff _).2 ht)]
  rw [hd]
  refine ⟨Nat.le_trans (withF_len _ hr) (by have := hg.len; omega), ht, fun f hf => ?_, fun p => ?_⟩
  · rcases (withF_mem _ hr f).1 hf with rfl | ⟨h, _⟩
    · exact hsb _ hm
    · exact hg.small f h
  · rw [withF_get _ hr, hg.got p]
    by_cases hp : c.1 = p
    · rw [if_pos hp, if_pos ((take_in hc p).2 (.inr hp)), ← hp, hb]
    · rw [if_neg hp]
      by_cases h : ∃ d ∈ D.take k, d.1 = p
      · rw [if_pos h, if_pos ((take_in hc p).2 (.inl h))]
      · rw [if_neg h, if_neg (fun h2 => ((take_in hc p).1 h2).elim h hp)]
theorem gone_few {a b t : List Fl} {D : List Ch} {k : Nat} (hk : k ≤ 900) (hg : Gone a b D k t) : Few t :=
  ⟨by have := hg.len; omega, fun f hf => by have := hg.small f hf; unfold smallF at this; omega⟩
/-- What a difference's path is. -/
theorem tells_may {a b : List Fl} {D : List Ch} (ha : tcheck a = 0) (hb : tcheck b = 0) (h : Tells a b D) {c : Ch} (hc : c ∈ D) : may c.1 = true ∧ (c.2 = 2 → get b c.1 = none) ∧ (c.2 ≠ 2 → ∃ y, get b c.1 = some y) := by
  obtain ⟨p, q⟩ := c
  obtain ⟨h1, h2, h3⟩ := (h.2 p q).1 hc
  refine ⟨?_, fun e => ?_, fun e => ?_⟩
  · have hok : okName p = true := by
      rcases h1 with h1 | h1
      · obtain ⟨f, hf, rfl⟩ := get_in h1
        exact (((tree_iff a).1 ha).2.2 f hf).1
      · obtain ⟨f, hf, rfl⟩ := get_in h1
        exact (((tree_iff b).1 hb).2.2 f hf).1
    unfold okName at hok
    simp only [Bool.and_eq_true] at hok
    exact hok.1.1
  · show get b p = none
    have e : q = 2 := e
    cases hy : get b p with
    | none => rfl
    | some y =>
      exfalso
      cases hx : get a p with
      | none => rw [kind_added hx hy] at h2; omega
      | some x =>
        rw [kind_both hx hy] at h2
        split at h2 <;> omega
  · show ∃ y, get b p = some y
    have e : q ≠ 2 := e
    cases hy : get b p with
    | none => rw [kind_gone hy] at h2; omega
    | some y => exact ⟨y, rfl⟩
theorem tells_size {a b : List Fl} {D : List Ch} (h : Tells a b D) (hsa : ∀ f ∈ a, smallF f) (hsb : ∀ f ∈ b, smallF f) {c : Ch} (hc : c ∈ D) : c.1.length ≤ 300 := by
  obtain ⟨p, q⟩ := c
  obtain ⟨h1, _⟩ := (h.2 p q).1 hc
  rcases h1 with h1 | h1
  · obtain ⟨f, hf, rfl⟩ := get_in h1
    exact (hsa f hf).1
  · obtain ⟨f, hf, rfl⟩ := get_in h1
    exact (hsb f hf).1
theorem small_of {t : List Fl} (h : greatV t = false) : ∀ f ∈ t, smallF f := by
  unfold greatV at h
  rw [Bool.or_eq_false_iff, List.any_eq_false] at h
  intro f hf
  have h2 := h.2 f hf
  unfold big at h2
  rw [Bool.not_eq_true, Bool.or_eq_false_iff, decide_eq_false_iff_not, decide_eq_false_iff_not] at h2
  unfold smallF
  omega
end Tr
end Go.Proofs.Ytkldgfdfpanelaa
