/-
  Layer 5 (tree): the differences told by going along both trees are the document's: no program, no world.
-/
import Derived.Test.YtkldgfdfpanelaaTG
namespace Go.Proofs.Ytkldgfdfpanelaa
namespace Tr
open Pt

def mdf : Nat → List Fl → List Fl → List Ch
  | 0, _, _ => []
  | _ + 1, [], [] => []
  | k + 1, x :: a, [] => (x.1, 2) :: mdf k a []
  | k + 1, [], y :: b => (y.1, 1) :: mdf k [] b
  | k + 1, x :: a, y :: b =>
    if x.1 < y.1 then (x.1, 2) :: mdf k a (y :: b)
    else if y.1 < x.1 then (y.1, 1) :: mdf k (x :: a) b
    else (if x.2 = y.2 then [] else [(x.1, 3)]) ++ mdf k a b

/-- What a row of changes tells of two trees. -/
def Tells (a b : List Fl) (l : List Ch) : Prop :=
  l.Pairwise (fun c d => c.1 < d.1) ∧ ∀ p c, (p, c) ∈ l ↔ (get a p ≠ none ∨ get b p ≠ none) ∧ c = kindV a b p ∧ 0 < c
theorem Tells.one {a b : List Fl} {l l' : List Ch} (h : Tells a b l) (h' : Tells a b l') : l = l' := by
  have hm : ∀ c, c ∈ l ↔ c ∈ l' := fun c => by
    obtain ⟨p, c⟩ := c
    rw [h.2, h'.2]
  have nd : ∀ l : List Ch, l.Pairwise (fun c d => c.1 < d.1) → l.Nodup := fun l hl => hl.imp (fun hab e => by subst e; exact lt_no hab)
  exact List.Perm.eq_of_pairwise (le := fun a b => a.1 < b.1) (fun a b _ _ h1 h2 => absurd (lt_lt h1 h2) lt_no) h.1 h'.1 ((List.perm_ext_iff_of_nodup (nd _ h.1) (nd _ h'.1)).2 hm)

theorem get_above {t : List Fl} {q : Bs} (h : ∀ f ∈ t, q < f.1) {p : Bs} (hp : p ≤ q) : get t p = none :=
  get_none.2 fun f hf e => by subst e; exact lt_no (lt_le (h f hf) hp)
theorem get_in {t : List Fl} {p : Bs} (h : get t p ≠ none) : ∃ f ∈ t, f.1 = p := by
  rcases Decidable.em (∃ f ∈ t, f.1 = p) with h1 | h1
  · exact h1
  · exact absurd (get_none.2 fun f hf e => h1 ⟨f, hf, e⟩) h
theorem get_rise {t : List Fl} {p q : Bs} (h : ∀ f ∈ t, q < f.1) (hp : get t p ≠ none) : q < p := by
  obtain ⟨f, hf, rfl⟩ := get_in hp
  exact h f hf

/-- One path ahead of the rest. -/
theorem tells_step {a b a' b' : List Fl} {l : List Ch} {q : Bs} {c0 : Nat} (h : Tells a' b' l)
    (ha : ∀ f ∈ a', q < f.1) (hb : ∀ f ∈ b', q < f.1) (hga : ∀ p, p ≠ q → get a p = get a' p) (hgb : ∀ p, p ≠ q → get b p = get b' p)
    (hq : get a q ≠ none ∨ get b q ≠ none) (hk : kindV a b q = c0) : Tells a b ((if c0 = 0 then [] else [(q, c0)]) ++ l) := by
  have na : get a' q = none := get_above ha (List.le_refl _)
  have nb : get b' q = none := get_above hb (List.le_refl _)
  have hl : ∀ d ∈ l, q < d.1 := fun d hd => by
    obtain ⟨p, c⟩ := d
    rcases ((h.2 p c).1 hd).1 with h1 | h1
    · exact get_rise ha h1
    · exact get_rise hb h1
  refine ⟨List.pairwise_append.2 ⟨by split <;> simp, h.1, fun x hx y hy => ?_⟩, fun p c => ?_⟩
  · split at hx
    · cases hx
    · obtain rfl := List.mem_singleton.1 hx
      exact hl y hy
  · rw [List.mem_append]
    by_cases hp : p = q
    · subst hp
      have hno : ¬ (p, c) ∈ l := fun hm => lt_no (hl _ hm)
      constructor
      · rintro (h1 | h1)
        · split at h1
          · cases h1
          · rename_i h0
            injection List.mem_singleton.1 h1 with _ h2
            subst h2
            exact ⟨hq, hk.symm, by omega⟩
        · exact absurd h1 hno
      · rintro ⟨_, h2, h3⟩
        rw [hk] at h2
        subst h2
        left
        rw [if_neg (by omega)]
        exact List.mem_singleton.2 rfl
    · have hk2 : kindV a b p = kindV a' b' p := by unfold kindV; rw [hga p hp, hgb p hp]
      rw [hga p hp, hgb p hp, hk2, ← h.2 p c]
      constructor
      · rintro (h1 | h1)
        · split at h1
          · cases h1
          · injection List.mem_singleton.1 h1 with h2 _
            exact absurd h2 hp
        · exact h1
      · exact fun h1 => .inr h1

theorem rise_cons {x : Fl} {t : List Fl} (h : Rise (x :: t)) : (∀ f ∈ t, x.1 < f.1) ∧ Rise t := List.pairwise_cons.1 h
theorem get_other {x : Fl} {t : List Fl} {p : Bs} (h : p ≠ x.1) : get (x :: t) p = get t p := by rw [get_cons, if_neg (fun e => h e.symm)]
theorem get_head {x : Fl} {t : List Fl} : get (x :: t) x.1 = some x.2 := by rw [get_cons, if_pos rfl]
theorem above_cons {y : Fl} {t : List Fl} {q : Bs} (h : q < y.1) (ht : ∀ f ∈ t, y.1 < f.1) : ∀ f ∈ y :: t, q < f.1 := fun f hf => by
  rcases List.mem_cons.1 hf with rfl | hf
  · exact h
  · exact lt_lt h (ht f hf)

theorem mdf_tells : ∀ (k : Nat) (a b : List Fl), a.length + b.length ≤ k → Rise a → Rise b → Tells a b (mdf k a b)
  | 0, [], [], _, _, _ => ⟨List.Pairwise.nil, fun p c => by simp [mdf, get_nil]⟩
  | 0, _ :: _, _, h, _, _ => by simp at h
  | 0, [], _ :: _, h, _, _ => by simp at h
  | k + 1, [], [], _, _, _ => ⟨List.Pairwise.nil, fun p c => by simp [mdf, get_nil]⟩
  | k + 1, x :: a, [], h, ra, rb => by
    obtain ⟨h1, h2⟩ := rise_cons ra
    have hk : kindV (x :: a) [] x.1 = 2 := kind_gone (get_nil _)
    exact tells_step (mdf_tells k a [] (by simp at h ⊢; omega) h2 rb) h1 (fun f hf => by cases hf) (fun p hp => get_other hp) (fun p _ => rfl) (.inl (by rw [get_head]; simp)) hk
  | k + 1, [], y :: b, h, ra, rb => by
    obtain ⟨h1, h2⟩ := rise_cons rb
    have hk : kindV [] (y :: b) y.1 = 1 := kind_added (get_nil _) get_head
    exact tells_step (mdf_tells k [] b (by simp at h ⊢; omega) ra h2) (fun f hf => by cases hf) h1 (fun p _ => rfl) (fun p hp => get_other hp) (.inr (by rw [get_head]; simp)) hk
  | k + 1, x :: a, y :: b, h, ra, rb => by
    obtain ⟨a1, a2⟩ := rise_cons ra
    obtain ⟨b1, b2⟩ := rise_cons rb
    simp only [List.length_cons] at h
    unfold mdf
    by_cases hxy : x.1 < y.1
    · rw [if_pos hxy]
      have hab : ∀ f ∈ y :: b, x.1 < f.1 := above_cons hxy b1
      have hk : kindV (x :: a) (y :: b) x.1 = 2 := kind_gone (get_above hab (List.le_refl _))
      exact tells_step (mdf_tells k a (y :: b) (by simp; omega) a2 rb) a1 hab (fun p hp => get_other hp) (fun p _ => rfl) (.inl (by rw [get_head]; simp)) hk
    · rw [if_neg hxy]
      by_cases hyx : y.1 < x.1
      · rw [if_pos hyx]
        have hab : ∀ f ∈ x :: a, y.1 < f.1 := above_cons hyx a1
        have hk : kindV (x :: a) (y :: b) y.1 = 1 := kind_added (get_above hab (List.le_refl _)) get_head
        exact tells_step (mdf_tells k (x :: a) b (by simp; omega) ra b2) hab b1 (fun p _ => rfl) (fun p hp => get_other hp) (.inr (by rw [get_head]; simp)) hk
      · rw [if_neg hyx]
        have he : x.1 = y.1 := List.le_antisymm (List.not_lt.1 hyx) (List.not_lt.1 hxy)
        have hgy : get (y :: b) x.1 = some y.2 := by rw [he]; exact get_head
        have hk := kind_both (a := x :: a) (b := y :: b) get_head hgy
        have hs := tells_step (mdf_tells k a b (by omega) a2 b2) a1 (by rw [he]; exact b1) (fun p hp => get_other hp) (fun p hp => get_other (by rw [← he]; exact hp)) (.inl (by rw [get_head]; simp)) hk
        have e : (if (if x.2 = y.2 then 0 else 3) = 0 then ([] : List Ch) else [(x.1, if x.2 = y.2 then 0 else 3)]) = if x.2 = y.2 then [] else [(x.1, 3)] := by
          by_cases h2 : x.2 = y.2 <;> simp [h2]
        rw [e] at hs
        exact hs
theorem diffL_tells {a : List Fl} (ha : Rise a) (b : List Fl) : Tells a b (diffL a b (allV a b)) := by
  obtain ⟨r, hp, _⟩ := allV_spec ha b
  unfold diffL
  refine ⟨?_, fun p c => ?_⟩
  · refine List.Pairwise.filter _ (List.pairwise_map.2 ?_)
    exact r
  · have hg : ∀ t : List Fl, (∃ f ∈ t, f.1 = p) ↔ get t p ≠ none := fun t => ⟨fun ⟨f, hf, e⟩ h => (get_none.1 h) f hf e, get_in⟩
    rw [List.mem_filter, List.mem_map]
    have := hp p
    rw [hg a, hg b] at this
    rw [← this]
    constructor
    · rintro ⟨⟨f, hf, e⟩, h2⟩
      injection e with e1 e2
      subst e1 e2
      exact ⟨⟨f, hf, rfl⟩, rfl, by simpa using h2⟩
    · rintro ⟨⟨f, hf, rfl⟩, rfl, h3⟩
      exact ⟨⟨f, hf, rfl⟩, by simpa using h3⟩
theorem mdf_diff {a b : List Fl} {k : Nat} (hk : a.length + b.length ≤ k) (ha : Rise a) (hb : Rise b) : mdf k a b = diffL a b (allV a b) := (mdf_tells k a b hk ha hb).one (diffL_tells ha b)
end Tr
end Go.Proofs.Ytkldgfdfpanelaa
