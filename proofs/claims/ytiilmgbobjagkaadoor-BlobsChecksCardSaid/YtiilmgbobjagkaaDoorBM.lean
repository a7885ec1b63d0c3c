/-
  Layer 6 (blobs): a store as a rising list of digests and bytes: no program, no world.
-/
import Derived.WalkKit
namespace Go.Proofs.YtiilmgbobjagkaaDoor
namespace Bl

abbrev Bs := List UInt8
abbrev Bb := Bs × Bs

theorem lt_of {a b : Bs} (h : a ≤ b) (hn : a ≠ b) : a < b := by
  rcases Decidable.em (a < b) with h1 | h1
  · exact h1
  · exact absurd (List.le_antisymm h (List.not_lt.1 h1)) hn
theorem lt_no {a : Bs} : ¬ a < a := List.lt_irrefl a
theorem le_of {a b : Bs} (h : a < b) : a ≤ b := List.le_of_lt h
theorem lt_le {a b c : Bs} (h : a < b) (h2 : b ≤ c) : a < c := by
  refine lt_of (List.le_trans (le_of h) h2) (fun e => ?_)
  subst e
  exact (List.not_lt.2 h2) h
theorem le_lt {a b c : Bs} (h : a ≤ b) (h2 : b < c) : a < c := by
  refine lt_of (List.le_trans h (le_of h2)) (fun e => ?_)
  subst e
  exact (List.not_lt.2 h) h2
theorem lt_lt {a b c : Bs} (h : a < b) (h2 : b < c) : a < c := lt_le h (le_of h2)
theorem ne_of {a b : Bs} (h : a < b) : a ≠ b := fun e => by subst e; exact lt_no h

abbrev Rise (l : List Bb) : Prop := l.Pairwise (fun a b => a.1 < b.1)
/-- The bytes at a digest. -/
def get (l : List Bb) (d : Bs) : Option Bs := (l.find? (fun f => f.1 == d)).map (·.2)
theorem get_nil (d : Bs) : get [] d = none := rfl
theorem get_cons (f : Bb) (l : List Bb) (d : Bs) : get (f :: l) d = if f.1 = d then some f.2 else get l d := by
  unfold get
  rw [List.find?_cons]
  by_cases h : f.1 = d
  · rw [if_pos h, beq_iff_eq.2 h]; rfl
  · rw [if_neg h, beq_eq_false_iff_ne.2 h]
theorem get_none {l : List Bb} {d : Bs} : get l d = none ↔ ∀ f ∈ l, f.1 ≠ d := by
  induction l with
  | nil => simp [get_nil]
  | cons f l ih =>
    rw [get_cons]
    by_cases h : f.1 = d
    · rw [if_pos h]; simp [h]
    · rw [if_neg h, ih]; simp [h]
theorem get_some {l : List Bb} (h : Rise l) {d x : Bs} : get l d = some x ↔ (d, x) ∈ l := by
  induction l with
  | nil => simp [get_nil]
  | cons f l ih =>
    obtain ⟨h1, h2⟩ := List.pairwise_cons.1 h
    rw [get_cons]
    by_cases hf : f.1 = d
    · rw [if_pos hf]
      constructor
      · intro e
        injection e with e
        subst hf e
        exact List.mem_cons_self
      · intro hm
        rcases List.mem_cons.1 hm with e | hm
        · rw [← e]
        · exact absurd hf (ne_of (h1 _ hm))
    · rw [if_neg hf, ih h2]
      constructor
      · exact fun hm => List.mem_cons_of_mem _ hm
      · intro hm
        rcases List.mem_cons.1 hm with e | hm
        · exact absurd (by rw [← e]) hf
        · exact hm
theorem rise_nodup {l : List Bb} (h : Rise l) : l.Nodup := h.imp (fun hab e => by subst e; exact lt_no hab)
/-- Rising rows that have the same bytes at each digest are the same. -/
theorem rise_ext {s t : List Bb} (hs : Rise s) (ht : Rise t) (h : ∀ d, get s d = get t d) : s = t := by
  have hm : ∀ f, f ∈ s ↔ f ∈ t := fun f => by
    obtain ⟨p, d⟩ := f
    rw [← get_some hs, ← get_some ht, h p]
  exact List.Perm.eq_of_pairwise (le := fun a b => a.1 < b.1) (fun a b _ _ h1 h2 => absurd (lt_lt h1 h2) lt_no) hs ht ((List.perm_ext_iff_of_nodup (rise_nodup hs) (rise_nodup ht)).2 hm)

/-- Put in its place: the walk's state behind each blob of the row. -/
def insStep (f : Bb) (st : List Bb × Bool) (x : Bb) : List Bb × Bool :=
  let st1 := if (!st.2 && decide (f.1 < x.1)) = true then (st.1 ++ [f], true) else st
  (st1.1 ++ [x], st1.2)
def insRun (f : Bb) (l : List Bb) : List Bb × Bool := l.foldl (insStep f) ([], false)
def insV (l : List Bb) (f : Bb) : List Bb := if (insRun f l).2 = true then (insRun f l).1 else (insRun f l).1 ++ [f]
theorem insRun_snoc (f : Bb) (l : List Bb) (x : Bb) : insRun f (l ++ [x]) = insStep f (insRun f l) x := by
  unfold insRun; rw [List.foldl_append]; rfl
def putV (l : List Bb) (f : Bb) : List Bb := if (get l f.1).isSome = true then l else insV l f
def dropV (l : List Bb) (d : Bs) : List Bb := l.filter (fun x => decide (x.1 ≠ d))
def sizeV (l : List Bb) : Nat := (l.map (fun x => x.2.length)).sum

theorem filter_id {l : List Bb} {g : Bb → Bool} (h : ∀ x ∈ l, g x = true) : l.filter g = l := List.filter_eq_self.2 h
def insAt (l : List Bb) (f : Bb) : List Bb := l.filter (fun x => decide (x.1 ≤ f.1)) ++ f :: l.filter (fun x => decide (f.1 < x.1))
theorem insRun_eq (f : Bb) (l : List Bb) (h : Rise l) : insRun f l = if (l.all fun x => decide (x.1 ≤ f.1)) = true then (l, false) else (insAt l f, true) := by
  obtain ⟨r, rfl⟩ : ∃ r, l = r.reverse := ⟨l.reverse, by simp⟩
  induction r with
  | nil => rfl
  | cons x r ih =>
    rw [List.reverse_cons] at h ⊢
    have hp := List.pairwise_append.1 h
    have ih := ih hp.1
    have hx : ∀ y ∈ r.reverse, y.1 < x.1 := fun y hy => hp.2.2 y hy x (by simp)
    rw [insRun_snoc, ih]
    generalize r.reverse = q at hx
    by_cases ha : (q.all fun x => decide (x.1 ≤ f.1)) = true
    · rw [if_pos ha]
      have hq0 : q.filter (fun x => decide (f.1 < x.1)) = [] := by
        rw [List.filter_eq_nil_iff]
        intro y hy
        have := List.all_eq_true.1 ha y hy
        rw [decide_eq_true_eq] at this
        simp only [decide_eq_true_eq]
        exact List.not_lt.2 this
      have hq1 := filter_id (l := q) (g := fun x => decide (x.1 ≤ f.1)) (fun y hy => List.all_eq_true.1 ha y hy)
      unfold insStep
      by_cases hsx : f.1 < x.1
      · have hxs : ¬ x.1 ≤ f.1 := fun h2 => lt_no (lt_le hsx h2)
        have hn : ((q ++ [x]).all fun x => decide (x.1 ≤ f.1)) = false := by
          rw [List.all_append]; simp [hxs]
        rw [hn, if_neg (by simp : ¬ (false = true))]
        unfold insAt
        rw [List.filter_append, List.filter_append, hq0, hq1]
        simp [hsx, hxs]
      · have hxs : x.1 ≤ f.1 := List.not_lt.1 hsx
        have hn : ((q ++ [x]).all fun x => decide (x.1 ≤ f.1)) = true := by
          rw [List.all_append, ha]; simp [hxs]
        rw [hn, if_pos rfl]
        simp [hsx]
    · rw [if_neg ha]
      have hn : ¬ ((q ++ [x]).all fun x => decide (x.1 ≤ f.1)) = true := by
        rw [List.all_append, Bool.and_eq_true]
        exact fun h => ha h.1
      rw [if_neg hn]
      have hlt : f.1 < x.1 := by
        rw [Bool.not_eq_true, List.all_eq_false] at ha
        obtain ⟨y, hy, hys⟩ := ha
        rw [decide_eq_true_eq] at hys
        exact lt_lt (List.not_le.1 hys) (hx y hy)
      have hxs : ¬ x.1 ≤ f.1 := fun h2 => lt_no (lt_le hlt h2)
      unfold insStep insAt
      simp [hlt, hxs]
theorem insV_eq {l : List Bb} (f : Bb) (h : Rise l) : insV l f = insAt l f := by
  unfold insV
  rw [insRun_eq f l h]
  by_cases ha : (l.all fun x => decide (x.1 ≤ f.1)) = true
  · rw [if_pos ha]
    simp only [Bool.false_eq_true, if_false]
    unfold insAt
    have hq0 : l.filter (fun x => decide (f.1 < x.1)) = [] := by
      rw [List.filter_eq_nil_iff]
      intro y hy
      have := List.all_eq_true.1 ha y hy
      rw [decide_eq_true_eq] at this
      simp only [decide_eq_true_eq]
      exact List.not_lt.2 this
    rw [filter_id (fun y hy => List.all_eq_true.1 ha y hy), hq0]
  · rw [if_neg ha]; rfl
theorem insAt_mem (f : Bb) (l : List Bb) (x : Bb) : x ∈ insAt l f ↔ x = f ∨ x ∈ l := by
  unfold insAt
  rw [List.mem_append, List.mem_cons, List.mem_filter, List.mem_filter, decide_eq_true_eq, decide_eq_true_eq]
  constructor
  · rintro (⟨h, _⟩ | h | ⟨h, _⟩)
    · exact .inr h
    · exact .inl h
    · exact .inr h
  · rintro (h | h)
    · exact .inr (.inl h)
    · by_cases h2 : f.1 < x.1
      · exact .inr (.inr ⟨h, h2⟩)
      · exact .inl ⟨h, List.not_lt.1 h2⟩
theorem insAt_rise {l : List Bb} (f : Bb) (h : Rise l) (hn : get l f.1 = none) : Rise (insAt l f) := by
  have hne := get_none.1 hn
  unfold insAt
  refine List.pairwise_append.2 ⟨h.filter _, List.pairwise_cons.2 ⟨?_, h.filter _⟩, ?_⟩
  · intro y hy
    have := (List.mem_filter.1 hy).2
    simpa using this
  · intro a ha b hb
    obtain ⟨ha1, ha2⟩ := List.mem_filter.1 ha
    rw [decide_eq_true_eq] at ha2
    have hlt : a.1 < f.1 := lt_of ha2 (hne a ha1)
    rcases List.mem_cons.1 hb with rfl | hb
    · exact hlt
    · have hb2 := (List.mem_filter.1 hb).2
      rw [decide_eq_true_eq] at hb2
      exact lt_lt hlt hb2
theorem put_rise {l : List Bb} (f : Bb) (h : Rise l) : Rise (putV l f) := by
  unfold putV
  by_cases hg : (get l f.1).isSome = true
  · rw [if_pos hg]; exact h
  · rw [if_neg hg, insV_eq f h]
    exact insAt_rise f h (by simpa using hg)
theorem put_get {l : List Bb} (f : Bb) (h : Rise l) (d : Bs) : get (putV l f) d = if f.1 = d ∧ get l d = none then some f.2 else get l d := by
  unfold putV
  by_cases hg : (get l f.1).isSome = true
  · rw [if_pos hg]
    by_cases hd : f.1 = d
    · subst hd
      rw [if_neg (by rintro ⟨_, h2⟩; rw [h2] at hg; cases hg)]
    · rw [if_neg (fun h2 => hd h2.1)]
  · rw [if_neg hg, insV_eq f h]
    have hn : get l f.1 = none := by simpa using hg
    have hr := insAt_rise f h hn
    by_cases hd : f.1 = d
    · subst hd
      rw [if_pos ⟨rfl, hn⟩]
      exact (get_some hr).2 ((insAt_mem f l _).2 (.inl rfl))
    · rw [if_neg (fun h2 => hd h2.1)]
      cases hx : get l d with
      | none =>
        rw [get_none]
        intro x hxm
        rcases (insAt_mem f l x).1 hxm with rfl | hxm
        · exact hd
        · exact get_none.1 hx x hxm
      | some y => exact (get_some hr).2 ((insAt_mem f l _).2 (.inr ((get_some h).1 hx)))
theorem drop_rise {l : List Bb} (h : Rise l) (d : Bs) : Rise (dropV l d) := h.filter _
theorem drop_get {l : List Bb} (h : Rise l) (d q : Bs) : get (dropV l d) q = if d = q then none else get l q := by
  unfold dropV
  by_cases hd : d = q
  · subst hd
    rw [if_pos rfl, get_none]
    intro x hx
    have := (List.mem_filter.1 hx).2
    simpa using this
  · rw [if_neg hd]
    cases hx : get l q with
    | none =>
      rw [get_none]
      intro x hxm
      exact get_none.1 hx x (List.mem_filter.1 hxm).1
    | some y =>
      refine (get_some (h.filter _)).2 (List.mem_filter.2 ⟨(get_some h).1 hx, ?_⟩)
      simpa using fun e => hd e.symm
theorem filter_both (f : Bb) (l : List Bb) : (l.filter (fun x => decide (x.1 ≤ f.1))).length + (l.filter (fun x => decide (f.1 < x.1))).length = l.length := by
  induction l with
  | nil => rfl
  | cons x l ih =>
    rw [List.filter_cons, List.filter_cons, List.length_cons]
    by_cases h2 : x.1 ≤ f.1
    · rw [if_pos (by simpa using h2), if_neg (by simpa using List.not_lt.2 h2), List.length_cons]; omega
    · rw [if_neg (by simpa using h2), if_pos (by simpa using List.not_le.1 h2), List.length_cons]; omega
theorem put_len (l : List Bb) (f : Bb) (h : Rise l) : (putV l f).length ≤ l.length + 1 := by
  unfold putV
  by_cases hg : (get l f.1).isSome = true
  · rw [if_pos hg]; omega
  · rw [if_neg hg, insV_eq f h]
    unfold insAt
    have h1 := filter_both f l
    rw [List.length_append, List.length_cons]
    omega
end Bl
end Go.Proofs.YtiilmgbobjagkaaDoor
