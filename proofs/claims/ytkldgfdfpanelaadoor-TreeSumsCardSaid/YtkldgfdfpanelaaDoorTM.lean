/-
  Layer 5 (tree): files as pairs of lists of bytes: no program, no world.
-/
import Derived.Test.YtkldgfdfpanelaaDoorMath
namespace Go.Proofs.YtkldgfdfpanelaaDoor
namespace Tr
open Pt

theorem lt_of {a b : Bs} (h : a ≤ b) (hn : a ≠ b) : a < b := by
  rcases Decidable.em (a < b) with h1 | h1
  · exact h1
  · exact absurd (List.le_antisymm h (List.not_lt.1 h1)) hn
theorem lt_no {a : Bs} : ¬ a < a := List.lt_irrefl a
theorem le_of {a b : Bs} (h : a < b) : a ≤ b := List.le_of_lt h
theorem lt_le {a b c : Bs} (h : a < b) (h2 : b ≤ c) : a < c := by
  refine lt_of (List.le_trans (le_of h) h2) (fun e => ?_)
  subst e
  exact (List.not_lt.2 h2) h
theorem le_lt {a b c : Bs} (h : a ≤ b) (h2 : b < c) : a < c := by
  refine lt_of (List.le_trans h (le_of h2)) (fun e => ?_)
  subst e
  exact (List.not_lt.2 h) h2
theorem lt_lt {a b c : Bs} (h : a < b) (h2 : b < c) : a < c := lt_le h (le_of h2)
theorem ne_of {a b : Bs} (h : a < b) : a ≠ b := fun e => by subst e; exact lt_no h

abbrev Fl := Bs × Bs
def outB : Bs := [111, 117, 116]
def okName (p : Bs) : Bool := may p && !(p == outB) && !under p outB

/-- What is wrong with a file, behind one of this path: the error's number. -/
def chk1 (prev : Option Bs) (f : Fl) : Nat :=
  if okName f.1 = false then 7 else
  match prev with
  | none => if 65536 < f.2.length then 6 else 0
  | some q => if f.1 = q then 8 else if f.1 < q then 2 else if 65536 < f.2.length then 6 else 0
def chkL : Option Bs → List Fl → Nat
  | _, [] => 0
  | prev, f :: r => if chk1 prev f = 0 then chkL (some f.1) r else chk1 prev f
def tcheck (t : List Fl) : Nat := if 1024 < t.length then 6 else chkL none t

abbrev Rise (t : List Fl) : Prop := t.Pairwise (fun a b => a.1 < b.1)
def okF (f : Fl) : Prop := okName f.1 = true ∧ f.2.length ≤ 65536
theorem chk1_none (f : Fl) : chk1 none f = 0 ↔ okF f := by
  unfold chk1 okF
  cases okName f.1
  · simp
  · simp only [Bool.true_eq_false, if_false, true_and]
    split <;> simp <;> omega
theorem chk1_some (q : Bs) (f : Fl) : chk1 (some q) f = 0 ↔ q < f.1 ∧ okF f := by
  unfold chk1 okF
  cases okName f.1
  · simp
  · simp only [Bool.true_eq_false, if_false, true_and]
    by_cases h1 : f.1 = q
    · rw [if_pos h1, h1]
      exact ⟨fun h => by omega, fun h => absurd h.1 lt_no⟩
    · rw [if_neg h1]
      by_cases h2 : f.1 < q
      · rw [if_pos h2]
        exact ⟨fun h => by omega, fun h => absurd (lt_lt h.1 h2) lt_no⟩
      · rw [if_neg h2]
        have h3 : q < f.1 := lt_of (List.not_lt.1 h2) (fun e => h1 e.symm)
        by_cases h4 : 65536 < f.2.length
        · rw [if_pos h4]
          exact ⟨fun h => by omega, fun h => by omega⟩
        · rw [if_neg h4]
          exact ⟨fun _ => ⟨h3, by omega⟩, fun _ => rfl⟩
theorem chkL_some : ∀ (t : List Fl) (q : Bs), chkL (some q) t = 0 ↔ Rise t ∧ (∀ f ∈ t, q < f.1) ∧ ∀ f ∈ t, okF f
  | [], q => by simp [chkL, Rise]
  | f :: t, q => by
    unfold chkL
    by_cases h : chk1 (some q) f = 0
    · rw [if_pos h, chkL_some t f.1]
      obtain ⟨h1, h2⟩ := (chk1_some q f).1 h
      constructor
      · rintro ⟨r1, r2, r3⟩
        refine ⟨List.pairwise_cons.2 ⟨r2, r1⟩, ?_, ?_⟩
        · intro g hg
          rcases List.mem_cons.1 hg with rfl | hg
          · exact h1
          · exact lt_lt h1 (r2 g hg)
        · intro g hg
          rcases List.mem_cons.1 hg with rfl | hg
          · exact h2
          · exact r3 g hg
      · rintro ⟨r1, r2, r3⟩
        obtain ⟨p1, p2⟩ := List.pairwise_cons.1 r1
        exact ⟨p2, p1, fun g hg => r3 g (by simp [hg])⟩
    · rw [if_neg h]
      constructor
      · intro h2; exact absurd h2 h
      · rintro ⟨r1, r2, r3⟩
        exact absurd ((chk1_some q f).2 ⟨r2 f (by simp), r3 f (by simp)⟩) h
theorem chkL_none (t : List Fl) : chkL none t = 0 ↔ Rise t ∧ ∀ f ∈ t, okF f := by
  cases t with
  | nil => simp [chkL, Rise]
  | cons f t =>
    unfold chkL
    by_cases h : chk1 none f = 0
    · rw [if_pos h, chkL_some t f.1]
      have h2 := (chk1_none f).1 h
      constructor
      · rintro ⟨r1, r2, r3⟩
        refine ⟨List.pairwise_cons.2 ⟨r2, r1⟩, ?_⟩
        intro g hg
        rcases List.mem_cons.1 hg with rfl | hg
        · exact h2
        · exact r3 g hg
      · rintro ⟨r1, r3⟩
        obtain ⟨p1, p2⟩ := List.pairwise_cons.1 r1
        exact ⟨p2, p1, fun g hg => r3 g (by simp [hg])⟩
    · rw [if_neg h]
      constructor
      · intro h2; exact absurd h2 h
      · rintro ⟨r1, r3⟩
        exact absurd ((chk1_none f).2 (r3 f (by simp))) h
/-- A tree. -/
def Tree (t : List Fl) : Prop := t.length ≤ 1024 ∧ Rise t ∧ ∀ f ∈ t, okF f
theorem tree_iff (t : List Fl) : tcheck t = 0 ↔ Tree t := by
  unfold tcheck Tree
  by_cases h : 1024 < t.length
  · rw [if_pos h]
    exact ⟨fun h2 => by omega, fun h2 => by omega⟩
  · rw [if_neg h, chkL_none]
    exact ⟨fun h2 => ⟨by omega, h2⟩, fun h2 => h2.2⟩

/-- The first wrong file decides: behind k files that are right. -/
def prevOf (t : List Fl) (k : Nat) : Option Bs := if k = 0 then none else (t[k - 1]?).map (·.1)
def okTo (t : List Fl) (k : Nat) : Prop := ∀ j f, j < k → t[j]? = some f → chk1 (prevOf t j) f = 0
theorem chkL_at : ∀ (t : List Fl) (prev : Option Bs) (k : Nat) (f : Fl), t[k]? = some f → (∀ j g, j < k → t[j]? = some g → chk1 (if j = 0 then prev else (t[j - 1]?).map (·.1)) g = 0) →
    chk1 (if k = 0 then prev else (t[k - 1]?).map (·.1)) f ≠ 0 → chkL prev t = chk1 (if k = 0 then prev else (t[k - 1]?).map (·.1)) f
  | [], _, k, f, h, _, _ => by simp at h
  | g :: t, prev, k, f, h, ho, hn => by
    unfold chkL
    cases k with
    | zero =>
      injection h with h
      subst h
      rw [if_pos rfl] at hn ⊢
      rw [if_neg hn]
    | succ k =>
      have h0 := ho 0 g (by omega) rfl
      rw [if_pos rfl] at h0
      rw [if_pos h0]
      rw [if_neg (by omega)] at hn ⊢
      have e : (g :: t)[k + 1 - 1]? = if k = 0 then some g else t[k - 1]? := by
        cases k with
        | zero => rfl
        | succ k => rfl
      have e2 : ((g :: t)[k + 1 - 1]?).map (·.1) = if k = 0 then some g.1 else (t[k - 1]?).map (·.1) := by
        rw [e]; split <;> rfl
      rw [e2] at hn ⊢
      refine chkL_at t (some g.1) k f h (fun j x hj hx => ?_) hn
      have := ho (j + 1) x (by omega) hx
      rw [if_neg (by omega)] at this
      have e3 : ((g :: t)[j + 1 - 1]?).map (·.1) = if j = 0 then some g.1 else (t[j - 1]?).map (·.1) := by
        cases j with
        | zero => rfl
        | succ j => rfl
      rw [e3] at this
      exact this
theorem check_at {t : List Fl} {k : Nat} {f : Fl} (hl : t.length ≤ 1024) (h : t[k]? = some f) (ho : okTo t k) (hn : chk1 (prevOf t k) f ≠ 0) : tcheck t = chk1 (prevOf t k) f := by
  unfold tcheck
  rw [if_neg (by omega)]
  exact chkL_at t none k f h ho hn
theorem chkL_ok : ∀ (t : List Fl) (prev : Option Bs), (∀ j g, t[j]? = some g → chk1 (if j = 0 then prev else (t[j - 1]?).map (·.1)) g = 0) → chkL prev t = 0
  | [], _, _ => rfl
  | g :: t, prev, ho => by
    unfold chkL
    have h0 := ho 0 g rfl
    rw [if_pos rfl] at h0
    rw [if_pos h0]
    refine chkL_ok t (some g.1) (fun j x hx => ?_)
    have := ho (j + 1) x hx
    rw [if_neg (by omega)] at this
    have e3 : ((g :: t)[j + 1 - 1]?).map (·.1) = if j = 0 then some g.1 else (t[j - 1]?).map (·.1) := by
      cases j with
      | zero => rfl
      | succ j => rfl
    rw [e3] at this
    exact this
theorem check_ok {t : List Fl} (hl : t.length ≤ 1024) (ho : okTo t t.length) : tcheck t = 0 := by
  unfold tcheck
  rw [if_neg (by omega)]
  refine chkL_ok t none (fun j g hg => ?_)
  exact ho j g (List.getElem?_eq_some_iff.1 hg).1 hg

/-- The bytes at a path. -/
def get (t : List Fl) (p : Bs) : Option Bs := (t.find? (fun f => f.1 == p)).map (·.2)
theorem get_nil (p : Bs) : get [] p = none := rfl
theorem get_cons (f : Fl) (t : List Fl) (p : Bs) : get (f :: t) p = if f.1 = p then some f.2 else get t p := by
  unfold get
  rw [List.find?_cons]
  by_cases h : f.1 = p
  · rw [if_pos h, beq_iff_eq.2 h]; rfl
  · rw [if_neg h, beq_eq_false_iff_ne.2 h]
theorem get_none {t : List Fl} {p : Bs} : get t p = none ↔ ∀ f ∈ t, f.1 ≠ p := by
  induction t with
  | nil => simp [get_nil]
  | cons f t ih =>
    rw [get_cons]
    by_cases h : f.1 = p
    · rw [if_pos h]; simp [h]
    · rw [if_neg h, ih]; simp [h]
theorem get_some {t : List Fl} (h : Rise t) {p d : Bs} : get t p = some d ↔ (p, d) ∈ t := by
  induction t with
  | nil => simp [get_nil]
  | cons f t ih =>
    obtain ⟨h1, h2⟩ := List.pairwise_cons.1 h
    rw [get_cons]
    by_cases hf : f.1 = p
    · rw [if_pos hf]
      constructor
      · intro e
        injection e with e
        subst hf e
        exact List.mem_cons_self
      · intro hm
        rcases List.mem_cons.1 hm with e | hm
        · rw [← e]
        · exact absurd hf (ne_of (h1 _ hm))
    · rw [if_neg hf, ih h2]
      constructor
      · exact fun hm => List.mem_cons_of_mem _ hm
      · intro hm
        rcases List.mem_cons.1 hm with e | hm
        · exact absurd (by rw [← e]) hf
        · exact hm
theorem rise_nodup {t : List Fl} (h : Rise t) : t.Nodup := h.imp (fun hab e => by subst e; exact lt_no hab)
/-- Rising files that have the same bytes at each path are the same. -/
theorem rise_ext {s t : List Fl} (hs : Rise s) (ht : Rise t) (h : ∀ p, get s p = get t p) : s = t := by
  have hm : ∀ f, f ∈ s ↔ f ∈ t := fun f => by
    obtain ⟨p, d⟩ := f
    rw [← get_some hs, ← get_some ht, h p]
  exact List.Perm.eq_of_pairwise (le := fun a b => a.1 < b.1) (fun a b _ _ h1 h2 => absurd (lt_lt h1 h2) lt_no) hs ht ((List.perm_ext_iff_of_nodup (rise_nodup hs) (rise_nodup ht)).2 hm)

/-- A file in its place: the walk's state behind each file. -/
def withStep (f : Fl) (st : List Fl × Bool) (x : Fl) : List Fl × Bool :=
  let st1 := if (!st.2 && decide (f.1 ≤ x.1)) = true then (st.1 ++ [f], true) else st
  (if x.1 = f.1 then st1.1 else st1.1 ++ [x], st1.2)
def withRun (f : Fl) (t : List Fl) : List Fl × Bool := t.foldl (withStep f) ([], false)
def withF (t : List Fl) (f : Fl) : List Fl := if (withRun f t).2 = true then (withRun f t).1 else (withRun f t).1 ++ [f]
theorem withRun_snoc (f : Fl) (t : List Fl) (x : Fl) : withRun f (t ++ [x]) = withStep f (withRun f t) x := by
  unfold withRun; rw [List.foldl_append]; rfl
def withAt (t : List Fl) (f : Fl) : List Fl := t.filter (fun x => decide (x.1 < f.1)) ++ f :: t.filter (fun x => decide (f.1 < x.1))
theorem filter_id {t : List Fl} {g : Fl → Bool} (h : ∀ x ∈ t, g x = true) : t.filter g = t := List.filter_eq_self.2 h
theorem withRun_eq (f : Fl) (t : List Fl) (h : Rise t) : withRun f t = if (t.all fun x => decide (x.1 < f.1)) = true then (t, false) else (withAt t f, true) := by
  obtain ⟨r, rfl⟩ : ∃ r, t = r.reverse := ⟨t.reverse, by simp⟩
  induction r with
  | nil => rfl
  | cons x r ih =>
    rw [List.reverse_cons] at h ⊢
    have hp := List.pairwise_append.1 h
    have ih := ih hp.1
    have hx : ∀ y ∈ r.reverse, y.1 < x.1 := fun y hy => hp.2.2 y hy x (by simp)
    rw [withRun_snoc, ih]
    generalize r.reverse = q at hx
    by_cases ha : (q.all fun x => decide (x.1 < f.1)) = true
    · rw [if_pos ha]
      unfold withStep
      have hq0 : q.filter (fun x => decide (f.1 < x.1)) = [] := by
        rw [List.filter_eq_nil_iff]
        intro y hy
        have := List.all_eq_true.1 ha y hy
        rw [decide_eq_true_eq] at this
        simp only [decide_eq_true_eq]
        intro h2
        exact lt_no (lt_lt this h2)
      have hq1 := filter_id (t := q) (g := fun x => decide (x.1 < f.1)) (fun y hy => List.all_eq_true.1 ha y hy)
      by_cases hsx : f.1 ≤ x.1
      · have hxs : ¬ x.1 < f.1 := List.not_lt.2 hsx
        have hn : ((q ++ [x]).all fun x => decide (x.1 < f.1)) = false := by
          rw [List.all_append]; simp [hxs]
        rw [hn, if_neg (by simp : ¬ (false = true))]
        simp only [Bool.not_false, Bool.true_and, decide_eq_true hsx, if_true]
        unfold withAt
        rw [List.filter_append, List.filter_append, hq0, hq1]
        by_cases he : x.1 = f.1
        · have h3 : ¬ f.1 < x.1 := fun h3 => ne_of h3 he.symm
          simp [he, lt_no]
        · have hlt : f.1 < x.1 := lt_of hsx (fun e => he e.symm)
          simp [he, hlt, hxs]
      · have hxs : x.1 < f.1 := List.not_le.1 hsx
        have hn : ((q ++ [x]).all fun x => decide (x.1 < f.1)) = true := by
          rw [List.all_append, ha]; simp [hxs]
        rw [hn, if_pos rfl]
        simp [hsx, ne_of hxs]
    · rw [if_neg ha]
      have hn : ¬ ((q ++ [x]).all fun x => decide (x.1 < f.1)) = true := by
        rw [List.all_append, Bool.and_eq_true]
        exact fun h => ha h.1
      rw [if_neg hn]
      have hlt : f.1 < x.1 := by
        rw [Bool.not_eq_true, List.all_eq_false] at ha
        obtain ⟨y, hy, hys⟩ := ha
        rw [decide_eq_true_eq] at hys
        exact le_lt (List.not_lt.1 hys) (hx y hy)
      have hxs : ¬ x.1 < f.1 := fun h2 => lt_no (lt_lt h2 hlt)
      have he : x.1 ≠ f.1 := fun e => ne_of hlt e.symm
      unfold withStep withAt
      simp [he, hlt, hxs]
theorem withF_eq {t : List Fl} (f : Fl) (h : Rise t) : withF t f = withAt t f := by
  unfold withF
  rw [withRun_eq f t h]
  by_cases ha : (t.all fun x => decide (x.1 < f.1)) = true
  · rw [if_pos ha]
    simp only [Bool.false_eq_true, if_false]
    unfold withAt
    have hq0 : t.filter (fun x => decide (f.1 < x.1)) = [] := by
      rw [List.filter_eq_nil_iff]
      intro y hy
      have := List.all_eq_true.1 ha y hy
      rw [decide_eq_true_eq] at this
      simp only [decide_eq_true_eq]
      intro h2
      exact lt_no (lt_lt this h2)
    rw [filter_id (fun y hy => List.all_eq_true.1 ha y hy), hq0]
  · rw [if_neg ha]; rfl
theorem withAt_rise (f : Fl) {t : List Fl} (h : Rise t) : Rise (withAt t f) := by
  unfold withAt
  refine List.pairwise_append.2 ⟨h.filter _, List.pairwise_cons.2 ⟨?_, h.filter _⟩, ?_⟩
  · intro y hy
    have := (List.mem_filter.1 hy).2
    simpa using this
  · intro a ha b hb
    have h1 := (List.mem_filter.1 ha).2
    rw [decide_eq_true_eq] at h1
    rcases List.mem_cons.1 hb with rfl | hb
    · exact h1
    · have h2 := (List.mem_filter.1 hb).2
      rw [decide_eq_true_eq] at h2
      exact lt_lt h1 h2
theorem withAt_mem (f : Fl) (t : List Fl) (x : Fl) : x ∈ withAt t f ↔ x = f ∨ (x ∈ t ∧ x.1 ≠ f.1) := by
  unfold withAt
  rw [List.mem_append, List.mem_cons, List.mem_filter, List.mem_filter, decide_eq_true_eq, decide_eq_true_eq]
  constructor
  · rintro (⟨h, h2⟩ | h | ⟨h, h2⟩)
    · exact .inr ⟨h, ne_of h2⟩
    · exact .inl h
    · exact .inr ⟨h, fun e => ne_of h2 e.symm⟩
  · rintro (h | ⟨h, hn⟩)
    · exact .inr (.inl h)
    · by_cases h1 : x.1 < f.1
      · exact .inl ⟨h, h1⟩
      · exact .inr (.inr ⟨h, lt_of (List.not_lt.1 h1) (fun e => hn e.symm)⟩)
theorem withF_rise {t : List Fl} (f : Fl) (h : Rise t) : Rise (withF t f) := by rw [withF_eq f h]; exact withAt_rise f h
theorem withF_mem {t : List Fl} (f : Fl) (h : Rise t) (x : Fl) : x ∈ withF t f ↔ x = f ∨ (x ∈ t ∧ x.1 ≠ f.1) := by rw [withF_eq f h]; exact withAt_mem f t x
theorem withF_get {t : List Fl} (f : Fl) (h : Rise t) (p : Bs) : get (withF t f) p = if f.1 = p then some f.2 else get t p := by
  have hr := withF_rise f h
  by_cases hp : f.1 = p
  · rw [if_pos hp, get_some hr, withF_mem f h]
    exact .inl (by rw [← hp])
  · rw [if_neg hp]
    cases hg : get t p with
    | none =>
      rw [get_none] at hg ⊢
      intro x hx
      rcases (withF_mem f h x).1 hx with rfl | ⟨hx, _⟩
      · exact hp
      · exact hg x hx
    | some d =>
      rw [get_some hr, withF_mem f h]
      exact .inr ⟨(get_some h).1 hg, fun e => hp e.symm⟩
theorem withF_len {t : List Fl} (f : Fl) (h : Rise t) : (withF t f).length ≤ t.length + 1 := by
  rw [withF_eq f h]
  unfold withAt
  have key : ∀ t : List Fl, (t.filter (fun x => decide (x.1 < f.1))).length + (t.filter (fun x => decide (f.1 < x.1))).length ≤ t.length := by
    intro t
    induction t with
    | nil => simp
    | cons x t ih =>
      rw [List.filter_cons, List.filter_cons]
      by_cases h1 : x.1 < f.1
      · have h2 : ¬ f.1 < x.1 := fun h2 => lt_no (lt_lt h1 h2)
        simp only [h1, h2, decide_true, decide_false, if_true, List.length_cons, Bool.false_eq_true, if_false]; omega
      · by_cases h2 : f.1 < x.1
        · simp only [h1, h2, decide_true, decide_false, if_true, List.length_cons, Bool.false_eq_true, if_false]; omega
        · simp only [h1, h2, decide_false, List.length_cons, Bool.false_eq_true, if_false]; omega
  have := key t
  rw [List.length_append, List.length_cons]; omega

/-- The document's calls. -/
def putV (t : List Fl) (f : Fl) : List Fl := if tcheck t = 0 then (if tcheck (withF t f) = 0 then withF t f else []) else []
def dropV (t : List Fl) (p : Bs) : List Fl := if tcheck t = 0 then t.filter (fun x => decide (x.1 ≠ p)) else []
def belowV (d p : Bs) : Bool := d == [] || under p d
def pathsV (t : List Fl) (d : Bs) : List Bs := if tcheck t = 0 then (t.filter (fun x => belowV d x.1)).map (·.1) else []
def rowV (t : List Fl) : List Bs := t.flatMap (fun f => [f.1, f.2])
theorem drop_tree {t : List Fl} (h : Tree t) (p : Bs) : Tree (t.filter (fun x => decide (x.1 ≠ p))) :=
  ⟨Nat.le_trans (List.length_filter_le _ _) h.1, h.2.1.filter _, fun f hf => h.2.2 f (List.mem_filter.1 hf).1⟩
theorem drop_get {t : List Fl} (h : Rise t) (p q : Bs) : get (t.filter (fun x => decide (x.1 ≠ p))) q = if p = q then none else get t q := by
  have hr : Rise (t.filter (fun x => decide (x.1 ≠ p))) := h.filter _
  by_cases hp : p = q
  · rw [if_pos hp, get_none]
    intro f hf
    have := (List.mem_filter.1 hf).2
    rw [← hp]
    simpa using this
  · rw [if_neg hp]
    cases hg : get t q with
    | none =>
      rw [get_none] at hg ⊢
      exact fun f hf => hg f (List.mem_filter.1 hf).1
    | some d =>
      rw [get_some hr, List.mem_filter]
      exact ⟨(get_some h).1 hg, by simpa using fun e => hp e.symm⟩

/-- All paths of both, each once. -/
def allV (a b : List Fl) : List Fl := b.foldl withF a
theorem allV_snoc (a b : List Fl) (x : Fl) : allV a (b ++ [x]) = withF (allV a b) x := by unfold allV; rw [List.foldl_append]; rfl
theorem allV_spec {a : List Fl} (ha : Rise a) (b : List Fl) : Rise (allV a b) ∧ (∀ p, (∃ f ∈ allV a b, f.1 = p) ↔ (∃ f ∈ a, f.1 = p) ∨ ∃ f ∈ b, f.1 = p) ∧ (allV a b).length ≤ a.length + b.length := by
  obtain ⟨r, rfl⟩ : ∃ r, b = r.reverse := ⟨b.reverse, by simp⟩
  induction r with
  | nil => exact ⟨ha, fun p => by simp [allV], by simp [allV]⟩
  | cons x r ih =>
    obtain ⟨i1, i2, i3⟩ := ih
    rw [List.reverse_cons, allV_snoc]
    refine ⟨withF_rise x i1, fun p => ?_, ?_⟩
    · constructor
      · rintro ⟨f, hf, rfl⟩
        rcases (withF_mem x i1 f).1 hf with rfl | ⟨hf, _⟩
        · exact .inr ⟨f, by simp, rfl⟩
        · rcases (i2 f.1).1 ⟨f, hf, rfl⟩ with h | ⟨g, hg, e⟩
          · exact .inl h
          · exact .inr ⟨g, by simp only [List.mem_append, hg, true_or], e⟩
      · intro h
        by_cases hp : x.1 = p
        · exact ⟨x, (withF_mem x i1 x).2 (.inl rfl), hp⟩
        · have : (∃ f ∈ a, f.1 = p) ∨ ∃ f ∈ r.reverse, f.1 = p := by
            rcases h with h | ⟨g, hg, e⟩
            · exact .inl h
            · rcases List.mem_append.1 hg with hg | hg
              · exact .inr ⟨g, hg, e⟩
              · rw [List.mem_singleton] at hg
                exact absurd (hg ▸ e) hp
          obtain ⟨g, hg, e⟩ := (i2 p).2 this
          exact ⟨g, (withF_mem x i1 g).2 (.inr ⟨hg, fun e2 => hp (e2.symm.trans e)⟩), e⟩
    · have := withF_len x i1
      rw [List.length_append, List.length_singleton]; omega

/-- What became of a path: 0, 1 (added), 2 (gone), 3 (altered). -/
def kindV (a b : List Fl) (p : Bs) : Nat := match get a p, get b p with
  | _, none => 2
  | none, some _ => 1
  | some x, some y => if x = y then 0 else 3
def diffL (a b all : List Fl) : List (Bs × Nat) := (all.map (fun f => (f.1, kindV a b f.1))).filter (fun c => decide (0 < c.2))
def diffV (a b : List Fl) : List (Bs × Nat) := if tcheck a = 0 ∧ tcheck b = 0 then diffL a b (allV a b) else []
end Tr
end Go.Proofs.YtkldgfdfpanelaaDoor
