/-
  Layer 4 (globs): patterns as lists of bytes: no program, no world.
-/
import Derived.Test.YtffmnobcdhgfdaaDoorMath
namespace Go.Proofs.YtffmnobcdhgfdaaDoor
namespace Gl
open Pt

def star : Bs := [42, 42]
def wild (c : UInt8) : Bool := c == 42 || c == 63
def hasSS : Bs → Bool
  | [] => false
  | c :: l => (c == 42 && l.head? == some 42) || hasSS l
def pat (p : Bs) : Bool := p == star || (!(p == [] || p == [46] || p == [46, 46] || decide (64 < p.length)) && p.all (fun c => wild c || chr c) && !hasSS p)
def pmay (l : Bs) : Bool := (parts l).all pat && decide ((parts l).length ≤ 16)

/-- Does f say yes to what stands behind some of the first ones? -/
def anySuf {α : Type} (f : List α → Bool) : List α → Bool
  | [] => f []
  | d :: s => f (d :: s) || anySuf f s
def one : Bs → Bs → Bool
  | [], s => s.isEmpty
  | c :: p, s => if c = 42 then anySuf (one p) s else match s with
    | [] => false
    | d :: s' => (c == 63 || c == d) && one p s'
def ass : List Bs → List Bs → Bool
  | [], cs => cs.isEmpty
  | p :: ps, cs => if p = star then (if ps = [] then !cs.isEmpty else anySuf (ass ps) cs) else match cs with
    | [] => false
    | c :: cs' => one p c && ass ps cs'
def mtch (p s : Bs) : Bool := pmay p && may s && ass (parts p) (parts s)
def fixd (p : Bs) : Bs := if pmay p = true then p.takeWhile (fun c => !wild c) else []

theorem anySuf_iff {α : Type} (f : List α → Bool) (s : List α) : anySuf f s = true ↔ ∃ k, k ≤ s.length ∧ f (s.drop k) = true := by
  induction s with
  | nil => simp [anySuf]
  | cons d s ih =>
    unfold anySuf
    rw [Bool.or_eq_true, ih]
    constructor
    · rintro (h | ⟨k, h1, h2⟩)
      · exact ⟨0, by simp, h⟩
      · exact ⟨k + 1, by simpa using h1, h2⟩
    · rintro ⟨k, h1, h2⟩
      cases k with
      | zero => exact .inl h2
      | succ k => exact .inr ⟨k, by simpa using h1, h2⟩
theorem anySuf_any {α : Type} (f : List α → Bool) (s : List α) (k : Nat) (h : f (s.drop k) = true) : anySuf f s = true := by
  by_cases hk : k ≤ s.length
  · exact (anySuf_iff f s).2 ⟨k, hk, h⟩
  · refine (anySuf_iff f s).2 ⟨s.length, Nat.le_refl _, ?_⟩
    rw [List.drop_of_length_le (by omega)] at h
    rw [List.drop_of_length_le (Nat.le_refl _)]; exact h
theorem anySuf_nil {α : Type} (f : List α → Bool) : anySuf f [] = f [] := rfl
theorem anySuf_drop {α : Type} (f : List α → Bool) (s : List α) (k : Nat) (h : anySuf f (s.drop k) = true) : anySuf f s = true := by
  obtain ⟨j, _, h2⟩ := (anySuf_iff f _).1 h
  rw [List.drop_drop] at h2
  exact anySuf_any f s _ h2

theorem one_nil (s : Bs) : one [] s = s.isEmpty := by unfold one; rfl
theorem one_st (p s : Bs) : one (42 :: p) s = anySuf (one p) s := by
  conv => lhs; unfold one
  rw [if_pos rfl]
theorem one_ch {c : UInt8} (p : Bs) (d : UInt8) (s : Bs) (h : c ≠ 42) : one (c :: p) (d :: s) = ((c == 63 || c == d) && one p s) := by
  conv => lhs; unfold one
  rw [if_neg h]
theorem one_ch_nil {c : UInt8} (p : Bs) (h : c ≠ 42) : one (c :: p) [] = false := by
  unfold one
  rw [if_neg h]
theorem one_end (r : Bs) : one r [] = r.all (· == 42) := by
  induction r with
  | nil => rfl
  | cons c r ih =>
    by_cases h : c = 42
    · subst h; rw [one_st, anySuf_nil, ih]; simp
    · rw [one_ch_nil r h]; simp [h]
theorem one_star (c : Bs) : one star c = true := by
  unfold star
  rw [one_st]
  refine anySuf_any _ c c.length ?_
  rw [List.drop_of_length_le (Nat.le_refl _), one_end]; rfl

/-- The signs of q take those of u, one by one. -/
def lit : Bs → Bs → Prop
  | [], [] => True
  | a :: q, d :: u => a ≠ 42 ∧ (a = 63 ∨ a = d) ∧ lit q u
  | _, _ => False
theorem lit_len : ∀ {q u : Bs}, lit q u → q.length = u.length
  | [], [], _ => rfl
  | _ :: q, _ :: u, h => by simp [lit_len (q := q) (u := u) h.2.2]
  | [], _ :: _, h => h.elim
  | _ :: _, [], h => h.elim
theorem lit_no : ∀ {q u : Bs}, lit q u → ∀ a ∈ q, a ≠ 42
  | [], [], _ => by simp
  | b :: q, _ :: u, h => by
    intro a ha
    rcases List.mem_cons.1 ha with rfl | ha
    · exact h.1
    · exact lit_no (q := q) (u := u) h.2.2 a ha
  | [], _ :: _, h => h.elim
  | _ :: _, [], h => h.elim
theorem lit_snoc : ∀ {q u : Bs} {a d : UInt8}, lit q u → a ≠ 42 → (a = 63 ∨ a = d) → lit (q ++ [a]) (u ++ [d])
  | [], [], _, _, _, h1, h2 => ⟨h1, h2, trivial⟩
  | _ :: q, _ :: u, _, _, h, h1, h2 => ⟨h.1, h.2.1, lit_snoc (q := q) (u := u) h.2.2 h1 h2⟩
  | [], _ :: _, _, _, h, _, _ => h.elim
  | _ :: _, [], _, _, h, _, _ => h.elim
theorem one_lit : ∀ {q u : Bs} (r v : Bs), lit q u → one (q ++ r) (u ++ v) = one r v
  | [], [], _, _, _ => rfl
  | a :: q, d :: u, r, v, h => by
    rw [List.cons_append, List.cons_append, one_ch _ _ _ h.1, one_lit (q := q) (u := u) r v h.2.2]
    have : (a == 63 || a == d) = true := by rcases h.2.1 with h | h <;> simp [h]
    rw [this, Bool.true_and]
  | [], _ :: _, _, _, h => h.elim
  | _ :: _, [], _, _, h => h.elim
theorem one_no : ∀ (q r s : Bs), (∀ a ∈ q, a ≠ 42) → one (q ++ r) s = true → one r (s.drop q.length) = true
  | [], _, _, _, h => h
  | a :: q, r, s, hq, h => by
    cases s with
    | nil => rw [List.cons_append, one_ch_nil _ (hq a (by simp))] at h; cases h
    | cons d s =>
      rw [List.cons_append, one_ch _ _ _ (hq a (by simp)), Bool.and_eq_true] at h
      exact one_no q r s (fun b hb => hq b (by simp [hb])) h.2

/-- A star ahead of signs that took theirs, and a further star: the first one is of no use any more. -/
theorem fit_new {q u : Bs} (r v : Bs) (h : lit q u) : one (42 :: (q ++ 42 :: r)) (u ++ v) = one (42 :: r) v := by
  rw [Bool.eq_iff_iff, one_st]
  constructor
  · intro h1
    obtain ⟨k, _, h2⟩ := (anySuf_iff _ _).1 h1
    have h3 := one_no q (42 :: r) _ (lit_no h) h2
    rw [List.drop_drop, lit_len h, Nat.add_comm, ← List.drop_drop, List.drop_left] at h3
    rw [one_st] at h3 ⊢
    exact anySuf_drop _ _ _ h3
  · intro h1
    refine anySuf_any _ _ 0 ?_
    rw [List.drop_zero, one_lit _ _ h]; exact h1
/-- A sign that doesn't fit: the star takes one more. -/
theorem fit_back {q u : Bs} (r : Bs) (d : UInt8) (v : Bs) (h : lit q u) (hr : one r (d :: v) = false) : one (42 :: (q ++ r)) (u ++ d :: v) = one (42 :: (q ++ r)) ((u ++ d :: v).drop 1) := by
  obtain ⟨x, xs, hx⟩ : ∃ x xs, u ++ d :: v = x :: xs := by cases u <;> simp
  rw [one_st, one_st, hx]
  show (one (q ++ r) (x :: xs) || anySuf (one (q ++ r)) xs) = _
  rw [← hx, one_lit _ _ h, hr, Bool.false_or]
  rw [hx]; rfl
theorem fit_end {q u : Bs} (r : Bs) (h : lit q u) : one (42 :: (q ++ r)) u = r.all (· == 42) := by
  rw [Bool.eq_iff_iff, one_st, ← one_end]
  constructor
  · intro h1
    obtain ⟨k, _, h2⟩ := (anySuf_iff _ _).1 h1
    have h3 := one_no q r _ (lit_no h) h2
    rw [List.drop_drop, lit_len h, List.drop_of_length_le (by omega)] at h3
    exact h3
  · intro h1
    refine anySuf_any _ _ 0 ?_
    have := one_lit r [] h
    rw [List.append_nil] at this
    rw [List.drop_zero, this]; exact h1

/-- The walk of fits: no star so far, or one at t that takes all up to e. -/
def Fit (p c : Bs) (b : Bool) (at_ i : Nat) (st : Int) (e : Nat) : Prop :=
  at_ ≤ p.length ∧ i ≤ c.length ∧ e ≤ i ∧ ((st = -1 ∧ one (p.drop at_) (c.drop i) = b) ∨ ∃ (t : Nat) (q u : Bs), st = t ∧ p.drop t = 42 :: (q ++ p.drop at_) ∧ lit q u ∧ c.drop e = u ++ c.drop i ∧ t + 1 + q.length = at_ ∧ e + u.length = i ∧ one (p.drop t) (c.drop e) = b)

theorem fit_start (p c : Bs) : Fit p c (one p c) 0 0 (-1) 0 := ⟨by omega, by omega, by omega, .inl ⟨rfl, rfl⟩⟩
theorem drop_at' {l : Bs} {k : Nat} (h : k < l.length) : l.drop k = l[k] :: l.drop (k + 1) := List.drop_eq_getElem_cons h
theorem fit_star {p c : Bs} {b : Bool} {at_ i e : Nat} {st : Int} (h : Fit p c b at_ i st e) (h1 : at_ < p.length) (h2 : p[at_] = 42) : Fit p c b (at_ + 1) i at_ i := by
  obtain ⟨f1, f2, f3, f4⟩ := h
  refine ⟨h1, f2, Nat.le_refl _, .inr ⟨at_, [], [], rfl, by rw [drop_at' h1, h2]; rfl, trivial, rfl, by simp, by simp, ?_⟩⟩
  rcases f4 with ⟨rfl, hb⟩ | ⟨t, q, u, rfl, hq, hl, hu, _, _, hb⟩
  · exact hb
  · rw [hq, hu, drop_at' h1, h2, fit_new _ _ hl] at hb
    rw [drop_at' h1, h2]; exact hb
theorem fit_sign {p c : Bs} {b : Bool} {at_ i e : Nat} {st : Int} (h : Fit p c b at_ i st e) (h1 : at_ < p.length) (h2 : i < c.length) (h3 : p[at_] ≠ 42) (h4 : p[at_] = 63 ∨ p[at_] = c[i]) : Fit p c b (at_ + 1) (i + 1) st e := by
  obtain ⟨f1, f2, f3, f4⟩ := h
  refine ⟨h1, h2, by omega, ?_⟩
  rcases f4 with ⟨rfl, hb⟩ | ⟨t, q, u, rfl, hq, hl, hu, ht, he, hb⟩
  · refine .inl ⟨rfl, ?_⟩
    rw [drop_at' h1, drop_at' h2, one_ch _ _ _ h3] at hb
    have : (p[at_] == 63 || p[at_] == c[i]) = true := by rcases h4 with h | h <;> simp [h]
    rw [this, Bool.true_and] at hb
    exact hb
  · refine .inr ⟨t, q ++ [p[at_]], u ++ [c[i]], rfl, ?_, lit_snoc hl h3 h4, ?_, by simp; omega, by simp; omega, hb⟩
    · rw [hq, drop_at' h1]; simp
    · rw [hu, drop_at' h2]; simp
theorem fit_no {p c : Bs} {at_ i : Nat} (h2 : i < c.length) (h3 : at_ < p.length → p[at_]? ≠ some 42 ∧ p[at_]? ≠ some 63 ∧ p[at_]? ≠ c[i]?) : one (p.drop at_) (c.drop i) = false := by
  by_cases h1 : at_ < p.length
  · obtain ⟨a, b, d⟩ := h3 h1
    rw [List.getElem?_eq_getElem h1] at a b d
    rw [List.getElem?_eq_getElem h2] at d
    have a' : p[at_] ≠ 42 := fun e => a (by rw [e])
    have b' : p[at_] ≠ 63 := fun e => b (by rw [e])
    have d' : p[at_] ≠ c[i] := fun e => d (by rw [e])
    rw [drop_at' h1, drop_at' h2, one_ch _ _ _ a']
    simp [b', d']
  · rw [List.drop_of_length_le (by omega), drop_at' h2, one_nil]; rfl
theorem fit_again {p c : Bs} {b : Bool} {at_ i e : Nat} {st : Int} (h : Fit p c b at_ i st e) (h2 : i < c.length) (h0 : 0 ≤ st) (h3 : at_ < p.length → p[at_]? ≠ some 42 ∧ p[at_]? ≠ some 63 ∧ p[at_]? ≠ c[i]?) : ∃ t : Nat, st = t ∧ t < at_ ∧ Fit p c b (t + 1) (e + 1) t (e + 1) := by
  obtain ⟨f1, f2, f3, f4⟩ := h
  have hno := fit_no h2 h3
  rcases f4 with ⟨rfl, hb⟩ | ⟨t, q, u, rfl, hq, hl, hu, ht, he, hb⟩
  · omega
  · have hd : p.drop (t + 1) = q ++ p.drop at_ := by rw [← List.drop_drop, hq]; rfl
    refine ⟨t, rfl, by omega, by omega, by omega, Nat.le_refl _, .inr ⟨t, [], [], rfl, by rw [hq, hd]; rfl, trivial, rfl, by simp, by simp, ?_⟩⟩
    have h6 : one (42 :: (q ++ p.drop at_)) (c.drop e) = one (42 :: (q ++ p.drop at_)) ((c.drop e).drop 1) := by
      rw [hu]
      rw [drop_at' h2] at hno ⊢
      exact fit_back _ _ _ hl hno
    rw [hq, h6, List.drop_drop] at hb
    rw [hq]; exact hb
theorem fit_fail {p c : Bs} {b : Bool} {at_ i e : Nat} {st : Int} (h : Fit p c b at_ i st e) (h2 : i < c.length) (h0 : st < 0) (h3 : at_ < p.length → p[at_]? ≠ some 42 ∧ p[at_]? ≠ some 63 ∧ p[at_]? ≠ c[i]?) : b = false := by
  obtain ⟨f1, f2, f3, f4⟩ := h
  have hno := fit_no h2 h3
  rcases f4 with ⟨rfl, hb⟩ | ⟨t, q, u, rfl, hq, hl, hu, ht, he, hb⟩
  · rw [← hb, hno]
  · omega
theorem fit_done {p c : Bs} {b : Bool} {at_ i e : Nat} {st : Int} (h : Fit p c b at_ i st e) (h2 : i = c.length) : (p.drop at_).all (· == 42) = b := by
  obtain ⟨f1, f2, f3, f4⟩ := h
  rcases f4 with ⟨rfl, hb⟩ | ⟨t, q, u, rfl, hq, hl, hu, ht, he, hb⟩
  · rw [List.drop_of_length_le (by omega : c.length ≤ i), one_end] at hb
    exact hb
  · rw [hq, hu, List.drop_of_length_le (by omega : c.length ≤ i), List.append_nil, fit_end _ hl] at hb
    exact hb

/-- What may be a pattern, by what may be a path. -/
def sub (c : UInt8) : UInt8 := if wild c = true then 120 else c
def codeMay (l : Bs) : Bool := (parts l).all (fun q => q == star || !hasSS q) && may (l.map sub)
theorem sub_47 (c : UInt8) : sub c = 47 ↔ c = 47 := by
  unfold sub wild
  by_cases h : (c == 42 || c == 63) = true
  · rw [if_pos h]
    rw [Bool.or_eq_true, beq_iff_eq, beq_iff_eq] at h
    rcases h with h | h <;> subst h <;> decide
  · rw [if_neg h]
theorem sub_46 (c : UInt8) : sub c = 46 ↔ c = 46 := by
  unfold sub wild
  by_cases h : (c == 42 || c == 63) = true
  · rw [if_pos h]
    rw [Bool.or_eq_true, beq_iff_eq, beq_iff_eq] at h
    rcases h with h | h <;> subst h <;> decide
  · rw [if_neg h]
theorem sub_chr (c : UInt8) : chr (sub c) = (wild c || chr c) := by
  unfold sub
  by_cases h : wild c = true
  · rw [if_pos h, h, Bool.true_or]; decide
  · rw [if_neg h]
    rw [Bool.not_eq_true] at h
    rw [h, Bool.false_or]
theorem parts_map (l : Bs) : parts (l.map sub) = (parts l).map (List.map sub) := by
  induction l with
  | nil => rfl
  | cons c l ih =>
    obtain ⟨p, ps, hp⟩ := parts_cons l
    rw [List.map_cons]
    unfold parts
    rw [ih, hp]
    by_cases h : c = 47
    · rw [if_pos h, if_pos ((sub_47 c).2 h)]; rfl
    · rw [if_neg h, if_neg (fun e => h ((sub_47 c).1 e))]; rfl
theorem map_46 (q : Bs) (l : Bs) (hl : ∀ x ∈ l, x = 46) : q.map sub = l ↔ q = l := by
  induction q generalizing l with
  | nil => cases l <;> simp
  | cons c q ih =>
    cases l with
    | nil => simp
    | cons d l =>
      rw [List.map_cons, List.cons.injEq, List.cons.injEq, ih l (fun x hx => hl x (by simp [hx]))]
      obtain rfl := hl d (by simp)
      rw [sub_46]
theorem beq_map_46 (q l : Bs) (hl : ∀ x ∈ l, x = 46) : (q.map sub == l) = (q == l) := by
  rw [Bool.eq_iff_iff, beq_iff_eq, beq_iff_eq, map_46 q l hl]
theorem comp_map (q : Bs) : comp (q.map sub) = (!(q == [] || q == [46] || q == [46, 46] || decide (64 < q.length)) && q.all (fun c => wild c || chr c)) := by
  unfold comp
  rw [beq_map_46 q [] (by simp), beq_map_46 q [46] (by simp), beq_map_46 q [46, 46] (by simp), List.length_map, List.all_map]
  congr 2
  funext c
  exact sub_chr c
theorem pat_comp (q : Bs) : pat q = ((q == star || !hasSS q) && comp (q.map sub)) := by
  rw [comp_map]
  unfold pat
  by_cases h : q = star
  · subst h; decide
  · have : (q == star) = false := by rw [beq_eq_false_iff_ne]; exact h
    rw [this, Bool.false_or, Bool.false_or, Bool.and_comm]
theorem pmay_code (l : Bs) : codeMay l = pmay l := by
  unfold codeMay pmay may
  rw [parts_map, List.length_map, ← Bool.and_assoc, List.all_map]
  congr 1
  rw [Bool.eq_iff_iff, Bool.and_eq_true, List.all_eq_true, List.all_eq_true, List.all_eq_true]
  constructor
  · rintro ⟨h1, h2⟩ q hq
    rw [pat_comp, h1 q hq]; exact h2 q hq
  · intro h
    constructor <;> intro q hq <;> have := h q hq <;> rw [pat_comp, Bool.and_eq_true] at this
    · exact this.1
    · exact this.2
end Gl
end Go.Proofs.YtffmnobcdhgfdaaDoor
