/-
  Layer 1 (pack): plain mathematics of rows as bytes: the encoding of a row, its reading, and that they are inverse. Names no program.
-/
import Derived.Lib.ItoaMem
namespace Go.Proofs.YtogpigfepebibaaGreatDoor
namespace Pk
open Go.Lib

abbrev Bs := List UInt8

/-- The encoding of a row. -/
def enc : List Bs → Bs
  | [] => []
  | s :: r => decDigits s.length ++ 58 :: (s ++ enc r)

theorem enc_append (a b : List Bs) : enc (a ++ b) = enc a ++ enc b := by
  induction a with
  | nil => rfl
  | cons s r ih => simp [enc, ih]

/-- One more byte of a length: n what it is so far, k how many digits. -/
def bad (n k : Nat) : Bool := (decide (0 < k) && decide (n = 0)) || decide (9 ≤ k)
def isD (c : UInt8) : Bool := decide (48 ≤ c.toNat) && decide (c.toNat ≤ 57)

/-- The length that bytes begin with: the value and the number of digits, or the error's number. -/
def rdNum : Nat → Nat → Bs → Nat ⊕ (Nat × Nat)
  | _, _, [] => .inl 4
  | n, k, c :: r =>
    if c = 58 ∧ 0 < k then .inr (n, k)
    else if isD c = true ∧ bad n k = false then rdNum (n * 10 + (c.toNat - 48)) (k + 1) r
    else .inl 3

theorem rdNum_nil (n k : Nat) : rdNum n k [] = .inl 4 := rfl
theorem rdNum_colon (n k : Nat) (r : Bs) (h : 0 < k) : rdNum n k (58 :: r) = .inr (n, k) := by simp [rdNum, h]
theorem rdNum_digit (n k : Nat) (c : UInt8) (r : Bs) (h : isD c = true) (hb : bad n k = false) : rdNum n k (c :: r) = rdNum (n * 10 + (c.toNat - 48)) (k + 1) r := by
  have : c ≠ 58 := by rintro rfl; exact absurd h (by decide)
  simp [rdNum, this, h, hb]
theorem rdNum_bad (n k : Nat) (c : UInt8) (r : Bs) (h : isD c = true) (hb : bad n k = true) : rdNum n k (c :: r) = .inl 3 := by
  have : c ≠ 58 := by rintro rfl; exact absurd h (by decide)
  simp [rdNum, this, hb]
theorem rdNum_other (n k : Nat) (c : UInt8) (r : Bs) (h : isD c = false) (hb : ¬ (c = 58 ∧ 0 < k)) : rdNum n k (c :: r) = .inl 3 := by
  simp [rdNum, hb, h]

theorem bad_lt {n k : Nat} (h : bad n k = false) : k < 9 := by
  simp [bad] at h; omega

/-- What is read is bounded. -/
theorem rdNum_bound : ∀ (b : Bs) (n k n' k' : Nat), n < 10 ^ k → k ≤ 9 → rdNum n k b = .inr (n', k') → n' < 1000000000 ∧ k ≤ k' ∧ k' ≤ 9 ∧ k' - k < b.length
  | [], n, k, n', k', _, _, h => by simp [rdNum] at h
  | c :: r, n, k, n', k', hn, hk, h => by
    unfold rdNum at h
    split at h
    · injection h with h; injection h with h1 h2; subst h1; subst h2
      have : 10 ^ k ≤ 10 ^ 9 := Nat.pow_le_pow_right (by decide) hk
      refine ⟨by omega, Nat.le_refl _, hk, by simp⟩
    · split at h
      · rename_i hd
        have hb := bad_lt hd.2
        have hc : c.toNat ≤ 57 := by have := hd.1; simp [isD] at this; omega
        have := rdNum_bound r _ _ n' k' (by rw [Nat.pow_succ]; omega) (by omega) h
        simp only [List.length_cons]
        omega
      · cases h

/-- The error's number is one of two. -/
theorem rdNum_err : ∀ (b : Bs) (n k e : Nat), rdNum n k b = .inl e → e = 3 ∨ e = 4
  | [], n, k, e, h => by simp [rdNum] at h; omega
  | c :: r, n, k, e, h => by
    unfold rdNum at h
    split at h
    · cases h
    · split at h
      · exact rdNum_err r _ _ e h
      · injection h; omega

/-- The row of bytes: the error's number and the row. -/
def decF : Nat → List Bs → Bs → Nat × List Bs
  | 0, acc, _ => (0, acc)
  | _ + 1, acc, [] => (0, acc)
  | f + 1, acc, c :: r =>
    match rdNum 0 0 (c :: r) with
    | .inl e => (e, [])
    | .inr (n, k) => if ((c :: r).drop (k + 1)).length < n then (4, []) else decF f (acc ++ [((c :: r).drop (k + 1)).take n]) (((c :: r).drop (k + 1)).drop n)

def dec (b : Bs) : Nat × List Bs := decF (b.length + 1) [] b

theorem decF_nil (f : Nat) (acc : List Bs) : decF f acc [] = (0, acc) := by cases f <;> rfl
theorem decF_err (f : Nat) (acc : List Bs) (b : Bs) (h : b ≠ []) (e : Nat) (he : rdNum 0 0 b = .inl e) : decF (f + 1) acc b = (e, []) := by
  cases b with
  | nil => exact absurd rfl h
  | cons c r => simp only [decF]; rw [he]
theorem decF_short (f : Nat) (acc : List Bs) (b : Bs) (h : b ≠ []) (n k : Nat) (he : rdNum 0 0 b = .inr (n, k)) (hl : (b.drop (k + 1)).length < n) : decF (f + 1) acc b = (4, []) := by
  cases b with
  | nil => exact absurd rfl h
  | cons c r => simp only [decF]; rw [he]; simp only []; rw [if_pos hl]
theorem decF_step (f : Nat) (acc : List Bs) (b : Bs) (h : b ≠ []) (n k : Nat) (he : rdNum 0 0 b = .inr (n, k)) (hl : ¬ (b.drop (k + 1)).length < n) :
    decF (f + 1) acc b = decF f (acc ++ [(b.drop (k + 1)).take n]) ((b.drop (k + 1)).drop n) := by
  cases b with
  | nil => exact absurd rfl h
  | cons c r => simp only [decF]; rw [he]; simp only []; rw [if_neg hl]

/-- So much fuel is enough. -/
theorem decF_fuel : ∀ (f g : Nat) (acc : List Bs) (b : Bs), b.length < f → b.length < g → decF f acc b = decF g acc b
  | 0, _, _, _, h, _ => by omega
  | _ + 1, 0, _, _, _, h => by omega
  | f + 1, g + 1, acc, b, h1, h2 => by
    by_cases hb : b = []
    · subst hb; rw [decF_nil, decF_nil]
    · have hpos : 0 < b.length := List.length_pos_iff.2 hb
      cases hr : rdNum 0 0 b with
      | inl e => rw [decF_err f acc b hb e hr, decF_err g acc b hb e hr]
      | inr x =>
        obtain ⟨n, k⟩ := x
        by_cases hl : (b.drop (k + 1)).length < n
        · rw [decF_short f acc b hb n k hr hl, decF_short g acc b hb n k hr hl]
        · rw [decF_step f acc b hb n k hr hl, decF_step g acc b hb n k hr hl]
          have hlen : ((b.drop (k + 1)).drop n).length < b.length := by
            simp only [List.length_drop]; omega
          exact decF_fuel f g _ _ (by omega) (by omega)

/-- Digits, one by one: where a number of at most nine digits without a leading zero is read. -/
theorem isD_dg (i : Nat) (h : i < 10) : isD (UInt8.ofNat (48 + i)) = true ∧ (UInt8.ofNat (48 + i)).toNat = 48 + i := by
  have e : (UInt8.ofNat (48 + i)).toNat = 48 + i := by simp [UInt8.toNat_ofNat']; omega
  exact ⟨by simp only [isD, e, Bool.and_eq_true, decide_eq_true_eq]; omega, e⟩

theorem nDigits_le9 (u : Nat) (h : u < 1000000000) : nDigits u ≤ 9 := by
  by_cases h0 : u < 10
  · rw [nDigits_small h0]; omega
  · have hp : ∀ k, u < 10 ^ (k + 1) → nDigits u ≤ k + 1 := by
      intro k
      clear h h0
      induction k generalizing u with
      | zero => intro h; rw [nDigits_small (by simpa using h)]; omega
      | succ k ih =>
        intro h
        by_cases h0 : u < 10
        · rw [nDigits_small h0]; omega
        · rw [nDigits_big h0]
          have := ih (u / 10) (by rw [Nat.pow_succ] at h; omega)
          omega
    exact hp 8 (by simpa using h)

theorem rdNum_digits : ∀ (u : Nat) (t : Bs), nDigits u ≤ 9 → rdNum 0 0 (decDigits u ++ t) = rdNum u (nDigits u) t := by
  intro u
  induction u using Nat.strongRecOn with
  | _ u ih =>
    intro t h
    by_cases h0 : u < 10
    · rw [decDigits, dif_pos h0, nDigits_small h0]
      have ⟨hd, hv⟩ := isD_dg u h0
      rw [List.singleton_append, rdNum_digit _ _ _ _ hd (by simp [bad]), hv]
      congr 1; omega
    · rw [decDigits, dif_neg h0, List.append_assoc, List.singleton_append]
      rw [nDigits_big h0] at h ⊢
      rw [ih (u / 10) (by omega) _ (by omega)]
      have ⟨hd, hv⟩ := isD_dg (u % 10) (by omega)
      rw [rdNum_digit _ _ _ _ hd (by simp [bad]; omega), hv]
      congr 1; omega

/-- A part of a number's digits, that ends there: more could come. -/
theorem rdNum_part : ∀ (u : Nat) (j : Nat), nDigits u ≤ 9 → j ≤ nDigits u → rdNum 0 0 ((decDigits u).take j) = .inl 4 := by
  intro u
  induction u using Nat.strongRecOn with
  | _ u ih =>
    intro j h hj
    by_cases hlast : j = nDigits u
    · subst hlast
      have hd := decDigits_length u
      rw [List.take_of_length_le (by omega)]
      have := rdNum_digits u [] h
      rw [List.append_nil] at this
      rw [this]; rfl
    · by_cases h0 : u < 10
      · rw [nDigits_small h0] at hj hlast
        obtain rfl : j = 0 := by omega
        rfl
      · rw [nDigits_big h0] at h hj hlast
        have hd := decDigits_length (u / 10)
        rw [decDigits, dif_neg h0, List.take_append_of_le_length (by omega)]
        exact ih (u / 10) (by omega) j (by omega) (by omega)

theorem rdNum_enc (s : Bs) (t : Bs) (h : s.length < 1000000000) : rdNum 0 0 (decDigits s.length ++ 58 :: t) = .inr (s.length, nDigits s.length) := by
  rw [rdNum_digits _ _ (nDigits_le9 _ h), rdNum_colon _ _ _ (nDigits_pos _)]

theorem drop_enc (u : Nat) (t : Bs) : (decDigits u ++ 58 :: t).drop (nDigits u + 1) = t := by
  rw [← decDigits_length u, List.drop_append]
  simp

theorem ne_nil_digits (u : Nat) (t : Bs) : decDigits u ++ t ≠ [] := by
  have h1 := decDigits_length u
  have h2 := nDigits_pos u
  intro e
  have h3 := congrArg List.length e
  rw [List.length_append, List.length_nil] at h3
  omega

/-- What is written is read. -/
theorem decF_enc : ∀ (l : List Bs) (f : Nat) (acc : List Bs), (∀ s ∈ l, s.length < 1000000000) → (enc l).length ≤ f → decF f acc (enc l) = (0, acc ++ l)
  | [], f, acc, _, _ => by simp [enc, decF_nil]
  | s :: r, f, acc, h, hf => by
    have hs := h s (by simp)
    have hd := decDigits_length s.length
    have hp := nDigits_pos s.length
    unfold enc at hf ⊢
    simp only [List.length_append, List.length_cons] at hf
    obtain ⟨f, rfl⟩ : ∃ g, f = g + 1 := ⟨f - 1, by omega⟩
    rw [decF_step f acc _ (ne_nil_digits _ _) _ _ (rdNum_enc s _ hs) (by rw [drop_enc]; simp), drop_enc, List.take_left, List.drop_left]
    rw [decF_enc r f _ (fun x hx => h x (by simp [hx])) (by omega)]
    simp

theorem dec_enc (l : List Bs) (h : ∀ s ∈ l, s.length < 1000000000) : dec (enc l) = (0, l) := by
  unfold dec
  rw [decF_enc l _ [] h (by omega)]
  rfl

/-- Two rows with the same bytes are the same. -/
theorem enc_inj {a b : List Bs} (ha : ∀ s ∈ a, s.length < 1000000000) (hb : ∀ s ∈ b, s.length < 1000000000) (h : enc a = enc b) : a = b := by
  have := dec_enc a ha
  rw [h, dec_enc b hb] at this
  injection this with _ this
  exact this.symm

theorem rdNum_le : ∀ {b : Bs} {n k n' k' : Nat}, rdNum n k b = .inr (n', k') → k ≤ k'
  | [], n, k, n', k', h => by simp [rdNum] at h
  | c :: r, n, k, n', k', h => by
    unfold rdNum at h
    split at h
    · injection h with h; injection h with h1 h2; omega
    · split at h
      · have := rdNum_le h; omega
      · cases h

/-- A number that is read, written: its digits. -/
theorem rdNum_back : ∀ (b : Bs) (n k n' k' : Nat), nDigits n = k → 0 < k → rdNum n k b = .inr (n', k') → decDigits n ++ b.take (k' - k) = decDigits n' ∧ nDigits n' = k' ∧ ∃ t, b.drop (k' - k) = 58 :: t
  | [], n, k, n', k', _, _, h => by simp [rdNum] at h
  | c :: r, n, k, n', k', hk, hp, h => by
    unfold rdNum at h
    split at h
    · rename_i hc
      injection h with h; injection h with h1 h2; subst h1; subst h2
      obtain ⟨rfl, _⟩ := hc
      refine ⟨by simp, hk, r, by simp⟩
    · split at h
      · rename_i hd
        have hb := rdNum_le h
        have hc : 48 ≤ c.toNat ∧ c.toNat ≤ 57 := by have := hd.1; simpa [isD] using this
        have hn : 0 < n := by
          rcases Nat.eq_zero_or_pos n with h0 | h0
          · have := hd.2; simp [bad, h0] at this; omega
          · exact h0
        have hbig : ¬ n * 10 + (c.toNat - 48) < 10 := by omega
        have hdiv : (n * 10 + (c.toNat - 48)) / 10 = n := by omega
        have hmod : (n * 10 + (c.toNat - 48)) % 10 = c.toNat - 48 := by omega
        have hdig : decDigits (n * 10 + (c.toNat - 48)) = decDigits n ++ [c] := by
          rw [decDigits, dif_neg hbig, hdiv, hmod]
          congr 2
          rw [show 48 + (c.toNat - 48) = c.toNat by omega]
          simp
        have hnd : nDigits (n * 10 + (c.toNat - 48)) = k + 1 := by rw [nDigits_big hbig, hdiv, hk]
        obtain ⟨h1, h2, t, h3⟩ := rdNum_back r _ _ n' k' hnd (by omega) h
        rw [hdig] at h1
        have e : k' - k = (k' - (k + 1)) + 1 := by omega
        refine ⟨?_, h2, t, by rw [e]; simpa using h3⟩
        rw [e, List.take_succ_cons, ← h1]
        simp
      · cases h

theorem rdNum_first {b : Bs} {n k : Nat} (h : rdNum 0 0 b = .inr (n, k)) : b.take k = decDigits n ∧ ∃ t, b.drop k = 58 :: t := by
  cases b with
  | nil => simp [rdNum] at h
  | cons c r =>
    unfold rdNum at h
    rw [if_neg (by simp)] at h
    split at h
    · rename_i hd
      have hc : 48 ≤ c.toNat ∧ c.toNat ≤ 57 := by have := hd.1; simpa [isD] using this
      have hs : 0 * 10 + (c.toNat - 48) < 10 := by omega
      have hdig : decDigits (0 * 10 + (c.toNat - 48)) = [c] := by
        rw [decDigits, dif_pos hs]
        congr 1
        rw [show 48 + (0 * 10 + (c.toNat - 48)) = c.toNat by omega]
        simp
      obtain ⟨h1, h2, t, h3⟩ := rdNum_back r _ _ n k (nDigits_small hs) (by omega) h
      have hk := rdNum_le h
      rw [hdig] at h1
      have e : k = (k - 1) + 1 := by omega
      refine ⟨?_, t, by rw [e]; simpa using h3⟩
      rw [e, List.take_succ_cons, ← h1]
      simp
    · cases h

/-- What is read is written as it was. -/
theorem decF_back : ∀ (f : Nat) (acc : List Bs) (b : Bs) (l : List Bs), b.length < f → decF f acc b = (0, l) → enc l = enc acc ++ b
  | 0, _, _, _, h, _ => by omega
  | f + 1, acc, b, l, hf, h => by
    by_cases hb : b = []
    · subst hb
      rw [decF_nil] at h
      injection h with _ h
      subst h
      simp
    · cases hr : rdNum 0 0 b with
      | inl e =>
        rw [decF_err f acc b hb e hr] at h
        injection h with h _
        rcases rdNum_err _ _ _ _ hr with rfl | rfl <;> omega
      | inr x =>
        obtain ⟨n, k⟩ := x
        obtain ⟨h1, t, h2⟩ := rdNum_first hr
        have hkl : b.drop (k + 1) = t := by rw [← List.drop_drop, h2]; rfl
        by_cases hl : (b.drop (k + 1)).length < n
        · rw [decF_short f acc b hb n k hr hl] at h
          injection h with h _
          cases h
        · rw [decF_step f acc b hb n k hr hl] at h
          have hlen : ((b.drop (k + 1)).drop n).length < f := by
            simp only [List.length_drop]
            have : 0 < b.length := List.length_pos_iff.2 hb
            omega
          have := decF_back f _ _ l hlen h
          rw [this, enc_append]
          simp only [enc, List.append_nil, List.append_assoc, List.cons_append]
          congr 1
          rw [hkl] at hl ⊢
          have hn : (t.take n).length = n := by rw [List.length_take]; omega
          rw [hn, ← h1, List.take_append_drop, ← h2, List.take_append_drop]

theorem dec_back {b : Bs} {l : List Bs} (h : dec b = (0, l)) : enc l = b := by
  have := decF_back _ _ _ _ (by omega) h
  simpa [enc] using this

/-- A part of a row's bytes is no row, or a shorter one. -/
theorem decF_cut : ∀ (l : List Bs) (f : Nat) (acc : List Bs) (j : Nat), (∀ s ∈ l, s.length < 1000000000) → j < (enc l).length → j < f →
    (decF f acc ((enc l).take j)).1 = 4 ∧ (decF f acc ((enc l).take j)).2 = [] ∨ ∃ m, m < l.length ∧ decF f acc ((enc l).take j) = (0, acc ++ l.take m)
  | [], f, acc, j, _, hj, _ => by simp [enc] at hj
  | s :: r, f, acc, j, h, hj, hf => by
    have hs := h s (by simp)
    have hd := decDigits_length s.length
    have hp := nDigits_pos s.length
    have h9 := nDigits_le9 _ hs
    unfold enc at hj ⊢
    simp only [List.length_append, List.length_cons] at hj
    obtain ⟨f, rfl⟩ : ∃ g, f = g + 1 := ⟨f - 1, by omega⟩
    by_cases h0 : j = 0
    · subst h0
      exact .inr ⟨0, by simp, by simp [decF_nil]⟩
    · by_cases h1 : j ≤ nDigits s.length
      · left
        rw [List.take_append_of_le_length (by omega)]
        have hne : (decDigits s.length).take j ≠ [] := by
          intro e
          have h3 := congrArg List.length e
          rw [List.length_take, hd, List.length_nil] at h3
          omega
        rw [decF_err f acc _ hne 4 (rdNum_part _ j h9 h1)]
        exact ⟨rfl, rfl⟩
      · obtain ⟨i, rfl⟩ : ∃ i, j = nDigits s.length + (i + 1) := ⟨j - nDigits s.length - 1, by omega⟩
        rw [List.take_append, List.take_of_length_le (by omega), hd, Nat.add_sub_cancel_left, List.take_succ_cons]
        have hrd := rdNum_enc s ((s ++ enc r).take i) hs
        by_cases h2 : i < s.length
        · left
          rw [decF_short f acc _ (ne_nil_digits _ _) _ _ hrd (by rw [drop_enc, List.length_take, List.length_append]; omega)]
          exact ⟨rfl, rfl⟩
        · have e : (s ++ enc r).take i = s ++ (enc r).take (i - s.length) := by rw [List.take_append, List.take_of_length_le (by omega)]
          rw [e] at hrd ⊢
          rw [decF_step f acc _ (ne_nil_digits _ _) _ _ hrd (by rw [drop_enc]; simp), drop_enc, List.take_left, List.drop_left]
          rcases decF_cut r f (acc ++ [s]) (i - s.length) (fun x hx => h x (by simp [hx])) (by omega) (by omega) with hc | ⟨m, hm, hc⟩
          · exact .inl hc
          · exact .inr ⟨m + 1, by simp; omega, by rw [hc]; simp⟩

theorem dec_cut (l : List Bs) (j : Nat) (h : ∀ s ∈ l, s.length < 1000000000) (hj : j < (enc l).length) :
    dec ((enc l).take j) = (4, []) ∨ ∃ m, m < l.length ∧ dec ((enc l).take j) = (0, l.take m) := by
  unfold dec
  have hl : ((enc l).take j).length = j := by rw [List.length_take]; omega
  rw [hl]
  rcases decF_cut l (j + 1) [] j h hj (by omega) with ⟨h1, h2⟩ | ⟨m, hm, hc⟩
  · exact .inl (Prod.ext h1 h2)
  · exact .inr ⟨m, hm, by rw [hc]; simp⟩

theorem decF_zero : ∀ (f : Nat) (acc : List Bs) (b : Bs), (decF f acc b).1 ≠ 0 → (decF f acc b).2 = []
  | 0, acc, _, h => absurd rfl h
  | f + 1, acc, b, h => by
    by_cases hb : b = []
    · subst hb; rw [decF_nil] at h; exact absurd rfl h
    · cases hr : rdNum 0 0 b with
      | inl e => rw [decF_err f acc b hb e hr]
      | inr x =>
        obtain ⟨n, k⟩ := x
        by_cases hl : (b.drop (k + 1)).length < n
        · rw [decF_short f acc b hb n k hr hl]
        · rw [decF_step f acc b hb n k hr hl] at h ⊢
          exact decF_zero f _ _ h
theorem dec_zero {b : Bs} (h : (dec b).1 ≠ 0) : (dec b).2 = [] := decF_zero _ _ _ h

theorem enc_len (l : List Bs) : l.length ≤ (enc l).length := by
  induction l with
  | nil => simp
  | cons s r ih => simp [enc]; omega

theorem enc_nil_iff (l : List Bs) : enc l = [] ↔ l = [] := by
  cases l with
  | nil => simp [enc]
  | cons s r =>
    simp only [enc]
    exact ⟨fun h => absurd h (ne_nil_digits _ _), fun h => by cases h⟩

end Pk
end Go.Proofs.YtogpigfepebibaaGreatDoor
