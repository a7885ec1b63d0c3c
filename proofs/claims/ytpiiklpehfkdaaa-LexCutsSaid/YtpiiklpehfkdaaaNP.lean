/-
  Layer 9 (lex): the landed way to tokens: how far a token goes on, what it means; that it is the same.
-/
import Derived.Test.YtpiiklpehfkdaaaNO
namespace Go.Proofs.Ytpiiklpehfkdaaa
namespace Lx

/-- How many bytes go on, asked one by one. -/
def goN (go : Bool × Bool → UInt8 → Bool) (st : Bool × Bool → UInt8 → Bool × Bool) : Bool × Bool → Bs → Nat
  | _, [] => 0
  | s, b :: r => if go s b = true then goN go st (st s b) r + 1 else 0
def stN (st : Bool × Bool → UInt8 → Bool × Bool) (s : Bool × Bool) (l : Bs) : Bool × Bool := l.foldl st s
theorem goN_cons (go : Bool × Bool → UInt8 → Bool) (st : Bool × Bool → UInt8 → Bool × Bool) (s : Bool × Bool) (b : UInt8) (r : Bs) : goN go st s (b :: r) = if go s b = true then goN go st (st s b) r + 1 else 0 := rfl
theorem goN_le (go : Bool × Bool → UInt8 → Bool) (st : Bool × Bool → UInt8 → Bool × Bool) : ∀ (r : Bs) (s : Bool × Bool), goN go st s r ≤ r.length
  | [], _ => Nat.le_refl _
  | b :: r, s => by
    unfold goN
    split
    · have := goN_le go st r (st s b); rw [List.length_cons]; omega
    · omega
theorem goN_at (go : Bool × Bool → UInt8 → Bool) (st : Bool × Bool → UInt8 → Bool × Bool) : ∀ (r : Bs) (s : Bool × Bool) (j : Nat), j ≤ goN go st s r → j < r.length → go (stN st s (r.take j)) (r.getD j 0) = decide (j < goN go st s r)
  | [], s, j, _, h => by simp at h
  | b :: r, s, j, hj, hl => by
    unfold goN at hj ⊢
    by_cases hg : go s b = true
    · rw [if_pos hg] at hj ⊢
      cases j with
      | zero => rw [List.getD_cons_zero, decide_eq_true (by omega)]; exact hg
      | succ j =>
        rw [List.getD_cons_succ, List.take_succ_cons]
        show go (stN st (st s b) (r.take j)) (r.getD j 0) = _
        rw [goN_at go st r (st s b) j (by omega) (by rw [List.length_cons] at hl; omega)]
        exact decide_eq_decide.2 (by omega)
    · rw [if_neg hg] at hj ⊢
      obtain rfl : j = 0 := by omega
      rw [List.getD_cons_zero, decide_eq_false (by omega)]
      show go s b = false
      simpa using hg
theorem stN_snoc (st : Bool × Bool → UInt8 → Bool × Bool) (s : Bool × Bool) (r : Bs) {j : Nat} (h : j < r.length) : stN st s (r.take (j + 1)) = st (stN st s (r.take j)) (r.getD j 0) := by
  rw [List.take_succ_eq_append_getElem h, List.getD_eq_getElem?_getD, List.getElem?_eq_getElem h]
  unfold stN
  rw [List.foldl_append]; rfl

/-! The kinds. -/
def uGo (s : Bool × Bool) (b : UInt8) : Bool := if s.1 = true then false else if s.2 = true then decide (b = 34) || (decide (b = 92) || decide (b = 110)) else !bad b
def uSt (s : Bool × Bool) (b : UInt8) : Bool × Bool := if s.1 = true then s else if s.2 = true then (false, false) else (decide (b = 34), decide (b = 92))
def eGo (s : Bool × Bool) (b : UInt8) : Bool := !s.1 && decide (b = 61)
def eSt (_ : Bool × Bool) (_ : UInt8) : Bool × Bool := (true, false)
def same2 (s : Bool × Bool) (_ : UInt8) : Bool × Bool := s
def single : Bs := [43, 40, 41, 91, 93, 123, 125, 44, 58, 59]
def kindV (c : UInt8) : Nat := if isL c = true then 1 else if isD c = true then 2 else if c = 34 then 3 else if c = 61 ∨ c = 33 then 4 else if c ∈ single then 4 else 0
def goV (c : UInt8) : Bool × Bool → UInt8 → Bool := if isL c = true then fun _ b => isW b else if isD c = true then fun _ b => isD b else if c = 34 then uGo else if c = 61 ∨ c = 33 then eGo else fun _ _ => false
def stV (c : UInt8) : Bool × Bool → UInt8 → Bool × Bool := if isL c = true then same2 else if isD c = true then same2 else if c = 34 then uSt else if c = 61 ∨ c = 33 then eSt else same2
/-- How many bytes go on behind the first one. -/
def lenV (c : UInt8) (r : Bs) : Nat := goN (goV c) (stV c) (false, false) r
theorem goN_tw (f : UInt8 → Bool) : ∀ (r : Bs) (s : Bool × Bool), goN (fun _ b => f b) same2 s r = (r.takeWhile f).length
  | [], _ => rfl
  | b :: r, s => by
    unfold goN
    by_cases h : f b = true
    · rw [if_pos h, List.takeWhile_cons_of_pos h, List.length_cons, goN_tw f r]
    · rw [if_neg h, List.takeWhile_cons_of_neg h]; rfl
theorem goN_none : ∀ (r : Bs) (s : Bool × Bool), goN (fun _ _ => false) same2 s r = 0
  | [], _ => rfl
  | b :: r, s => by unfold goN; rw [if_neg (by simp)]
theorem goN_eq (r : Bs) : goN eGo eSt (false, false) r = if r.head? = some 61 then 1 else 0 := by
  cases r with
  | nil => rfl
  | cons b r =>
    rw [goN_cons]
    by_cases h : b = 61
    · subst h
      rw [if_pos (by rfl), if_pos (by rfl)]
      have : goN eGo eSt (eSt (false, false) 61) r = 0 := by
        cases r with
        | nil => rfl
        | cons d r => unfold goN; rw [if_neg (by simp [eGo, eSt])]
      rw [this]
    · rw [if_neg (by simp [eGo, h]), if_neg (by simpa using h)]

/-! What a token means. -/
/-- A text's bytes behind its opening quote. -/
def unq : Bs → Bs → Option Bs
  | [], _ => none
  | b :: r, acc =>
    if b = 34 then some acc
    else if b ≠ 92 then unq r (acc ++ [b])
    else match r with
      | [] => none
      | d :: r' => unq r' (acc ++ [if d = 110 then 10 else d])
theorem unq_cons (b : UInt8) (r acc : Bs) : unq (b :: r) acc = if b = 34 then some acc else if b ≠ 92 then unq r (acc ++ [b]) else match r with | [] => none | d :: r' => unq r' (acc ++ [if d = 110 then 10 else d]) := unq.eq_def _ _
abbrev u0 : Bool × Bool := (false, false)
def uN (r : Bs) : Nat := goN uGo uSt u0 r
theorem uN_cons (b : UInt8) (r : Bs) : uN (b :: r) = if bad b = true then 0 else goN uGo uSt (decide (b = 34), decide (b = 92)) r + 1 := by
  unfold uN
  rw [goN_cons]
  have e1 : uGo u0 b = !bad b := rfl
  have e2 : uSt u0 b = (decide (b = 34), decide (b = 92)) := rfl
  rw [e1, e2]
  cases bad b <;> rfl
theorem u_closed (e : Bool) (r : Bs) : goN uGo uSt (true, e) r = 0 := by
  cases r with
  | nil => rfl
  | cons b r => unfold goN; rw [if_neg (by simp [uGo])]
theorem u_esc (d : UInt8) (r : Bs) : goN uGo uSt (false, true) (d :: r) = if d = 34 ∨ (d = 92 ∨ d = 110) then uN r + 1 else 0 := by
  have e1 : uGo (false, true) d = (decide (d = 34) || (decide (d = 92) || decide (d = 110))) := rfl
  have e2 : uSt (false, true) d = u0 := rfl
  show (if uGo (false, true) d = true then goN uGo uSt (uSt (false, true) d) r + 1 else 0) = _
  rw [e1, e2]
  by_cases h : d = 34 ∨ (d = 92 ∨ d = 110)
  · rw [if_pos h, if_pos (by simpa using h)]; rfl
  · rw [if_neg h, if_neg (by simpa using h)]
theorem bad_not {c : UInt8} (h : bad c = true) : c ≠ 34 ∧ c ≠ 92 := by
  refine ⟨?_, ?_⟩ <;> rintro rfl <;> exact absurd h (by decide)
theorem unq_qt : ∀ (r acc : Bs) (i : Nat), unq (r.take (uN r)) acc = (if (qt r acc i).err = 0 then some (qt r acc i).text else none) ∧ ((qt r acc i).err = 0 → (qt r acc i).size = i + uN r) ∧ ((qt r acc i).err = 0 ∨ (qt r acc i).err = 3)
  | [], acc, i => ⟨rfl, fun h => by simp [qt] at h, .inr rfl⟩
  | b :: r, acc, i => by
    rw [uN_cons]
    unfold qt
    by_cases h1 : b = 34
    · subst h1
      rw [if_neg (by decide), if_pos rfl, decide_eq_true rfl, u_closed]
      refine ⟨?_, fun _ => rfl, .inl rfl⟩
      show unq [34] acc = _
      rw [unq_cons, if_pos rfl, if_pos rfl]
    · rw [if_neg h1]
      by_cases h2 : bad b = true
      · rw [if_pos h2, if_pos h2]
        exact ⟨rfl, fun h => by simp at h, .inr rfl⟩
      · rw [if_neg h2, if_neg h2, decide_eq_false h1]
        by_cases h3 : b = 92
        · subst h3
          rw [if_pos rfl, decide_eq_true rfl]
          cases r with
          | nil => exact ⟨rfl, fun h => by simp at h, .inr rfl⟩
          | cons d r' =>
            simp only
            rw [u_esc]
            by_cases h4 : d = 34 ∨ d = 92
            · rw [if_pos (h4.imp id .inl), if_pos h4]
              obtain ⟨k1, k2, k3⟩ := unq_qt r' (acc ++ [d]) (i + 2)
              have hd : d ≠ 110 := by rintro rfl; exact absurd h4 (by decide)
              refine ⟨?_, fun h => by rw [k2 h]; omega, k3⟩
              rw [← k1, List.take_succ_cons, List.take_succ_cons, unq_cons, if_neg (by decide), if_neg (by decide)]
              show unq (r'.take (uN r')) (acc ++ [if d = 110 then 10 else d]) = _
              rw [if_neg hd]
            · by_cases h5 : d = 110
              · rw [if_pos (.inr (.inr h5)), if_neg h4, if_pos h5]
                obtain ⟨k1, k2, k3⟩ := unq_qt r' (acc ++ [10]) (i + 2)
                refine ⟨?_, fun h => by rw [k2 h]; omega, k3⟩
                rw [← k1, List.take_succ_cons, List.take_succ_cons, unq_cons, if_neg (by decide), if_neg (by decide)]
                show unq (r'.take (uN r')) (acc ++ [if d = 110 then 10 else d]) = _
                rw [if_pos h5]
              · rw [if_neg (by rintro (h | h | h); exact h4 (.inl h); exact h4 (.inr h); exact h5 h), if_neg h4, if_neg h5]
                refine ⟨?_, fun h => by simp at h, .inr rfl⟩
                show unq [92] acc = none
                rfl
        · rw [if_neg h3, decide_eq_false h3]
          obtain ⟨k1, k2, k3⟩ := unq_qt r (acc ++ [b]) (i + 1)
          refine ⟨?_, fun h => by rw [k2 h]; show _ = i + (uN r + 1); omega, k3⟩
          rw [← k1]
          show unq (b :: r.take (uN r)) acc = _
          rw [unq_cons, if_neg h1, if_pos h3]
/-- No line feed goes on. -/
theorem u_nl : ∀ (r : Bs) (s : Bool × Bool), ∀ x ∈ r.take (goN uGo uSt s r), x ≠ 10
  | [], s, x, h => by simp at h
  | b :: r, s, x, h => by
    unfold goN at h
    by_cases hg : uGo s b = true
    · rw [if_pos hg, List.take_succ_cons] at h
      rcases List.mem_cons.1 h with rfl | h
      · rintro rfl
        unfold uGo at hg
        revert hg
        split
        · simp
        · split
          · decide
          · decide
      · exact u_nl r _ x h
    · rw [if_neg hg] at h; simp at h

/-! Numbers by their digits. -/
def most : Bs := [57, 50, 50, 51, 51, 55, 50, 48, 51, 54, 56, 53, 52, 55, 55, 53, 56, 48, 55]
def natF (n : Nat) (l : Bs) : Nat := l.foldl (fun n c => 10 * n + (c.toNat - 48)) n
theorem natF_lt : ∀ (l : Bs) (n m : Nat), n < m → (∀ c ∈ l, isD c = true) → ∀ l' : Bs, l'.length = l.length → (∀ c ∈ l', isD c = true) → natF n l < natF m l'
  | [], n, m, h, _, l', hl, _ => by
    obtain rfl := List.eq_nil_of_length_eq_zero hl
    exact h
  | c :: l, n, m, h, hd, [], hl, _ => by simp at hl
  | c :: l, n, m, h, hd, c' :: l', hl, hd' => by
    have h1 := hd c List.mem_cons_self
    have h2 := hd' c' List.mem_cons_self
    unfold isD at h1 h2
    simp only [Bool.and_eq_true, decide_eq_true_eq] at h1 h2
    exact natF_lt l _ _ (by show 10 * n + (c.toNat - 48) < 10 * m + (c'.toNat - 48); omega) (fun x hx => hd x (List.mem_cons_of_mem _ hx)) l' (by simpa using hl) (fun x hx => hd' x (List.mem_cons_of_mem _ hx))
theorem natF_lex : ∀ (l l' : Bs) (n : Nat), l.length = l'.length → (∀ c ∈ l, isD c = true) → (∀ c ∈ l', isD c = true) → (natF n l < natF n l' ↔ l < l')
  | [], [], n, _, _, _ => by simp [natF]
  | [], _ :: _, n, h, _, _ => by simp at h
  | _ :: _, [], n, h, _, _ => by simp at h
  | c :: l, c' :: l', n, h, hd, hd' => by
    have h1 := hd c List.mem_cons_self
    have h2 := hd' c' List.mem_cons_self
    unfold isD at h1 h2
    simp only [Bool.and_eq_true, decide_eq_true_eq] at h1 h2
    have ht := fun x hx => hd x (List.mem_cons_of_mem _ hx)
    have ht' := fun x hx => hd' x (List.mem_cons_of_mem _ hx)
    have hlen : l.length = l'.length := by simpa using h
    show natF (10 * n + (c.toNat - 48)) l < natF (10 * n + (c'.toNat - 48)) l' ↔ _
    rw [List.cons_lt_cons_iff]
    rcases Nat.lt_trichotomy c.toNat c'.toNat with hc | hc | hc
    · have := natF_lt l (10 * n + (c.toNat - 48)) (10 * n + (c'.toNat - 48)) (by omega) ht l' hlen.symm ht'
      exact ⟨fun _ => .inl (UInt8.lt_iff_toNat_lt.2 hc), fun _ => this⟩
    · obtain rfl := UInt8.toNat_inj.1 hc
      rw [natF_lex l l' _ hlen ht ht']
      exact ⟨fun h => .inr ⟨rfl, h⟩, fun h => h.elim (fun h => absurd h (UInt8.lt_irrefl c)) (·.2)⟩
    · have := natF_lt l' (10 * n + (c'.toNat - 48)) (10 * n + (c.toNat - 48)) (by omega) ht' l hlen ht
      refine ⟨fun h => by omega, ?_⟩
      rintro (h | ⟨rfl, _⟩)
      · have := UInt8.lt_iff_toNat_lt.1 h; omega
      · omega
theorem natF_range : ∀ (l : Bs) (n : Nat), (∀ c ∈ l, isD c = true) → n * 10 ^ l.length ≤ natF n l ∧ natF n l + 1 ≤ (n + 1) * 10 ^ l.length
  | [], n, _ => by simp [natF]
  | c :: l, n, h => by
    have h1 := h c List.mem_cons_self
    unfold isD at h1
    simp only [Bool.and_eq_true, decide_eq_true_eq] at h1
    obtain ⟨k1, k2⟩ := natF_range l (10 * n + (c.toNat - 48)) (fun x hx => h x (List.mem_cons_of_mem _ hx))
    show n * 10 ^ (l.length + 1) ≤ natF (10 * n + (c.toNat - 48)) l ∧ natF (10 * n + (c.toNat - 48)) l + 1 ≤ (n + 1) * 10 ^ (l.length + 1)
    rw [Nat.pow_succ, Nat.mul_comm (10 ^ l.length) 10, ← Nat.mul_assoc, ← Nat.mul_assoc]
    refine ⟨Nat.le_trans (Nat.mul_le_mul_right _ (by omega)) k1, Nat.le_trans k2 (Nat.mul_le_mul_right _ (by omega))⟩
/-- What the digits tell. -/
def bigV (d : Bs) : Bool := decide (19 < d.length) || (decide (d.length = 19) && decide (most < d))
theorem big_eq {d : Bs} (hd : ∀ c ∈ d, isD c = true) (h0 : ¬ (1 < d.length ∧ d.head? = some 48)) : bigV d = decide (9223372036854775807 < natOf d) := by
  have e9 : natOf most = 9223372036854775807 := by decide +kernel
  have em : ∀ c ∈ most, isD c = true := by decide
  unfold bigV
  show _ = decide (9223372036854775807 < natF 0 d)
  cases d with
  | nil => rfl
  | cons c r =>
    have h1 := hd c List.mem_cons_self
    unfold isD at h1
    simp only [Bool.and_eq_true, decide_eq_true_eq] at h1
    obtain ⟨k1, k2⟩ := natF_range r (c.toNat - 48) (fun x hx => hd x (List.mem_cons_of_mem _ hx))
    have e0 : natF 0 (c :: r) = natF (c.toNat - 48) r := by
      show natF (10 * 0 + (c.toNat - 48)) r = _
      rw [Nat.mul_zero, Nat.zero_add]
    rcases Nat.lt_trichotomy (c :: r).length 19 with h | h | h
    · rw [decide_eq_false (by omega), decide_eq_false (by omega), Bool.false_and, Bool.false_or]
      refine (decide_eq_false ?_).symm
      rw [e0]
      rw [List.length_cons] at h
      have h3 : 10 ^ r.length ≤ 10 ^ 17 := Nat.pow_le_pow_right (by decide) (by omega)
      have h4 : (c.toNat - 48 + 1) * 10 ^ r.length ≤ 10 * 10 ^ 17 := Nat.mul_le_mul (by omega) h3
      omega
    · rw [decide_eq_false (by omega), decide_eq_true h, Bool.true_and, Bool.false_or]
      refine decide_eq_decide.2 ?_
      rw [← natF_lex most (c :: r) 0 (by rw [h]; rfl) em hd]
      show natOf most < _ ↔ _
      rw [e9]
    · rw [decide_eq_true h, Bool.true_or]
      refine (decide_eq_true ?_).symm
      rw [e0]
      have hc : c ≠ 48 := fun e => h0 ⟨by omega, by rw [e]; rfl⟩
      have hc2 : 1 ≤ c.toNat - 48 := by
        have : c.toNat ≠ 48 := fun e => hc (UInt8.toNat_inj.1 (by rw [e]; rfl))
        omega
      rw [List.length_cons] at h
      have h3 : 10 ^ 19 ≤ 10 ^ r.length := Nat.pow_le_pow_right (by decide) (by omega)
      have h4 : 1 * 10 ^ 19 ≤ (c.toNat - 48) * 10 ^ r.length := Nat.mul_le_mul hc2 h3
      omega
/-- What a number's digits mean: an error's number, or the digits. -/
def numM (d : Bs) : Bs × Nat := if 1 < d.length ∧ d.head? = some 48 then ([], 3) else if bigV d = true then ([], 2) else (d, 0)
/-- What a token of a kind means. -/
def meanV (k : Nat) (d : Bs) : Bs × Nat :=
  if k = 0 ∨ d = [33] then ([], 3)
  else if k = 2 then numM d
  else if k = 3 then (match unq (d.drop 1) [] with | some t => (t, 0) | none => ([], 3))
  else (d, 0)
def rawV (c : UInt8) (r : Bs) : Bs := c :: r.take (lenV c r)
theorem take_tw (f : UInt8 → Bool) (s : Bs) : s.take (s.takeWhile f).length = s.takeWhile f := (List.prefix_iff_eq_take.1 (List.takeWhile_prefix f)).symm
theorem isL_not {c : UInt8} (h : isL c = true) : c ≠ 10 ∧ c ≠ 33 := by
  refine ⟨?_, ?_⟩ <;> rintro rfl <;> exact absurd h (by decide)
theorem isD_not {c : UInt8} (h : isD c = true) : c ≠ 10 ∧ c ≠ 33 := by
  refine ⟨?_, ?_⟩ <;> rintro rfl <;> exact absurd h (by decide)
theorem isW_not {c : UInt8} (h : isW c = true) : c ≠ 10 := by
  rintro rfl; exact absurd h (by decide)
/-- The landed way is the document's. -/
theorem first_take {c : UInt8} {r : Bs} (hg : isG c = false) (hh : c ≠ 35) : (meanV (kindV c) (rawV c r)).2 = (firstV (c :: r)).err ∧ ((firstV (c :: r)).err = 0 → firstV (c :: r) = ⟨kindV c, (meanV (kindV c) (rawV c r)).1, (rawV c r).length, 0⟩ ∧ kindV c ≠ 0 ∧ ∀ x ∈ rawV c r, x ≠ 10) := by
  rw [first_cons, if_neg (by rw [hg]; simp), if_neg hh]
  have hlen : (rawV c r).length = lenV c r + 1 := by
    unfold rawV
    have := goN_le (goV c) (stV c) r (false, false)
    rw [List.length_cons, List.length_take]
    unfold lenV
    omega
  have h10 : c ≠ 10 := by rintro rfl; exact absurd hg (by decide)
  by_cases h1 : isL c = true
  · have hl : lenV c r = (r.takeWhile isW).length := by
      unfold lenV goV stV
      rw [if_pos h1, if_pos h1, goN_tw]
    have hcw : isW c = true := by unfold isW; rw [h1]; rfl
    have hr : rawV c r = (c :: r).takeWhile isW := by
      unfold rawV
      rw [hl, take_tw, List.takeWhile_cons_of_pos hcw]
    have hk : kindV c = 1 := by unfold kindV; rw [if_pos h1]
    have hm : meanV (kindV c) (rawV c r) = (rawV c r, 0) := by
      rw [hk]
      unfold meanV
      rw [if_neg, if_neg (by decide), if_neg (by decide)]
      rintro (h | h)
      · simp at h
      · unfold rawV at h
        injection h with h
        exact (isL_not h1).2 h
    rw [if_pos h1, hm]
    refine ⟨rfl, fun _ => ⟨by rw [hk, hr], by rw [hk]; decide, fun x hx => isW_not (tw_mem isW (c :: r) x (by rw [← hr]; exact hx))⟩⟩
  · rw [if_neg h1]
    by_cases h2 : isD c = true
    · have hl : lenV c r = (r.takeWhile isD).length := by
        unfold lenV goV stV
        rw [if_neg h1, if_neg h1, if_pos h2, if_pos h2, goN_tw]
      have hr : rawV c r = (c :: r).takeWhile isD := by
        unfold rawV
        rw [hl, take_tw, List.takeWhile_cons_of_pos h2]
      have hk : kindV c = 2 := by unfold kindV; rw [if_neg h1, if_pos h2]
      have hd : ∀ x ∈ rawV c r, isD x = true := fun x hx => tw_mem isD (c :: r) x (by rw [← hr]; exact hx)
      have hm : meanV (kindV c) (rawV c r) = numM (rawV c r) := by
        rw [hk]
        unfold meanV
        rw [if_neg, if_pos rfl]
        rintro (h | h)
        · simp at h
        · unfold rawV at h
          injection h with h
          exact (isD_not h2).2 h
      have hhd : (rawV c r).head? = (c :: r).head? := rfl
      rw [if_pos h2, hm]
      unfold numM numP
      rw [← hr, ← hhd]
      by_cases h3 : 1 < (rawV c r).length ∧ (rawV c r).head? = some 48
      · rw [if_pos h3, if_pos h3]
        exact ⟨rfl, fun h => by simp at h⟩
      · rw [if_neg h3, if_neg h3, big_eq hd h3]
        by_cases h4 : 9223372036854775807 < natOf (rawV c r)
        · rw [if_pos (by simpa using h4), if_pos h4]
          exact ⟨rfl, fun h => by simp at h⟩
        · rw [if_neg (by simpa using h4), if_neg h4]
          exact ⟨rfl, fun _ => ⟨by rw [hk], by rw [hk]; decide, fun x hx => (isD_not (hd x hx)).1⟩⟩
    · rw [if_neg h2]
      by_cases h3 : c = 34
      · have hl : lenV c r = uN r := by
          unfold lenV goV stV
          rw [if_neg h1, if_neg h1, if_neg h2, if_neg h2, if_pos h3, if_pos h3]; rfl
        have hk : kindV c = 3 := by unfold kindV; rw [if_neg h1, if_neg h2, if_pos h3]
        obtain ⟨k1, k2, k3⟩ := unq_qt r [] 1
        have hm : meanV (kindV c) (rawV c r) = if (qt r [] 1).err = 0 then ((qt r [] 1).text, 0) else ([], 3) := by
          rw [hk]
          unfold meanV
          rw [if_neg, if_neg (by decide), if_pos rfl]
          · show (match unq (r.take (lenV c r)) [] with | some t => (t, 0) | none => ([], 3)) = _
            rw [hl, k1]
            by_cases he : (qt r [] 1).err = 0
            · rw [if_pos he, if_pos he]
            · rw [if_neg he, if_neg he]
          · rintro (h | h)
            · simp at h
            · unfold rawV at h
              injection h with h
              rw [h3] at h
              exact absurd h (by decide)
        rw [if_pos h3, hm]
        by_cases he : (qt r [] 1).err = 0
        · rw [if_pos he]
          refine ⟨he.symm, fun _ => ⟨?_, by rw [hk]; decide, fun x hx => ?_⟩⟩
          · have hz := qt_size r [] 1 he
            rw [hk, hlen, hl]
            have h5 := k2 he
            generalize qt r [] 1 = q at *
            obtain ⟨qk, qt', qs, qe⟩ := q
            simp only at he h5 hz ⊢
            rw [he, hz.2.2, h5, Nat.add_comm]
          · rcases List.mem_cons.1 hx with rfl | hx
            · exact h10
            · exact u_nl r u0 x (by rw [hl] at hx; exact hx)
        · rw [if_neg he]
          refine ⟨?_, fun h => absurd h he⟩
          rcases k3 with k3 | k3
          · exact absurd k3 he
          · exact k3.symm
      · rw [if_neg h3]
        unfold signP
        by_cases h4 : c = 61 ∨ c = 33
        · have hl : lenV c r = if r.head? = some 61 then 1 else 0 := by
            unfold lenV goV stV
            rw [if_neg h1, if_neg h1, if_neg h2, if_neg h2, if_neg h3, if_neg h3, if_pos h4, if_pos h4, goN_eq]
          have hk : kindV c = 4 := by unfold kindV; rw [if_neg h1, if_neg h2, if_neg h3, if_pos h4]
          by_cases h5 : r.head? = some 61
          · rw [if_pos h5] at hl
            have hr : rawV c r = [c, 61] := by
              unfold rawV
              rw [hl]
              cases r with
              | nil => simp at h5
              | cons d r => simp only [List.head?_cons, Option.some.injEq] at h5; rw [h5]; rfl
            have hm : meanV (kindV c) (rawV c r) = (rawV c r, 0) := by
              rw [hk]
              unfold meanV
              rw [if_neg, if_neg (by decide), if_neg (by decide)]
              rintro (h | h)
              · simp at h
              · rw [hr] at h; simp at h
            rw [if_pos ⟨h4, h5⟩, hm]
            refine ⟨rfl, fun _ => ⟨by rw [hk, hr]; rfl, by rw [hk]; decide, fun x hx => ?_⟩⟩
            rw [hr] at hx
            rcases List.mem_cons.1 hx with rfl | hx
            · exact h10
            · rw [List.mem_singleton.1 hx]; decide
          · rw [if_neg h5] at hl
            have hr : rawV c r = [c] := by unfold rawV; rw [hl]; rfl
            rw [if_neg (fun h => h5 h.2)]
            rcases h4 with h4 | h4
            · have hm : meanV (kindV c) (rawV c r) = (rawV c r, 0) := by
                rw [hk]
                unfold meanV
                rw [if_neg, if_neg (by decide), if_neg (by decide)]
                rintro (h | h)
                · simp at h
                · rw [hr, h4] at h; exact absurd h (by decide)
              rw [if_pos (by rw [h4]; decide), hm]
              refine ⟨rfl, fun _ => ⟨by rw [hk, hr]; rfl, by rw [hk]; decide, fun x hx => ?_⟩⟩
              rw [hr] at hx
              rw [List.mem_singleton.1 hx]; exact h10
            · have hm : meanV (kindV c) (rawV c r) = ([], 3) := by
                rw [hk]
                unfold meanV
                rw [if_pos]
                right
                rw [hr, h4]
              rw [if_neg (by rw [h4]; decide), hm]
              exact ⟨rfl, fun h => by simp at h⟩
        · rw [if_neg (fun h => h4 h.1)]
          have hl : lenV c r = 0 := by
            unfold lenV goV stV
            rw [if_neg h1, if_neg h1, if_neg h2, if_neg h2, if_neg h3, if_neg h3, if_neg h4, if_neg h4, goN_none]
          have hr : rawV c r = [c] := by unfold rawV; rw [hl]; rfl
          have hs : c ∈ signs ↔ c ∈ single := by
            show c ∈ 61 :: single ↔ _
            rw [List.mem_cons]
            exact ⟨fun h => h.elim (fun h => absurd (.inl h) h4) id, .inr⟩
          by_cases h5 : c ∈ single
          · have hk : kindV c = 4 := by unfold kindV; rw [if_neg h1, if_neg h2, if_neg h3, if_neg h4, if_pos h5]
            have hm : meanV (kindV c) (rawV c r) = (rawV c r, 0) := by
              rw [hk]
              unfold meanV
              rw [if_neg, if_neg (by decide), if_neg (by decide)]
              rintro (h | h)
              · simp at h
              · rw [hr] at h
                injection h with h
                exact h4 (.inr h)
            rw [if_pos (hs.2 h5), hm]
            refine ⟨rfl, fun _ => ⟨by rw [hk, hr]; rfl, by rw [hk]; decide, fun x hx => ?_⟩⟩
            rw [hr] at hx
            rw [List.mem_singleton.1 hx]; exact h10
          · have hk : kindV c = 0 := by unfold kindV; rw [if_neg h1, if_neg h2, if_neg h3, if_neg h4, if_neg h5]
            have hm : meanV (kindV c) (rawV c r) = ([], 3) := by
              rw [hk]
              unfold meanV
              rw [if_pos (.inl rfl)]
            rw [if_neg (fun h => h5 (hs.1 h)), hm]
            exact ⟨rfl, fun h => by simp at h⟩
/-- Bytes that are no line feeds. -/
theorem adv_plain : ∀ (s : Bs) (p : Pl), (∀ x ∈ s, x ≠ 10) → adv p s = (p.1, p.2 + s.length)
  | [], p, _ => rfl
  | c :: s, p, h => by
    show adv (step p c) s = _
    have e : step p c = (p.1, p.2 + 1) := by unfold step; rw [if_neg (h c List.mem_cons_self)]
    rw [e, adv_plain s _ (fun x hx => h x (List.mem_cons_of_mem _ hx)), List.length_cons]
    show (p.1, p.2 + 1 + s.length) = _
    congr 1
    omega
/-- A gap is skipped. -/
theorem cut_skip {s : Bs} (hs : s ≠ []) (p : Pl) (h0 : (firstV s).err = 0) (hk : (firstV s).kind = 0) : cut p s = cut (adv p (s.take (firstV s).size)) (s.drop (firstV s).size) := by
  rw [cut_step hs, if_neg (by rw [h0]; simp)]
  unfold consA
  cases cut (adv p (s.take (firstV s).size)) (s.drop (firstV s).size) with
  | inr e => rfl
  | inl l => simp only [hk, if_true]
end Lx
end Go.Proofs.Ytpiiklpehfkdaaa
