/-
  Layer 9 (lex): texts quoted; tokens written and cut again.
-/
import Derived.Test.YtpiiklpehfkdaaaNN
namespace Go.Proofs.Ytpiiklpehfkdaaa
namespace Lx

/-- A byte of a quoted text, as it is written. -/
def esc1 (c : UInt8) : Bs := if c = 10 then [92, 110] else if c = 34 ∨ c = 92 then [92, c] else [c]
def esc (l : Bs) : Bs := l.flatMap esc1
/-- A byte that may be quoted. -/
def okQ (c : UInt8) : Bool := decide (c = 10) || !bad c
def quoteV (l : Bs) : Bs := if l.all okQ = true then 34 :: (esc l ++ [34]) else []
theorem esc_cons (c : UInt8) (l : Bs) : esc (c :: l) = esc1 c ++ esc l := rfl
theorem esc_snoc (l : Bs) (c : UInt8) : esc (l ++ [c]) = esc l ++ esc1 c := by
  unfold esc
  rw [List.flatMap_append, List.flatMap_cons, List.flatMap_nil, List.append_nil]
theorem esc1_len (c : UInt8) : 1 ≤ (esc1 c).length ∧ (esc1 c).length ≤ 2 := by
  unfold esc1
  split
  · simp
  · split <;> simp
theorem esc_len : ∀ l : Bs, l.length ≤ (esc l).length ∧ (esc l).length ≤ 2 * l.length
  | [] => ⟨Nat.le_refl _, Nat.le_refl _⟩
  | c :: l => by
    have h1 := esc_len l
    have h2 := esc1_len c
    rw [esc_cons, List.length_append, List.length_cons]
    omega
theorem bad10 : bad 10 = true := by decide
theorem bad34 : bad 34 = false := by decide
theorem bad92 : bad 92 = false := by decide
/-- What is quoted is read back. -/
theorem qt_esc (u : Bs) : ∀ (l acc : Bs) (i : Nat), (∀ c ∈ l, okQ c = true) → qt (esc l ++ 34 :: u) acc i = ⟨3, acc ++ l, i + (esc l).length + 1, 0⟩
  | [], acc, i, _ => by
    show qt (34 :: u) acc i = _
    unfold qt
    rw [if_pos rfl, List.append_nil]
    rfl
  | c :: l, acc, i, h => by
    have hc := h c List.mem_cons_self
    have hl := fun x hx => h x (List.mem_cons_of_mem _ hx)
    rw [esc_cons, List.append_assoc, List.length_append]
    unfold esc1
    by_cases h1 : c = 10
    · rw [if_pos h1]
      show qt (92 :: 110 :: (esc l ++ 34 :: u)) acc i = _
      unfold qt
      rw [if_neg (by decide), if_neg (by decide), if_pos rfl]
      show (if (110 : UInt8) = 34 ∨ (110 : UInt8) = 92 then _ else if (110 : UInt8) = 110 then qt (esc l ++ 34 :: u) (acc ++ [10]) (i + 2) else no 3) = _
      rw [if_neg (by decide), if_pos rfl, qt_esc u l _ _ hl, h1, List.append_assoc]
      congr 1
      show i + 2 + _ + 1 = i + (2 + _) + 1
      omega
    · rw [if_neg h1]
      by_cases h2 : c = 34 ∨ c = 92
      · rw [if_pos h2]
        show qt (92 :: c :: (esc l ++ 34 :: u)) acc i = _
        unfold qt
        rw [if_neg (by decide), if_neg (by decide), if_pos rfl]
        show (if c = 34 ∨ c = 92 then qt (esc l ++ 34 :: u) (acc ++ [c]) (i + 2) else if c = 110 then _ else no 3) = _
        rw [if_pos h2, qt_esc u l _ _ hl, List.append_assoc]
        congr 1
        show i + 2 + _ + 1 = i + (2 + _) + 1
        omega
      · rw [if_neg h2]
        have hb : bad c = false := by
          unfold okQ at hc
          simpa [h1] using hc
        have h3 : c ≠ 34 := fun e => h2 (.inl e)
        have h4 : c ≠ 92 := fun e => h2 (.inr e)
        show qt (c :: (esc l ++ 34 :: u)) acc i = _
        unfold qt
        rw [if_neg h3, if_neg (by rw [hb]; simp), if_neg h4, qt_esc u l _ _ hl, List.append_assoc]
        congr 1
        show i + 1 + _ + 1 = i + (1 + _) + 1
        omega
/-- What is read is what is written. -/
theorem qt_back : ∀ (r acc : Bs) (i : Nat), (qt r acc i).err = 0 → ∃ l, (qt r acc i).text = acc ++ l ∧ (qt r acc i).size = i + (esc l).length + 1 ∧ ∀ c ∈ l, okQ c = true
  | [], acc, i, h => by simp [qt] at h
  | c :: r, acc, i, h => by
    unfold qt at h ⊢
    by_cases h1 : c = 34
    · rw [if_pos h1]
      exact ⟨[], (List.append_nil _).symm, rfl, fun c hc => by simp at hc⟩
    · rw [if_neg h1] at h ⊢
      by_cases h2 : bad c = true
      · rw [if_pos h2] at h; simp at h
      · rw [if_neg h2] at h ⊢
        by_cases h3 : c = 92
        · rw [if_pos h3] at h ⊢
          cases r with
          | nil => simp at h
          | cons d r' =>
            simp only at h ⊢
            by_cases h4 : d = 34 ∨ d = 92
            · rw [if_pos h4] at h ⊢
              obtain ⟨l, k1, k2, k3⟩ := qt_back r' _ _ h
              have hd10 : d ≠ 10 := fun e => by rw [e] at h4; exact absurd h4 (by decide)
              have hdb : bad d = false := by rcases h4 with e | e <;> rw [e]; exact bad34; exact bad92
              refine ⟨d :: l, by rw [k1, List.append_assoc]; rfl, ?_, fun x hx => ?_⟩
              · rw [k2, esc_cons, List.length_append]
                unfold esc1
                rw [if_neg hd10, if_pos h4]
                show i + 2 + _ + 1 = i + (2 + _) + 1
                omega
              · rcases List.mem_cons.1 hx with rfl | hx
                · unfold okQ; rw [hdb]; simp
                · exact k3 x hx
            · rw [if_neg h4] at h ⊢
              by_cases h5 : d = 110
              · rw [if_pos h5] at h ⊢
                obtain ⟨l, k1, k2, k3⟩ := qt_back r' _ _ h
                refine ⟨10 :: l, by rw [k1, List.append_assoc]; rfl, ?_, fun x hx => ?_⟩
                · rw [k2, esc_cons, List.length_append]
                  show i + 2 + _ + 1 = i + (2 + _) + 1
                  omega
                · rcases List.mem_cons.1 hx with rfl | hx
                  · rfl
                  · exact k3 x hx
              · rw [if_neg h5] at h; simp at h
        · rw [if_neg h3] at h ⊢
          obtain ⟨l, k1, k2, k3⟩ := qt_back r _ _ h
          have hb : bad c = false := by simpa using h2
          have hc10 : c ≠ 10 := fun e => by rw [e] at hb; exact absurd hb (by decide)
          refine ⟨c :: l, by rw [k1, List.append_assoc]; rfl, ?_, fun x hx => ?_⟩
          · rw [k2, esc_cons, List.length_append]
            unfold esc1
            rw [if_neg hc10, if_neg (by rintro (e | e); exact h1 e; exact h3 e)]
            show i + 1 + _ + 1 = i + (1 + _) + 1
            omega
          · rcases List.mem_cons.1 hx with rfl | hx
            · unfold okQ; rw [hb]; simp
            · exact k3 x hx
theorem quote_ok {l : Bs} (h : ∀ c ∈ l, okQ c = true) : quoteV l = 34 :: (esc l ++ [34]) := by
  unfold quoteV
  rw [if_pos (List.all_eq_true.2 h)]
theorem quote_none {l : Bs} (h : quoteV l ≠ []) : ∀ c ∈ l, okQ c = true := by
  unfold quoteV at h
  split at h
  · rename_i h2; exact List.all_eq_true.1 h2
  · exact absurd rfl h
theorem quote_len (l : Bs) : (quoteV l).length ≤ 2 * l.length + 2 := by
  unfold quoteV
  split
  · have := esc_len l
    simp only [List.length_cons, List.length_append, List.length_nil]
    omega
  · simp
theorem first_quote {l : Bs} (h : ∀ c ∈ l, okQ c = true) (u : Bs) : firstV (quoteV l ++ u) = ⟨3, l, (quoteV l).length, 0⟩ := by
  rw [quote_ok h, List.cons_append, List.append_assoc, first_cons, if_neg (by decide), if_neg (by decide), if_neg (by decide), if_neg (by decide), if_pos rfl]
  show qt (esc l ++ 34 :: u) [] 1 = _
  rw [qt_esc u l [] 1 h]
  simp only [List.nil_append, List.length_cons, List.length_append, List.length_nil]
  congr 1
  omega

/-- A token as it is written. -/
def writ (k : Nat) (t : Bs) : Bs := if k = 3 then quoteV t else t
/-- Written, with a blank behind, it is cut again. -/
def Good (k : Nat) (t : Bs) : Prop := k ≠ 0 ∧ ∀ u, firstV (writ k t ++ 32 :: u) = ⟨k, t, (writ k t).length, 0⟩
theorem tw_mem (f : UInt8 → Bool) : ∀ (s : Bs), ∀ c ∈ s.takeWhile f, f c = true
  | [], c, h => by simp at h
  | d :: s, c, h => by
    by_cases hd : f d = true
    · rw [List.takeWhile_cons_of_pos hd] at h
      rcases List.mem_cons.1 h with rfl | h
      · exact hd
      · exact tw_mem f s c h
    · rw [List.takeWhile_cons_of_neg hd] at h; simp at h
theorem tw_tw (f : UInt8 → Bool) (s : Bs) : (s.takeWhile f).takeWhile f = s.takeWhile f := by
  have := List.takeWhile_append_of_pos (l₂ := []) (tw_mem f s)
  simpa using this
theorem num_good {c : UInt8} {r : Bs} (hc : isD c = true) (h : (numP (c :: r)).err = 0) : (numP (c :: r)).kind = 2 ∧ (numP (c :: r)).size = (numP (c :: r)).text.length ∧ ∀ u, numP ((numP (c :: r)).text ++ 32 :: u) = ⟨2, (numP (c :: r)).text, (numP (c :: r)).text.length, 0⟩ := by
  unfold numP at h
  split at h
  · simp at h
  · rename_i h1
    split at h
    · simp at h
    · rename_i h2
      have e : numP (c :: r) = ⟨2, (c :: r).takeWhile isD, ((c :: r).takeWhile isD).length, 0⟩ := by
        unfold numP
        rw [if_neg h1, if_neg h2]
      rw [e]
      refine ⟨rfl, rfl, fun u => ?_⟩
      show numP ((c :: r).takeWhile isD ++ 32 :: u) = _
      unfold numP
      have hw : ((c :: r).takeWhile isD ++ 32 :: u).takeWhile isD = (c :: r).takeWhile isD := by rw [tw_app (by decide), tw_tw]
      have hh : ((c :: r).takeWhile isD ++ 32 :: u).head? = (c :: r).head? := by rw [List.takeWhile_cons_of_pos hc]; rfl
      rw [hw, hh, if_neg h1, if_neg h2]
theorem first_good {s : Bs} (h : (firstV s).err = 0) (hk : (firstV s).kind ≠ 0) : Good (firstV s).kind (firstV s).text ∧ (writ (firstV s).kind (firstV s).text).length ≤ (firstV s).size := by
  cases s with
  | nil => exact absurd rfl hk
  | cons c r =>
    rw [first_cons] at h hk ⊢
    by_cases h1 : isG c = true
    · rw [if_pos h1] at hk; simp at hk
    · rw [if_neg h1] at h hk ⊢
      by_cases h2 : c = 35
      · rw [if_pos h2] at hk; simp at hk
      · rw [if_neg h2] at h hk ⊢
        by_cases h3 : isL c = true
        · rw [if_pos h3]
          refine ⟨⟨Nat.succ_ne_zero 0, fun u => ?_⟩, Nat.le_refl _⟩
          show firstV ((c :: r).takeWhile isW ++ 32 :: u) = ⟨1, (c :: r).takeWhile isW, ((c :: r).takeWhile isW).length, 0⟩
          have hw : ((c :: r).takeWhile isW ++ 32 :: u).takeWhile isW = (c :: r).takeWhile isW := by rw [tw_app (by decide), tw_tw]
          have hcw : isW c = true := by unfold isW; rw [h3]; rfl
          rw [List.takeWhile_cons_of_pos hcw, List.cons_append] at hw ⊢
          rw [first_cons, if_neg h1, if_neg h2, if_pos h3, hw]
        · rw [if_neg h3] at h hk ⊢
          by_cases h4 : isD c = true
          · rw [if_pos h4] at h ⊢
            obtain ⟨k1, k2, k3⟩ := num_good h4 h
            have hx : ∃ t, (numP (c :: r)).text = c :: t := by
              unfold numP at h ⊢
              split at h
              · simp at h
              · rename_i h5
                split at h
                · simp at h
                · rename_i h6
                  rw [if_neg h5, if_neg h6]
                  exact ⟨_, List.takeWhile_cons_of_pos h4⟩
            obtain ⟨t, ht⟩ := hx
            rw [k1]
            refine ⟨⟨by decide, fun u => ?_⟩, by rw [k2]; exact Nat.le_refl _⟩
            show firstV ((numP (c :: r)).text ++ 32 :: u) = ⟨2, (numP (c :: r)).text, (numP (c :: r)).text.length, 0⟩
            rw [← k3 u, ht, List.cons_append, first_cons, if_neg h1, if_neg h2, if_neg h3, if_pos h4]
          · rw [if_neg h4] at h hk ⊢
            by_cases h5 : c = 34
            · rw [if_pos h5] at h ⊢
              have h6 := (qt_size _ _ _ h).2.2
              obtain ⟨l, k1, k2, k3⟩ := qt_back _ _ _ h
              rw [List.nil_append] at k1
              rw [h6, k1]
              refine ⟨⟨by decide, fun u => first_quote k3 _⟩, ?_⟩
              show (quoteV l).length ≤ _
              rw [k2, quote_ok k3]
              simp only [List.length_cons, List.length_append, List.length_nil]
              omega
            · rw [if_neg h5] at h hk ⊢
              unfold signP at h ⊢
              split at h
              · rename_i h6
                rw [if_pos h6]
                refine ⟨⟨Nat.succ_ne_zero 3, fun u => ?_⟩, Nat.le_refl _⟩
                show firstV (c :: 61 :: 32 :: u) = ⟨4, [c, 61], 2, 0⟩
                rw [first_cons, if_neg h1, if_neg h2, if_neg h3, if_neg h4, if_neg h5]
                unfold signP
                rw [if_pos ⟨h6.1, rfl⟩]
              · rename_i h6
                split at h
                · rename_i h7
                  rw [if_neg h6, if_pos h7]
                  refine ⟨⟨Nat.succ_ne_zero 3, fun u => ?_⟩, Nat.le_refl _⟩
                  show firstV (c :: 32 :: u) = ⟨4, [c], 1, 0⟩
                  rw [first_cons, if_neg h1, if_neg h2, if_neg h3, if_neg h4, if_neg h5]
                  unfold signP
                  rw [if_neg (by rintro ⟨_, h⟩; simp at h), if_pos h7]
                · simp at h
/-- All tokens of a text are good, and their writings no longer than it. -/
theorem cut_good : ∀ (n : Nat) (s : Bs) (p : Pl) (l : List Tk), s.length ≤ n → cut p s = .inl l → (∀ t ∈ l, Good t.kind t.text) ∧ (l.flatMap fun t => writ t.kind t.text).length ≤ s.length ∧ l.length ≤ s.length
  | 0, s, p, l, h, hl => by
    have : s = [] := List.eq_nil_of_length_eq_zero (by omega)
    subst this
    injection hl with hl
    subst hl
    exact ⟨fun t ht => by simp at ht, Nat.le_refl _, Nat.le_refl _⟩
  | n + 1, s, p, l, h, hl => by
    by_cases hs : s = []
    · subst hs
      exact cut_good 0 [] p l (Nat.le_refl _) hl
    · have he : (firstV s).err = 0 := by
        rcases Decidable.em ((firstV s).err = 0) with h | h
        · exact h
        · rw [cut_step hs, if_pos h] at hl; cases hl
      have hz := first_size hs he
      rw [cut_step hs, if_neg (by simpa using he)] at hl
      cases hc : cut (adv p (s.take (firstV s).size)) (s.drop (firstV s).size) with
      | inr e => rw [hc] at hl; cases hl
      | inl m =>
        rw [hc] at hl
        obtain ⟨k1, k2, k3⟩ := cut_good n _ _ m (by rw [List.length_drop]; omega) hc
        rw [List.length_drop] at k2 k3
        unfold consA at hl
        injection hl with hl
        subst hl
        by_cases hk : (firstV s).kind = 0
        · rw [if_pos hk]
          exact ⟨k1, by omega, by omega⟩
        · rw [if_neg hk]
          obtain ⟨g1, g2⟩ := first_good he hk
          refine ⟨fun t ht => ?_, ?_, by rw [List.length_cons]; omega⟩
          · rcases List.mem_cons.1 ht with rfl | ht
            · exact g1
            · exact k1 t ht
          · rw [List.flatMap_cons, List.length_append]
            show (writ (firstV s).kind (firstV s).text).length + _ ≤ _
            omega
/-- Tokens written with a blank behind each. -/
def wrAll (l : List Tk) : Bs := l.flatMap fun t => writ t.kind t.text ++ [32]
theorem wrAll_len (l : List Tk) : (wrAll l).length = (l.flatMap fun t => writ t.kind t.text).length + l.length := by
  unfold wrAll
  induction l with
  | nil => rfl
  | cons t l ih =>
    rw [List.flatMap_cons, List.flatMap_cons, List.length_append, List.length_append, List.length_append, ih, List.length_cons (a := t), List.length_singleton]
    omega
theorem cut_blank (p : Pl) (t : Bs) : cut p (32 :: t) = cut (p.1, p.2 + 1) t := by
  have hf : firstV (32 :: t) = ⟨0, [], 1, 0⟩ := by rw [first_cons, if_pos (by decide)]
  rw [cut_step (by simp), hf, if_neg (by simp)]
  have e : adv p ((32 :: t).take 1) = (p.1, p.2 + 1) := rfl
  show consA ⟨0, [], 1, 0⟩ p (cut (adv p ((32 :: t).take 1)) ((32 :: t).drop 1)) = _
  rw [e]
  show consA ⟨0, [], 1, 0⟩ p (cut (p.1, p.2 + 1) t) = _
  unfold consA
  cases cut (p.1, p.2 + 1) t <;> rfl
/-- They are cut the same, but for places. -/
theorem cut_again : ∀ (l : List Tk) (p : Pl), (∀ t ∈ l, Good t.kind t.text) → ∃ m, cut p (wrAll l) = .inl m ∧ m.map (fun t => (t.kind, t.text)) = l.map fun t => (t.kind, t.text)
  | [], p, _ => ⟨[], rfl, rfl⟩
  | t :: l, p, h => by
    obtain ⟨g1, g2⟩ := h t List.mem_cons_self
    have hw : wrAll (t :: l) = writ t.kind t.text ++ 32 :: wrAll l := by
      unfold wrAll
      rw [List.flatMap_cons, List.append_assoc]; rfl
    have hf := g2 (wrAll l)
    rw [hw, cut_step (by simp), hf, if_neg (by simp)]
    show ∃ m, consA ⟨t.kind, t.text, _, 0⟩ p (cut (adv p ((writ t.kind t.text ++ 32 :: wrAll l).take (writ t.kind t.text).length)) ((writ t.kind t.text ++ 32 :: wrAll l).drop (writ t.kind t.text).length)) = .inl m ∧ _
    rw [List.take_left' rfl, List.drop_left' rfl, cut_blank]
    obtain ⟨m, h1, h2⟩ := cut_again l ((adv p (writ t.kind t.text)).1, (adv p (writ t.kind t.text)).2 + 1) (fun x hx => h x (List.mem_cons_of_mem _ hx))
    have hc : consA ⟨t.kind, t.text, (writ t.kind t.text).length, 0⟩ p (.inl m) = .inl (⟨t.kind, t.text, p.1, p.2⟩ :: m) := by
      show Sum.inl (if t.kind = 0 then _ else _) = _
      rw [if_neg g1]
    rw [h1, hc]
    exact ⟨_, rfl, by rw [List.map_cons, List.map_cons, h2]⟩
/-- A text quoted, blanks ahead of it. -/
theorem cut_blanks : ∀ (b : Nat) (p : Pl) (t : Bs), cut p (List.replicate b 32 ++ t) = cut (p.1, p.2 + b) t
  | 0, p, t => rfl
  | b + 1, p, t => by
    rw [List.replicate_succ, List.cons_append, cut_blank, cut_blanks b]
    congr 1
    show (p.1, p.2 + 1 + b) = (p.1, p.2 + (b + 1))
    congr 1
    omega
theorem cut_quote {l : Bs} (h : quoteV l ≠ []) (p : Pl) : cut p (quoteV l) = .inl [⟨3, l, p.1, p.2⟩] := by
  have hf := first_quote (quote_none h) []
  rw [List.append_nil] at hf
  rw [cut_step h, hf, if_neg (by simp)]
  show consA ⟨3, l, _, 0⟩ p (cut (adv p ((quoteV l).take (quoteV l).length)) ((quoteV l).drop (quoteV l).length)) = _
  rw [List.drop_length, cut_nil]
  rfl
end Lx
end Go.Proofs.Ytpiiklpehfkdaaa
