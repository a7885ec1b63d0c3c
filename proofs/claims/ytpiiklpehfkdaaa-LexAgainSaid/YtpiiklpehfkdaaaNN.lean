/-
  Layer 9 (lex): texts one behind the other, remarks, lines further down.
-/
import Derived.Test.YtpiiklpehfkdaaaNM
namespace Go.Proofs.Ytpiiklpehfkdaaa
namespace Lx

theorem tw_app {f : UInt8 → Bool} {z : UInt8} (hz : f z = false) (t : Bs) : ∀ s : Bs, (s ++ z :: t).takeWhile f = s.takeWhile f
  | [] => by rw [List.nil_append, List.takeWhile_cons_of_neg (by rw [hz]; simp)]; rfl
  | c :: s => by
    rw [List.cons_append]
    by_cases h : f c = true
    · rw [List.takeWhile_cons_of_pos h, List.takeWhile_cons_of_pos h, tw_app hz t s]
    · rw [List.takeWhile_cons_of_neg h, List.takeWhile_cons_of_neg h]
/-- A text goes on as it did, whatever stands behind its line. -/
theorem qt_nl (t : Bs) : ∀ (r acc : Bs) (i : Nat), qt (r ++ 10 :: t) acc i = qt r acc i
  | [], acc, i => by
    show qt (10 :: t) acc i = no 3
    unfold qt
    rw [if_neg (by decide), if_pos (by decide)]
  | c :: r, acc, i => by
    rw [List.cons_append]
    unfold qt
    by_cases h1 : c = 34
    · rw [if_pos h1, if_pos h1]
    · rw [if_neg h1, if_neg h1]
      by_cases h2 : bad c = true
      · rw [if_pos h2, if_pos h2]
      · rw [if_neg h2, if_neg h2]
        by_cases h3 : c = 92
        · rw [if_pos h3, if_pos h3]
          cases r with
          | nil =>
            show (if (10 : UInt8) = 34 ∨ (10 : UInt8) = 92 then _ else if (10 : UInt8) = 110 then _ else no 3) = no 3
            rw [if_neg (by decide), if_neg (by decide)]
          | cons d r' =>
            show (if d = 34 ∨ d = 92 then qt (r' ++ 10 :: t) (acc ++ [d]) (i + 2) else if d = 110 then qt (r' ++ 10 :: t) (acc ++ [10]) (i + 2) else no 3) = (if d = 34 ∨ d = 92 then qt r' (acc ++ [d]) (i + 2) else if d = 110 then qt r' (acc ++ [10]) (i + 2) else no 3)
            rw [qt_nl t r', qt_nl t r']
        · rw [if_neg h3, if_neg h3, qt_nl t r]
theorem num_app {z : UInt8} (hz : isD z = false) (t : Bs) {s : Bs} (hs : s ≠ []) : numP (s ++ z :: t) = numP s := by
  unfold numP
  rw [tw_app hz]
  cases s with
  | nil => exact absurd rfl hs
  | cons c r => rfl
theorem first_nl {s : Bs} (hs : s ≠ []) (t : Bs) : firstV (s ++ 10 :: t) = firstV s := by
  cases s with
  | nil => exact absurd rfl hs
  | cons c r =>
    have e1 := tw_app (f := notNl) (z := 10) (by decide) t (c :: r)
    have e2 := tw_app (f := isW) (z := 10) (by decide) t (c :: r)
    have e3 := num_app (z := 10) (by decide) t (s := c :: r) (by simp)
    rw [List.cons_append] at e1 e2 e3 ⊢
    rw [first_cons, first_cons, e1, e2, e3, qt_nl]
    have e4 : signP c (r ++ 10 :: t) = signP c r := by
      unfold signP
      cases r with
      | nil => simp
      | cons d r => rfl
    rw [e4]
def appA : List Tk → Ans → Ans
  | _, .inr e => .inr e
  | l, .inl m => .inl (l ++ m)
theorem consA_app {c : Pc} {p : Pl} {l l' : List Tk} (h : consA c p (.inl l) = .inl l') (B : Ans) : consA c p (appA l B) = appA l' B := by
  unfold consA at h ⊢
  cases B with
  | inr e => rfl
  | inl m =>
    injection h with h
    subst h
    show Sum.inl _ = Sum.inl _
    by_cases hk : c.kind = 0
    · rw [if_pos hk, if_pos hk]
    · rw [if_neg hk, if_neg hk]; rfl
theorem take_front {α : Type} (a b : List α) {n : Nat} (h : n ≤ a.length) : (a ++ b).take n = a.take n := List.take_append_of_le_length h
theorem drop_front {α : Type} (a b : List α) {n : Nat} (h : n ≤ a.length) : (a ++ b).drop n = a.drop n ++ b := List.drop_append_of_le_length h
theorem cut_line (p : Pl) (t : Bs) : cut p (10 :: t) = cut (p.1 + 1, 1) t := by
  have hf : firstV (10 :: t) = ⟨0, [], 1, 0⟩ := by rw [first_cons, if_pos (by decide)]
  rw [cut_step (by simp), hf, if_neg (by simp)]
  have e : adv p ((10 :: t).take 1) = (p.1 + 1, 1) := rfl
  show consA ⟨0, [], 1, 0⟩ p (cut (adv p ((10 :: t).take 1)) ((10 :: t).drop 1)) = _
  rw [e]
  show consA ⟨0, [], 1, 0⟩ p (cut (p.1 + 1, 1) t) = _
  unfold consA
  cases cut (p.1 + 1, 1) t with
  | inr e => rfl
  | inl l => rfl
/-- Two texts with a line feed between. -/
theorem cut_nl : ∀ (n : Nat) (a : Bs) (p : Pl) (t : Bs), a.length ≤ n → cut p (a ++ 10 :: t) = match cut p a with | .inr e => .inr e | .inl l => appA l (cut ((adv p a).1 + 1, 1) t)
  | 0, a, p, t, h => by
    have : a = [] := List.eq_nil_of_length_eq_zero (by omega)
    subst this
    rw [List.nil_append, cut_line, cut_nil]
    show cut (p.1 + 1, 1) t = appA [] (cut (p.1 + 1, 1) t)
    cases cut (p.1 + 1, 1) t <;> rfl
  | n + 1, a, p, t, h => by
    by_cases ha : a = []
    · subst ha
      rw [List.nil_append, cut_line, cut_nil]
      show cut (p.1 + 1, 1) t = appA [] (cut (p.1 + 1, 1) t)
      cases cut (p.1 + 1, 1) t <;> rfl
    · rw [cut_step (s := a ++ 10 :: t) (by simp), cut_step ha, first_nl ha]
      by_cases he : (firstV a).err ≠ 0
      · rw [if_pos he, if_pos he]
      · rw [if_neg he, if_neg he]
        have hz := first_size ha (by simpa using he)
        rw [take_front _ _ hz.2, drop_front _ _ hz.2, cut_nl n (a.drop (firstV a).size) _ t (by rw [List.length_drop]; omega)]
        have hadv : adv (adv p (a.take (firstV a).size)) (a.drop (firstV a).size) = adv p a := by rw [← adv_app, List.take_append_drop]
        rw [hadv]
        cases hc : cut (adv p (a.take (firstV a).size)) (a.drop (firstV a).size) with
        | inr e => rfl
        | inl l =>
          have h2 : consA (firstV a) p (.inl l) = .inl (if (firstV a).kind = 0 then l else ⟨(firstV a).kind, (firstV a).text, p.1, p.2⟩ :: l) := rfl
          show consA (firstV a) p (appA l _) = match consA (firstV a) p (.inl l) with | .inr e => .inr e | .inl l => appA l _
          rw [consA_app h2, h2]
/-- So many lines further down. -/
def downT (k : Nat) (t : Tk) : Tk := ⟨t.kind, t.text, t.line + k, t.col⟩
def downA (k : Nat) : Ans → Ans
  | .inr e => .inr (e.1, (e.2.1 + k, e.2.2))
  | .inl l => .inl (l.map (downT k))
theorem adv_down (k : Nat) : ∀ (s : Bs) (p : Pl), adv (p.1 + k, p.2) s = ((adv p s).1 + k, (adv p s).2)
  | [], p => rfl
  | c :: s, p => by
    show adv (step (p.1 + k, p.2) c) s = _
    have e : step (p.1 + k, p.2) c = ((step p c).1 + k, (step p c).2) := by
      unfold step
      split
      · show (p.1 + k + 1, 1) = (p.1 + 1 + k, 1)
        rw [Nat.add_right_comm]
      · rfl
    rw [e, adv_down k s (step p c)]
    rfl
theorem cut_down (k : Nat) : ∀ (n : Nat) (s : Bs) (p : Pl), s.length ≤ n → cut (p.1 + k, p.2) s = downA k (cut p s)
  | 0, s, p, h => by
    have : s = [] := List.eq_nil_of_length_eq_zero (by omega)
    subst this
    rfl
  | n + 1, s, p, h => by
    by_cases hs : s = []
    · subst hs; rfl
    · rw [cut_step hs, cut_step hs]
      by_cases he : (firstV s).err ≠ 0
      · rw [if_pos he, if_pos he]; rfl
      · rw [if_neg he, if_neg he]
        have hz := first_size hs (by simpa using he)
        rw [adv_down, cut_down k n _ _ (by rw [List.length_drop]; omega)]
        cases cut (adv p (s.take (firstV s).size)) (s.drop (firstV s).size) with
        | inr e => rfl
        | inl l =>
          show Sum.inl _ = Sum.inl _
          by_cases hk : (firstV s).kind = 0
          · rw [if_pos hk, if_pos hk]
          · rw [if_neg hk, if_neg hk]; rfl

/-! A remark at the end. -/
theorem qt_more (u : Bs) : ∀ (r acc : Bs) (i : Nat), (qt r acc i).err = 0 → qt (r ++ u) acc i = qt r acc i
  | [], acc, i, h => by simp [qt] at h
  | c :: r, acc, i, h => by
    rw [List.cons_append]
    unfold qt at h ⊢
    by_cases h1 : c = 34
    · rw [if_pos h1, if_pos h1]
    · rw [if_neg h1] at h
      rw [if_neg h1, if_neg h1]
      by_cases h2 : bad c = true
      · rw [if_pos h2, if_pos h2]
      · rw [if_neg h2] at h
        rw [if_neg h2, if_neg h2]
        by_cases h3 : c = 92
        · rw [if_pos h3] at h
          rw [if_pos h3, if_pos h3]
          cases r with
          | nil => simp at h
          | cons d r' =>
            change (if d = 34 ∨ d = 92 then qt r' (acc ++ [d]) (i + 2) else if d = 110 then qt r' (acc ++ [10]) (i + 2) else no 3).err = 0 at h
            show (if d = 34 ∨ d = 92 then qt (r' ++ u) (acc ++ [d]) (i + 2) else if d = 110 then qt (r' ++ u) (acc ++ [10]) (i + 2) else no 3) = (if d = 34 ∨ d = 92 then qt r' (acc ++ [d]) (i + 2) else if d = 110 then qt r' (acc ++ [10]) (i + 2) else no 3)
            by_cases h4 : d = 34 ∨ d = 92
            · rw [if_pos h4] at h
              rw [if_pos h4, if_pos h4, qt_more u r' _ _ h]
            · rw [if_neg h4] at h
              rw [if_neg h4, if_neg h4]
              by_cases h5 : d = 110
              · rw [if_pos h5] at h
                rw [if_pos h5, if_pos h5, qt_more u r' _ _ h]
              · rw [if_neg h5, if_neg h5]
        · rw [if_neg h3] at h
          rw [if_neg h3, if_neg h3, qt_more u r _ _ h]
theorem tw_in {c : UInt8} {f : UInt8 → Bool} (hc : f c = false) (u : Bs) : ∀ {s : Bs}, c ∈ s → (s ++ u).takeWhile f = s.takeWhile f
  | [], h => by simp at h
  | d :: s, h => by
    rw [List.cons_append]
    by_cases hd : f d = true
    · have : c ∈ s := by
        rcases List.mem_cons.1 h with rfl | h
        · rw [hc] at hd; simp at hd
        · exact h
      rw [List.takeWhile_cons_of_pos hd, List.takeWhile_cons_of_pos hd, tw_in hc u this]
    · rw [List.takeWhile_cons_of_neg hd, List.takeWhile_cons_of_neg hd]
/-- Is the text one remark, up to its end? -/
def Rem (s : Bs) : Prop := s.head? = some 35 ∧ (10 : UInt8) ∉ s
theorem first_hash {s : Bs} (hs : s ≠ []) (he : (firstV s).err = 0) (hr : ¬ Rem s) (u : Bs) : firstV (s ++ 35 :: u) = firstV s := by
  cases s with
  | nil => exact absurd rfl hs
  | cons c r =>
    have e2 := tw_app (f := isW) (z := 35) (by decide) u (c :: r)
    have e3 := num_app (z := 35) (by decide) u (s := c :: r) (by simp)
    have e4 : signP c (r ++ 35 :: u) = signP c r := by
      unfold signP
      cases r with
      | nil => simp
      | cons d r => rfl
    rw [first_cons] at he
    rw [List.cons_append] at e2 e3 ⊢
    rw [first_cons, first_cons, e2, e3, e4]
    by_cases h1 : isG c = true
    · rw [if_pos h1, if_pos h1]
    · rw [if_neg h1] at he
      rw [if_neg h1, if_neg h1]
      by_cases h2 : c = 35
      · have h10 : (10 : UInt8) ∈ c :: r := by
          rcases Decidable.em ((10 : UInt8) ∈ c :: r) with h | h
          · exact h
          · exact absurd ⟨by rw [h2]; rfl, h⟩ hr
        have := tw_in (f := notNl) (c := 10) (by decide) (35 :: u) h10
        rw [List.cons_append] at this
        rw [if_pos h2, if_pos h2, this]
      · rw [if_neg h2] at he
        rw [if_neg h2, if_neg h2]
        by_cases h3 : isL c = true
        · rw [if_pos h3, if_pos h3]
        · rw [if_neg h3] at he
          rw [if_neg h3, if_neg h3]
          by_cases h4 : isD c = true
          · rw [if_pos h4, if_pos h4]
          · rw [if_neg h4] at he
            rw [if_neg h4, if_neg h4]
            by_cases h5 : c = 34
            · rw [if_pos h5] at he
              rw [if_pos h5, if_pos h5, qt_more _ _ _ _ he]
            · rw [if_neg h5, if_neg h5]
theorem tw_all {f : UInt8 → Bool} {z : UInt8} (hz : f z = false) (t : Bs) : ∀ {s : Bs}, (∀ c ∈ s, f c = true) → (s ++ z :: t).takeWhile f = s
  | [], _ => by rw [List.nil_append, List.takeWhile_cons_of_neg (by rw [hz]; simp)]
  | c :: s, h => by
    rw [List.cons_append, List.takeWhile_cons_of_pos (h c List.mem_cons_self), tw_all hz t (fun x hx => h x (List.mem_cons_of_mem _ hx))]
theorem adv_line {s : Bs} (h : (10 : UInt8) ∉ s) (p : Pl) : (adv p s).1 = p.1 := by
  induction s generalizing p with
  | nil => rfl
  | cons c s ih =>
    have h1 : c ≠ 10 := fun e => h (by rw [e]; exact List.mem_cons_self)
    show (adv (step p c) s).1 = _
    rw [ih (fun hx => h (List.mem_cons_of_mem _ hx))]
    unfold step
    rw [if_neg h1]
theorem no_nl {s : Bs} (h : (10 : UInt8) ∉ s) : ∀ c ∈ s, notNl c = true := fun c hc => by
  unfold notNl
  have : c ≠ 10 := fun e => h (by rw [← e]; exact hc)
  simpa using this
/-- A gap that is a remark up to the line's end. -/
theorem cut_rem {s : Bs} (h0 : s.head? = some 35) (h : (10 : UInt8) ∉ s) (p : Pl) (t : Bs) : cut p (s ++ 10 :: t) = cut (p.1 + 1, 1) t := by
  cases s with
  | nil => simp at h0
  | cons c r =>
    obtain rfl : c = 35 := by simpa using h0
    have hw := tw_all (f := notNl) (z := 10) (by decide) t (no_nl h)
    have hf : firstV ((35 :: r) ++ 10 :: t) = ⟨0, [], (35 :: r).length, 0⟩ := by
      rw [List.cons_append] at hw ⊢
      rw [first_cons, if_neg (by decide), if_pos rfl, hw]
    rw [cut_step (by simp), hf, if_neg (by simp)]
    show consA ⟨0, [], _, 0⟩ p (cut (adv p (((35 :: r) ++ 10 :: t).take (35 :: r).length)) (((35 :: r) ++ 10 :: t).drop (35 :: r).length)) = _
    rw [List.take_left' rfl, List.drop_left' rfl, cut_line, adv_line h]
    unfold consA
    cases cut (p.1 + 1, 1) t <;> rfl
theorem cut_hash {r : Bs} (hr : (10 : UInt8) ∉ r) : ∀ (n : Nat) (a : Bs) (p : Pl) (t : Bs) (l : List Tk), a.length ≤ n → cut p a = .inl l → cut p (a ++ 35 :: (r ++ 10 :: t)) = appA l (cut ((adv p a).1 + 1, 1) t)
  | 0, a, p, t, l, h, hl => by
    have : a = [] := List.eq_nil_of_length_eq_zero (by omega)
    subst this
    injection hl with hl
    subst hl
    have := cut_rem (s := 35 :: r) rfl (by simpa using hr) p t
    rw [List.cons_append] at this
    rw [List.nil_append, this]
    show cut (p.1 + 1, 1) t = appA [] (cut (p.1 + 1, 1) t)
    cases cut (p.1 + 1, 1) t <;> rfl
  | n + 1, a, p, t, l, h, hl => by
    by_cases ha : a = []
    · subst ha
      exact cut_hash hr 0 [] p t l (Nat.le_refl _) hl
    · by_cases hm : Rem a
      · have h10 : (10 : UInt8) ∉ a ++ 35 :: r := by
          intro hx
          rcases List.mem_append.1 hx with hx | hx
          · exact hm.2 hx
          · rcases List.mem_cons.1 hx with hx | hx
            · exact absurd hx (by decide)
            · exact hr hx
        have h0 : (a ++ 35 :: r).head? = some 35 := by
          cases a with
          | nil => exact absurd rfl ha
          | cons c a => exact hm.1
        have h1 := cut_rem h0 h10 p t
        rw [List.append_assoc, List.cons_append] at h1
        rw [h1]
        have hl0 : l = [] := by
          cases a with
          | nil => exact absurd rfl ha
          | cons c a' =>
            obtain rfl : c = 35 := by simpa [Rem] using hm.1
            have hw : (35 :: a').takeWhile notNl = 35 :: a' := by
              have := List.takeWhile_append_of_pos (l₂ := []) (no_nl hm.2)
              simpa using this
            have hf : firstV (35 :: a') = ⟨0, [], (35 :: a').length, 0⟩ := by
              rw [first_cons, if_neg (by decide), if_pos rfl, hw]
            rw [cut_step (by simp), hf, if_neg (by simp)] at hl
            change consA ⟨0, [], _, 0⟩ p (cut (adv p ((35 :: a').take (35 :: a').length)) ((35 :: a').drop (35 :: a').length)) = _ at hl
            rw [List.drop_length, cut_nil] at hl
            injection hl with hl
            exact hl.symm
        rw [hl0, adv_line hm.2]
        cases cut (p.1 + 1, 1) t <;> rfl
      · have he : (firstV a).err = 0 := by
          rcases Decidable.em ((firstV a).err = 0) with h | h
          · exact h
          · rw [cut_step ha, if_pos h] at hl; cases hl
        have hz := first_size ha he
        rw [cut_step ha, if_neg (by simpa using he)] at hl
        rw [cut_step (s := a ++ _) (by simp), first_hash ha he hm, if_neg (by simpa using he), take_front _ _ hz.2, drop_front _ _ hz.2]
        cases hc : cut (adv p (a.take (firstV a).size)) (a.drop (firstV a).size) with
        | inr e => rw [hc] at hl; cases hl
        | inl m =>
          rw [hc] at hl
          rw [cut_hash hr n _ _ t m (by rw [List.length_drop]; omega) hc, consA_app hl]
          have hadv : adv (adv p (a.take (firstV a).size)) (a.drop (firstV a).size) = adv p a := by rw [← adv_app, List.take_append_drop]
          rw [hadv]
end Lx
end Go.Proofs.Ytpiiklpehfkdaaa
