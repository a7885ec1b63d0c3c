/-
  Layer 9 (lex): law Parts: math; a slice of tokens appended to nil.
-/
import Derived.Test.YtpiiklpehfkdaaaNK
import Derived.Test.YtpiiklpehfkdaaaNR
import Derived.Lib.AppendZeros
namespace Go.Proofs.Ytpiiklpehfkdaaa
namespace Lx
open Go.RowKit Kr

theorem toks_one (l : List Tk) : ∀ u ∈ l.flatMap encT, u.oneCell' = true := by
  intro u hu
  obtain ⟨t, _, ht⟩ := List.mem_flatMap.1 hu
  exact encT_one t u ht
set_option maxRecDepth 100000 in
/-- append(nil, x...). -/
theorem append_toks (w : World) (B : Nat) (A : Option Addr) (n cap : Nat) (l : List Tk) (ty : TypeId) (hB : B ≤ w.heap.size) (hl : l.length = n) (hb : n ≤ 100000) (hx : TRow w w.heap.size A l) :
    ∃ A' cap' w', (Builtin.append_ #[23, 23] ty #[.slice none 0 0, .slice A n cap]).run Try.prog w = .ok (.slice A' n cap') w' ∧ OwnsT w' B (.slice A' n cap') l ∧ w.grownBy w' none := by
  obtain ⟨i, hi, hz0, hz1, hz2⟩ := info_parts tokInfo
  have hlen : (l.flatMap encT).length = n * 4 := by rw [flat_length encT_length, hl]
  cases A with
  | none =>
    have h0 : l = [] := by
      cases l with
      | nil => rfl
      | cons z l => obtain ⟨b, o, e, _⟩ := hx 0 z rfl; cases e
    subst h0
    obtain rfl : n = 0 := hl.symm
    refine ⟨none, 0, w, ?_, OwnsK.nil _ _, ⟨rfl, rfl, rfl, Nat.le_refl _, fun _ _ _ => rfl⟩⟩
    simp [Builtin.append_, run_underlying Try.underlying23, sizeOf, typeInfo, hi, Builtin.lenOf, Builtin.firstCells]
  | some a =>
    obtain ⟨v', w', hrun, h1, h2, _⟩ := run_append_own (P := Try.prog) w B 23 ty T_K i (.agg #[.int .i64 0, .string ⟨#[]⟩, .int .i64 0, .int .i64 0]) 4 40 Try.underlying23 hi hz0 hz1 hz2 rfl (by decide) (.slice none 0 0) 0 [] (World.ownsRow_nil _ _ _ _) a n cap (l.flatMap encT) hlen (fun j u hu => by
      have hj := (List.getElem?_eq_some_iff.1 hu).1
      rw [hlen] at hj
      have hd : j / 4 < l.length := by rw [hl]; omega
      obtain ⟨b, o, e, _, h3⟩ := hx (j / 4) (l[j / 4]'hd) (List.getElem?_eq_getElem hd)
      injection e with e
      subst e
      obtain ⟨v, hv⟩ : ∃ v, (encT (l[j / 4]'hd))[j % 4]? = some v := ⟨_, List.getElem?_eq_getElem (by rw [encT_length]; omega)⟩
      have h4 := flat_at encT_length l (j / 4) _ (List.getElem?_eq_getElem hd) (j % 4) v hv
      have h6 : j / 4 * 4 + j % 4 = j := by omega
      rw [h6, hu] at h4
      injection h4 with h4
      have h5 := h3 (j % 4) v hv
      rw [Nat.add_assoc, h6] at h5
      rw [Addr.add_lit, h4]
      exact h5) (toks_one l) (by simp only [maxLen]; omega) (by omega) hB
    have h3 : OwnsT w' B v' l := by
      show World.ownsRow _ _ _ _ _ _ _
      rw [hl]
      simpa using h1
    obtain ⟨A', cap', hv⟩ := h3.form
    rw [hl] at hv
    subst hv
    exact ⟨A', cap', w', hrun, h3, h2⟩

theorem parts_math {A B R : Bs} {x y : List Tk} {p q : Pl} (hA : A.length ≤ 300) (hB : B.length ≤ 300) (hR : R.length ≤ 100) (h10 : (10 : UInt8) ∉ R) (hx : ansV A = (x, 0, p)) (hy : ansV B = (y, 0, q)) :
    ansV (A ++ 10 :: B) = (x ++ y.map (downT (adv (1, 1) A).1), 0, (0, 0)) ∧ ansV (A ++ 35 :: (R ++ 10 :: B)) = (x ++ y.map (downT (adv (1, 1) A).1), 0, (0, 0)) := by
  have hcx : cut (1, 1) A = .inl x := by
    cases hc : cut (1, 1) A with
    | inl m =>
      have := ans_yes (s := A) (by omega) hc
      rw [hx] at this
      simp only [Prod.mk.injEq] at this
      rw [this.1]
    | inr e =>
      have h0 := cut_err A.length A (1, 1) e (Nat.le_refl _) hc
      have := ans_no (s := A) (n := e.1) (p := e.2) (by omega) hc
      rw [hx] at this
      simp only [Prod.mk.injEq] at this
      exact absurd this.2.1.symm h0
  have hcy : cut (1, 1) B = .inl y := by
    cases hc : cut (1, 1) B with
    | inl m =>
      have := ans_yes (s := B) (by omega) hc
      rw [hy] at this
      simp only [Prod.mk.injEq] at this
      rw [this.1]
    | inr e =>
      have h0 := cut_err B.length B (1, 1) e (Nat.le_refl _) hc
      have := ans_no (s := B) (n := e.1) (p := e.2) (by omega) hc
      rw [hy] at this
      simp only [Prod.mk.injEq] at this
      exact absurd this.2.1.symm h0
  have hd : cut ((adv (1, 1) A).1 + 1, 1) B = .inl (y.map (downT (adv (1, 1) A).1)) := by
    have := cut_down (adv (1, 1) A).1 B.length B (1, 1) (Nat.le_refl _)
    rw [hcy] at this
    rw [Nat.add_comm] at this
    exact this
  refine ⟨ans_yes ?_ ?_, ans_yes ?_ ?_⟩
  · rw [List.length_append, List.length_cons]; omega
  · rw [cut_nl A.length A (1, 1) B (Nat.le_refl _), hcx]
    show appA x _ = _
    rw [hd]; rfl
  · rw [List.length_append, List.length_cons, List.length_append, List.length_cons]; omega
  · rw [cut_hash h10 A.length A (1, 1) B x (Nat.le_refl _) hcx, hd]; rfl
theorem cut_lines : ∀ (n : Nat) (s : Bs) (p : Pl) (l : List Tk), s.length ≤ n → cut p s = .inl l → ∀ t ∈ l, t.line ≤ p.1 + s.length
  | 0, s, p, l, h, hc => by
    have : s = [] := List.eq_nil_of_length_eq_zero (by omega)
    subst this
    injection hc with hc
    subst hc
    exact fun t ht => by simp at ht
  | n + 1, s, p, l, h, hc => by
    by_cases hs : s = []
    · subst hs
      injection hc with hc
      subst hc
      exact fun t ht => by simp at ht
    · rw [cut_step hs] at hc
      by_cases he : (firstV s).err ≠ 0
      · rw [if_pos he] at hc; cases hc
      · rw [if_neg he] at hc
        have hz := first_size hs (by simpa using he)
        have ha := (adv_le (s.take (firstV s).size) p).1
        rw [List.length_take] at ha
        cases hc2 : cut (adv p (s.take (firstV s).size)) (s.drop (firstV s).size) with
        | inr e => rw [hc2] at hc; cases hc
        | inl m =>
          rw [hc2] at hc
          have ih := cut_lines n _ _ m (by rw [List.length_drop]; omega) hc2
          rw [List.length_drop] at ih
          have hm : ∀ t ∈ m, t.line ≤ p.1 + s.length := fun t ht => by have := ih t ht; omega
          unfold consA at hc
          injection hc with hc
          rw [← hc]
          intro t ht
          split at ht
          · exact hm t ht
          · rcases List.mem_cons.1 ht with rfl | ht
            · show p.1 ≤ _; omega
            · exact hm t ht
theorem ans_lines {T : Bs} {l : List Tk} {p : Pl} {n : Nat} (hT : T.length ≤ 300) (h : ansV T = (l, n, p)) : ∀ t ∈ l, t.line ≤ 301 := by
  cases hc : cut (1, 1) T with
  | inl m =>
    have e := ans_yes (s := T) (by omega) hc
    rw [h] at e
    simp only [Prod.mk.injEq] at e
    obtain ⟨rfl, _⟩ := e
    intro t ht
    have := cut_lines T.length T (1, 1) l (Nat.le_refl _) hc t ht
    simp only at this
    omega
  | inr e =>
    have e := ans_no (s := T) (n := e.1) (p := e.2) (by omega) hc
    rw [h] at e
    simp only [Prod.mk.injEq] at e
    rw [e.1]
    exact fun t ht => by simp at ht
theorem three_lines (a r b : ByteArray) : toB (a ++ ⟨#[35]⟩ ++ r ++ ⟨#[10]⟩ ++ b) = toB a ++ 35 :: (toB r ++ 10 :: toB b) := by
  rw [app_toB, app_toB, app_toB, app_toB]
  show toB a ++ [35] ++ toB r ++ [10] ++ toB b = _
  simp
end Lx
end Go.Proofs.Ytpiiklpehfkdaaa
