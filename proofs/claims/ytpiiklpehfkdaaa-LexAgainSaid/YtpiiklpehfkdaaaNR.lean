/-
  Layer 9 (lex): law Again.
-/
import Derived.Test.YtpiiklpehfkdaaaNJ
import Derived.BigQuiet
namespace Go.Proofs.Ytpiiklpehfkdaaa
namespace Lx
open Go.RowKit Kr

theorem good_text {k : Nat} {t : Bs} (h : Good k t) : t.length ≤ (writ k t).length := by
  unfold writ
  by_cases hk : k = 3
  · rw [if_pos hk]
    have h2 := h.2 []
    unfold writ at h2
    rw [if_pos hk] at h2
    have hq : quoteV t ≠ [] := by
      intro e
      rw [e, List.nil_append, first_cons, if_pos (by decide)] at h2
      injection h2 with h3
      exact h.1 h3.symm
    rw [quote_ok (quote_none hq), List.length_cons, List.length_append]
    have := esc_len t
    omega
  · rw [if_neg hk]; exact Nat.le_refl _
theorem wr_take (l : List Tk) {k : Nat} {t : Tk} (h : l[k]? = some t) : wrAll (l.take (k + 1)) = wrAll (l.take k) ++ writ t.kind t.text ++ [32] := by
  obtain ⟨hk, rfl⟩ := List.getElem?_eq_some_iff.1 h
  unfold wrAll
  rw [List.take_succ_eq_append_getElem hk, List.flatMap_append, List.flatMap_cons, List.flatMap_nil, List.append_nil, List.append_assoc]
theorem wr_part (l : List Tk) (k : Nat) : (wrAll (l.take k)).length ≤ (wrAll l).length := by
  have e : wrAll l = wrAll (l.take k) ++ wrAll (l.drop k) := by
    unfold wrAll
    rw [← List.flatMap_append, List.take_append_drop]
  rw [e, List.length_append]
  omega
theorem writ_part (l : List Tk) {k : Nat} {t : Tk} (h : l[k]? = some t) : (writ t.kind t.text).length ≤ (wrAll l).length := by
  have h1 := wr_part l (k + 1)
  rw [wr_take l h, List.length_append, List.length_append] at h1
  omega
/-- What is written of a text's tokens. -/
theorem again_math {T : Bs} {l : List Tk} {p : Pl} (hT : T.length ≤ 600) (h : ansV T = (l, 0, p)) (h0 : ∃ m, cut (1, 1) T = .inl m) :
    (wrAll l).length ≤ 1200 ∧ (∀ t ∈ l, Good t.kind t.text) ∧ ∃ m, ansV (wrAll l) = (m, 0, (0, 0)) ∧ m.map (fun t => (t.kind, t.text)) = l.map fun t => (t.kind, t.text) := by
  obtain ⟨m, hm⟩ := h0
  have e := ans_yes (s := T) (by omega) hm
  rw [h] at e
  simp only [Prod.mk.injEq] at e
  obtain ⟨rfl, _⟩ := e
  obtain ⟨g1, g2, g3⟩ := cut_good T.length T (1, 1) l (Nat.le_refl _) hm
  have hw : (wrAll l).length ≤ 1200 := by rw [wrAll_len]; omega
  obtain ⟨m, k1, k2⟩ := cut_again l (1, 1) g1
  exact ⟨hw, g1, m, ans_yes (by omega) k1, k2⟩
theorem cut_err : ∀ (n : Nat) (s : Bs) (p : Pl) (e : Nat × Pl), s.length ≤ n → cut p s = .inr e → e.1 ≠ 0
  | 0, s, p, e, h, hc => by
    have : s = [] := List.eq_nil_of_length_eq_zero (by omega)
    subst this
    cases hc
  | n + 1, s, p, e, h, hc => by
    by_cases hs : s = []
    · subst hs; cases hc
    · rw [cut_step hs] at hc
      by_cases he : (firstV s).err ≠ 0
      · rw [if_pos he] at hc
        injection hc with hc
        rw [← hc]
        exact he
      · rw [if_neg he] at hc
        have hz := first_size hs (by simpa using he)
        cases hc2 : cut (adv p (s.take (firstV s).size)) (s.drop (firstV s).size) with
        | inl l => rw [hc2] at hc; cases hc
        | inr e2 =>
          rw [hc2] at hc
          injection hc with hc
          rw [← hc]
          exact cut_err n _ _ e2 (by rw [List.length_drop]; omega) hc2
/-- Either the tokens, or an error and no tokens. -/
theorem ans_two {T : Bs} (hT : T.length ≤ 600) : (∃ m, cut (1, 1) T = .inl m ∧ ansV T = (m, 0, (0, 0))) ∨ ∃ n p, n ≠ 0 ∧ ansV T = ([], n, p) := by
  cases hc : cut (1, 1) T with
  | inl m => exact .inl ⟨m, rfl, ans_yes (by omega) hc⟩
  | inr e => exact .inr ⟨e.1, e.2, cut_err T.length T (1, 1) e (Nat.le_refl _) hc, ans_no (by omega) hc⟩
set_option maxRecDepth 100000 in
set_option maxHeartbeats 1000000 in
theorem written_any (t : Tk) (ht : t.text.length ≤ 100000) (w : World) : Calls Try.prog 14 #[.agg #[.int .i64 (t.kind : Int), .string (ofB t.text), .int .i64 (t.line : Int), .int .i64 (t.col : Int)]] w fun e w' => e = .returned (.string (ofB (writ t.kind t.text))) ∧ Below w.heap.size w w' := by
  obtain ⟨k, x, l, c⟩ := t
  simp only at ht ⊢
  have HB : Hid (Below w.heap.size w (w.alloc (.cells #[.int .i64 (k : Int), .string (ofB x), .int .i64 (l : Int), .int .i64 (c : Int)] T_K))) := new_below _ _
  by_cases hk : k = 3
  · subst hk
    have HQ := Lib.hid (fun W => refquote_any (ofB x) W (by rw [ofB_size]; omega))
    rw [toB_ofB] at HQ
    have HE : Hid (writ 3 x = quoteV x) := rfl
    go_enter Try.func14, Try.ntmps14
    go_wp2_with (go_at_call 13; refine (HQ.out _).mono ?_; rintro e w1 ⟨rfl, hb1⟩)
    go_ret
    rw [HE.out]
    exact ⟨rfl, HB.out.trans (hb1.mono HB.out.size)⟩
  · have hki : ((k : Int) == 3) = false := beq_eq_false_iff_ne.2 (by omega)
    have HE : Hid (writ k x = x) := if_neg hk
    clear hk
    go_enter Try.func14, Try.ntmps14
    go_wp2
    go_ret
    rw [HE.out]
    exact ⟨rfl, HB.out⟩
end Lx
end Go.Proofs.Ytpiiklpehfkdaaa
