/-
  Layer 1 (pack): plain mathematics of numbers as texts: a number's text is read as it. Names no program.
-/
import Derived.Test.YthjnbjfcjjnkaaaDoorMath
import Derived.Lib.ParseIntBCases
import Derived.Lib.ParseIntBTie
namespace Go.Proofs.YthjnbjfcjjnkaaaDoor
namespace Pk
open Go.Lib

/-- The value of digits, one by one. -/
def val (acc : Nat) : Bs → Nat
  | [] => acc
  | c :: r => val (acc * 10 + (c.toNat - 48)) r
theorem val_append (a b : Bs) : ∀ acc, val acc (a ++ b) = val (val acc a) b := by
  induction a with
  | nil => intro acc; rfl
  | cons c r ih => intro acc; exact ih _

theorem val_one (acc : Nat) (c : UInt8) : val acc [c] = acc * 10 + (c.toNat - 48) := rfl

theorem val_dec : ∀ u : Nat, val 0 (decDigits u) = u := by
  intro u
  induction u using Nat.strongRecOn with
  | _ u ih =>
    by_cases h0 : u < 10
    · have hv := (isD_dg u h0).2
      rw [decDigits_one h0, val_one, hv]
      omega
    · have hv := (isD_dg (u % 10) (by omega)).2
      rw [decDigits, dif_neg h0, val_append, ih (u / 10) (by omega), val_one, hv]
      omega

theorem all_dec : ∀ u : Nat, ∀ c ∈ decDigits u, isD c = true := by
  intro u
  induction u using Nat.strongRecOn with
  | _ u ih =>
    intro c hc
    by_cases h0 : u < 10
    · rw [decDigits_one h0, List.mem_singleton] at hc
      subst hc
      exact (isD_dg u h0).1
    · rw [decDigits, dif_neg h0, List.mem_append, List.mem_singleton] at hc
      rcases hc with hc | hc
      · exact ih (u / 10) (by omega) c hc
      · subst hc
        exact (isD_dg (u % 10) (by omega)).1

theorem dec_ne_nil (u : Nat) : decDigits u ≠ [] := by
  have h := ne_nil_digits u []
  rwa [List.append_nil] at h

theorem dec_cons (u : Nat) : ∃ c r, decDigits u = c :: r ∧ isD c = true := by
  cases h : decDigits u with
  | nil => exact absurd h (dec_ne_nil u)
  | cons c r => exact ⟨c, r, rfl, all_dec u c (by rw [h]; simp)⟩

theorem isD_bounds {c : UInt8} (h : isD c = true) : 48 ≤ c.toNat ∧ c.toNat ≤ 57 := by simpa [isD] using h

/-- The library's reading of a number's digits. -/
theorem parseM_dec : ∀ (u : Nat) (t : Bs), u ≤ 18446744073709551615 → parseUintM 18446744073709551615 0 (decDigits u ++ t) = parseUintM 18446744073709551615 u t := by
  intro u
  induction u using Nat.strongRecOn with
  | _ u ih =>
    intro t hu
    by_cases h0 : u < 10
    · have ⟨hd, hv⟩ := isD_dg u h0
      rw [decDigits_one h0, List.singleton_append, parseUintM, if_pos (isD_bounds hd), if_neg (by omega), hv, if_neg (by omega)]
      congr 1
      omega
    · have ⟨hd, hv⟩ := isD_dg (u % 10) (by omega)
      rw [decDigits, dif_neg h0, List.append_assoc, List.singleton_append, ih (u / 10) (by omega) _ (by omega), parseUintM, if_pos (isD_bounds hd), if_neg (by omega), hv, if_neg (by omega)]
      congr 1
      omega

def inR (n : Int) : Prop := -9223372036854775808 ≤ n ∧ n ≤ 9223372036854775807

theorem parse_dec (u : Nat) (hu : u ≤ 18446744073709551615) : parseUintB 64 (decDigits u) = .ok u := by
  unfold parseUintB
  rw [if_neg (dec_ne_nil u)]
  have h := parseM_dec u [] hu
  rw [List.append_nil] at h
  exact h

/-- There and back. -/
theorem parse_itoa (n : Int) (h : inR n) : parseIntB 64 (itoa n) = .ok n := by
  unfold inR at h
  by_cases hn : n < 0
  · obtain ⟨u, rfl⟩ : ∃ u : Nat, n = -(u : Int) := ⟨n.natAbs, by omega⟩
    rw [itoa_neg u (by omega), parseIntB_minus, parse_dec u (by omega)]
    simp only [signedC]
    rw [if_neg (by omega)]
  · obtain ⟨u, rfl⟩ : ∃ u : Nat, n = (u : Int) := ⟨n.toNat, by omega⟩
    rw [itoa_nonneg]
    obtain ⟨c, r, hd, hc⟩ := dec_cons u
    have hb := isD_bounds hc
    rw [hd, parseIntB_plain 64 c r (by omega) (by omega), ← hd, parse_dec u (by omega)]
    simp only [signlessC]
    rw [if_neg (by omega)]

theorem parse_range {l : Bs} {v : Int} (h : parseIntB 64 l = .ok v) : inR v := by
  have := parseIntB_bounds h
  unfold inR
  omega

theorem itoa_inj {a b : Int} (ha : inR a) (hb : inR b) (h : itoa a = itoa b) : a = b := by
  have h1 := parse_itoa a ha
  rw [h, parse_itoa b hb] at h1
  injection h1 with h1
  exact h1.symm

/-- What Int answers. -/
def IntIs (l : Bs) (v : Int) (ok : Bool) : Prop := (ok = true ∧ inR v ∧ itoa v = l) ∨ (ok = false ∧ v = 0 ∧ ∀ x, inR x → itoa x ≠ l)

theorem IntIs.one {l : Bs} {v v' : Int} {ok ok' : Bool} (h : IntIs l v ok) (h' : IntIs l v' ok') : v = v' ∧ ok = ok' := by
  rcases h with ⟨rfl, hr, hi⟩ | ⟨rfl, rfl, hn⟩
  · rcases h' with ⟨rfl, hr', hi'⟩ | ⟨rfl, rfl, hn'⟩
    · exact ⟨itoa_inj hr hr' (hi.trans hi'.symm), rfl⟩
    · exact absurd hi (hn' v hr)
  · rcases h' with ⟨rfl, hr', hi'⟩ | ⟨rfl, rfl, hn'⟩
    · exact absurd hi' (hn v' hr')
    · exact ⟨rfl, rfl⟩

/-- The text of a number: a sign, and at most nineteen digits. -/
theorem itoa_form (n : Int) (h : inR n) : (n < 0 ∧ itoa n = 45 :: decDigits n.natAbs ∨ 0 ≤ n ∧ itoa n = decDigits n.natAbs) ∧ (decDigits n.natAbs).length ≤ 19 := by
  unfold inR at h
  refine ⟨?_, ?_⟩
  · by_cases hn : n < 0
    · exact .inl ⟨hn, by rw [itoa, if_pos hn]⟩
    · exact .inr ⟨by omega, by rw [itoa, if_neg hn]; congr 1; omega⟩
  · rw [decDigits_length]
    have hp : ∀ k u, u < 10 ^ (k + 1) → nDigits u ≤ k + 1 := by
      intro k
      induction k with
      | zero => intro u h; rw [nDigits_small (by simpa using h)]; omega
      | succ k ih =>
        intro u h
        by_cases h0 : u < 10
        · rw [nDigits_small h0]; omega
        · rw [nDigits_big h0]
          have := ih (u / 10) (by rw [Nat.pow_succ] at h; omega)
          omega
    exact hp 18 _ (by have e : 10 ^ (18 + 1) = 10000000000000000000 := by decide
                      rw [e]; omega)
end Pk
end Go.Proofs.YthjnbjfcjjnkaaaDoor
