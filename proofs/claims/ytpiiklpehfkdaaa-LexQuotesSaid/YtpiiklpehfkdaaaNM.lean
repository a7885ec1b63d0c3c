/-
  Layer 9 (lex): pieces and tokens of texts as lists of bytes: no program, no world.
-/
import Derived.WalkKit
namespace Go.Proofs.Ytpiiklpehfkdaaa
namespace Lx

abbrev Bs := List UInt8
def isD (c : UInt8) : Bool := decide (48 ≤ c.toNat) && decide (c.toNat ≤ 57)
def isL (c : UInt8) : Bool := (decide (97 ≤ c.toNat) && decide (c.toNat ≤ 122)) || ((decide (65 ≤ c.toNat) && decide (c.toNat ≤ 90)) || decide (c.toNat = 95))
def isW (c : UInt8) : Bool := isL c || isD c
def isG (c : UInt8) : Bool := decide (c = 32) || (decide (c = 9) || (decide (c = 10) || decide (c = 13)))
def notNl (c : UInt8) : Bool := decide (c ≠ 10)
/-- Bytes that a text may not hold as they are. -/
def bad (c : UInt8) : Bool := decide (c.toNat < 32) || decide (c.toNat = 127)
def signs : Bs := [61, 43, 40, 41, 91, 93, 123, 125, 44, 58, 59]
/-- What stands at the front of a text: kind 0: a gap; err: it isn't right. -/
structure Pc where
  kind : Nat
  text : Bs
  size : Nat
  err : Nat
abbrev no (e : Nat) : Pc := ⟨0, [], 0, e⟩
def natOf (l : Bs) : Nat := l.foldl (fun n c => 10 * n + (c.toNat - 48)) 0
/-- A text behind its opening quote: what it has said so far, how many bytes are read. -/
def qt : Bs → Bs → Nat → Pc
  | [], _, _ => no 3
  | c :: r, acc, i =>
    if c = 34 then ⟨3, acc, i + 1, 0⟩
    else if bad c = true then no 3
    else if c = 92 then
      match r with
      | [] => no 3
      | d :: r' => if d = 34 ∨ d = 92 then qt r' (acc ++ [d]) (i + 2) else if d = 110 then qt r' (acc ++ [10]) (i + 2) else no 3
    else qt r (acc ++ [c]) (i + 1)
def numP (s : Bs) : Pc :=
  if 1 < (s.takeWhile isD).length ∧ s.head? = some 48 then no 3
  else if 9223372036854775807 < natOf (s.takeWhile isD) then no 2
  else ⟨2, s.takeWhile isD, (s.takeWhile isD).length, 0⟩
def signP (c : UInt8) (r : Bs) : Pc :=
  if (c = 61 ∨ c = 33) ∧ r.head? = some 61 then ⟨4, [c, 61], 2, 0⟩
  else if c ∈ signs then ⟨4, [c], 1, 0⟩
  else no 3
def firstV : Bs → Pc
  | [] => no 0
  | c :: r =>
    if isG c = true then ⟨0, [], 1, 0⟩
    else if c = 35 then ⟨0, [], ((c :: r).takeWhile notNl).length, 0⟩
    else if isL c = true then ⟨1, (c :: r).takeWhile isW, ((c :: r).takeWhile isW).length, 0⟩
    else if isD c = true then numP (c :: r)
    else if c = 34 then qt r [] 1
    else signP c r
theorem first_cons (c : UInt8) (r : Bs) : firstV (c :: r) =
    if isG c = true then ⟨0, [], 1, 0⟩
    else if c = 35 then ⟨0, [], ((c :: r).takeWhile notNl).length, 0⟩
    else if isL c = true then ⟨1, (c :: r).takeWhile isW, ((c :: r).takeWhile isW).length, 0⟩
    else if isD c = true then numP (c :: r)
    else if c = 34 then qt r [] 1
    else signP c r := rfl
/-- A place: its line, its column. -/
abbrev Pl := Nat × Nat
def step (p : Pl) (c : UInt8) : Pl := if c = 10 then (p.1 + 1, 1) else (p.1, p.2 + 1)
def adv (p : Pl) (s : Bs) : Pl := s.foldl step p
structure Tk where
  kind : Nat
  text : Bs
  line : Nat
  col : Nat
abbrev Ans := List Tk ⊕ (Nat × Pl)
def consA (c : Pc) (p : Pl) : Ans → Ans
  | .inr e => .inr e
  | .inl l => .inl (if c.kind = 0 then l else ⟨c.kind, c.text, p.1, p.2⟩ :: l)
def cutF : Nat → Pl → Bs → Ans
  | 0, _, _ => .inl []
  | f + 1, p, s => if s = [] then .inl [] else if (firstV s).err ≠ 0 then .inr ((firstV s).err, p) else consA (firstV s) p (cutF f (adv p (s.take (firstV s).size)) (s.drop (firstV s).size))
def cut (p : Pl) (s : Bs) : Ans := cutF s.length p s

theorem adv_app (p : Pl) (a b : Bs) : adv p (a ++ b) = adv (adv p a) b := List.foldl_append
theorem tw_pos {f : UInt8 → Bool} {c : UInt8} {r : Bs} (h : f c = true) : ((c :: r).takeWhile f).length = (r.takeWhile f).length + 1 := by
  rw [List.takeWhile_cons_of_pos h]; rfl
theorem tw_le (f : UInt8 → Bool) (s : Bs) : (s.takeWhile f).length ≤ s.length := (List.takeWhile_prefix f).length_le
/-- How many bytes a piece has. -/
theorem qt_size : ∀ (r acc : Bs) (i : Nat), (qt r acc i).err = 0 → i < (qt r acc i).size ∧ (qt r acc i).size ≤ i + r.length ∧ (qt r acc i).kind = 3
  | [], _, _, h => by simp [qt] at h
  | c :: r, acc, i, h => by
    unfold qt at h ⊢
    by_cases h1 : c = 34
    · simp only [if_pos h1, List.length_cons]
      exact ⟨by omega, by omega, trivial⟩
    · rw [if_neg h1] at h ⊢
      by_cases h2 : bad c = true
      · rw [if_pos h2] at h; simp at h
      · rw [if_neg h2] at h ⊢
        by_cases h3 : c = 92
        · rw [if_pos h3] at h ⊢
          cases r with
          | nil => simp at h
          | cons d r' =>
            simp only at h ⊢
            by_cases h4 : d = 34 ∨ d = 92
            · rw [if_pos h4] at h ⊢
              have := qt_size r' _ _ h
              simp only [List.length_cons]
              omega
            · rw [if_neg h4] at h ⊢
              by_cases h5 : d = 110
              · rw [if_pos h5] at h ⊢
                have := qt_size r' _ _ h
                simp only [List.length_cons]
                omega
              · rw [if_neg h5] at h; simp at h
        · rw [if_neg h3] at h ⊢
          have := qt_size r _ _ h
          simp only [List.length_cons]
          omega
theorem first_size {s : Bs} (hs : s ≠ []) (h : (firstV s).err = 0) : 0 < (firstV s).size ∧ (firstV s).size ≤ s.length := by
  cases s with
  | nil => exact absurd rfl hs
  | cons c r =>
    rw [first_cons] at h ⊢
    by_cases h1 : isG c = true
    · simp only [if_pos h1, List.length_cons]; omega
    · rw [if_neg h1] at h ⊢
      by_cases h2 : c = 35
      · simp only [if_pos h2]
        refine ⟨?_, tw_le _ _⟩
        subst h2
        rw [tw_pos (by decide)]
        omega
      · rw [if_neg h2] at h ⊢
        by_cases h3 : isL c = true
        · simp only [if_pos h3]
          refine ⟨?_, tw_le _ _⟩
          rw [tw_pos (by unfold isW; rw [h3]; rfl)]
          omega
        · rw [if_neg h3] at h ⊢
          by_cases h4 : isD c = true
          · rw [if_pos h4] at h ⊢
            unfold numP at h ⊢
            split at h
            · simp at h
            · rename_i h5
              rw [if_neg h5]
              split at h
              · simp at h
              · rename_i h6
                rw [if_neg h6]
                refine ⟨?_, tw_le _ _⟩
                show 0 < ((c :: r).takeWhile isD).length
                rw [tw_pos h4]
                omega
          · rw [if_neg h4] at h ⊢
            by_cases h5 : c = 34
            · rw [if_pos h5] at h ⊢
              have := qt_size r [] 1 h
              simp only [List.length_cons]
              omega
            · rw [if_neg h5] at h ⊢
              unfold signP at h ⊢
              split at h
              · rename_i h6
                rw [if_pos h6]
                cases r with
                | nil => simp at h6
                | cons d r => simp only [List.length_cons]; omega
              · rename_i h6
                rw [if_neg h6]
                split at h
                · rename_i h7
                  rw [if_pos h7]
                  simp only [List.length_cons]; omega
                · simp at h
theorem cutF_enough : ∀ (f g : Nat) (p : Pl) (s : Bs), s.length ≤ f → s.length ≤ g → cutF f p s = cutF g p s
  | 0, 0, _, _, _, _ => rfl
  | 0, g + 1, p, s, hf, _ => by
    have : s = [] := List.eq_nil_of_length_eq_zero (by omega)
    subst this
    rfl
  | f + 1, 0, p, s, _, hg => by
    have : s = [] := List.eq_nil_of_length_eq_zero (by omega)
    subst this
    rfl
  | f + 1, g + 1, p, s, hf, hg => by
    unfold cutF
    by_cases hs : s = []
    · rw [if_pos hs, if_pos hs]
    · rw [if_neg hs, if_neg hs]
      by_cases he : (firstV s).err ≠ 0
      · rw [if_pos he, if_pos he]
      · rw [if_neg he, if_neg he]
        have := first_size hs (by simpa using he)
        rw [cutF_enough f g _ _ (by rw [List.length_drop]; omega) (by rw [List.length_drop]; omega)]
theorem cut_nil (p : Pl) : cut p [] = .inl [] := rfl
theorem cut_step {s : Bs} (hs : s ≠ []) (p : Pl) : cut p s = if (firstV s).err ≠ 0 then .inr ((firstV s).err, p) else consA (firstV s) p (cut (adv p (s.take (firstV s).size)) (s.drop (firstV s).size)) := by
  show cutF s.length p s = _
  obtain ⟨q, hq⟩ : ∃ q, s.length = q + 1 := ⟨s.length - 1, by have := List.length_pos_iff.2 hs; omega⟩
  rw [hq]
  unfold cutF
  rw [if_neg hs]
  by_cases he : (firstV s).err ≠ 0
  · rw [if_pos he, if_pos he]
  · rw [if_neg he, if_neg he]
    have := first_size hs (by simpa using he)
    have e : cutF q (adv p (s.take (firstV s).size)) (s.drop (firstV s).size) = cut (adv p (s.take (firstV s).size)) (s.drop (firstV s).size) := cutF_enough _ _ _ _ (by rw [List.length_drop]; omega) (Nat.le_refl _)
    rw [e]
end Lx
end Go.Proofs.Ytpiiklpehfkdaaa
