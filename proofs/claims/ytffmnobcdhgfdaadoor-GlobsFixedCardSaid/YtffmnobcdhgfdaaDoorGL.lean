/-
  Layer 4 (globs): what the library's functions on strings compute, said by parts and signs.
-/
import Derived.Test.YtffmnobcdhgfdaaDoorGF
import Derived.Lib.Replace
import Derived.Lib.IndexAny
namespace Go.Proofs.YtffmnobcdhgfdaaDoor
namespace Gl
open Pt

theorem idx1_no (c : UInt8) (l : Bs) (h : c ∉ l) : Lib.index l [c] = -1 := by
  induction l with
  | nil => rfl
  | cons b l ih =>
    have h1 : ([c] : Bs).isPrefixOf (b :: l) = false := by
      have : (c == b) = false := by rw [beq_eq_false_iff_ne]; exact fun e => h (by simp [e])
      simp [List.isPrefixOf, this]
    unfold Lib.index
    rw [h1, ih (fun hm => h (by simp [hm]))]
    rfl
theorem idx1_at (c : UInt8) (a b : Bs) (h : c ∉ a) : Lib.index (a ++ c :: b) [c] = (a.length : Int) := by
  induction a with
  | nil => unfold Lib.index; simp [List.isPrefixOf]
  | cons d l ih =>
    have h1 : ([c] : Bs).isPrefixOf (d :: (l ++ c :: b)) = false := by
      have : (c == d) = false := by rw [beq_eq_false_iff_ne]; exact fun e => h (by simp [e])
      simp [List.isPrefixOf, this]
    rw [List.cons_append]
    unfold Lib.index
    rw [h1, ih (fun hm => h (by simp [hm]))]
    have h2 : ((l.length : Int) == -1) = false := by rw [beq_eq_false_iff_ne]; omega
    rw [h2]
    simp
theorem first_sign (c : UInt8) (l : Bs) : c ∉ l ∨ ∃ a b, c ∉ a ∧ l = a ++ c :: b := by
  induction l with
  | nil => exact .inl (by simp)
  | cons d l ih =>
    by_cases h : d = c
    · exact .inr ⟨[], l, by simp, by rw [h]; rfl⟩
    · rcases ih with h1 | ⟨a, b, h1, h2⟩
      · refine .inl fun hm => ?_
        rcases List.mem_cons.1 hm with e | hm
        · exact h e.symm
        · exact h1 hm
      · refine .inr ⟨d :: a, b, fun hm => ?_, by rw [h2]; rfl⟩
        rcases List.mem_cons.1 hm with e | hm
        · exact h e.symm
        · exact h1 hm
theorem cut_rest (s : ByteArray) (a b : Bs) (c : UInt8) (h : s.data.toList = a ++ c :: b) : (s.extract (a.length + 1) s.size).data.toList = b := by
  rw [ext_rest, h, ← List.drop_drop, List.drop_left]; rfl
theorem cut_size (s : ByteArray) (a b : Bs) (c : UInt8) (h : s.data.toList = a ++ c :: b) : (s.extract (a.length + 1) s.size).size < s.size := by
  have := congrArg List.length h
  rw [data_length, List.length_append, List.length_cons] at this
  rw [ByteArray.size_extract]; omega

/-- Split, at a stroke. -/
theorem split_parts (n : Nat) : ∀ s : ByteArray, s.size ≤ n → (Lib.splitB ⟨#[47]⟩ 0 (Lib.countB s ⟨#[47]⟩) s).map (fun x => x.data.toList) = parts s.data.toList ∧ Lib.countB s ⟨#[47]⟩ + 1 = (parts s.data.toList).length := by
  induction n with
  | zero =>
    intro s hs
    obtain rfl := str_nil (show s.data.toList = [] from List.eq_nil_of_length_eq_zero (by rw [data_length]; omega))
    have h : Lib.indexB ⟨#[]⟩ ⟨#[47]⟩ = -1 := rfl
    rw [Lib.countB_miss _ _ h]
    exact ⟨rfl, rfl⟩
  | succ n ih =>
    intro s hs
    rcases first_sign 47 s.data.toList with hno | ⟨a, b, hno, he⟩
    · have h : Lib.indexB s ⟨#[47]⟩ = -1 := idx1_no 47 _ hno
      rw [Lib.countB_miss _ _ h, parts_one _ hno]
      exact ⟨rfl, rfl⟩
    · have h : Lib.indexB s ⟨#[47]⟩ = (a.length : Int) := by
        show Lib.index s.data.toList [47] = _
        rw [he]; exact idx1_at 47 a b hno
      have hsz := cut_size s a b 47 he
      obtain ⟨i1, i2⟩ := ih (s.extract (a.length + 1) s.size) (by omega)
      rw [cut_rest s a b 47 he] at i1 i2
      have hc := Lib.countB_hit s ⟨#[47]⟩ a.length (by decide) h
      have e1 : (ByteArray.mk #[47]).size = 1 := rfl
      rw [e1] at hc
      rw [hc, he, parts_mid, parts_one a hno]
      rw [Nat.add_comm 1, Lib.splitB_hit _ _ _ _ _ h, e1, List.map_cons, i1, Nat.add_zero, ext_front, he, List.take_left]
      refine ⟨rfl, ?_⟩
      rw [i2, List.length_append]; simp; omega

/-- ReplaceAll, of one sign by one. -/
theorem rep_signs (c d : UInt8) (n : Nat) : ∀ s : ByteArray, s.size ≤ n → Lib.replaceK [c] [d] (Lib.countB s ⟨#[c]⟩) s.data.toList = s.data.toList.map (fun x => if x = c then d else x) := by
  induction n with
  | zero =>
    intro s hs
    obtain rfl := str_nil (show s.data.toList = [] from List.eq_nil_of_length_eq_zero (by rw [data_length]; omega))
    have h : Lib.indexB ⟨#[]⟩ ⟨#[c]⟩ = -1 := rfl
    rw [Lib.countB_miss _ _ h]; rfl
  | succ n ih =>
    intro s hs
    have hmap : ∀ l : Bs, c ∉ l → l.map (fun x => if x = c then d else x) = l := by
      intro l hl
      induction l with
      | nil => rfl
      | cons b l ih2 =>
        rw [List.map_cons, if_neg (fun e => hl (by simp [e])), ih2 (fun hm => hl (by simp [hm]))]
    rcases first_sign c s.data.toList with hno | ⟨a, b, hno, he⟩
    · have h : Lib.indexB s ⟨#[c]⟩ = -1 := idx1_no c _ hno
      rw [Lib.countB_miss _ _ h, hmap _ hno]; rfl
    · have h : Lib.indexB s ⟨#[c]⟩ = (a.length : Int) := by
        show Lib.index s.data.toList [c] = _
        rw [he]; exact idx1_at c a b hno
      have hsz := cut_size s a b c he
      have i1 := ih (s.extract (a.length + 1) s.size) (by omega)
      rw [cut_rest s a b c he] at i1
      have hc := Lib.countB_hit s ⟨#[c]⟩ a.length (by show 1 ≤ 1; exact Nat.le_refl _) h
      have e1 : (ByteArray.mk #[c]).size = 1 := rfl
      rw [e1] at hc
      have h' : Lib.index (a ++ c :: b) [c] = (a.length : Int) := idx1_at c a b hno
      rw [hc, he, Nat.add_comm 1, Lib.replaceK_hit _ _ _ _ _ h', List.take_left]
      have e2 : (a ++ c :: b).drop (a.length + ([c] : Bs).length) = b := by rw [← List.drop_drop, List.drop_left]; rfl
      rw [e2, i1, List.map_append, List.map_cons, if_pos rfl, hmap a hno]
      simp
theorem rep_all (c d : UInt8) (hcd : c ≠ d) (s : ByteArray) : Lib.replaceAll s.data.toList [c] [d] = s.data.toList.map (fun x => if x = c then d else x) := by
  unfold Lib.replaceAll Lib.replace
  have h1 : (([c] : Bs) == [d]) = false := by rw [beq_eq_false_iff_ne]; exact fun e => hcd (List.cons.inj e).1
  rw [h1, if_neg (by simp)]
  unfold Lib.replaceNum
  rw [if_pos (.inl (by decide))]
  exact rep_signs c d s.size s (Nat.le_refl _)
theorem rep_two (s X : ByteArray) (hX : X.data.toList = Lib.replaceAll s.data.toList [42] [120]) : Lib.replaceAll X.data.toList [63] [120] = s.data.toList.map sub := by
  rw [rep_all 63 120 (by decide), hX, rep_all 42 120 (by decide), List.map_map]
  congr 1
  funext x
  simp only [Function.comp]
  unfold sub wild
  by_cases h1 : x = 42
  · subst h1; decide
  · rw [if_neg h1]
    by_cases h2 : x = 63
    · subst h2; decide
    · rw [if_neg h2]
      have e1 : (x == 42) = false := by rw [beq_eq_false_iff_ne]; exact h1
      have e2 : (x == 63) = false := by rw [beq_eq_false_iff_ne]; exact h2
      rw [e1, e2]; rfl

/-- Contains, of two stars. -/
theorem con_ss (l : Bs) : Lib.contains l [42, 42] = hasSS l := by
  unfold Lib.contains
  induction l with
  | nil => rfl
  | cons b l ih =>
    have hp : ([42, 42] : Bs).isPrefixOf (b :: l) = (b == 42 && l.head? == some 42) := by
      have : ((42 : UInt8) == b) = (b == 42) := by rw [Bool.eq_iff_iff, beq_iff_eq, beq_iff_eq]; exact ⟨Eq.symm, Eq.symm⟩
      cases l with
      | nil => simp [List.isPrefixOf]
      | cons d l =>
        have h2 : ((42 : UInt8) == d) = (d == 42) := by rw [Bool.eq_iff_iff, beq_iff_eq, beq_iff_eq]; exact ⟨Eq.symm, Eq.symm⟩
        simp [List.isPrefixOf, this, h2]
    have hge := Lib.index_ge l [42, 42]
    unfold Lib.index hasSS
    rw [hp, ← ih]
    by_cases h : (b == 42 && l.head? == some 42) = true
    · rw [if_pos h, h]; rfl
    · rw [if_neg h, Bool.not_eq_true] at *
      rw [h, Bool.false_or]
      by_cases hm : Lib.index l [42, 42] = -1
      · rw [hm]; rfl
      · have e : (Lib.index l [42, 42] == -1) = false := by rw [beq_eq_false_iff_ne]; exact hm
        rw [e, if_neg (by simp)]
        exact decide_eq_decide.2 ⟨fun _ => by omega, fun _ => by omega⟩

theorem count_parts (l : Bs) : (parts l).length = l.count 47 + 1 := by
  induction l with
  | nil => rfl
  | cons c l ih =>
    have hp := parts_pos l
    unfold parts
    by_cases h : c = 47
    · subst h; rw [if_pos rfl, List.length_cons, ih, List.count_cons_self]
    · rw [if_neg h, List.count_cons_of_ne (by exact fun e => h e)]
      simp; omega

/-- IndexAny, of the two signs. -/
theorem con_wild (b : UInt8) : ([42, 63] : Bs).contains b = wild b := by
  unfold wild
  rw [List.contains_cons, List.contains_cons]
  simp
theorem any_wild (l : Bs) : (Lib.indexAny l [42, 63] = -1 ∧ l.takeWhile (fun c => !wild c) = l) ∨ ∃ i : Nat, Lib.indexAny l [42, 63] = i ∧ i ≤ l.length ∧ l.takeWhile (fun c => !wild c) = l.take i := by
  induction l with
  | nil => exact .inl ⟨rfl, rfl⟩
  | cons b l ih =>
    have hge := Lib.indexAny_ge [42, 63] l
    have e : Lib.indexAny (b :: l) [42, 63] = if ([42, 63] : Bs).contains b = true then 0 else if (Lib.indexAny l [42, 63] == -1) = true then -1 else Lib.indexAny l [42, 63] + 1 := rfl
    rw [e, con_wild, List.takeWhile_cons]
    cases h : wild b
    · rw [if_neg (by simp : ¬ (false = true)), if_pos (by simp : (!false) = true)]
      rcases ih with ⟨h1, h2⟩ | ⟨i, h1, h2, h3⟩
      · rw [h1, h2]
        exact .inl ⟨rfl, rfl⟩
      · have e2 : ((i : Int) == -1) = false := by rw [beq_eq_false_iff_ne]; omega
        rw [h1, h3, e2]
        exact .inr ⟨i + 1, by simp, by simpa using h2, rfl⟩
    · rw [if_pos rfl, if_neg (by simp : ¬ ((!true) = true))]
      exact .inr ⟨0, rfl, Nat.zero_le _, rfl⟩
end Gl
end Go.Proofs.YtffmnobcdhgfdaaDoor
