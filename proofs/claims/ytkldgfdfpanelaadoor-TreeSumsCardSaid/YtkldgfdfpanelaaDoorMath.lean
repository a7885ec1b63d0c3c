/-
  Layer 3 (path): paths as lists of bytes: no program, no world.
-/
namespace Go.Proofs.YtkldgfdfpanelaaDoor
namespace Pt

abbrev Bs := List UInt8

/-- What stands between strokes. -/
def parts : Bs → List Bs
  | [] => [[]]
  | c :: l => if c = 47 then [] :: parts l else ((c :: (parts l).headD []) :: (parts l).tail)

theorem parts_ne (l : Bs) : parts l ≠ [] := by
  cases l with
  | nil => simp [parts]
  | cons c l => unfold parts; split <;> simp
theorem parts_pos (l : Bs) : 0 < (parts l).length := List.length_pos_iff.2 (parts_ne l)
theorem parts_cons (l : Bs) : ∃ p ps, parts l = p :: ps := List.exists_cons_of_ne_nil (parts_ne l)

theorem parts_no (l : Bs) : ∀ p ∈ parts l, (47 : UInt8) ∉ p := by
  induction l with
  | nil => intro p hp; simp [parts] at hp; subst hp; simp
  | cons c l ih =>
    obtain ⟨q, qs, hq⟩ := parts_cons l
    intro p hp
    unfold parts at hp
    rw [hq] at hp ih
    by_cases h : c = 47
    · rw [if_pos h] at hp
      rcases List.mem_cons.1 hp with rfl | hp
      · simp
      · exact ih p hp
    · rw [if_neg h] at hp
      simp only [List.headD_cons, List.tail_cons, List.mem_cons] at hp
      rcases hp with rfl | hp
      · intro hm
        rcases List.mem_cons.1 hm with e | hm
        · exact h e.symm
        · exact ih q (by simp) hm
      · exact ih p (by simp [hp])

theorem parts_one (p : Bs) (h : (47 : UInt8) ∉ p) : parts p = [p] := by
  induction p with
  | nil => rfl
  | cons c l ih =>
    have h1 : c ≠ 47 := fun e => h (by simp [e])
    have h2 := ih (fun hm => h (by simp [hm]))
    unfold parts
    rw [if_neg h1, h2]
    rfl

theorem parts_mid (a b : Bs) : parts (a ++ 47 :: b) = parts a ++ parts b := by
  induction a with
  | nil => simp [parts]
  | cons c l ih =>
    obtain ⟨p, ps, hp⟩ := parts_cons l
    rw [List.cons_append]
    conv => lhs; unfold parts
    conv => rhs; unfold parts
    rw [ih]
    by_cases h : c = 47
    · rw [if_pos h, if_pos h]; simp
      conv => rhs; rfl
      cases b <;> simp [parts]
    · rw [if_neg h, if_neg h, hp]
      cases b <;> simp [parts]

def joinL : List Bs → Bs
  | [] => []
  | [p] => p
  | p :: q :: ps => p ++ 47 :: joinL (q :: ps)

theorem joinL_cons (p : Bs) (ps : List Bs) (h : ps ≠ []) : joinL (p :: ps) = p ++ 47 :: joinL ps := by
  cases ps with
  | nil => exact absurd rfl h
  | cons q ps => rfl
theorem joinL_append (a b : List Bs) (ha : a ≠ []) (hb : b ≠ []) : joinL (a ++ b) = joinL a ++ 47 :: joinL b := by
  induction a with
  | nil => exact absurd rfl ha
  | cons p ps ih =>
    by_cases hp : ps = []
    · subst hp
      rw [List.cons_append, List.nil_append, joinL_cons p b hb]; rfl
    · rw [List.cons_append, joinL_cons p _ (by simp [hp]), ih hp, joinL_cons p ps hp]; simp

theorem join_parts (l : Bs) : joinL (parts l) = l := by
  induction l with
  | nil => rfl
  | cons c l ih =>
    obtain ⟨p, ps, hp⟩ := parts_cons l
    unfold parts
    rw [hp] at ih ⊢
    by_cases h : c = 47
    · rw [if_pos h, joinL_cons _ _ (by simp), ih, h]; rfl
    · rw [if_neg h]
      simp only [List.headD_cons, List.tail_cons]
      by_cases hs : ps = []
      · subst hs; simp [joinL] at ih ⊢; exact ih
      · rw [joinL_cons _ _ hs] at ih ⊢; rw [List.cons_append, ih]

theorem parts_join (ps : List Bs) (h : ps ≠ []) (hn : ∀ p ∈ ps, (47 : UInt8) ∉ p) : parts (joinL ps) = ps := by
  induction ps with
  | nil => exact absurd rfl h
  | cons p ps ih =>
    by_cases hs : ps = []
    · subst hs
      exact parts_one p (hn p (by simp))
    · rw [joinL_cons p ps hs, parts_mid, parts_one p (hn p (by simp)), ih hs (fun q hq => hn q (by simp [hq]))]; rfl

/-- One sign more. -/
theorem parts_stroke (l : Bs) : parts (l ++ [47]) = parts l ++ [[]] := by
  rw [parts_mid]; rfl
theorem parts_sign (l : Bs) (c : UInt8) (h : c ≠ 47) : parts (l ++ [c]) = (parts l).set ((parts l).length - 1) (((parts l).getD ((parts l).length - 1) []) ++ [c]) := by
  induction l with
  | nil => simp [parts, h]
  | cons d l ih =>
    obtain ⟨p, ps, hp⟩ := parts_cons l
    rw [List.cons_append]
    conv => lhs; unfold parts
    rw [ih]
    conv => rhs; unfold parts
    rw [hp]
    by_cases hd : d = 47
    · rw [if_pos hd, if_pos hd]
      simp
    · rw [if_neg hd, if_neg hd]
      cases ps with
      | nil => simp
      | cons q qs => simp

/-- May a part have this sign? -/
def chr (c : UInt8) : Bool := (decide (97 ≤ c.toNat) && decide (c.toNat ≤ 122)) || (decide (65 ≤ c.toNat) && decide (c.toNat ≤ 90)) || (decide (48 ≤ c.toNat) && decide (c.toNat ≤ 57)) || decide (c.toNat = 95) || decide (c.toNat = 46) || decide (c.toNat = 45) || decide (c.toNat = 43)
def comp (p : Bs) : Bool := !(p == [] || p == [46] || p == [46, 46] || decide (64 < p.length)) && p.all chr
def may (l : Bs) : Bool := (parts l).all comp && decide ((parts l).length ≤ 16)
def cnt (l : Bs) : Nat := if may l = true then (parts l).length else 0
def isDir (l : Bs) : Bool := l == [] || may l

theorem chr_47 : chr 47 = false := by decide
theorem comp_no (p : Bs) (h : comp p = true) : (47 : UInt8) ∉ p := fun hm => by
  unfold comp at h
  rw [Bool.and_eq_true] at h
  have := List.all_eq_true.1 h.2 47 hm
  rw [chr_47] at this
  cases this
theorem comp_ne (p : Bs) (h : comp p = true) : p ≠ [] := fun e => by subst e; simp [comp] at h
theorem comp_len (p : Bs) (h : comp p = true) : p.length ≤ 64 := by
  simp [comp] at h; omega
theorem may_all {l : Bs} (h : may l = true) : ∀ p ∈ parts l, comp p = true := by
  unfold may at h
  rw [Bool.and_eq_true] at h
  exact List.all_eq_true.1 h.1
theorem may_len {l : Bs} (h : may l = true) : (parts l).length ≤ 16 := by
  unfold may at h
  rw [Bool.and_eq_true] at h
  exact of_decide_eq_true h.2
theorem may_mk {l : Bs} (h : ∀ p ∈ parts l, comp p = true) (hn : (parts l).length ≤ 16) : may l = true := by
  unfold may
  rw [List.all_eq_true.2 h, decide_eq_true hn]; rfl
theorem may_nil : may [] = false := by decide
theorem cnt_may {l : Bs} (h : may l = true) : cnt l = (parts l).length := by unfold cnt; rw [if_pos h]
theorem cnt_not {l : Bs} (h : may l = false) : cnt l = 0 := by unfold cnt; rw [if_neg (by simp [h])]
theorem cnt_pos (l : Bs) : decide (0 < cnt l) = may l := by
  cases h : may l
  · rw [cnt_not h]; rfl
  · rw [cnt_may h, decide_eq_true (parts_pos l)]
theorem cnt_le (l : Bs) : cnt l ≤ 16 := by
  cases h : may l
  · rw [cnt_not h]; omega
  · rw [cnt_may h]; exact may_len h

/-- Some parts of a path, joined. -/
theorem joinL_ne (ps : List Bs) (h : ps ≠ []) (hc : ∀ p ∈ ps, comp p = true) : joinL ps ≠ [] := by
  cases ps with
  | nil => exact absurd rfl h
  | cons p ps =>
    by_cases hs : ps = []
    · subst hs; exact comp_ne p (hc p (by simp))
    · rw [joinL_cons p ps hs]; simp
theorem parts_comps (ps : List Bs) (h : ps ≠ []) (hc : ∀ p ∈ ps, comp p = true) : parts (joinL ps) = ps := parts_join ps h (fun p hp => comp_no p (hc p hp))
theorem may_comps (ps : List Bs) (h : ps ≠ []) (hc : ∀ p ∈ ps, comp p = true) (hn : ps.length ≤ 16) : may (joinL ps) = true := by
  have e := parts_comps ps h hc
  exact may_mk (by rw [e]; exact hc) (by rw [e]; exact hn)

def joinV (d s : Bs) : Bs × Nat := if (!isDir d || !may s) = true then ([], 1) else if d = [] then (s, 0) else if 16 < cnt d + cnt s then ([], 6) else (d ++ 47 :: s, 0)
def dirOf (l : Bs) : Bs := if may l = true then joinL (parts l).dropLast else []
def baseOf (l : Bs) : Bs := if may l = true then (parts l).getLastD [] else []
def under (s d : Bs) : Bool := may s && isDir d && (d == [] || (d ++ [47]).isPrefixOf s)

/-- The directories above a path: the first k of its parts. -/
def up (s : Bs) (k : Nat) : Bs := joinL ((parts s).take k)
theorem up_zero (s : Bs) : up s 0 = [] := rfl
theorem up_all (s : Bs) (k : Nat) (h : (parts s).length ≤ k) : up s k = s := by
  unfold up; rw [List.take_of_length_le h, join_parts]
theorem take_ne {s : Bs} {k : Nat} (hk : 0 < k) : (parts s).take k ≠ [] := by
  intro e
  have := congrArg List.length e
  have hp := parts_pos s
  rw [List.length_take, List.length_nil] at this
  omega
theorem take_comp {s : Bs} (h : may s = true) (k : Nat) : ∀ p ∈ (parts s).take k, comp p = true := fun p hp => may_all h p (List.mem_of_mem_take hp)
theorem up_parts {s : Bs} (h : may s = true) {k : Nat} (hk : 0 < k) : parts (up s k) = (parts s).take k := parts_comps _ (take_ne hk) (take_comp h k)
theorem up_may {s : Bs} (h : may s = true) {k : Nat} (hk : 0 < k) : may (up s k) = true :=
  may_comps _ (take_ne hk) (take_comp h k) (by rw [List.length_take]; have := may_len h; omega)
theorem up_ne {s : Bs} (h : may s = true) {k : Nat} (hk : 0 < k) : up s k ≠ [] := joinL_ne _ (take_ne hk) (take_comp h k)
theorem up_split {s : Bs} {k : Nat} (hk : 0 < k) (hl : k < (parts s).length) : s = up s k ++ 47 :: joinL ((parts s).drop k) := by
  have := joinL_append ((parts s).take k) ((parts s).drop k) (take_ne hk) (by intro e; have := congrArg List.length e; rw [List.length_drop] at this; simp at this; omega)
  rw [List.take_append_drop, join_parts] at this
  exact this
theorem dirOf_up {s : Bs} (h : may s = true) : dirOf s = up s ((parts s).length - 1) := by
  unfold dirOf up
  rw [if_pos h, List.dropLast_eq_take]
theorem dirOf_not {s : Bs} (h : may s = false) : dirOf s = [] := by unfold dirOf; rw [if_neg (by simp [h])]
theorem baseOf_not {s : Bs} (h : may s = false) : baseOf s = [] := by unfold baseOf; rw [if_neg (by simp [h])]
theorem dirOf_step {s : Bs} (h : may s = true) {k : Nat} (hk : 0 < k) (hl : k ≤ (parts s).length) : dirOf (up s k) = up s (k - 1) := by
  have hp := up_parts h hk
  rw [dirOf_up (up_may h hk), hp, List.length_take, Nat.min_eq_left hl]
  unfold up
  have hp' : parts (joinL ((parts s).take k)) = (parts s).take k := hp
  rw [hp', List.take_take, Nat.min_eq_left (by omega)]

theorem under_iff {s : Bs} (h : may s = true) (d : Bs) : under s d = true ↔ ∃ k, k < (parts s).length ∧ up s k = d := by
  constructor
  · intro hu
    unfold under at hu
    rw [h, Bool.true_and, Bool.and_eq_true, Bool.or_eq_true] at hu
    obtain ⟨hd, hu⟩ := hu
    rcases hu with hu | hu
    · rw [beq_iff_eq] at hu
      exact ⟨0, parts_pos s, hu.symm⟩
    · rw [List.isPrefixOf_iff_prefix] at hu
      obtain ⟨t, ht⟩ := hu
      rw [List.append_assoc] at ht
      have hp : parts s = parts d ++ parts t := by rw [← ht]; exact parts_mid d t
      refine ⟨(parts d).length, by rw [hp, List.length_append]; have := parts_pos t; omega, ?_⟩
      unfold up
      rw [hp, List.take_left, join_parts]
  · rintro ⟨k, hk, rfl⟩
    unfold under
    rw [h, Bool.true_and]
    by_cases h0 : k = 0
    · subst h0; rw [up_zero]; rfl
    · have h0' : 0 < k := by omega
      have hs := up_split h0' hk
      have e1 : isDir (up s k) = true := by unfold isDir; rw [up_may h h0', Bool.or_true]
      have e2 : (up s k ++ [47]).isPrefixOf s = true := by
        rw [List.isPrefixOf_iff_prefix]
        exact ⟨joinL ((parts s).drop k), by rw [List.append_assoc]; exact hs.symm⟩
      rw [e1, e2, Bool.or_true]; rfl
theorem under_not {s : Bs} (h : may s = false) (d : Bs) : under s d = false := by unfold under; rw [h]; rfl
theorem under_nil {s : Bs} (h : may s = true) : under s [] = true := (under_iff h []).2 ⟨0, parts_pos s, rfl⟩
theorem up_inj {s : Bs} (h : may s = true) {i j : Nat} (hi : i ≤ (parts s).length) (hj : j ≤ (parts s).length) (e : up s i = up s j) : i = j := by
  by_cases h0 : i = 0
  · subst h0
    by_cases h1 : j = 0
    · exact h1.symm
    · exact absurd e.symm (up_ne h (by omega))
  · by_cases h1 : j = 0
    · subst h1; exact absurd e (up_ne h (by omega))
    · have := congrArg (fun l => (parts l).length) e
      simp only [up_parts h (show 0 < i by omega), up_parts h (show 0 < j by omega), List.length_take] at this
      omega
theorem under_self (s : Bs) : under s s = false := by
  cases hm : may s
  · exact under_not hm s
  · cases hu : under s s
    · rfl
    · obtain ⟨k, hk, e⟩ := (under_iff hm s).1 hu
      have := up_inj hm (Nat.le_of_lt hk) (Nat.le_refl _) (e.trans (up_all s _ (Nat.le_refl _)).symm)
      omega

/-- A directory that isn't the top: the path's own, or above that. -/
theorem under_rec {s d : Bs} (h : may s = true) (hd : d ≠ []) : under s d = (!(dirOf s == []) && (dirOf s == d || under (dirOf s) d)) := by
  have hp := parts_pos s
  rw [dirOf_up h]
  by_cases h1 : (parts s).length - 1 = 0
  · rw [h1, up_zero]
    have : under s d = false := by
      cases hu : under s d
      · rfl
      · obtain ⟨k, hk, e⟩ := (under_iff h d).1 hu
        obtain rfl : k = 0 := by omega
        exact absurd e.symm hd
    rw [this]; rfl
  · have hne := up_ne h (show 0 < (parts s).length - 1 by omega)
    have e1 : (up s ((parts s).length - 1) == []) = false := by rw [beq_eq_false_iff_ne]; exact hne
    rw [e1, Bool.not_false, Bool.true_and, Bool.eq_iff_iff, under_iff h d, Bool.or_eq_true, beq_iff_eq, under_iff (up_may h (by omega)) d, up_parts h (by omega), List.length_take]
    constructor
    · rintro ⟨k, hk, rfl⟩
      by_cases he : k = (parts s).length - 1
      · exact .inl (by rw [he])
      · refine .inr ⟨k, by omega, ?_⟩
        unfold up
        have hp' : parts (joinL ((parts s).take ((parts s).length - 1))) = (parts s).take ((parts s).length - 1) := up_parts h (by omega)
        rw [hp', List.take_take, Nat.min_eq_left (by omega)]
    · rintro (e | ⟨k, hk, rfl⟩)
      · exact ⟨_, by omega, e⟩
      · refine ⟨k, by omega, ?_⟩
        unfold up
        have hp' : parts (joinL ((parts s).take ((parts s).length - 1))) = (parts s).take ((parts s).length - 1) := up_parts h (by omega)
        rw [hp', List.take_take, Nat.min_eq_left (by omega)]

theorem join_under {d s : Bs} (h : (joinV d s).2 = 0) : may (joinV d s).1 = true ∧ under (joinV d s).1 d = true := by
  unfold joinV at h ⊢
  by_cases h1 : (!isDir d || !may s) = true
  · rw [if_pos h1] at h; cases h
  · rw [if_neg h1] at h ⊢
    rw [Bool.not_eq_true, Bool.or_eq_false_iff] at h1
    have hd : isDir d = true := by simpa using h1.1
    have hs : may s = true := by simpa using h1.2
    by_cases h2 : d = []
    · rw [if_pos h2]
      subst h2
      exact ⟨hs, under_nil hs⟩
    · rw [if_neg h2] at h ⊢
      have hmd : may d = true := by
        unfold isDir at hd
        rw [Bool.or_eq_true, beq_iff_eq] at hd
        exact hd.resolve_left h2
      by_cases h3 : 16 < cnt d + cnt s
      · rw [if_pos h3] at h; cases h
      · rw [if_neg h3]
        rw [cnt_may hmd, cnt_may hs] at h3
        have hp : parts (d ++ 47 :: s) = parts d ++ parts s := parts_mid d s
        have hm : may (d ++ 47 :: s) = true := may_mk (by
          intro p hpm
          rw [hp] at hpm
          rcases List.mem_append.1 hpm with hpm | hpm
          · exact may_all hmd p hpm
          · exact may_all hs p hpm) (by rw [hp, List.length_append]; omega)
        refine ⟨hm, (under_iff hm d).2 ⟨(parts d).length, by rw [hp, List.length_append]; have := parts_pos s; omega, ?_⟩⟩
        show joinL ((parts (d ++ 47 :: s)).take _) = d
        rw [hp, List.take_left, join_parts]

theorem parts_last {s : Bs} : parts s = (parts s).dropLast ++ [(parts s).getLastD []] := by
  have h := parts_ne s
  rw [List.getLastD_eq_getLast?, List.getLast?_eq_some_getLast h, Option.getD_some, List.dropLast_concat_getLast h]
theorem base_comp {s : Bs} (h : may s = true) : comp (baseOf s) = true := by
  unfold baseOf
  rw [if_pos h]
  exact may_all h _ (by rw [parts_last]; simp)
theorem base_may {s : Bs} (h : may s = true) : may (baseOf s) = true := may_comps [baseOf s] (by simp) (by intro p hp; simp at hp; subst hp; exact base_comp h) (by simp)
theorem base_one {s : Bs} (h : may s = true) (h1 : (parts s).length = 1) : baseOf s = s := by
  unfold baseOf
  rw [if_pos h]
  obtain ⟨p, hp⟩ := List.length_eq_one_iff.1 h1
  have := join_parts s
  rw [hp] at this ⊢
  exact this
theorem base_more {s : Bs} (h : may s = true) (h1 : (parts s).length ≠ 1) : s = dirOf s ++ 47 :: baseOf s := by
  have hp := parts_pos s
  have h2 := parts_last (s := s)
  have hne : (parts s).dropLast ≠ [] := by
    intro e
    have := congrArg List.length e
    rw [List.length_dropLast] at this
    simp at this
    omega
  have h3 := joinL_append (parts s).dropLast [(parts s).getLastD []] hne (by simp)
  rw [← h2, join_parts] at h3
  unfold dirOf baseOf
  rw [if_pos h, if_pos h]
  exact h3
theorem join_back {s : Bs} (h : may s = true) : joinV (dirOf s) (baseOf s) = (s, 0) := by
  have hp := parts_pos s
  unfold joinV
  by_cases h1 : (parts s).length = 1
  · have e : dirOf s = [] := by rw [dirOf_up h, h1]; rfl
    rw [e, base_one h h1, h, if_neg (by simp [isDir]), if_pos rfl]
  · have hd : may (dirOf s) = true := by rw [dirOf_up h]; exact up_may h (by omega)
    have hdn : dirOf s ≠ [] := by rw [dirOf_up h]; exact up_ne h (by omega)
    have hb := base_may h
    have e : isDir (dirOf s) = true := by unfold isDir; rw [hd, Bool.or_true]
    have e1 : parts (baseOf s) = [baseOf s] := parts_one _ (comp_no _ (base_comp h))
    have e2 : (parts (dirOf s)).length = (parts s).length - 1 := by rw [dirOf_up h, up_parts h (by omega), List.length_take]; omega
    have := may_len h
    rw [e, hb, if_neg (by simp), if_neg hdn, cnt_may hd, cnt_may hb, e1, e2, if_neg (by simp; omega), ← base_more h h1]

/-- The ending: from the last dot on, of those behind the first sign. -/
def extF (b : Bs) : Nat → Bs
  | 0 => []
  | k + 1 => if b.getD (k + 1) 0 = 46 then b.drop (k + 1) else extF b k
def extOf (l : Bs) : Bs := extF (baseOf l) ((baseOf l).length - 1)
theorem extF_none (b : Bs) (k : Nat) (h : ∀ j, 1 ≤ j → j ≤ k → b.getD j 0 ≠ 46) : extF b k = [] := by
  induction k with
  | zero => rfl
  | succ k ih => unfold extF; rw [if_neg (h (k + 1) (by omega) (by omega))]; exact ih (fun j h1 h2 => h j h1 (by omega))
theorem extF_some (b : Bs) (i k : Nat) (h1 : 1 ≤ i) (h2 : i ≤ k) (hi : b.getD i 0 = 46) (h : ∀ j, i < j → j ≤ k → b.getD j 0 ≠ 46) : extF b k = b.drop i := by
  induction k with
  | zero => omega
  | succ k ih =>
    unfold extF
    by_cases he : i = k + 1
    · subst he; rw [if_pos hi]
    · rw [if_neg (h (k + 1) (by omega) (by omega))]; exact ih (by omega) (fun j h1 h2 => h j h1 (by omega))

/-- A path's directory, as it is cut from the end. -/
theorem suffix_self (l : Bs) : l.isSuffixOf l = true := by rw [List.isSuffixOf_iff_suffix]; exact List.suffix_refl _
theorem suffix_app (a b : Bs) : b.isSuffixOf (a ++ b) = true := by rw [List.isSuffixOf_iff_suffix]; exact List.suffix_append _ _
end Pt
end Go.Proofs.YtkldgfdfpanelaaDoor
