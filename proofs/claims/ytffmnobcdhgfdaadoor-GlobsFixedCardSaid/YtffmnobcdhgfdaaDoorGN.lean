/-
  Layer 4 (globs): matching by beginnings, and by the parts that can be reached: no program, no world.
-/
import Derived.Test.YtffmnobcdhgfdaaDoorGM
namespace Go.Proofs.YtffmnobcdhgfdaaDoor
namespace Gl
open Pt

def tr (L : List Bool) (k : Nat) : Prop := L[k]? = some true
theorem tr_set {L : List Bool} {i k : Nat} (b : Bool) (h : k ≠ i) : tr (L.set i b) k ↔ tr L k := by
  unfold tr; rw [List.getElem?_set, if_neg (fun e => h e.symm)]
theorem tr_set_self {L : List Bool} {i : Nat} (h : i < L.length) : tr (L.set i true) i := by
  unfold tr; rw [List.getElem?_set, if_pos rfl, if_pos h]
theorem tr_map {f : Nat → Bool} {n k : Nat} : tr ((List.range n).map f) k ↔ k < n ∧ f k = true := by
  unfold tr
  rw [List.getElem?_map]
  by_cases h : k < n
  · rw [List.getElem?_range h]; simp [h]
  · rw [List.getElem?_eq_none (by simpa using h)]; simp [h]
theorem tr_lt {L : List Bool} {k : Nat} (h : tr L k) : k < L.length := (List.getElem?_eq_some_iff.1 h).1
theorem tr_get {L : List Bool} {k : Nat} (h : k < L.length) : tr L k ↔ L[k] = true := by
  unfold tr; rw [List.getElem?_eq_getElem h]; simp

/-- One sign more of a part: which beginnings of s go with it. -/
def nxO (c : UInt8) (s : Bs) (L : List Bool) : Nat → Bool
  | 0 => if c = 42 then L.getD 0 false else false
  | k + 1 => if c = 42 then L.getD (k + 1) false || nxO c s L k else L.getD k false && (c == 63 || c == s.getD k 0)
def nextO (c : UInt8) (s : Bs) (L : List Bool) : List Bool := (List.range (s.length + 1)).map (nxO c s L)
def AccO (L : List Bool) (p s : Bs) : Prop := ∃ k, tr L k ∧ one p (s.drop k) = true
theorem getD_tr {L : List Bool} {k : Nat} : L.getD k false = true ↔ tr L k := by
  unfold tr; rw [List.getD_eq_getElem?_getD]
  cases h : L[k]? with
  | none => simp
  | some b => simp
theorem nextO_len (c : UInt8) (s : Bs) (L : List Bool) : (nextO c s L).length = s.length + 1 := by simp [nextO]
theorem nxO_star (s : Bs) (L : List Bool) (k : Nat) : nxO 42 s L k = true ↔ ∃ j, j ≤ k ∧ tr L j := by
  induction k with
  | zero =>
    show (if (42 : UInt8) = 42 then L.getD 0 false else false) = true ↔ _
    rw [if_pos rfl, getD_tr]
    exact ⟨fun h => ⟨0, Nat.le_refl _, h⟩, fun ⟨j, h1, h2⟩ => by obtain rfl : j = 0 := by omega
                                                                 exact h2⟩
  | succ k ih =>
    show (if (42 : UInt8) = 42 then L.getD (k + 1) false || nxO 42 s L k else _) = true ↔ _
    rw [if_pos rfl, Bool.or_eq_true, getD_tr, ih]
    constructor
    · rintro (h | ⟨j, h1, h2⟩)
      · exact ⟨k + 1, Nat.le_refl _, h⟩
      · exact ⟨j, by omega, h2⟩
    · rintro ⟨j, h1, h2⟩
      by_cases he : j = k + 1
      · exact .inl (he ▸ h2)
      · exact .inr ⟨j, by omega, h2⟩
theorem accO_next (c : UInt8) (p s : Bs) (L : List Bool) (hL : L.length = s.length + 1) : AccO (nextO c s L) p s ↔ AccO L (c :: p) s := by
  unfold AccO nextO
  by_cases h : c = 42
  · subst h
    constructor
    · rintro ⟨k, h1, h2⟩
      obtain ⟨h3, h4⟩ := tr_map.1 h1
      obtain ⟨j, h5, h6⟩ := (nxO_star s L k).1 h4
      refine ⟨j, h6, ?_⟩
      rw [one_st]
      refine anySuf_any _ _ (k - j) ?_
      rw [List.drop_drop, show j + (k - j) = k by omega]
      exact h2
    · rintro ⟨k, h1, h2⟩
      rw [one_st] at h2
      obtain ⟨j, h3, h4⟩ := (anySuf_iff _ _).1 h2
      rw [List.drop_drop] at h4
      rw [List.length_drop] at h3
      have := tr_lt h1
      exact ⟨k + j, tr_map.2 ⟨by omega, (nxO_star s L _).2 ⟨k, by omega, h1⟩⟩, h4⟩
  · constructor
    · rintro ⟨k, h1, h2⟩
      obtain ⟨h3, h4⟩ := tr_map.1 h1
      cases k with
      | zero =>
        have h4 : (if c = 42 then L.getD 0 false else false) = true := h4
        rw [if_neg h] at h4; cases h4
      | succ k =>
        have h4 : (if c = 42 then L.getD (k + 1) false || nxO c s L k else L.getD k false && (c == 63 || c == s.getD k 0)) = true := h4
        rw [if_neg h, Bool.and_eq_true, getD_tr] at h4
        refine ⟨k, h4.1, ?_⟩
        have hk : k < s.length := by omega
        rw [drop_at' hk, one_ch _ _ _ h, h2, Bool.and_true]
        have := h4.2
        rw [List.getD_eq_getElem?_getD, List.getElem?_eq_getElem hk] at this
        exact this
    · rintro ⟨k, h1, h2⟩
      by_cases hk : k < s.length
      · rw [drop_at' hk, one_ch _ _ _ h, Bool.and_eq_true] at h2
        refine ⟨k + 1, tr_map.2 ⟨by omega, ?_⟩, h2.2⟩
        show (if c = 42 then L.getD (k + 1) false || nxO c s L k else L.getD k false && (c == 63 || c == s.getD k 0)) = true
        rw [if_neg h, Bool.and_eq_true, getD_tr]
        refine ⟨h1, ?_⟩
        rw [List.getD_eq_getElem?_getD, List.getElem?_eq_getElem hk]
        exact h2.1
      · rw [List.drop_of_length_le (by omega), one_ch_nil _ h] at h2
        cases h2
def runO (p s : Bs) : Nat → List Bool
  | 0 => true :: List.replicate s.length false
  | i + 1 => nextO (p.getD i 0) s (runO p s i)
theorem runO_len (p s : Bs) (i : Nat) : (runO p s i).length = s.length + 1 := by
  cases i with
  | zero => simp [runO]
  | succ i => exact nextO_len _ _ _
theorem tr_first (n k : Nat) : tr (true :: List.replicate n false) k ↔ k = 0 := by
  unfold tr
  cases k with
  | zero => simp
  | succ k => simp [List.getElem?_replicate]
theorem runO_acc (p s : Bs) (i : Nat) (hi : i ≤ p.length) : AccO (runO p s i) (p.drop i) s ↔ one p s = true := by
  induction i with
  | zero =>
    unfold AccO runO
    constructor
    · rintro ⟨k, h1, h2⟩
      obtain rfl := (tr_first _ _).1 h1
      exact h2
    · intro h
      exact ⟨0, (tr_first _ _).2 rfl, h⟩
  | succ i ih =>
    rw [← ih (by omega)]
    show AccO (nextO (p.getD i 0) s (runO p s i)) _ _ ↔ _
    rw [accO_next _ _ _ _ (runO_len p s i), drop_at' (show i < p.length by omega), List.getD_eq_getElem?_getD, List.getElem?_eq_getElem (show i < p.length by omega)]; rfl
theorem runO_end (p s : Bs) : (runO p s p.length).getD s.length false = one p s := by
  have h := runO_acc p s p.length (Nat.le_refl _)
  rw [List.drop_of_length_le (Nat.le_refl _)] at h
  rw [Bool.eq_iff_iff, getD_tr, ← h]
  unfold AccO
  constructor
  · intro h1
    exact ⟨s.length, h1, by rw [one_nil, List.drop_of_length_le (Nat.le_refl _)]; rfl⟩
  · rintro ⟨k, h1, h2⟩
    rw [one_nil, List.isEmpty_iff, List.drop_eq_nil_iff] at h2
    have := tr_lt h1
    rw [runO_len] at this
    obtain rfl : k = s.length := by omega
    exact h1

theorem ass_nil (cs : List Bs) : ass [] cs = cs.isEmpty := by unfold ass; rfl
theorem ass_last (cs : List Bs) : ass [star] cs = !cs.isEmpty := by
  unfold ass
  rw [if_pos rfl, if_pos rfl]
theorem ass_star {ps : List Bs} (cs : List Bs) (h : ps ≠ []) : ass (star :: ps) cs = anySuf (ass ps) cs := by
  conv => lhs; unfold ass
  rw [if_pos rfl, if_neg h]
theorem ass_cons {p : Bs} (ps : List Bs) (c : Bs) (cs : List Bs) (h : p ≠ star) : ass (p :: ps) (c :: cs) = (one p c && ass ps cs) := by
  conv => lhs; unfold ass
  rw [if_neg h]
theorem ass_cons_nil {p : Bs} (ps : List Bs) (h : p ≠ star) : ass (p :: ps) [] = false := by
  unfold ass
  rw [if_neg h]

/-- One part more: which beginnings of a path go with it. -/
def nxA (x : Bs) (last : Bool) (m : List Bs) (L : List Bool) : Nat → Bool
  | 0 => if x ≠ star then false else if last = true then false else L.getD 0 false
  | k + 1 => if x ≠ star then L.getD k false && one x (m.getD k []) else if last = true then L.getD k false || nxA x last m L k else L.getD (k + 1) false || nxA x last m L k
def nextA (x : Bs) (last : Bool) (m : List Bs) (L : List Bool) : List Bool := (List.range (m.length + 1)).map (nxA x last m L)
def AccA (L : List Bool) (ps m : List Bs) : Prop := ∃ k, tr L k ∧ ass ps (m.drop k) = true
theorem nextA_len (x : Bs) (last : Bool) (m : List Bs) (L : List Bool) : (nextA x last m L).length = m.length + 1 := by simp [nextA]
theorem nxA_star (m : List Bs) (L : List Bool) (k : Nat) : nxA star false m L k = true ↔ ∃ j, j ≤ k ∧ tr L j := by
  induction k with
  | zero =>
    show (if star ≠ star then false else if false = true then false else L.getD 0 false) = true ↔ _
    rw [if_neg (by simp), if_neg (by simp), getD_tr]
    exact ⟨fun h => ⟨0, Nat.le_refl _, h⟩, fun ⟨j, h1, h2⟩ => by obtain rfl : j = 0 := by omega
                                                                 exact h2⟩
  | succ k ih =>
    show (if star ≠ star then _ else if false = true then _ else L.getD (k + 1) false || nxA star false m L k) = true ↔ _
    rw [if_neg (by simp), if_neg (by simp), Bool.or_eq_true, getD_tr, ih]
    constructor
    · rintro (h | ⟨j, h1, h2⟩)
      · exact ⟨k + 1, Nat.le_refl _, h⟩
      · exact ⟨j, by omega, h2⟩
    · rintro ⟨j, h1, h2⟩
      by_cases he : j = k + 1
      · exact .inl (he ▸ h2)
      · exact .inr ⟨j, by omega, h2⟩
theorem nxA_last (m : List Bs) (L : List Bool) (k : Nat) : nxA star true m L k = true ↔ ∃ j, j < k ∧ tr L j := by
  induction k with
  | zero =>
    show (if star ≠ star then false else if true = true then false else L.getD 0 false) = true ↔ _
    rw [if_neg (by simp), if_pos rfl]
    simp
  | succ k ih =>
    show (if star ≠ star then _ else if true = true then L.getD k false || nxA star true m L k else _) = true ↔ _
    rw [if_neg (by simp), if_pos rfl, Bool.or_eq_true, getD_tr, ih]
    constructor
    · rintro (h | ⟨j, h1, h2⟩)
      · exact ⟨k, Nat.lt_succ_self _, h⟩
      · exact ⟨j, by omega, h2⟩
    · rintro ⟨j, h1, h2⟩
      by_cases he : j = k
      · exact .inl (he ▸ h2)
      · exact .inr ⟨j, by omega, h2⟩
theorem accA_next (x : Bs) (ps m : List Bs) (L : List Bool) (hL : L.length = m.length + 1) : AccA (nextA x (decide (ps = [])) m L) ps m ↔ AccA L (x :: ps) m := by
  unfold AccA nextA
  by_cases h : x = star
  · subst h
    by_cases h0 : ps = []
    · subst h0
      rw [decide_eq_true rfl]
      constructor
      · rintro ⟨k, h1, h2⟩
        obtain ⟨h3, h4⟩ := tr_map.1 h1
        obtain ⟨j, h5, h6⟩ := (nxA_last m L k).1 h4
        refine ⟨j, h6, ?_⟩
        rw [ass_last, Bool.not_eq_true', List.isEmpty_eq_false_iff]
        intro e
        rw [List.drop_eq_nil_iff] at e
        omega
      · rintro ⟨k, h1, h2⟩
        rw [ass_last, Bool.not_eq_true', List.isEmpty_eq_false_iff] at h2
        have hk : k < m.length := by
          rcases Nat.lt_or_ge k m.length with h | h
          · exact h
          · exact absurd (List.drop_of_length_le h) h2
        exact ⟨m.length, tr_map.2 ⟨by omega, (nxA_last m L _).2 ⟨k, hk, h1⟩⟩, by rw [List.drop_of_length_le (Nat.le_refl _)]; rfl⟩
    · rw [decide_eq_false h0]
      constructor
      · rintro ⟨k, h1, h2⟩
        obtain ⟨h3, h4⟩ := tr_map.1 h1
        obtain ⟨j, h5, h6⟩ := (nxA_star m L k).1 h4
        refine ⟨j, h6, ?_⟩
        rw [ass_star _ h0]
        refine anySuf_any _ _ (k - j) ?_
        rw [List.drop_drop, show j + (k - j) = k by omega]
        exact h2
      · rintro ⟨k, h1, h2⟩
        rw [ass_star _ h0] at h2
        obtain ⟨j, h3, h4⟩ := (anySuf_iff _ _).1 h2
        rw [List.drop_drop] at h4
        rw [List.length_drop] at h3
        have := tr_lt h1
        exact ⟨k + j, tr_map.2 ⟨by omega, (nxA_star m L _).2 ⟨k, by omega, h1⟩⟩, h4⟩
  · constructor
    · rintro ⟨k, h1, h2⟩
      obtain ⟨h3, h4⟩ := tr_map.1 h1
      cases k with
      | zero =>
        have h4 : (if x ≠ star then false else if _ = true then false else L.getD 0 false) = true := h4
        rw [if_pos h] at h4; cases h4
      | succ k =>
        have h4 : (if x ≠ star then L.getD k false && one x (m.getD k []) else _) = true := h4
        rw [if_pos h, Bool.and_eq_true, getD_tr] at h4
        refine ⟨k, h4.1, ?_⟩
        have hk : k < m.length := by omega
        rw [List.drop_eq_getElem_cons hk, ass_cons _ _ _ h, h2, Bool.and_true]
        have := h4.2
        rw [List.getD_eq_getElem?_getD, List.getElem?_eq_getElem hk] at this
        exact this
    · rintro ⟨k, h1, h2⟩
      by_cases hk : k < m.length
      · rw [List.drop_eq_getElem_cons hk, ass_cons _ _ _ h, Bool.and_eq_true] at h2
        refine ⟨k + 1, tr_map.2 ⟨by omega, ?_⟩, h2.2⟩
        show (if x ≠ star then L.getD k false && one x (m.getD k []) else _) = true
        rw [if_pos h, Bool.and_eq_true, getD_tr]
        refine ⟨h1, ?_⟩
        rw [List.getD_eq_getElem?_getD, List.getElem?_eq_getElem hk]
        exact h2.1
      · rw [List.drop_of_length_le (by omega), ass_cons_nil _ h] at h2
        cases h2
def runA (l m : List Bs) : Nat → List Bool
  | 0 => true :: List.replicate m.length false
  | i + 1 => nextA (l.getD i []) (decide (i + 1 = l.length)) m (runA l m i)
theorem runA_len (l m : List Bs) (i : Nat) : (runA l m i).length = m.length + 1 := by
  cases i with
  | zero => simp [runA]
  | succ i => exact nextA_len _ _ _ _
theorem runA_acc (l m : List Bs) (i : Nat) (hi : i ≤ l.length) : AccA (runA l m i) (l.drop i) m ↔ ass l m = true := by
  induction i with
  | zero =>
    unfold AccA runA
    constructor
    · rintro ⟨k, h1, h2⟩
      obtain rfl := (tr_first _ _).1 h1
      exact h2
    · intro h
      exact ⟨0, (tr_first _ _).2 rfl, h⟩
  | succ i ih =>
    have hi' : i < l.length := by omega
    rw [← ih (by omega)]
    show AccA (nextA (l.getD i []) (decide (i + 1 = l.length)) m (runA l m i)) _ _ ↔ _
    have : decide (i + 1 = l.length) = decide (l.drop (i + 1) = []) := by
      congr 1
      rw [List.drop_eq_nil_iff]
      exact propext ⟨fun e => by omega, fun e => by omega⟩
    rw [this, accA_next _ _ _ _ (runA_len l m i), List.drop_eq_getElem_cons hi', List.getD_eq_getElem?_getD, List.getElem?_eq_getElem hi']; rfl
theorem runA_end (l m : List Bs) : (runA l m l.length).getD m.length false = ass l m := by
  have h := runA_acc l m l.length (Nat.le_refl _)
  rw [List.drop_of_length_le (Nat.le_refl _)] at h
  rw [Bool.eq_iff_iff, getD_tr, ← h]
  unfold AccA
  constructor
  · intro h1
    exact ⟨m.length, h1, by rw [ass_nil, List.drop_of_length_le (Nat.le_refl _)]; rfl⟩
  · rintro ⟨k, h1, h2⟩
    rw [ass_nil, List.isEmpty_iff, List.drop_eq_nil_iff] at h2
    have := tr_lt h1
    rw [runA_len] at this
    obtain rfl : k = m.length := by omega
    exact h1

/-- The parts that can be reached: from i on, past parts of two stars. -/
def goesOn (ps : List Bs) (i : Nat) : Prop := i + 1 < ps.length ∧ ps[i]? = some star
instance (ps : List Bs) (i : Nat) : Decidable (goesOn ps i) := by unfold goesOn; infer_instance
def reach (ps : List Bs) (i : Nat) (R : List Bool) : List Bool :=
  if h : goesOn ps i then reach ps (i + 1) (R.set i true) else R.set i true
termination_by ps.length - i
decreasing_by have := h.1; omega
theorem reach_on {ps : List Bs} {i : Nat} (R : List Bool) (h : goesOn ps i) : reach ps i R = reach ps (i + 1) (R.set i true) := by rw [reach, dif_pos h]
theorem reach_off {ps : List Bs} {i : Nat} (R : List Bool) (h : ¬ goesOn ps i) : reach ps i R = R.set i true := by rw [reach, dif_neg h]
theorem reach_len (ps : List Bs) (i : Nat) (R : List Bool) : (reach ps i R).length = R.length := by
  by_cases h : goesOn ps i
  · have := h.1
    rw [reach_on R h, reach_len ps (i + 1), List.length_set]
  · rw [reach_off R h, List.length_set]
termination_by ps.length - i
theorem set_mono {R : List Bool} {i k : Nat} (h : tr R k) : tr (R.set i true) k := by
  by_cases e : k = i
  · subst e; exact tr_set_self (tr_lt h)
  · exact (tr_set true e).2 h
theorem reach_mono {ps : List Bs} {i k : Nat} {R : List Bool} (h : tr R k) : tr (reach ps i R) k := by
  by_cases hg : goesOn ps i
  · have := hg.1
    rw [reach_on R hg]
    exact reach_mono (set_mono h)
  · rw [reach_off R hg]; exact set_mono h
termination_by ps.length - i
theorem reach_self {ps : List Bs} {i : Nat} {R : List Bool} (h : i < R.length) : tr (reach ps i R) i := by
  by_cases hg : goesOn ps i
  · rw [reach_on R hg]; exact reach_mono (tr_set_self h)
  · rw [reach_off R hg]; exact tr_set_self h
def Clo (ps : List Bs) (R : List Bool) : Prop := ∀ k, tr R k → goesOn ps k → tr R (k + 1)
theorem reach_clo {ps : List Bs} {i : Nat} {R : List Bool} (hl : R.length = ps.length + 1) (hi : i ≤ ps.length) (h : ∀ k, tr R k → goesOn ps k → k + 1 = i ∨ tr R (k + 1)) : Clo ps (reach ps i R) := by
  by_cases hg : goesOn ps i
  · have := hg.1
    rw [reach_on R hg]
    refine reach_clo (by rw [List.length_set]; exact hl) (by omega) (fun k hk hgk => ?_)
    by_cases e : k = i
    · exact .inl (by omega)
    · rcases h k ((tr_set true e).1 hk) hgk with h1 | h1
      · exact .inr (by rw [h1]; exact tr_set_self (by omega))
      · exact .inr (set_mono h1)
  · rw [reach_off R hg]
    intro k hk hgk
    by_cases e : k = i
    · exact absurd (e ▸ hgk) hg
    · rcases h k ((tr_set true e).1 hk) hgk with h1 | h1
      · rw [h1]; exact tr_set_self (by omega)
      · exact set_mono h1
termination_by ps.length - i
def AccC (R : List Bool) (ps cs : List Bs) : Prop := ∃ i, tr R i ∧ ass (ps.drop i) cs = true
theorem drop_on {ps : List Bs} {i : Nat} (h : goesOn ps i) : ps.drop i = star :: ps.drop (i + 1) ∧ ps.drop (i + 1) ≠ [] := by
  obtain ⟨h1, h2⟩ := h
  have hi : i < ps.length := by omega
  rw [List.getElem?_eq_getElem hi, Option.some.injEq] at h2
  refine ⟨by rw [List.drop_eq_getElem_cons hi, h2], fun e => ?_⟩
  rw [List.drop_eq_nil_iff] at e
  omega
theorem set_acc {ps cs : List Bs} {i : Nat} {R : List Bool} (hl : i < R.length) : AccC (R.set i true) ps cs ↔ AccC R ps cs ∨ ass (ps.drop i) cs = true := by
  constructor
  · rintro ⟨k, h1, h2⟩
    by_cases e : k = i
    · exact .inr (e ▸ h2)
    · exact .inl ⟨k, (tr_set true e).1 h1, h2⟩
  · rintro (⟨k, h1, h2⟩ | h)
    · exact ⟨k, set_mono h1, h2⟩
    · exact ⟨i, tr_set_self hl, h⟩
theorem reach_acc {ps cs : List Bs} {i : Nat} {R : List Bool} (hl : R.length = ps.length + 1) (hi : i ≤ ps.length) : AccC (reach ps i R) ps cs ↔ AccC R ps cs ∨ ass (ps.drop i) cs = true := by
  by_cases hg : goesOn ps i
  · have := hg.1
    rw [reach_on R hg, reach_acc (by rw [List.length_set]; exact hl) (by omega), set_acc (by omega)]
    obtain ⟨h1, h2⟩ := drop_on hg
    constructor
    · rintro (h | h)
      · exact h
      · refine .inr ?_
        rw [h1, ass_star _ h2]
        exact anySuf_any _ _ 0 h
    · intro h; exact .inl h
  · rw [reach_off R hg, set_acc (by omega)]
termination_by ps.length - i

/-- One component more. -/
def stp (ps : List Bs) (c : Bs) (B : List Bool) (i : Nat) (R : List Bool) : List Bool :=
  if (B.getD i false && one (ps.getD i []) c) = true then reach ps (i + 1) (if ps.getD i [] = star then reach ps i R else R) else R
def cont (ps : List Bs) (c : Bs) (B : List Bool) : Nat → List Bool
  | 0 => List.replicate (ps.length + 1) false
  | k + 1 => stp ps c B k (cont ps c B k)
theorem stp_len (ps : List Bs) (c : Bs) (B : List Bool) (i : Nat) (R : List Bool) : (stp ps c B i R).length = R.length := by
  unfold stp
  split
  · rw [reach_len]
    split
    · rw [reach_len]
    · rfl
  · rfl
theorem cont_len (ps : List Bs) (c : Bs) (B : List Bool) (k : Nat) : (cont ps c B k).length = ps.length + 1 := by
  induction k with
  | zero => simp [cont]
  | succ k ih => unfold cont; rw [stp_len, ih]
theorem cont_clo (ps : List Bs) (c : Bs) (B : List Bool) (k : Nat) (hk : k ≤ ps.length) : Clo ps (cont ps c B k) := by
  induction k with
  | zero =>
    intro k hk
    unfold tr cont at hk
    rw [List.getElem?_replicate] at hk
    split at hk
    · cases hk
    · cases hk
  | succ k ih =>
    have hc := ih (by omega)
    have hl := cont_len ps c B k
    show Clo ps (stp ps c B k (cont ps c B k))
    unfold stp
    split
    · split
      · exact reach_clo (by rw [reach_len, hl]) hk (fun j h1 h2 => .inr (reach_clo hl (by omega) (fun j h1 h2 => .inr (hc j h1 h2)) j h1 h2))
      · exact reach_clo hl hk (fun j h1 h2 => .inr (hc j h1 h2))
    · exact hc
def cb (ps : List Bs) (c : Bs) (cs : List Bs) (i : Nat) : Prop := one (ps.getD i []) c = true ∧ ((ps.getD i [] = star ∧ ass (ps.drop i) cs = true) ∨ ass (ps.drop (i + 1)) cs = true)
theorem cont_acc (ps : List Bs) (c : Bs) (cs : List Bs) (B : List Bool) (k : Nat) (hk : k ≤ ps.length) : AccC (cont ps c B k) ps cs ↔ ∃ i, i < k ∧ tr B i ∧ cb ps c cs i := by
  induction k with
  | zero =>
    constructor
    · rintro ⟨i, h1, _⟩
      unfold tr cont at h1
      rw [List.getElem?_replicate] at h1
      split at h1
      · cases h1
      · cases h1
    · rintro ⟨i, h, _⟩; omega
  | succ k ih =>
    have hl := cont_len ps c B k
    have ih := ih (by omega)
    show AccC (stp ps c B k (cont ps c B k)) ps cs ↔ _
    have hor : (∃ i, i < k + 1 ∧ tr B i ∧ cb ps c cs i) ↔ (∃ i, i < k ∧ tr B i ∧ cb ps c cs i) ∨ (tr B k ∧ cb ps c cs k) := by
      constructor
      · rintro ⟨i, h1, h2⟩
        by_cases e : i = k
        · exact .inr (e ▸ h2)
        · exact .inl ⟨i, by omega, h2⟩
      · rintro (⟨i, h1, h2⟩ | h)
        · exact ⟨i, by omega, h2⟩
        · exact ⟨k, by omega, h⟩
    rw [hor, ← ih]
    unfold stp
    by_cases hc : (B.getD k false && one (ps.getD k []) c) = true
    · rw [if_pos hc]
      rw [Bool.and_eq_true, getD_tr] at hc
      by_cases hs : ps.getD k [] = star
      · rw [if_pos hs, reach_acc (by rw [reach_len, hl]) hk, reach_acc hl (by omega)]
        unfold cb
        constructor
        · rintro ((h | h) | h)
          · exact .inl h
          · exact .inr ⟨hc.1, hc.2, .inl ⟨hs, h⟩⟩
          · exact .inr ⟨hc.1, hc.2, .inr h⟩
        · rintro (h | ⟨_, _, h | h⟩)
          · exact .inl (.inl h)
          · exact .inl (.inr h.2)
          · exact .inr h
      · rw [if_neg hs, reach_acc hl hk]
        unfold cb
        constructor
        · rintro (h | h)
          · exact .inl h
          · exact .inr ⟨hc.1, hc.2, .inr h⟩
        · rintro (h | ⟨_, _, h | h⟩)
          · exact .inl h
          · exact absurd h.1 hs
          · exact .inr h
    · rw [if_neg hc]
      constructor
      · exact .inl
      · rintro (h | ⟨h1, h2⟩)
        · exact h
        · exact absurd (by rw [Bool.and_eq_true, getD_tr]; exact ⟨h1, h2.1⟩) hc
theorem getD_drop {ps : List Bs} {i : Nat} (h : i < ps.length) : ps.drop i = ps.getD i [] :: ps.drop (i + 1) := by
  rw [List.getD_eq_getElem?_getD, List.getElem?_eq_getElem h]
  exact List.drop_eq_getElem_cons h
theorem cb_ass {ps : List Bs} {c : Bs} {cs : List Bs} {i : Nat} (hi : i < ps.length) (h : cb ps c cs i) : ass (ps.drop i) (c :: cs) = true := by
  obtain ⟨h1, h2⟩ := h
  have hd := getD_drop hi
  by_cases hs : ps.getD i [] = star
  · by_cases h0 : ps.drop (i + 1) = []
    · rw [hd, hs, h0, ass_last]; rfl
    · rw [hd, hs, ass_star _ h0]
      rcases h2 with ⟨_, h2⟩ | h2
      · rw [hd, hs, ass_star _ h0] at h2
        exact anySuf_drop _ (c :: cs) 1 h2
      · exact anySuf_any _ (c :: cs) 1 h2
  · rcases h2 with ⟨h2, _⟩ | h2
    · exact absurd h2 hs
    · rw [hd, ass_cons _ _ _ hs, h1, h2]; rfl
theorem ass_cb {ps : List Bs} {c : Bs} {cs : List Bs} {B : List Bool} (hcl : Clo ps B) {i : Nat} (hi : i ≤ ps.length) (hb : tr B i) (h : ass (ps.drop i) (c :: cs) = true) : ∃ j, j < ps.length ∧ tr B j ∧ cb ps c cs j := by
  by_cases he : i = ps.length
  · subst he
    rw [List.drop_of_length_le (Nat.le_refl _), ass_nil] at h
    cases h
  · have hi' : i < ps.length := by omega
    have hd := getD_drop hi'
    by_cases hs : ps.getD i [] = star
    · by_cases h0 : ps.drop (i + 1) = []
      · refine ⟨i, hi', hb, by rw [hs]; exact one_star c, ?_⟩
        rw [hd, hs, h0, ass_last, ass_nil]
        cases cs with
        | nil => exact .inr rfl
        | cons _ _ => exact .inl ⟨rfl, rfl⟩
      · rw [hd, hs, ass_star _ h0] at h
        have h : (ass (ps.drop (i + 1)) (c :: cs) || anySuf (ass (ps.drop (i + 1))) cs) = true := h
        rw [Bool.or_eq_true] at h
        rcases h with h | h
        · refine ass_cb hcl (i := i + 1) (by omega) (hcl i hb ⟨?_, ?_⟩) h
          · rcases Nat.lt_or_ge (i + 1) ps.length with h | h
            · exact h
            · exact absurd (List.drop_of_length_le h) h0
          · rw [List.getD_eq_getElem?_getD, List.getElem?_eq_getElem hi'] at hs
            rw [List.getElem?_eq_getElem hi']
            exact congrArg some hs
        · refine ⟨i, hi', hb, by rw [hs]; exact one_star c, .inl ⟨hs, ?_⟩⟩
          rw [hd, hs, ass_star _ h0]
          exact h
    · rw [hd, ass_cons _ _ _ hs, Bool.and_eq_true] at h
      exact ⟨i, hi', hb, h.1, .inr h.2⟩
termination_by ps.length - i
def runC (ps cs : List Bs) : Nat → List Bool
  | 0 => reach ps 0 (List.replicate (ps.length + 1) false)
  | j + 1 => cont ps (cs.getD j []) (runC ps cs j) ps.length
theorem runC_len (ps cs : List Bs) (j : Nat) : (runC ps cs j).length = ps.length + 1 := by
  cases j with
  | zero => simp [runC, reach_len]
  | succ j => exact cont_len _ _ _ _
theorem tr_false (n k : Nat) : ¬ tr (List.replicate n false) k := by
  intro h
  unfold tr at h
  rw [List.getElem?_replicate] at h
  split at h <;> cases h
theorem runC_clo (ps cs : List Bs) (j : Nat) : Clo ps (runC ps cs j) := by
  cases j with
  | zero => exact reach_clo (by simp) (Nat.zero_le _) (fun k h => absurd h (tr_false _ _))
  | succ j => exact cont_clo _ _ _ _ (Nat.le_refl _)
theorem runC_acc (ps cs : List Bs) (j : Nat) (hj : j ≤ cs.length) : AccC (runC ps cs j) ps (cs.drop j) ↔ ass ps cs = true := by
  induction j with
  | zero =>
    show AccC (reach ps 0 _) ps (cs.drop 0) ↔ _
    rw [reach_acc (by simp) (Nat.zero_le _), List.drop_zero, List.drop_zero]
    constructor
    · rintro (⟨i, h, _⟩ | h)
      · exact absurd h (tr_false _ _)
      · exact h
    · exact .inr
  | succ j ih =>
    have hj' : j < cs.length := by omega
    rw [← ih (by omega)]
    show AccC (cont ps (cs.getD j []) (runC ps cs j) ps.length) ps _ ↔ _
    rw [cont_acc _ _ _ _ _ (Nat.le_refl _), getD_drop hj']
    constructor
    · rintro ⟨i, h1, h2, h3⟩
      exact ⟨i, h2, cb_ass h1 h3⟩
    · rintro ⟨i, h1, h2⟩
      have := tr_lt h1
      rw [runC_len] at this
      exact ass_cb (runC_clo ps cs j) (by omega) h1 h2
theorem clo_end {ps : List Bs} {R : List Bool} (hl : R.length = ps.length + 1) (h : Clo ps R) {i : Nat} (hi : tr R i) (ha : ass (ps.drop i) [] = true) : tr R ps.length := by
  by_cases he : i = ps.length
  · exact he ▸ hi
  · have hlt := tr_lt hi
    have hi' : i < ps.length := by omega
    have hd := getD_drop hi'
    by_cases hs : ps.getD i [] = star
    · by_cases h0 : ps.drop (i + 1) = []
      · rw [hd, hs, h0, ass_last] at ha
        cases ha
      · rw [hd, hs, ass_star _ h0, anySuf_nil] at ha
        refine clo_end hl h (h i hi ⟨?_, ?_⟩) ha
        · rcases Nat.lt_or_ge (i + 1) ps.length with h | h
          · exact h
          · exact absurd (List.drop_of_length_le h) h0
        · rw [List.getD_eq_getElem?_getD, List.getElem?_eq_getElem hi'] at hs
          rw [List.getElem?_eq_getElem hi']
          exact congrArg some hs
    · rw [hd, ass_cons_nil _ hs] at ha
      cases ha
termination_by ps.length - i
theorem runC_end (ps cs : List Bs) : (runC ps cs cs.length).getD ps.length false = ass ps cs := by
  rw [Bool.eq_iff_iff, getD_tr, ← runC_acc ps cs cs.length (Nat.le_refl _), List.drop_of_length_le (Nat.le_refl _)]
  constructor
  · intro h
    exact ⟨_, h, by rw [List.drop_of_length_le (Nat.le_refl _)]; rfl⟩
  · rintro ⟨i, h1, h2⟩
    exact clo_end (runC_len _ _ _) (runC_clo _ _ _) h1 h2
end Gl
end Go.Proofs.YtffmnobcdhgfdaaDoor
