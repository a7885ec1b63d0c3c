/-
  Layer 4 (globs): what a path as a pattern matches; what all matches begin with; what is below a directory: no program, no world.
-/
import Derived.Test.YtffmnobcdhgfdaaDoorGF
import Derived.Test.YtffmnobcdhgfdaaDoorGL
namespace Go.Proofs.YtffmnobcdhgfdaaDoor
namespace Gl
open Pt

theorem chr_wild {c : UInt8} (h : chr c = true) : wild c = false := by
  cases hw : wild c
  · rfl
  · unfold wild at hw
    rw [Bool.or_eq_true, beq_iff_eq, beq_iff_eq] at hw
    rcases hw with e | e <;> subst e <;> revert h <;> decide
theorem comp_wild {q : Bs} (h : comp q = true) : ∀ c ∈ q, wild c = false := by
  unfold comp at h
  rw [Bool.and_eq_true] at h
  exact fun c hc => chr_wild (List.all_eq_true.1 h.2 c hc)
theorem comp_star {q : Bs} (h : comp q = true) : q ≠ star := by
  intro e
  subst e
  revert h
  decide
theorem one_id : ∀ (q s : Bs), (∀ c ∈ q, wild c = false) → one q s = (q == s)
  | [], s, _ => by rw [one_nil]; cases s <;> rfl
  | a :: q, s, h => by
    have ha := h a (by simp)
    unfold wild at ha
    rw [Bool.or_eq_false_iff, beq_eq_false_iff_ne, beq_eq_false_iff_ne] at ha
    cases s with
    | nil => rw [one_ch_nil _ ha.1]; rfl
    | cons d s =>
      rw [one_ch _ _ _ ha.1, one_id q s (fun c hc => h c (by simp [hc])), beq_eq_false_iff_ne.2 ha.2, Bool.false_or]; rfl
theorem sub_id {q : Bs} (h : ∀ c ∈ q, wild c = false) : q.map sub = q := by
  induction q with
  | nil => rfl
  | cons c q ih =>
    rw [List.map_cons, ih (fun d hd => h d (by simp [hd]))]
    unfold sub
    rw [h c (by simp), if_neg (by simp)]
theorem ss_no {q : Bs} (h : ∀ c ∈ q, wild c = false) : hasSS q = false := by
  cases hs : hasSS q
  · rfl
  · obtain ⟨j, h1, _⟩ := (hasSS_iff q).1 hs
    have := h 42 (List.mem_of_getElem? h1)
    revert this
    decide
theorem comp_pat {q : Bs} (h : comp q = true) : pat q = true := by
  rw [pat_comp, sub_id (comp_wild h), ss_no (comp_wild h), h]
  simp
theorem may_pmay {l : Bs} (h : may l = true) : pmay l = true := pmay_mk (fun q hq => comp_pat (may_all h q hq)) (may_len h)
theorem may_wild {l : Bs} (h : may l = true) : ∀ c ∈ l, wild c = false := by
  intro c hc
  induction l with
  | nil => cases hc
  | cons d l ih =>
    cases hw : wild c
    · rfl
    · exfalso
      -- c stands in a part
      have key : ∀ l : Bs, c ∈ l → c = 47 ∨ ∃ q ∈ parts l, c ∈ q := by
        intro l
        induction l with
        | nil => intro h; cases h
        | cons e l ih =>
          intro hm
          obtain ⟨p, ps, hp⟩ := parts_cons l
          unfold parts
          rw [hp] at ih ⊢
          by_cases he : e = 47
          · rw [if_pos he]
            rcases List.mem_cons.1 hm with h | hm
            · exact .inl (h.trans he)
            · rcases ih hm with h | ⟨q, hq, h⟩
              · exact .inl h
              · exact .inr ⟨q, List.mem_cons_of_mem _ hq, h⟩
          · rw [if_neg he]
            simp only [List.headD_cons, List.tail_cons]
            rcases List.mem_cons.1 hm with h | hm
            · exact .inr ⟨_, List.mem_cons_self, by simp [h]⟩
            · rcases ih hm with h | ⟨q, hq, h⟩
              · exact .inl h
              · rcases List.mem_cons.1 hq with rfl | hq
                · exact .inr ⟨_, List.mem_cons_self, by simp [h]⟩
                · exact .inr ⟨q, List.mem_cons_of_mem _ hq, h⟩
      rcases key _ hc with h47 | ⟨q, hq, hcq⟩
      · subst h47; revert hw; decide
      · rw [comp_wild (may_all h q hq) c hcq] at hw; cases hw
theorem ass_pre : ∀ (ds ps cs : List Bs), (∀ q ∈ ds, comp q = true) → ass (ds ++ ps) cs = (ds == cs.take ds.length && ass ps (cs.drop ds.length))
  | [], ps, cs, _ => by simp
  | d :: ds, ps, cs, h => by
    have hd := h d (by simp)
    cases cs with
    | nil => rw [List.cons_append, ass_cons_nil _ (comp_star hd)]; simp
    | cons c cs =>
      rw [List.cons_append, ass_cons _ _ _ (comp_star hd), one_id d c (comp_wild hd), ass_pre ds ps cs (fun q hq => h q (by simp [hq]))]
      simp only [List.length_cons, List.take_succ_cons, List.drop_succ_cons]
      rw [← Bool.and_assoc]; rfl
theorem ass_comps (ds cs : List Bs) (h : ∀ q ∈ ds, comp q = true) : ass ds cs = (ds == cs) := by
  have := ass_pre ds [] cs h
  rw [List.append_nil, ass_nil] at this
  rw [this, Bool.eq_iff_iff, Bool.and_eq_true, beq_iff_eq, beq_iff_eq, List.isEmpty_iff, List.drop_eq_nil_iff]
  constructor
  · rintro ⟨h1, h2⟩
    rw [List.take_of_length_le h2] at h1
    exact h1
  · rintro rfl
    exact ⟨by simp, Nat.le_refl _⟩
theorem mtch_path {s : Bs} (h : may s = true) (o : Bs) : mtch s o = (s == o) := by
  unfold mtch
  rw [may_pmay h, Bool.true_and, ass_comps _ _ (may_all h), Bool.eq_iff_iff, Bool.and_eq_true, beq_iff_eq, beq_iff_eq]
  constructor
  · rintro ⟨_, h2⟩
    rw [← join_parts s, h2, join_parts]
  · rintro rfl
    exact ⟨h, rfl⟩
theorem mtch_self {s : Bs} (h : may s = true) : mtch s s = true := by rw [mtch_path h]; simp
theorem mtch_no {s : Bs} (h : may s = false) (p : Bs) : mtch p s = false := by unfold mtch; rw [h, Bool.and_false]; rfl
theorem tw_all {l : Bs} (f : UInt8 → Bool) (h : ∀ c ∈ l, f c = true) : l.takeWhile f = l := by
  induction l with
  | nil => rfl
  | cons c l ih => rw [List.takeWhile_cons, if_pos (h c (by simp)), ih (fun d hd => h d (by simp [hd]))]
theorem fixd_path {s : Bs} (h : may s = true) : fixd s = s := by
  unfold fixd
  rw [if_pos (may_pmay h)]
  exact tw_all _ (fun c hc => by rw [may_wild h c hc]; rfl)
theorem mtch_all {s : Bs} (h : may s = true) : mtch star s = true := by
  unfold mtch
  rw [h, show pmay star = true by decide, show parts star = [star] by decide, ass_last]
  obtain ⟨p, ps, hp⟩ := parts_cons s
  rw [hp]; rfl
theorem base_star {s : Bs} (h : may s = true) : mtch (star ++ 47 :: baseOf s) s = true := by
  have hb := base_comp h
  have hp : parts (star ++ 47 :: baseOf s) = [star, baseOf s] := by
    rw [parts_mid, parts_one _ (comp_no _ hb)]; rfl
  have hl := parts_last (s := s)
  have hbe : baseOf s = (parts s).getLastD [] := by unfold baseOf; rw [if_pos h]
  unfold mtch
  have hm : pmay (star ++ 47 :: baseOf s) = true := pmay_mk (by
    rw [hp]
    intro q hq
    simp only [List.mem_cons, List.not_mem_nil, or_false] at hq
    rcases hq with rfl | rfl
    · exact pat_star
    · exact comp_pat hb) (by rw [hp]; simp)
  rw [hm, h, hp, ass_star _ (by simp)]
  refine anySuf_any _ _ (parts s).dropLast.length ?_
  have e : (parts s).drop (parts s).dropLast.length = [baseOf s] := by
    have h1 := congrArg (List.drop (parts s).dropLast.length) hl
    rw [List.drop_left] at h1
    rw [hbe]; exact h1
  rw [e, ass_comps [baseOf s] _ (by intro q hq; simp at hq; subst hq; exact hb)]
  simp
theorem count_few {s : Bs} (h : may s = true) : s.count 47 < 16 := by
  have h1 := may_len h
  rw [count_parts] at h1
  omega

theorem ass_ne {ps : List Bs} (h : ps ≠ []) : ass ps [] = false := by
  induction ps with
  | nil => exact absurd rfl h
  | cons p ps ih =>
    by_cases hp : p = star
    · subst hp
      by_cases h0 : ps = []
      · subst h0; rw [ass_last]; rfl
      · rw [ass_star _ h0, anySuf_nil, ih h0]
    · rw [ass_cons_nil _ hp]
theorem one_pre : ∀ (q c : Bs), one q c = true → q.takeWhile (fun x => !wild x) <+: c
  | [], c, _ => List.nil_prefix
  | a :: q, c, h => by
    rw [List.takeWhile_cons]
    cases hw : wild a
    · rw [if_pos (by simp)]
      unfold wild at hw
      rw [Bool.or_eq_false_iff, beq_eq_false_iff_ne, beq_eq_false_iff_ne] at hw
      cases c with
      | nil => rw [one_ch_nil _ hw.1] at h; cases h
      | cons d c =>
        rw [one_ch _ _ _ hw.1, Bool.and_eq_true, beq_eq_false_iff_ne.2 hw.2, Bool.false_or, beq_iff_eq] at h
        obtain ⟨rfl, h⟩ := h
        exact (List.prefix_cons_inj a).2 (one_pre q c h)
    · rw [if_neg (by simp)]; exact List.nil_prefix
theorem tw_app (a b : Bs) (f : UInt8 → Bool) : (a ++ b).takeWhile f = if (a.all f) = true then a ++ b.takeWhile f else a.takeWhile f := by
  induction a with
  | nil => rfl
  | cons c a ih =>
    rw [List.cons_append, List.takeWhile_cons, List.takeWhile_cons, ih, List.all_cons]
    cases h : f c
    · rfl
    · rw [if_pos rfl, if_pos rfl, Bool.true_and]
      split <;> rfl
theorem join_pre : ∀ (ps cs : List Bs), ps ≠ [] → ass ps cs = true → (joinL ps).takeWhile (fun x => !wild x) <+: joinL cs
  | [], _, h, _ => absurd rfl h
  | q :: ps, cs, _, h => by
    by_cases hq : q = star
    · subst hq
      have : (joinL (star :: ps)).takeWhile (fun x => !wild x) = [] := by
        cases ps with
        | nil => decide
        | cons r ps => rw [joinL_cons _ _ (by simp)]; rfl
      rw [this]; exact List.nil_prefix
    · cases cs with
      | nil => rw [ass_cons_nil _ hq] at h; cases h
      | cons c cs =>
        rw [ass_cons _ _ _ hq, Bool.and_eq_true] at h
        obtain ⟨h1, h2⟩ := h
        have hp := one_pre q c h1
        by_cases h0 : ps = []
        · subst h0
          rw [ass_nil, List.isEmpty_iff] at h2
          subst h2
          exact hp
        · have hcs : cs ≠ [] := by
            intro e
            subst e
            rw [ass_ne h0] at h2
            cases h2
          rw [joinL_cons _ _ h0, joinL_cons _ _ hcs, tw_app]
          by_cases ha : (q.all fun x => !wild x) = true
          · rw [if_pos ha]
            have hqc : q = c := by
              rw [one_id q c (fun x hx => by have := List.all_eq_true.1 ha x hx; simpa using this), beq_iff_eq] at h1
              exact h1
            subst hqc
            rw [List.takeWhile_cons, if_pos (by decide)]
            exact (List.prefix_append_right_inj q).2 ((List.prefix_cons_inj 47).2 (join_pre ps cs h0 h2))
          · rw [if_neg ha]
            exact hp.trans (List.prefix_append _ _)
theorem fixd_pre {p s : Bs} (h : mtch p s = true) : (fixd p).isPrefixOf s = true := by
  unfold mtch at h
  rw [Bool.and_eq_true, Bool.and_eq_true] at h
  obtain ⟨⟨h1, _⟩, h3⟩ := h
  unfold fixd
  rw [if_pos h1, List.isPrefixOf_iff_prefix]
  have := join_pre (parts p) (parts s) (parts_ne p) h3
  rw [join_parts, join_parts] at this
  exact this

/-- Below a directory. -/
theorem take_up {d s : Bs} (hd : may d = true) (hs : may s = true) : (parts d == (parts s).take (parts d).length) = (up s (parts d).length == d) := by
  have hp := parts_pos d
  rw [Bool.eq_iff_iff, beq_iff_eq, beq_iff_eq]
  constructor
  · intro h
    unfold up
    rw [← h, join_parts]
  · intro h
    have := congrArg parts h
    rw [up_parts hs hp] at this
    exact this.symm
theorem up_len_of {d s : Bs} (hd : may d = true) (hs : may s = true) {k : Nat} (hk : k ≤ (parts s).length) (h : up s k = d) : k = (parts d).length := by
  have hp := parts_pos d
  by_cases h0 : k = 0
  · subst h0
    rw [up_zero] at h
    subst h
    rw [may_nil] at hd
    cases hd
  · rw [← h, up_parts hs (by omega), List.length_take]; omega
theorem below_all {d s : Bs} (hd : may d = true) (hn : d.count 47 ≤ 14) : mtch (d ++ 47 :: star) s = under s d := by
  have hl := count_parts d
  have hp : parts (d ++ 47 :: star) = parts d ++ [star] := by rw [parts_mid]; rfl
  have hm : pmay (d ++ 47 :: star) = true := pmay_mk (by
    rw [hp]
    intro q hq
    rcases List.mem_append.1 hq with hq | hq
    · exact comp_pat (may_all hd q hq)
    · simp at hq; subst hq; exact pat_star) (by rw [hp, List.length_append, hl]; simp; omega)
  cases hs : may s
  · rw [mtch_no hs, under_not hs]
  · unfold mtch
    rw [hm, hs, hp, Bool.true_and, Bool.true_and, ass_pre _ _ _ (may_all hd), ass_last, take_up hd hs, Bool.eq_iff_iff, Bool.and_eq_true, beq_iff_eq, Bool.not_eq_true', List.isEmpty_eq_false_iff, under_iff hs]
    constructor
    · rintro ⟨h1, h2⟩
      refine ⟨_, ?_, h1⟩
      rcases Nat.lt_or_ge (parts d).length (parts s).length with h | h
      · exact h
      · exact absurd (List.drop_of_length_le h) h2
    · rintro ⟨k, h1, h2⟩
      have := up_len_of hd hs (Nat.le_of_lt h1) h2
      subst this
      exact ⟨h2, fun e => by rw [List.drop_eq_nil_iff] at e; omega⟩
theorem below_one {d s : Bs} (hd : may d = true) (hn : d.count 47 ≤ 14) : mtch (d ++ 47 :: [42]) s = (under s d && dirOf s == d) := by
  have hl := count_parts d
  have hp : parts (d ++ 47 :: [42]) = parts d ++ [[42]] := by rw [parts_mid]; rfl
  have hm : pmay (d ++ 47 :: [42]) = true := pmay_mk (by
    rw [hp]
    intro q hq
    rcases List.mem_append.1 hq with hq | hq
    · exact comp_pat (may_all hd q hq)
    · simp at hq; subst hq; decide) (by rw [hp, List.length_append, hl]; simp; omega)
  cases hs : may s
  · rw [mtch_no hs, under_not hs, Bool.false_and]
  · have hpp := parts_pos s
    have hdd := parts_pos d
    unfold mtch
    rw [hm, hs, hp, Bool.true_and, Bool.true_and, ass_pre _ _ _ (may_all hd), take_up hd hs, dirOf_up hs, Bool.eq_iff_iff, Bool.and_eq_true, Bool.and_eq_true, beq_iff_eq, beq_iff_eq, under_iff hs]
    constructor
    · rintro ⟨h1, h2⟩
      have hlen : (parts s).length = (parts d).length + 1 := by
        cases hdr : (parts s).drop (parts d).length with
        | nil => rw [hdr, ass_cons_nil _ (by decide)] at h2; cases h2
        | cons c cs =>
          rw [hdr, ass_cons _ _ _ (by decide), Bool.and_eq_true, ass_nil, List.isEmpty_iff] at h2
          have := congrArg List.length hdr
          rw [h2.2, List.length_drop] at this
          simp at this
          omega
      exact ⟨⟨_, by omega, h1⟩, by rw [hlen, Nat.add_sub_cancel]; exact h1⟩
    · rintro ⟨_, h2⟩
      have hk := up_len_of hd hs (by omega) h2
      rw [← hk]
      refine ⟨h2, ?_⟩
      have : ((parts s).drop ((parts s).length - 1)).length = 1 := by rw [List.length_drop]; omega
      obtain ⟨c, hc⟩ := List.length_eq_one_iff.1 this
      rw [hc, ass_cons _ _ _ (by decide), ass_nil]
      have : one [42] c = true := by
        rw [one_st]
        exact anySuf_any _ c c.length (by rw [List.drop_of_length_le (Nat.le_refl _)]; rfl)
      rw [this]; rfl
end Gl
end Go.Proofs.YtffmnobcdhgfdaaDoor
