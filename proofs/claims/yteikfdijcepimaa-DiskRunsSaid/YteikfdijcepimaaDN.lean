/-
  Layer 7 (disk): what is sure stays, each file for itself, budgets: no program, no world.
-/
import Derived.Test.YteikfdijcepimaaDM
namespace Go.Proofs.Yteikfdijcepimaa
namespace Dk

theorem ext_front (s : ByteArray) (j : Nat) : (s.extract 0 j).data.toList = s.data.toList.take j := by
  simp [ByteArray.data_extract, Array.toList_extract, List.extract_eq_take_drop]
theorem bdata_length (s : ByteArray) : s.data.toList.length = s.size := rfl
theorem app_data (a b : ByteArray) : (a ++ b).data.toList = a.data.toList ++ b.data.toList := by simp [ByteArray.data_append]
theorem ext_app (a b : ByteArray) (k : Nat) (h : k ≤ a.size) : (a ++ b).extract 0 k = a.extract 0 k := by
  refine ba_eq ?_
  rw [ext_front, ext_front, app_data, List.take_append_of_le_length (by rw [bdata_length]; exact h)]
theorem ext_all (a : ByteArray) : a.extract 0 a.size = a := by
  refine ba_eq ?_
  rw [ext_front, ← bdata_length, List.take_length]
theorem ext_none (a : ByteArray) : a.extract 0 0 = nul := by
  refine ba_eq ?_
  rw [ext_front]; rfl
theorem nul_app (a : ByteArray) : nul ++ a = a := by
  refine ba_eq ?_
  rw [app_data]; rfl
theorem app_nul (a : ByteArray) : a ++ nul = a := by
  refine ba_eq ?_
  rw [app_data]
  show _ ++ [] = _
  rw [List.append_nil]
theorem ext_prefix (a : ByteArray) (i : Nat) : (a.extract 0 i).data.toList <+: a.data.toList := by
  rw [ext_front]; exact List.take_prefix _ _
theorem ext_prefix2 (a : ByteArray) {i j : Nat} (h : i ≤ j) : (a.extract 0 i).data.toList <+: (a.extract 0 j).data.toList := by
  rw [ext_front, ext_front]
  exact List.take_prefix_take_left h
theorem pass_free {D : DD} (h : D.left = -1) (l : List FF) : passV D l = (⟨l, -1⟩, 0) := by
  unfold passV
  rw [h]
  rfl

/-- Of a name, what was sure as it was made sure last. -/
structure Sur (p : ByteArray) (D : DD) (s : ByteArray) : Prop where
  free : D.left = -1
  here : ∀ f, at? D.files p = some f → s = f.data.extract 0 f.sure
  gone : at? D.files p = none → s = nul
theorem sur_new (p : ByteArray) : Sur p newV nul := ⟨rfl, fun f h => (by cases h), fun _ => rfl⟩
theorem append_free {D : DD} {q : ByteArray} (h : D.left = -1) (hq : q ≠ nul) (x : ByteArray) : appendV D q x = (⟨withF D.files (addF D.files q x), -1⟩, 0) := by
  unfold appendV
  rw [if_neg hq, pass_free h]
theorem addF_name (l : List FF) (p x : ByteArray) : (addF l p x).name = p := by
  unfold addF
  cases ha : at? l p with
  | none => rfl
  | some g => exact (show g.name = p from at_name ha)
theorem sur_append {n : Nat} {D : DD} {p s : ByteArray} (hf : Fit n D) (h : Sur p D s) (q x : ByteArray) : Sur p (appendV D q x).1 s := by
  by_cases hq : q = nul
  · unfold appendV; rw [if_pos hq]; exact h
  · rw [append_free h.free hq]
    have hat := withF_at hf.rise (addF D.files q x) p
    rw [addF_name] at hat
    by_cases e : q = p
    · subst e
      rw [if_pos rfl] at hat
      refine ⟨rfl, fun f hf2 => ?_, fun hn => by rw [hat] at hn; cases hn⟩
      rw [hat] at hf2
      cases hf2
      unfold addF
      cases ha : at? D.files q with
      | none =>
        rw [h.gone ha]
        show nul = (nul ++ x).extract 0 0
        rw [ext_none]
      | some g =>
        show s = (g.data ++ x).extract 0 g.sure
        rw [ext_app _ _ _ (hf.sure g (at_mem ha))]
        exact h.here g ha
    · rw [if_neg e] at hat
      exact ⟨rfl, fun f hf2 => h.here f (hat ▸ hf2), fun hn => h.gone (hat ▸ hn)⟩
theorem sync_at {n : Nat} {D : DD} (hf : Fit n D) (hl : D.left = -1) {q : ByteArray} {g : FF} (hq : q ≠ nul) (hg : at? D.files q = some g) : syncV D q = (⟨withF D.files ⟨g.name, g.data, g.data.size⟩, -1⟩, 0) ∧ ∀ p, at? (withF D.files ⟨g.name, g.data, g.data.size⟩) p = if q = p then some ⟨g.name, g.data, g.data.size⟩ else at? D.files p := by
  refine ⟨?_, fun p => ?_⟩
  · unfold syncV
    rw [if_neg hq, hg]
    exact pass_free hl _
  · rw [withF_at hf.rise]
    show (if g.name = p then _ else _) = _
    rw [at_name hg]
theorem sync_no {D : DD} {q : ByteArray} (h : (syncV D q).2 ≠ 0) (hl : D.left = -1) : (syncV D q).1 = D := by
  unfold syncV at h ⊢
  split
  · rfl
  · rename_i hq
    rw [if_neg hq] at h
    split
    · rfl
    · rename_i f hf
      rw [hf] at h
      simp only [pass_free hl] at h
      exact absurd rfl h
theorem sur_sync {n : Nat} {D : DD} {p s : ByteArray} (hf : Fit n D) (h : Sur p D s) (q : ByteArray) :
    Sur p (syncV D q).1 (if (syncV D q).2 = 0 ∧ q = p then (readV (syncV D q).1 p).1 else s) := by
  by_cases hq : q = nul
  · have e : syncV D q = (D, 1) := by unfold syncV; rw [if_pos hq]
    rw [e, if_neg (by simp)]
    exact h
  · cases hg : at? D.files q with
    | none =>
      have e : syncV D q = (D, 10) := by unfold syncV; rw [if_neg hq, hg]
      rw [e, if_neg (by simp)]
      exact h
    | some g =>
      obtain ⟨e, hat⟩ := sync_at hf h.free hq hg
      rw [e]
      by_cases e2 : q = p
      · rw [if_pos ⟨rfl, e2⟩]
        have ha := hat p
        rw [if_pos e2] at ha
        refine ⟨rfl, fun f h2 => ?_, fun hn => by rw [show (⟨withF D.files ⟨g.name, g.data, g.data.size⟩, -1⟩ : DD).files = _ from rfl, ha] at hn; cases hn⟩
        have h3 : some (⟨g.name, g.data, g.data.size⟩ : FF) = some f := ha.symm.trans h2
        cases h3
        unfold readV
        show (match at? (withF D.files ⟨g.name, g.data, g.data.size⟩) p with | none => (nul, 10) | some f => (f.data, 0)).1 = g.data.extract 0 g.data.size
        rw [ha, ext_all]
      · rw [if_neg (fun hc => e2 hc.2)]
        have ha := hat p
        rw [if_neg e2] at ha
        exact ⟨rfl, fun f h2 => h.here f (ha.symm.trans h2), fun hn => h.gone (ha.symm.trans hn)⟩
theorem sur_remove {n : Nat} {D : DD} {p s : ByteArray} (hf : Fit n D) (h : Sur p D s) (q : ByteArray) :
    Sur p (removeV D q).1 (if (removeV D q).2 = 0 ∧ q = p then nul else s) := by
  by_cases hq : q = nul
  · have e : removeV D q = (D, 1) := by unfold removeV; rw [if_pos hq]
    rw [e, if_neg (by simp)]
    exact h
  · cases hg : at? D.files q with
    | none =>
      have e : removeV D q = (D, 10) := by unfold removeV; rw [if_neg hq, hg]
      rw [e, if_neg (by simp)]
      exact h
    | some g =>
      have e : removeV D q = (⟨dropF D.files q, -1⟩, 0) := by
        unfold removeV; rw [if_neg hq, hg]; exact pass_free h.free _
      rw [e]
      have ha := dropF_at hf.rise q p
      by_cases e2 : q = p
      · rw [if_pos ⟨rfl, e2⟩]
        rw [if_pos e2] at ha
        exact ⟨rfl, fun f h2 => (by cases ha.symm.trans h2), fun _ => rfl⟩
      · rw [if_neg (fun hc => e2 hc.2)]
        rw [if_neg e2] at ha
        exact ⟨rfl, fun f h2 => h.here f (ha.symm.trans h2), fun hn => h.gone (ha.symm.trans hn)⟩
/-- What is sure is the beginning of what is behind a crash, and that of what was ahead. -/
theorem sur_crash {n : Nat} {D : DD} {p s : ByteArray} (hf : Fit n D) (h : Sur p D s) (f : FF) (hat : at? D.files p = some f) (ps : List Int) :
    ∃ x, at? (crashV D.files ps) p = some x ∧ s.data.toList <+: x.data.data.toList ∧ x.data.data.toList <+: f.data.data.toList := by
  obtain ⟨x, hx, ⟨h1, h2, h3⟩ | ⟨z, rfl, hs⟩⟩ := crash_at hf.rise ps p f hat
  · refine ⟨x, hx, ?_, by rw [h1]; exact List.prefix_refl _⟩
    rw [h1, h.here f hat]
    exact ext_prefix _ _
  · refine ⟨_, hx, ?_, ext_prefix _ _⟩
    rw [h.here f hat]
    exact ext_prefix2 _ (Nat.le_add_right _ _)

/-- A file for itself: it is as it was put there. -/
structure Own (p x y : ByteArray) (D : DD) : Prop where
  free : D.left = -1
  here : at? D.files p = some ⟨p, x ++ y, x.size⟩
theorem own_append {n : Nat} {D : DD} {p x y : ByteArray} (hf : Fit n D) (h : Own p x y D) (q z : ByteArray) (hq : q ≠ p) : Own p x y (appendV D q z).1 := by
  by_cases h0 : q = nul
  · unfold appendV; rw [if_pos h0]; exact h
  · rw [append_free h.free h0]
    refine ⟨rfl, ?_⟩
    show at? (withF _ _) p = _
    rw [withF_at hf.rise, addF_name, if_neg hq]
    exact h.here
theorem own_sync {n : Nat} {D : DD} {p x y : ByteArray} (hf : Fit n D) (h : Own p x y D) (q : ByteArray) (hq : q ≠ p) : Own p x y (syncV D q).1 := by
  by_cases h0 : q = nul
  · unfold syncV; rw [if_pos h0]; exact h
  · cases hg : at? D.files q with
    | none => unfold syncV; rw [if_neg h0, hg]; exact h
    | some g =>
      obtain ⟨e, hat⟩ := sync_at hf h.free h0 hg
      rw [e]
      refine ⟨rfl, ?_⟩
      show at? (withF _ _) p = _
      rw [hat, if_neg hq]
      exact h.here
theorem own_rename {n : Nat} {D : DD} {p x y : ByteArray} (hf : Fit n D) (h : Own p x y D) (q r : ByteArray) (hq : q ≠ p) (hr : r ≠ p) : Own p x y (renameV D q r).1 := by
  unfold renameV
  split
  · exact h
  · split
    · exact h
    · rw [pass_free h.free]
      refine ⟨rfl, ?_⟩
      show at? (withF _ _) p = _
      rw [withF_at (dropF_rise hf.rise q), if_neg hr, dropF_at hf.rise, if_neg hq]
      exact h.here
theorem own_remove {n : Nat} {D : DD} {p x y : ByteArray} (hf : Fit n D) (h : Own p x y D) (q : ByteArray) (hq : q ≠ p) : Own p x y (removeV D q).1 := by
  unfold removeV
  split
  · exact h
  · split
    · exact h
    · rw [pass_free h.free]
      refine ⟨rfl, ?_⟩
      show at? (dropF _ _) p = _
      rw [dropF_at hf.rise, if_neg hq]
      exact h.here
theorem crash_nil : ∀ (l : List FF) (f : FF), f ∈ l → f.sure ≤ f.data.size → ∃ x ∈ crashV l [], x.name = f.name ∧ x.data = f.data.extract 0 f.sure
  | [], f, h, _ => by simp at h
  | g :: t, f, h, hs => by
    unfold crashV
    rcases List.mem_cons.1 h with rfl | h
    · split
      · refine ⟨_, List.mem_cons_self, rfl, ?_⟩
        show f.data.extract 0 (f.sure + ((0 : Int) % _).toNat) = _
        rw [Int.zero_emod]
        rfl
      · refine ⟨_, List.mem_cons_self, rfl, ?_⟩
        rename_i hn
        rw [show f.sure = f.data.size by omega, ext_all]
    · obtain ⟨x, hx, r⟩ := crash_nil t f h hs
      split
      · exact ⟨x, List.mem_cons_of_mem _ hx, r⟩
      · exact ⟨x, List.mem_cons_of_mem _ hx, r⟩
theorem own_crash {n : Nat} {D : DD} {p x y : ByteArray} (hf : Fit n D) (h : Own p x y D) : ∃ g, at? (crashV D.files []) p = some g ∧ g.data = x := by
  obtain ⟨g, hg, e1, e2⟩ := crash_nil D.files _ (at_mem h.here) (hf.sure _ (at_mem h.here))
  refine ⟨g, (at_some (crash_rise hf.rise [])).2 ⟨hg, e1⟩, ?_⟩
  rw [e2]
  show (x ++ y).extract 0 x.size = x
  rw [ext_app _ _ _ (Nat.le_refl _), ext_all]

/-- A file of as many bytes as passed. -/
abbrev xs (k : Nat) : ByteArray := ⟨(List.replicate k 120).toArray⟩
abbrev fname : ByteArray := ⟨#[102]⟩
def budF (j : Nat) : List FF := if j = 0 then [] else [⟨fname, xs j, 0⟩]
def budD (n k : Nat) : DD := ⟨budF (min n k), (n : Int) - ((min n k : Nat) : Int)⟩
theorem budF_more (k : Nat) : withF (budF k) (addF (budF k) fname (xs 1)) = budF (k + 1) := by
  unfold budF
  rw [if_neg (show ¬ k + 1 = 0 by omega)]
  by_cases h0 : k = 0
  · subst h0
    rw [if_pos rfl]
    unfold withF addF at?
    simp only [List.find?_nil, Option.getD_none, List.filter_nil, List.nil_append, List.append_nil]
    rw [nul_app]
  · rw [if_neg h0]
    have e : addF [⟨fname, xs k, 0⟩] fname (xs 1) = ⟨fname, xs (k + 1), 0⟩ := by
      unfold addF
      rw [at_cons, if_pos rfl]
      show (FF.mk fname (xs k ++ xs 1) 0) = _
      congr 1
      refine ba_eq ?_
      rw [app_data]
      simp [List.replicate_succ']
    rw [e]
    have h1 : decide (nm (⟨fname, xs k, 0⟩ : FF) < nm ⟨fname, xs (k + 1), 0⟩) = false := decide_eq_false lt_no
    unfold withF
    rw [List.filter_cons, List.filter_cons, h1]
    rfl
theorem bud_step (n k : Nat) : appendV (budD n k) fname (xs 1) = (budD n (k + 1), if k < n then 0 else 18) := by
  have hne : fname ≠ nul := by decide
  unfold appendV passV budD
  rw [if_neg hne]
  by_cases hk : k < n
  · have m1 : min n k = k := by omega
    have m2 : min n (k + 1) = k + 1 := by omega
    rw [m1, m2, if_pos hk, if_neg (show ¬ (n : Int) - ((k : Nat) : Int) = 0 by omega), if_pos (show 0 < (n : Int) - ((k : Nat) : Int) by omega), budF_more]
    have e : (n : Int) - ((k : Nat) : Int) - 1 = (n : Int) - ((k + 1 : Nat) : Int) := by omega
    rw [← e]
  · have m1 : min n k = n := by omega
    have m2 : min n (k + 1) = n := by omega
    rw [m1, m2, if_neg hk, if_pos (show (n : Int) - ((n : Nat) : Int) = 0 by omega)]
theorem bud_at (n k : Nat) (p : ByteArray) (hp : p ≠ fname) : at? (budD n k).files p = none := by
  refine at_none.2 fun f hf e => ?_
  unfold budD budF at hf
  split at hf
  · simp at hf
  · rw [List.mem_singleton.1 hf] at e
    exact hp e.symm
theorem bud_read (n k : Nat) : readV (budD n k) fname = (xs (min n k), if 0 < min n k then 0 else 10) := by
  unfold readV budD budF
  by_cases h : min n k = 0
  · rw [if_pos h, h]
    rfl
  · rw [if_neg h, if_pos (by omega), at_cons, if_pos rfl]
theorem bud_fit (n k : Nat) (hn : n ≤ 255) (hk : k ≤ 255) : Fit 300 (budD n k) := by
  have hm : ∀ f ∈ (budD n k).files, f = ⟨fname, xs (min n k), 0⟩ := fun f hf => by
    unfold budD budF at hf
    split at hf
    · simp at hf
    · exact List.mem_singleton.1 hf
  have hl : (budD n k).files.length ≤ 1 := by unfold budD budF; split <;> simp
  refine ⟨?_, fun f hf => by rw [hm f hf]; exact Nat.zero_le _, fun f hf => ?_, by omega, ?_, ?_⟩
  · unfold budD budF
    split
    · exact List.Pairwise.nil
    · exact List.pairwise_singleton _ _
  · rw [hm f hf]
    show (List.replicate (min n k) 120).toArray.size ≤ 300
    simp
    omega
  · show (-1 : Int) ≤ (n : Int) - ((min n k : Nat) : Int)
    omega
  · show (n : Int) - ((min n k : Nat) : Int) ≤ 9223372036854775807
    omega
end Dk
end Go.Proofs.Yteikfdijcepimaa
