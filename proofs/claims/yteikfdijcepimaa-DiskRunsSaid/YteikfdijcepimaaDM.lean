/-
  Layer 7 (disk): a disk as a rising list of files and a budget: no program, no world.
-/
import Derived.WalkKit
namespace Go.Proofs.Yteikfdijcepimaa
namespace Dk

abbrev Bs := List UInt8
abbrev nul : ByteArray := ⟨#[]⟩
/-- A file: its name, its bytes, how many of them are sure. -/
structure FF where
  name : ByteArray
  data : ByteArray
  sure : Nat
abbrev nm (f : FF) : Bs := f.name.data.toList
/-- A disk: its files, and how many writing calls may pass. -/
structure DD where
  files : List FF
  left : Int

theorem ba_eq {a b : ByteArray} (h : a.data.toList = b.data.toList) : a = b := by
  obtain ⟨⟨a⟩⟩ := a; obtain ⟨⟨b⟩⟩ := b
  have e : a = b := h
  rw [e]
theorem lt_of {a b : Bs} (h : a ≤ b) (hn : a ≠ b) : a < b := by
  rcases Decidable.em (a < b) with h1 | h1
  · exact h1
  · exact absurd (List.le_antisymm h (List.not_lt.1 h1)) hn
theorem lt_no {a : Bs} : ¬ a < a := List.lt_irrefl a
theorem le_of {a b : Bs} (h : a < b) : a ≤ b := List.le_of_lt h
theorem lt_le {a b c : Bs} (h : a < b) (h2 : b ≤ c) : a < c := by
  refine lt_of (List.le_trans (le_of h) h2) (fun e => ?_)
  subst e
  exact (List.not_lt.2 h2) h
theorem lt_lt {a b c : Bs} (h : a < b) (h2 : b < c) : a < c := lt_le h (le_of h2)
theorem ne_of {a b : Bs} (h : a < b) : a ≠ b := fun e => by subst e; exact lt_no h
theorem tri (a b : Bs) : a < b ∨ a = b ∨ b < a := by
  by_cases h : a < b
  · exact .inl h
  · by_cases e : a = b
    · exact .inr (.inl e)
    · exact .inr (.inr (lt_of (List.not_lt.1 h) (Ne.symm e)))

abbrev Rise (l : List FF) : Prop := l.Pairwise (fun a b => nm a < nm b)
/-- The file of a name. -/
def at? (l : List FF) (p : ByteArray) : Option FF := l.find? (fun f => decide (f.name = p))
theorem at_nil (p : ByteArray) : at? [] p = none := rfl
theorem at_cons (f : FF) (l : List FF) (p : ByteArray) : at? (f :: l) p = if f.name = p then some f else at? l p := by
  unfold at?
  rw [List.find?_cons]
  by_cases h : f.name = p
  · rw [if_pos h, decide_eq_true h]
  · rw [if_neg h, decide_eq_false h]
theorem at_none {l : List FF} {p : ByteArray} : at? l p = none ↔ ∀ f ∈ l, f.name ≠ p := by
  unfold at?
  rw [List.find?_eq_none]
  exact ⟨fun h f hf e => by simpa [e] using h f hf, fun h f hf => by simpa using h f hf⟩
theorem at_name {l : List FF} {p : ByteArray} {f : FF} (h : at? l p = some f) : f.name = p := by
  have := List.find?_some h
  simpa using this
theorem at_mem {l : List FF} {p : ByteArray} {f : FF} (h : at? l p = some f) : f ∈ l := List.mem_of_find?_eq_some h
theorem rise_same {l : List FF} (h : Rise l) {f g : FF} (hf : f ∈ l) (hg : g ∈ l) (e : f.name = g.name) : f = g := by
  induction l with
  | nil => simp at hf
  | cons x l ih =>
    obtain ⟨h1, h2⟩ := List.pairwise_cons.1 h
    rcases List.mem_cons.1 hf with e1 | hf2 <;> rcases List.mem_cons.1 hg with e2 | hg2
    · rw [e1, e2]
    · subst e1; exact absurd (show nm f = nm g by unfold nm; rw [e]) (ne_of (h1 g hg2))
    · subst e2; exact absurd (show nm g = nm f by unfold nm; rw [e]) (ne_of (h1 f hf2))
    · exact ih h2 hf2 hg2
theorem at_some {l : List FF} (h : Rise l) {p : ByteArray} {f : FF} : at? l p = some f ↔ f ∈ l ∧ f.name = p := by
  constructor
  · exact fun e => ⟨at_mem e, at_name e⟩
  · rintro ⟨hm, e⟩
    cases ha : at? l p with
    | none => exact absurd e (at_none.1 ha f hm)
    | some g => rw [rise_same h (at_mem ha) hm ((at_name ha).trans e.symm)]
theorem rise_nodup {l : List FF} (h : Rise l) : l.Nodup := h.imp (fun hab e => by subst e; exact lt_no hab)
theorem rise_ext {s t : List FF} (hs : Rise s) (ht : Rise t) (h : ∀ p, at? s p = at? t p) : s = t := by
  have hm : ∀ f, f ∈ s ↔ f ∈ t := fun f => by
    constructor
    · intro hf
      exact ((at_some ht).1 ((h f.name) ▸ (at_some hs).2 ⟨hf, rfl⟩)).1
    · intro hf
      exact ((at_some hs).1 ((h f.name).symm ▸ (at_some ht).2 ⟨hf, rfl⟩)).1
  exact List.Perm.eq_of_pairwise (le := fun a b => nm a < nm b) (fun a b _ _ h1 h2 => absurd (lt_lt h1 h2) lt_no) hs ht ((List.perm_ext_iff_of_nodup (rise_nodup hs) (rise_nodup ht)).2 hm)

/-- With a file more, in place of that of its name. -/
def withF (l : List FF) (f : FF) : List FF := l.filter (fun x => decide (nm x < nm f)) ++ [f] ++ l.filter (fun x => decide (nm f < nm x))
/-- Without the file of a name. -/
def dropF (l : List FF) (p : ByteArray) : List FF := l.filter (fun x => decide (x.name ≠ p))
theorem withF_mem (l : List FF) (f x : FF) : x ∈ withF l f ↔ x = f ∨ (x ∈ l ∧ x.name ≠ f.name) := by
  unfold withF
  simp only [List.mem_append, List.mem_filter, List.mem_singleton, decide_eq_true_eq]
  constructor
  · rintro ((⟨h, h2⟩ | h) | ⟨h, h2⟩)
    · exact .inr ⟨h, fun e => ne_of h2 (by unfold nm; rw [e])⟩
    · exact .inl h
    · exact .inr ⟨h, fun e => ne_of h2 (by unfold nm; rw [e])⟩
  · rintro (h | ⟨h, h2⟩)
    · exact .inl (.inr h)
    · rcases tri (nm x) (nm f) with h3 | h3 | h3
      · exact .inl (.inl ⟨h, h3⟩)
      · exact absurd (ba_eq h3) h2
      · exact .inr ⟨h, h3⟩
theorem withF_rise {l : List FF} (h : Rise l) (f : FF) : Rise (withF l f) := by
  unfold withF
  have h1 : Rise (l.filter (fun x => decide (nm x < nm f))) := h.filter _
  have h2 : Rise (l.filter (fun x => decide (nm f < nm x))) := h.filter _
  refine List.pairwise_append.2 ⟨List.pairwise_append.2 ⟨h1, List.pairwise_singleton _ _, fun a ha b hb => ?_⟩, h2, fun a ha b hb => ?_⟩
  · rw [List.mem_singleton.1 hb]
    simpa using (List.mem_filter.1 ha).2
  · have hb2 : nm f < nm b := by simpa using (List.mem_filter.1 hb).2
    rcases List.mem_append.1 ha with ha | ha
    · exact lt_lt (by simpa using (List.mem_filter.1 ha).2) hb2
    · rw [List.mem_singleton.1 ha]; exact hb2
theorem withF_few (l : List FF) (f : FF) : (withF l f).length ≤ (dropF l f.name).length + 1 := by
  unfold withF
  have h : ∀ t : List FF, (t.filter (fun x => decide (nm x < nm f))).length + (t.filter (fun x => decide (nm f < nm x))).length ≤ (dropF t f.name).length := fun t => by
    unfold dropF
    induction t with
    | nil => simp
    | cons x t ih =>
      simp only [List.filter_cons]
      rcases tri (nm x) (nm f) with h1 | h1 | h1
      · have h2 : ¬ nm f < nm x := fun h2 => lt_no (lt_lt h1 h2)
        have h3 : x.name ≠ f.name := fun e => ne_of h1 (by unfold nm; rw [e])
        rw [decide_eq_true h1, decide_eq_false h2, decide_eq_true h3]
        simp only [if_true, Bool.false_eq_true, if_false, List.length_cons]
        omega
      · have h3 : ¬ x.name ≠ f.name := fun h => h (ba_eq h1)
        have h2 : ¬ nm f < nm x := fun h => ne_of h h1.symm
        have h4 : ¬ nm x < nm f := fun h => ne_of h h1
        rw [decide_eq_false h2, decide_eq_false h3, decide_eq_false h4]
        simpa using ih
      · have h2 : ¬ nm x < nm f := fun h2 => lt_no (lt_lt h1 h2)
        have h3 : x.name ≠ f.name := fun e => ne_of h1 (by unfold nm; rw [e])
        rw [decide_eq_true h1, decide_eq_false h2, decide_eq_true h3]
        simp only [if_true, Bool.false_eq_true, if_false, List.length_cons]
        omega
  have := h l
  simp only [List.length_append, List.length_singleton]
  omega
theorem dropF_len (l : List FF) (p : ByteArray) : (dropF l p).length ≤ l.length := List.length_filter_le _ _
theorem withF_len (l : List FF) (f : FF) : (withF l f).length ≤ l.length + 1 := by
  have := withF_few l f
  have := dropF_len l f.name
  omega
theorem withF_at {l : List FF} (h : Rise l) (f : FF) (p : ByteArray) : at? (withF l f) p = if f.name = p then some f else at? l p := by
  by_cases e : f.name = p
  · rw [if_pos e]
    exact (at_some (withF_rise h f)).2 ⟨(withF_mem l f f).2 (.inl rfl), e⟩
  · rw [if_neg e]
    cases ha : at? l p with
    | none =>
      refine at_none.2 fun x hx e2 => ?_
      rcases (withF_mem l f x).1 hx with rfl | ⟨h1, _⟩
      · exact e e2
      · exact at_none.1 ha x h1 e2
    | some g =>
      refine (at_some (withF_rise h f)).2 ⟨(withF_mem l f g).2 (.inr ⟨at_mem ha, ?_⟩), at_name ha⟩
      rw [at_name ha]
      exact fun e2 => e e2.symm
theorem dropF_rise {l : List FF} (h : Rise l) (p : ByteArray) : Rise (dropF l p) := h.filter _
theorem dropF_mem (l : List FF) (p : ByteArray) (x : FF) : x ∈ dropF l p ↔ x ∈ l ∧ x.name ≠ p := by unfold dropF; rw [List.mem_filter]; simp
theorem dropF_at {l : List FF} (h : Rise l) (p q : ByteArray) : at? (dropF l p) q = if p = q then none else at? l q := by
  by_cases e : p = q
  · rw [if_pos e]
    exact at_none.2 fun x hx => e ▸ ((dropF_mem l p x).1 hx).2
  · rw [if_neg e]
    cases ha : at? l q with
    | none => exact at_none.2 fun x hx => at_none.1 ha x ((dropF_mem l p x).1 hx).1
    | some g => exact (at_some (dropF_rise h p)).2 ⟨(dropF_mem l p g).2 ⟨at_mem ha, fun e2 => e (e2.symm.trans (at_name ha))⟩, at_name ha⟩

theorem drop_lt {l : List FF} {p : ByteArray} {g : FF} (h : at? l p = some g) : (dropF l p).length < l.length := by
  refine Nat.lt_of_le_of_ne (dropF_len l p) fun e => ?_
  have := List.length_filter_eq_length_iff.1 e g (at_mem h)
  simp [at_name h] at this

/-- A writing call passes. -/
def passV (D : DD) (l : List FF) : DD × Nat := if D.left = 0 then (D, 18) else (⟨l, if 0 < D.left then D.left - 1 else D.left⟩, 0)
def addF (l : List FF) (p x : ByteArray) : FF := { (at? l p).getD ⟨p, nul, 0⟩ with data := ((at? l p).getD ⟨p, nul, 0⟩).data ++ x }
def appendV (D : DD) (p x : ByteArray) : DD × Nat := if p = nul then (D, 1) else passV D (withF D.files (addF D.files p x))
def syncV (D : DD) (p : ByteArray) : DD × Nat := if p = nul then (D, 1) else match at? D.files p with
  | none => (D, 10)
  | some f => passV D (withF D.files ⟨f.name, f.data, f.data.size⟩)
def renameV (D : DD) (p q : ByteArray) : DD × Nat := if p = nul ∨ q = nul then (D, 1) else match at? D.files p with
  | none => (D, 10)
  | some f => passV D (withF (dropF D.files p) ⟨q, f.data, f.sure⟩)
def removeV (D : DD) (p : ByteArray) : DD × Nat := if p = nul then (D, 1) else match at? D.files p with
  | none => (D, 10)
  | some _ => passV D (dropF D.files p)
def readV (D : DD) (p : ByteArray) : ByteArray × Nat := match at? D.files p with
  | none => (nul, 10)
  | some f => (f.data, 0)
def budgetV (D : DD) (n : Int) : DD := ⟨D.files, if n < 0 then -1 else n⟩
def cutV (f : FF) (z : Int) : FF := ⟨f.name, f.data.extract 0 (f.sure + (z % ((f.data.size : Int) - f.sure + 1)).toNat), f.sure + (z % ((f.data.size : Int) - f.sure + 1)).toNat⟩
def crashV : List FF → List Int → List FF
  | [], _ => []
  | f :: t, ps => if f.sure < f.data.size then cutV f (ps.headD 0) :: crashV t ps.tail else ⟨f.name, f.data, f.data.size⟩ :: crashV t ps
def newV : DD := ⟨[], -1⟩

/-- What a disk may be here: no text longer than n, no more files. -/
structure Fit (n : Nat) (D : DD) : Prop where
  rise : Rise D.files
  sure : ∀ f ∈ D.files, f.sure ≤ f.data.size
  size : ∀ f ∈ D.files, f.data.size ≤ n
  len : D.files.length ≤ n
  low : -1 ≤ D.left
  high : D.left ≤ 9223372036854775807
theorem fit_new (n : Nat) : Fit n newV := ⟨List.Pairwise.nil, fun f h => by simp [newV] at h, fun f h => by simp [newV] at h, by simp [newV], by decide, by decide⟩
theorem Fit.more {n m : Nat} {D : DD} (h : Fit n D) (hm : n ≤ m) : Fit m D := ⟨h.rise, h.sure, fun f hf => Nat.le_trans (h.size f hf) hm, Nat.le_trans h.len hm, h.low, h.high⟩
theorem fit_pass {n : Nat} {D : DD} {l : List FF} (h : Fit n D) (h1 : Rise l) (h2 : ∀ f ∈ l, f.sure ≤ f.data.size ∧ f.data.size ≤ n) (h3 : l.length ≤ n) : Fit n (passV D l).1 := by
  unfold passV
  split
  · exact h
  · have := h.low
    have := h.high
    refine ⟨h1, fun f hf => (h2 f hf).1, fun f hf => (h2 f hf).2, h3, ?_, ?_⟩
    · show (-1 : Int) ≤ if 0 < D.left then D.left - 1 else D.left
      split <;> omega
    · show (if 0 < D.left then D.left - 1 else D.left) ≤ (9223372036854775807 : Int)
      split <;> omega
theorem ba_size_append (a b : ByteArray) : (a ++ b).size = a.size + b.size := ByteArray.size_append
theorem fit_append {n : Nat} {D : DD} (h : Fit n D) (p x : ByteArray) : Fit (n + x.size + 1) (appendV D p x).1 := by
  have hm := h.more (show n ≤ n + x.size + 1 by omega)
  unfold appendV
  split
  · exact hm
  · refine fit_pass hm (withF_rise h.rise _) (fun f hf => ?_) (by have := withF_len D.files (addF D.files p x); have := h.len; omega)
    rcases (withF_mem _ _ f).1 hf with rfl | ⟨h1, _⟩
    · unfold addF
      cases ha : at? D.files p with
      | none =>
        refine ⟨Nat.zero_le _, ?_⟩
        show (nul ++ x).size ≤ _
        rw [ba_size_append]
        show 0 + x.size ≤ _
        omega
      | some g =>
        have h1 := h.sure g (at_mem ha)
        have h2 := h.size g (at_mem ha)
        refine ⟨?_, ?_⟩
        · show g.sure ≤ (g.data ++ x).size
          rw [ba_size_append]; omega
        · show (g.data ++ x).size ≤ _
          rw [ba_size_append]; omega
    · exact ⟨h.sure f h1, hm.size f h1⟩
theorem fit_sync {n : Nat} {D : DD} (h : Fit n D) (p : ByteArray) : Fit n (syncV D p).1 := by
  unfold syncV
  split
  · exact h
  · split
    · exact h
    · rename_i g ha
      have hmem : ∀ x ∈ withF D.files ⟨g.name, g.data, g.data.size⟩, x = ⟨g.name, g.data, g.data.size⟩ ∨ x ∈ D.files := fun x hx => ((withF_mem _ _ x).1 hx).imp id (·.1)
      refine fit_pass h (withF_rise h.rise _) (fun f hf => ?_) ?_
      · rcases hmem f hf with rfl | h1
        · exact ⟨Nat.le_refl _, h.size g (at_mem ha)⟩
        · exact ⟨h.sure f h1, h.size f h1⟩
      · have h1 : (withF D.files ⟨g.name, g.data, g.data.size⟩).length ≤ (dropF D.files g.name).length + 1 := withF_few D.files ⟨g.name, g.data, g.data.size⟩
        have := drop_lt ((at_name ha).symm ▸ ha)
        have := h.len
        omega
theorem fit_drop {n : Nat} {D : DD} (h : Fit n D) (p : ByteArray) : Fit n ⟨dropF D.files p, D.left⟩ :=
  ⟨dropF_rise h.rise p, fun f hf => h.sure f ((dropF_mem _ _ f).1 hf).1, fun f hf => h.size f ((dropF_mem _ _ f).1 hf).1, Nat.le_trans (dropF_len _ _) h.len, h.low, h.high⟩
theorem fit_rename {n : Nat} {D : DD} (h : Fit n D) (p q : ByteArray) : Fit n (renameV D p q).1 := by
  unfold renameV
  split
  · exact h
  · split
    · exact h
    · rename_i g ha
      refine fit_pass h (withF_rise (dropF_rise h.rise p) _) (fun f hf => ?_) ?_
      · rcases (withF_mem _ _ f).1 hf with rfl | ⟨h1, _⟩
        · exact ⟨h.sure g (at_mem ha), h.size g (at_mem ha)⟩
        · exact ⟨h.sure f ((dropF_mem _ _ f).1 h1).1, h.size f ((dropF_mem _ _ f).1 h1).1⟩
      · have := withF_len (dropF D.files p) ⟨q, g.data, g.sure⟩
        have := drop_lt ha
        have := h.len
        omega
theorem fit_remove {n : Nat} {D : DD} (h : Fit n D) (p : ByteArray) : Fit n (removeV D p).1 := by
  unfold removeV
  split
  · exact h
  · split
    · exact h
    · have hd := fit_drop h p
      exact fit_pass h hd.rise (fun f hf => ⟨hd.sure f hf, hd.size f hf⟩) hd.len
theorem fit_budget {n : Nat} {D : DD} (h : Fit n D) (z : Int) (hz : z ≤ 9223372036854775807) : Fit n (budgetV D z) := by
  refine ⟨h.rise, h.sure, h.size, h.len, ?_, ?_⟩
  · show (-1 : Int) ≤ if z < 0 then -1 else z
    split <;> omega
  · show (if z < 0 then -1 else z) ≤ (9223372036854775807 : Int)
    split <;> omega
theorem cut_le (f : FF) (z : Int) (h : f.sure ≤ f.data.size) : f.sure + (z % ((f.data.size : Int) - f.sure + 1)).toNat ≤ f.data.size := by
  have h1 := Int.emod_lt_of_pos z (show (0 : Int) < (f.data.size : Int) - f.sure + 1 by omega)
  omega
theorem cut_size (f : FF) (z : Int) (h : f.sure ≤ f.data.size) : (cutV f z).data.size = (cutV f z).sure := by
  show (f.data.extract 0 _).size = _
  rw [ByteArray.size_extract, Nat.min_eq_left (cut_le f z h)]
  rfl
theorem crash_mem : ∀ (l : List FF) (ps : List Int) (x : FF), x ∈ crashV l ps → ∃ f ∈ l, x.name = f.name ∧ ((x.data = f.data ∧ x.sure = f.data.size ∧ f.data.size ≤ f.sure) ∨ ∃ z, x = cutV f z ∧ f.sure < f.data.size)
  | [], ps, x, h => by simp [crashV] at h
  | f :: t, ps, x, h => by
    unfold crashV at h
    split at h
    · rename_i hs
      rcases List.mem_cons.1 h with rfl | h
      · exact ⟨f, List.mem_cons_self, rfl, .inr ⟨_, rfl, hs⟩⟩
      · obtain ⟨g, hg, r⟩ := crash_mem t _ x h
        exact ⟨g, List.mem_cons_of_mem _ hg, r⟩
    · rename_i hs
      rcases List.mem_cons.1 h with rfl | h
      · exact ⟨f, List.mem_cons_self, rfl, .inl ⟨rfl, rfl, Nat.not_lt.1 hs⟩⟩
      · obtain ⟨g, hg, r⟩ := crash_mem t _ x h
        exact ⟨g, List.mem_cons_of_mem _ hg, r⟩
theorem crash_names : ∀ (l : List FF) (ps : List Int), (crashV l ps).map (·.name) = l.map (·.name)
  | [], ps => rfl
  | f :: t, ps => by
    unfold crashV
    split
    · rw [List.map_cons, List.map_cons, crash_names t]; rfl
    · rw [List.map_cons, List.map_cons, crash_names t]
theorem crash_rise {l : List FF} (h : Rise l) (ps : List Int) : Rise (crashV l ps) := by
  have e : ∀ t : List FF, Rise t ↔ (t.map (·.name)).Pairwise (fun a b => a.data.toList < b.data.toList) := fun t => by rw [List.pairwise_map]
  rw [e, crash_names, ← e]
  exact h
theorem fit_crash {n : Nat} {D : DD} (h : Fit n D) (ps : List Int) : Fit n ⟨crashV D.files ps, -1⟩ := by
  refine ⟨crash_rise h.rise ps, fun x hx => ?_, fun x hx => ?_, ?_, by show (-1 : Int) ≤ -1; decide, by show (-1 : Int) ≤ 9223372036854775807; decide⟩
  · obtain ⟨f, hf, _, ⟨h1, h2, _⟩ | ⟨z, rfl, hs⟩⟩ := crash_mem _ _ x hx
    · rw [h1, h2]; exact Nat.le_refl _
    · rw [cut_size f z (h.sure f hf)]; exact Nat.le_refl _
  · obtain ⟨f, hf, _, ⟨h1, h2, _⟩ | ⟨z, rfl, hs⟩⟩ := crash_mem _ _ x hx
    · rw [h1]; exact h.size f hf
    · rw [cut_size f z (h.sure f hf)]
      exact Nat.le_trans (cut_le f z (h.sure f hf)) (h.size f hf)
  · have := congrArg List.length (crash_names D.files ps)
    simp only [List.length_map] at this
    show (crashV D.files ps).length ≤ n
    rw [this]; exact h.len
theorem crash_at {l : List FF} (h : Rise l) (ps : List Int) (p : ByteArray) (f : FF) (hf : at? l p = some f) : ∃ x, at? (crashV l ps) p = some x ∧ ((x.data = f.data ∧ x.sure = f.data.size ∧ f.data.size ≤ f.sure) ∨ ∃ z, x = cutV f z ∧ f.sure < f.data.size) := by
  have hm : p ∈ (crashV l ps).map (·.name) := by
    rw [crash_names]
    exact List.mem_map.2 ⟨f, at_mem hf, at_name hf⟩
  obtain ⟨x, hx, hp⟩ := List.mem_map.1 hm
  refine ⟨x, (at_some (crash_rise h ps)).2 ⟨hx, hp⟩, ?_⟩
  obtain ⟨g, hg, e, r⟩ := crash_mem _ _ x hx
  have : g = f := rise_same h hg (at_mem hf) (by rw [← e, hp, at_name hf])
  rw [← this]
  exact r
end Dk
end Go.Proofs.Yteikfdijcepimaa
