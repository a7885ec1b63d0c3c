/-
  Layer 7 (disk): a disk as a rising list of files and a budget: no program, no world. Layer 7 (disk): what is sure stays, each file for itself, budgets: no program, no world.
-/
import Derived.WalkKit
namespace Go.Proofs.YtogpigfepebibaaGreatDoor
namespace Dk

abbrev Bs := List UInt8
abbrev nul : ByteArray := ⟨#[]⟩
/-- A file: its name, its bytes, how many of them are sure. -/
structure FF where
  name : ByteArray
  data : ByteArray
  sure : Nat
abbrev nm (f : FF) : Bs := f.name.data.toList
/-- A disk: its files, and how many writing calls may pass. -/
structure DD where
  files : List FF
  left : Int

theorem ba_eq {a b : ByteArray} (h : a.data.toList = b.data.toList) : a = b := by
  obtain ⟨⟨a⟩⟩ := a; obtain ⟨⟨b⟩⟩ := b
  have e : a = b := h
  rw [e]
theorem lt_of {a b : Bs} (h : a ≤ b) (hn : a ≠ b) : a < b := by
  rcases Decidable.em (a < b) with h1 | h1
  · exact h1
  · exact absurd (List.le_antisymm h (List.not_lt.1 h1)) hn
theorem lt_no {a : Bs} : ¬ a < a := List.lt_irrefl a
theorem le_of {a b : Bs} (h : a < b) : a ≤ b := List.le_of_lt h
theorem lt_le {a b c : Bs} (h : a < b) (h2 : b ≤ c) : a < c := by
  refine lt_of (List.le_trans (le_of h) h2) (fun e => ?_)
  subst e
  exact (List.not_lt.2 h2) h
theorem lt_lt {a b c : Bs} (h : a < b) (h2 : b < c) : a < c := lt_le h (le_of h2)
theorem ne_of {a b : Bs} (h : a < b) : a ≠ b := fun e => by subst e; exact lt_no h
theorem tri (a b : Bs) : a < b ∨ a = b ∨ b < a := by
  by_cases h : a < b
  · exact .inl h
  · by_cases e : a = b
    · exact .inr (.inl e)
    · exact .inr (.inr (lt_of (List.not_lt.1 h) (Ne.symm e)))

abbrev Rise (l : List FF) : Prop := l.Pairwise (fun a b => nm a < nm b)
/-- The file of a name. -/
def at? (l : List FF) (p : ByteArray) : Option FF := l.find? (fun f => decide (f.name = p))
theorem at_nil (p : ByteArray) : at? [] p = none := rfl
theorem at_cons (f : FF) (l : List FF) (p : ByteArray) : at? (f :: l) p = if f.name = p then some f else at? l p := by
  unfold at?
  rw [List.find?_cons]
  by_cases h : f.name = p
  · rw [if_pos h, decide_eq_true h]
  · rw [if_neg h, decide_eq_false h]
theorem at_none {l : List FF} {p : ByteArray} : at? l p = none ↔ ∀ f ∈ l, f.name ≠ p := by
  unfold at?
  rw [List.find?_eq_none]
  exact ⟨fun h f hf e => by simpa [e] using h f hf, fun h f hf => by simpa using h f hf⟩
theorem at_name {l : List FF} {p : ByteArray} {f : FF} (h : at? l p = some f) : f.name = p := by
  have := List.find?_some h
  simpa using this
theorem at_mem {l : List FF} {p : ByteArray} {f : FF} (h : at? l p = some f) : f ∈ l := List.mem_of_find?_eq_some h
theorem rise_same {l : List FF} (h : Rise l) {f g : FF} (hf : f ∈ l) (hg : g ∈ l) (e : f.name = g.name) : f = g := by
  induction l with
  | nil => simp at hf
  | cons x l ih =>
    obtain ⟨h1, h2⟩ := List.pairwise_cons.1 h
    rcases List.mem_cons.1 hf with e1 | hf2 <;> rcases List.mem_cons.1 hg with e2 | hg2
    · rw [e1, e2]
    · subst e1; exact absurd (show nm f = nm g by unfold nm; rw [e]) (ne_of (h1 g hg2))
    · subst e2; exact absurd (show nm g = nm f by unfold nm; rw [e]) (ne_of (h1 f hf2))
    · exact ih h2 hf2 hg2
theorem at_some {l : List FF} (h : Rise l) {p : ByteArray} {f : FF} : at? l p = some f ↔ f ∈ l ∧ f.name = p := by
  constructor
  · exact fun e => ⟨at_mem e, at_name e⟩
  · rintro ⟨hm, e⟩
    cases ha : at? l p with
    | none => exact absurd e (at_none.1 ha f hm)
    | some g => rw [rise_same h (at_mem ha) hm ((at_name ha).trans e.symm)]
theorem rise_nodup {l : List FF} (h : Rise l) : l.Nodup := h.imp (fun hab e => by subst e; exact lt_no hab)
theorem rise_ext {s t : List FF} (hs : Rise s) (ht : Rise t) (h : ∀ p, at? s p = at? t p) : s = t := by
  have hm : ∀ f, f ∈ s ↔ f ∈ t := fun f => by
    constructor
    · intro hf
      exact ((at_some ht).1 ((h f.name) ▸ (at_some hs).2 ⟨hf, rfl⟩)).1
    · intro hf
      exact ((at_some hs).1 ((h f.name).symm ▸ (at_some ht).2 ⟨hf, rfl⟩)).1
  exact List.Perm.eq_of_pairwise (le := fun a b => nm a < nm b) (fun a b _ _ h1 h2 => absurd (lt_lt h1 h2) lt_no) hs ht ((List.perm_ext_iff_of_nodup (rise_nodup hs) (rise_nodup ht)).2 hm)

/-- With a file more, in place of that of its name. -/
def withF (l : List FF) (f : FF) : List FF := l.filter (fun x => decide (nm x < nm f)) ++ [f] ++ l.filter (fun x => decide (nm f < nm x))
/-- Without the file of a name. -/
def dropF (l : List FF) (p : ByteArray) : List FF := l.filter (fun x => decide (x.name ≠ p))
theorem withF_mem (l : List FF) (f x : FF) : x ∈ withF l f ↔ x = f ∨ (x ∈ l ∧ x.name ≠ f.name) := by
  unfold withF
  simp only [List.mem_append, List.mem_filter, List.mem_singleton, decide_eq_true_eq]
  constructor
  · rintro ((⟨h, h2⟩ | h) | ⟨h, h2⟩)
    · exact .inr ⟨h, fun e => ne_of h2 (by unfold nm; rw [e])⟩
    · exact .inl h
    · exact .inr ⟨h, fun e => ne_of h2 (by unfold nm; rw [e])⟩
  · rintro (h | ⟨h, h2⟩)
    · exact .inl (.inr h)
    · rcases tri (nm x) (nm f) with h3 | h3 | h3
      · exact .inl (.inl ⟨h, h3⟩)
      · exact absurd (ba_eq h3) h2
      · exact .inr ⟨h, h3⟩
theorem withF_rise {l : List FF} (h : Rise l) (f : FF) : Rise (withF l f) := by
  unfold withF
  have h1 : Rise (l.filter (fun x => decide (nm x < nm f))) := h.filter _
  have h2 : Rise (l.filter (fun x => decide (nm f < nm x))) := h.filter _
  refine List.pairwise_append.2 ⟨List.pairwise_append.2 ⟨h1, List.pairwise_singleton _ _, fun a ha b hb => ?_⟩, h2, fun a ha b hb => ?_⟩
  · rw [List.mem_singleton.1 hb]
    simpa using (List.mem_filter.1 ha).2
  · have hb2 : nm f < nm b := by simpa using (List.mem_filter.1 hb).2
    rcases List.mem_append.1 ha with ha | ha
    · exact lt_lt (by simpa using (List.mem_filter.1 ha).2) hb2
    · rw [List.mem_singleton.1 ha]; exact hb2
theorem withF_few (l : List FF) (f : FF) : (withF l f).length ≤ (dropF l f.name).length + 1 := by
  unfold withF
  have h : ∀ t : List FF, (t.filter (fun x => decide (nm x < nm f))).length + (t.filter (fun x => decide (nm f < nm x))).length ≤ (dropF t f.name).length := fun t => by
    unfold dropF
    induction t with
    | nil => simp
    | cons x t ih =>
      simp only [List.filter_cons]
      rcases tri (nm x) (nm f) with h1 | h1 | h1
      · have h2 : ¬ nm f < nm x := fun h2 => lt_no (lt_lt h1 h2)
        have h3 : x.name ≠ f.name := fun e => ne_of h1 (by unfold nm; rw [e])
        rw [decide_eq_true h1, decide_eq_false h2, decide_eq_true h3]
        simp only [if_true, Bool.false_eq_true, if_false, List.length_cons]
        omega
      · have h3 : ¬ x.name ≠ f.name := fun h => h (ba_eq h1)
        have h2 : ¬ nm f < nm x := fun h => ne_of h h1.symm
        have h4 : ¬ nm x < nm f := fun h => ne_of h h1
        rw [decide_eq_false h2, decide_eq_false h3, decide_eq_false h4]
        simpa using ih
      · have h2 : ¬ nm x < nm f := fun h2 => lt_no (lt_lt h1 h2)
        have h3 : x.name ≠ f.name := fun e => ne_of h1 (by unfold nm; rw [e])
        rw [decide_eq_true h1, decide_eq_false h2, decide_eq_true h3]
        simp only [if_true, Bool.false_eq_true, if_false, List.length_cons]
        omega
  have := h l
  simp only [List.length_append, List.length_singleton]
  omega
theorem dropF_len (l : List FF) (p : ByteArray) : (dropF l p).length ≤ l.length := List.length_filter_le _ _
theorem withF_len (l : List FF) (f : FF) : (withF l f).length ≤ l.length + 1 := by
  have := withF_few l f
  have := dropF_len l f.name
  omega
theorem withF_at {l : List FF} (h : Rise l) (f : FF) (p : ByteArray) : at? (withF l f) p = if f.name = p then some f else at? l p := by
  by_cases e : f.name = p
  · rw [if_pos e]
    exact (at_some (withF_rise h f)).2 ⟨(withF_mem l f f).2 (.inl rfl), e⟩
  · rw [if_neg e]
    cases ha : at? l p with
    | none =>
      refine at_none.2 fun x hx e2 => ?_
      rcases (withF_mem l f x).1 hx with rfl | ⟨h1, _⟩
      · exact e e2
      · exact at_none.1 ha x h1 e2
    | some g =>
      refine (at_some (withF_rise h f)).2 ⟨(withF_mem l f g).2 (.inr ⟨at_mem ha, ?_⟩), at_name ha⟩
      rw [at_name ha]
      exact fun e2 => e e2.symm
theorem dropF_rise {l : List FF} (h : Rise l) (p : ByteArray) : Rise (dropF l p) := h.filter _
theorem dropF_mem (l : List FF) (p : ByteArray) (x : FF) : x ∈ dropF l p ↔ x ∈ l ∧ x.name ≠ p := by unfold dropF; rw [List.mem_filter]; simp
theorem dropF_at {l : List FF} (h : Rise l) (p q : ByteArray) : at? (dropF l p) q = if p = q then none else at? l q := by
  by_cases e : p = q
  · rw [if_pos e]
    exact at_none.2 fun x hx => e ▸ ((dropF_mem l p x).1 hx).2
  · rw [if_neg e]
    cases ha : at? l q with
    | none => exact at_none.2 fun x hx => at_none.1 ha x ((dropF_mem l p x).1 hx).1
    | some g => exact (at_some (dropF_rise h p)).2 ⟨(dropF_mem l p g).2 ⟨at_mem ha, fun e2 => e (e2.symm.trans (at_name ha))⟩, at_name ha⟩

theorem drop_lt {l : List FF} {p : ByteArray} {g : FF} (h : at? l p = some g) : (dropF l p).length < l.length := by
  refine Nat.lt_of_le_of_ne (dropF_len l p) fun e => ?_
  have := List.length_filter_eq_length_iff.1 e g (at_mem h)
  simp [at_name h] at this

/-- A writing call passes. -/
def passV (D : DD) (l : List FF) : DD × Nat := if D.left = 0 then (D, 18) else (⟨l, if 0 < D.left then D.left - 1 else D.left⟩, 0)
def addF (l : List FF) (p x : ByteArray) : FF := { (at? l p).getD ⟨p, nul, 0⟩ with data := ((at? l p).getD ⟨p, nul, 0⟩).data ++ x }
def appendV (D : DD) (p x : ByteArray) : DD × Nat := if p = nul then (D, 1) else passV D (withF D.files (addF D.files p x))
def syncV (D : DD) (p : ByteArray) : DD × Nat := if p = nul then (D, 1) else match at? D.files p with
  | none => (D, 10)
  | some f => passV D (withF D.files ⟨f.name, f.data, f.data.size⟩)
def renameV (D : DD) (p q : ByteArray) : DD × Nat := if p = nul ∨ q = nul then (D, 1) else match at? D.files p with
  | none => (D, 10)
  | some f => passV D (withF (dropF D.files p) ⟨q, f.data, f.sure⟩)
def removeV (D : DD) (p : ByteArray) : DD × Nat := if p = nul then (D, 1) else match at? D.files p with
  | none => (D, 10)
  | some _ => passV D (dropF D.files p)
def readV (D : DD) (p : ByteArray) : ByteArray × Nat := match at? D.files p with
  | none => (nul, 10)
  | some f => (f.data, 0)
def budgetV (D : DD) (n : Int) : DD := ⟨D.files, if n < 0 then -1 else n⟩
def cutV (f : FF) (z : Int) : FF := ⟨f.name, f.data.extract 0 (f.sure + (z % ((f.data.size : Int) - f.sure + 1)).toNat), f.sure + (z % ((f.data.size : Int) - f.sure + 1)).toNat⟩
def crashV : List FF → List Int → List FF
  | [], _ => []
  | f :: t, ps => if f.sure < f.data.size then cutV f (ps.headD 0) :: crashV t ps.tail else ⟨f.name, f.data, f.data.size⟩ :: crashV t ps
def newV : DD := ⟨[], -1⟩

/-- What a disk may be here: no text longer than n, no more files. -/
structure Fit (n : Nat) (D : DD) : Prop where
  rise : Rise D.files
  sure : ∀ f ∈ D.files, f.sure ≤ f.data.size
  size : ∀ f ∈ D.files, f.data.size ≤ n
  len : D.files.length ≤ n
  low : -1 ≤ D.left
  high : D.left ≤ 9223372036854775807
theorem fit_new (n : Nat) : Fit n newV := ⟨List.Pairwise.nil, fun f h => by simp [newV] at h, fun f h => by simp [newV] at h, by simp [newV], by decide, by decide⟩
theorem Fit.more {n m : Nat} {D : DD} (h : Fit n D) (hm : n ≤ m) : Fit m D := ⟨h.rise, h.sure, fun f hf => Nat.le_trans (h.size f hf) hm, Nat.le_trans h.len hm, h.low, h.high⟩
theorem fit_pass {n : Nat} {D : DD} {l : List FF} (h : Fit n D) (h1 : Rise l) (h2 : ∀ f ∈ l, f.sure ≤ f.data.size ∧ f.data.size ≤ n) (h3 : l.length ≤ n) : Fit n (passV D l).1 := by
  unfold passV
  split
  · exact h
  · have := h.low
    have := h.high
    refine ⟨h1, fun f hf => (h2 f hf).1, fun f hf => (h2 f hf).2, h3, ?_, ?_⟩
    · show (-1 : Int) ≤ if 0 < D.left then D.left - 1 else D.left
      split <;> omega
    · show (if 0 < D.left then D.left - 1 else D.left) ≤ (9223372036854775807 : Int)
      split <;> omega
theorem ba_size_append (a b : ByteArray) : (a ++ b).size = a.size + b.size := ByteArray.size_append
theorem fit_append {n : Nat} {D : DD} (h : Fit n D) (p x : ByteArray) : Fit (n + x.size + 1) (appendV D p x).1 := by
  have hm := h.more (show n ≤ n + x.size + 1 by omega)
  unfold appendV
  split
  · exact hm
  · refine fit_pass hm (withF_rise h.rise _) (fun f hf => ?_) (by have := withF_len D.files (addF D.files p x); have := h.len; omega)
    rcases (withF_mem _ _ f).1 hf with rfl | ⟨h1, _⟩
    · unfold addF
      cases ha : at? D.files p with
      | none =>
        refine ⟨Nat.zero_le _, ?_⟩
        show (nul ++ x).size ≤ _
        rw [ba_size_append]
        show 0 + x.size ≤ _
        omega
      | some g =>
        have h1 := h.sure g (at_mem ha)
        have h2 := h.size g (at_mem ha)
        refine ⟨?_, ?_⟩
        · show g.sure ≤ (g.data ++ x).size
          rw [ba_size_append]; omega
        · show (g.data ++ x).size ≤ _
          rw [ba_size_append]; omega
    · exact ⟨h.sure f h1, hm.size f h1⟩
theorem fit_sync {n : Nat} {D : DD} (h : Fit n D) (p : ByteArray) : Fit n (syncV D p).1 := by
  unfold syncV
  split
  · exact h
  · split
    · exact h
    · rename_i g ha
      have hmem : ∀ x ∈ withF D.files ⟨g.name, g.data, g.data.size⟩, x = ⟨g.name, g.data, g.data.size⟩ ∨ x ∈ D.files := fun x hx => ((withF_mem _ _ x).1 hx).imp id (·.1)
      refine fit_pass h (withF_rise h.rise _) (fun f hf => ?_) ?_
      · rcases hmem f hf with rfl | h1
        · exact ⟨Nat.le_refl _, h.size g (at_mem ha)⟩
        · exact ⟨h.sure f h1, h.size f h1⟩
      · have h1 : (withF D.files ⟨g.name, g.data, g.data.size⟩).length ≤ (dropF D.files g.name).length + 1 := withF_few D.files ⟨g.name, g.data, g.data.size⟩
        have := drop_lt ((at_name ha).symm ▸ ha)
        have := h.len
        omega
theorem fit_drop {n : Nat} {D : DD} (h : Fit n D) (p : ByteArray) : Fit n ⟨dropF D.files p, D.left⟩ :=
  ⟨dropF_rise h.rise p, fun f hf => h.sure f ((dropF_mem _ _ f).1 hf).1, fun f hf => h.size f ((dropF_mem _ _ f).1 hf).1, Nat.le_trans (dropF_len _ _) h.len, h.low, h.high⟩
theorem fit_rename {n : Nat} {D : DD} (h : Fit n D) (p q : ByteArray) : Fit n (renameV D p q).1 := by
  unfold renameV
  split
  · exact h
  · split
    · exact h
    · rename_i g ha
      refine fit_pass h (withF_rise (dropF_rise h.rise p) _) (fun f hf => ?_) ?_
      · rcases (withF_mem _ _ f).1 hf with rfl | ⟨h1, _⟩
        · exact ⟨h.sure g (at_mem ha), h.size g (at_mem ha)⟩
        · exact ⟨h.sure f ((dropF_mem _ _ f).1 h1).1, h.size f ((dropF_mem _ _ f).1 h1).1⟩
      · have := withF_len (dropF D.files p) ⟨q, g.data, g.sure⟩
        have := drop_lt ha
        have := h.len
        omega
theorem fit_remove {n : Nat} {D : DD} (h : Fit n D) (p : ByteArray) : Fit n (removeV D p).1 := by
  unfold removeV
  split
  · exact h
  · split
    · exact h
    · have hd := fit_drop h p
      exact fit_pass h hd.rise (fun f hf => ⟨hd.sure f hf, hd.size f hf⟩) hd.len
theorem fit_budget {n : Nat} {D : DD} (h : Fit n D) (z : Int) (hz : z ≤ 9223372036854775807) : Fit n (budgetV D z) := by
  refine ⟨h.rise, h.sure, h.size, h.len, ?_, ?_⟩
  · show (-1 : Int) ≤ if z < 0 then -1 else z
    split <;> omega
  · show (if z < 0 then -1 else z) ≤ (9223372036854775807 : Int)
    split <;> omega
theorem cut_le (f : FF) (z : Int) (h : f.sure ≤ f.data.size) : f.sure + (z % ((f.data.size : Int) - f.sure + 1)).toNat ≤ f.data.size := by
  have h1 := Int.emod_lt_of_pos z (show (0 : Int) < (f.data.size : Int) - f.sure + 1 by omega)
  omega
theorem cut_size (f : FF) (z : Int) (h : f.sure ≤ f.data.size) : (cutV f z).data.size = (cutV f z).sure := by
  show (f.data.extract 0 _).size = _
  rw [ByteArray.size_extract, Nat.min_eq_left (cut_le f z h)]
  rfl
theorem crash_mem : ∀ (l : List FF) (ps : List Int) (x : FF), x ∈ crashV l ps → ∃ f ∈ l, x.name = f.name ∧ ((x.data = f.data ∧ x.sure = f.data.size ∧ f.data.size ≤ f.sure) ∨ ∃ z, x = cutV f z ∧ f.sure < f.data.size)
  | [], ps, x, h => by simp [crashV] at h
  | f :: t, ps, x, h => by
    unfold crashV at h
    split at h
    · rename_i hs
      rcases List.mem_cons.1 h with rfl | h
      · exact ⟨f, List.mem_cons_self, rfl, .inr ⟨_, rfl, hs⟩⟩
      · obtain ⟨g, hg, r⟩ := crash_mem t _ x h
        exact ⟨g, List.mem_cons_of_mem _ hg, r⟩
    · rename_i hs
      rcases List.mem_cons.1 h with rfl | h
      · exact ⟨f, List.mem_cons_self, rfl, .inl ⟨rfl, rfl, Nat.not_lt.1 hs⟩⟩
      · obtain ⟨g, hg, r⟩ := crash_mem t _ x h
        exact ⟨g, List.mem_cons_of_mem _ hg, r⟩
theorem crash_names : ∀ (l : List FF) (ps : List Int), (crashV l ps).map (·.name) = l.map (·.name)
  | [], ps => rfl
  | f :: t, ps => by
    unfold crashV
    split
    · rw [List.map_cons, List.map_cons, crash_names t]; rfl
    · rw [List.map_cons, List.map_cons, crash_names t]
theorem crash_rise {l : List FF} (h : Rise l) (ps : List Int) : Rise (crashV l ps) := by
  have e : ∀ t : List FF, Rise t ↔ (t.map (·.name)).Pairwise (fun a b => a.data.toList < b.data.toList) := fun t => by rw [List.pairwise_map]
  rw [e, crash_names, ← e]
  exact h
theorem fit_crash {n : Nat} {D : DD} (h : Fit n D) (ps : List Int) : Fit n ⟨crashV D.files ps, -1⟩ := by
  refine ⟨crash_rise h.rise ps, fun x hx => ?_, fun x hx => ?_, ?_, by show (-1 : Int) ≤ -1; decide, by show (-1 : Int) ≤ 9223372036854775807; decide⟩
  · obtain ⟨f, hf, _, ⟨h1, h2, _⟩ | ⟨z, rfl, hs⟩⟩ := crash_mem _ _ x hx
    · rw [h1, h2]; exact Nat.le_refl _
    · rw [cut_size f z (h.sure f hf)]; exact Nat.le_refl _
  · obtain ⟨f, hf, _, ⟨h1, h2, _⟩ | ⟨z, rfl, hs⟩⟩ := crash_mem _ _ x hx
    · rw [h1]; exact h.size f hf
    · rw [cut_size f z (h.sure f hf)]
      exact Nat.le_trans (cut_le f z (h.sure f hf)) (h.size f hf)
  · have := congrArg List.length (crash_names D.files ps)
    simp only [List.length_map] at this
    show (crashV D.files ps).length ≤ n
    rw [this]; exact h.len
theorem crash_at {l : List FF} (h : Rise l) (ps : List Int) (p : ByteArray) (f : FF) (hf : at? l p = some f) : ∃ x, at? (crashV l ps) p = some x ∧ ((x.data = f.data ∧ x.sure = f.data.size ∧ f.data.size ≤ f.sure) ∨ ∃ z, x = cutV f z ∧ f.sure < f.data.size) := by
  have hm : p ∈ (crashV l ps).map (·.name) := by
    rw [crash_names]
    exact List.mem_map.2 ⟨f, at_mem hf, at_name hf⟩
  obtain ⟨x, hx, hp⟩ := List.mem_map.1 hm
  refine ⟨x, (at_some (crash_rise h ps)).2 ⟨hx, hp⟩, ?_⟩
  obtain ⟨g, hg, e, r⟩ := crash_mem _ _ x hx
  have : g = f := rise_same h hg (at_mem hf) (by rw [← e, hp, at_name hf])
  rw [← this]
  exact r
end Dk
end Go.Proofs.YtogpigfepebibaaGreatDoor

namespace Go.Proofs.YtogpigfepebibaaGreatDoor
namespace Dk

theorem ext_front (s : ByteArray) (j : Nat) : (s.extract 0 j).data.toList = s.data.toList.take j := by
  simp [ByteArray.data_extract, Array.toList_extract, List.extract_eq_take_drop]
theorem bdata_length (s : ByteArray) : s.data.toList.length = s.size := rfl
theorem app_data (a b : ByteArray) : (a ++ b).data.toList = a.data.toList ++ b.data.toList := by simp [ByteArray.data_append]
theorem ext_app (a b : ByteArray) (k : Nat) (h : k ≤ a.size) : (a ++ b).extract 0 k = a.extract 0 k := by
  refine ba_eq ?_
  rw [ext_front, ext_front, app_data, List.take_append_of_le_length (by rw [bdata_length]; exact h)]
theorem ext_all (a : ByteArray) : a.extract 0 a.size = a := by
  refine ba_eq ?_
  rw [ext_front, ← bdata_length, List.take_length]
theorem ext_none (a : ByteArray) : a.extract 0 0 = nul := by
  refine ba_eq ?_
  rw [ext_front]; rfl
theorem nul_app (a : ByteArray) : nul ++ a = a := by
  refine ba_eq ?_
  rw [app_data]; rfl
theorem app_nul (a : ByteArray) : a ++ nul = a := by
  refine ba_eq ?_
  rw [app_data]
  show _ ++ [] = _
  rw [List.append_nil]
theorem ext_prefix (a : ByteArray) (i : Nat) : (a.extract 0 i).data.toList <+: a.data.toList := by
  rw [ext_front]; exact List.take_prefix _ _
theorem ext_prefix2 (a : ByteArray) {i j : Nat} (h : i ≤ j) : (a.extract 0 i).data.toList <+: (a.extract 0 j).data.toList := by
  rw [ext_front, ext_front]
  exact List.take_prefix_take_left h
theorem pass_free {D : DD} (h : D.left = -1) (l : List FF) : passV D l = (⟨l, -1⟩, 0) := by
  unfold passV
  rw [h]
  rfl

/-- Of a name, what was sure as it was made sure last. -/
structure Sur (p : ByteArray) (D : DD) (s : ByteArray) : Prop where
  free : D.left = -1
  here : ∀ f, at? D.files p = some f → s = f.data.extract 0 f.sure
  gone : at? D.files p = none → s = nul
theorem sur_new (p : ByteArray) : Sur p newV nul := ⟨rfl, fun f h => (by cases h), fun _ => rfl⟩
theorem append_free {D : DD} {q : ByteArray} (h : D.left = -1) (hq : q ≠ nul) (x : ByteArray) : appendV D q x = (⟨withF D.files (addF D.files q x), -1⟩, 0) := by
  unfold appendV
  rw [if_neg hq, pass_free h]
theorem addF_name (l : List FF) (p x : ByteArray) : (addF l p x).name = p := by
  unfold addF
  cases ha : at? l p with
  | none => rfl
  | some g => exact (show g.name = p from at_name ha)
theorem sur_append {n : Nat} {D : DD} {p s : ByteArray} (hf : Fit n D) (h : Sur p D s) (q x : ByteArray) : Sur p (appendV D q x).1 s := by
  by_cases hq : q = nul
  · unfold appendV; rw [if_pos hq]; exact h
  · rw [append_free h.free hq]
    have hat := withF_at hf.rise (addF D.files q x) p
    rw [addF_name] at hat
    by_cases e : q = p
    · subst e
      rw [if_pos rfl] at hat
      refine ⟨rfl, fun f hf2 => ?_, fun hn => by rw [hat] at hn; cases hn⟩
      rw [hat] at hf2
      cases hf2
      unfold addF
      cases ha : at? D.files q with
      | none =>
        rw [h.gone ha]
        show nul = (nul ++ x).extract 0 0
        rw [ext_none]
      | some g =>
        show s = (g.data ++ x).extract 0 g.sure
        rw [ext_app _ _ _ (hf.sure g (at_mem ha))]
        exact h.here g ha
    · rw [if_neg e] at hat
      exact ⟨rfl, fun f hf2 => h.here f (hat ▸ hf2), fun hn => h.gone (hat ▸ hn)⟩
theorem sync_at {n : Nat} {D : DD} (hf : Fit n D) (hl : D.left = -1) {q : ByteArray} {g : FF} (hq : q ≠ nul) (hg : at? D.files q = some g) : syncV D q = (⟨withF D.files ⟨g.name, g.data, g.data.size⟩, -1⟩, 0) ∧ ∀ p, at? (withF D.files ⟨g.name, g.data, g.data.size⟩) p = if q = p then some ⟨g.name, g.data, g.data.size⟩ else at? D.files p := by
  refine ⟨?_, fun p => ?_⟩
  · unfold syncV
    rw [if_neg hq, hg]
    exact pass_free hl _
  · rw [withF_at hf.rise]
    show (if g.name = p then _ else _) = _
    rw [at_name hg]
theorem sync_no {D : DD} {q : ByteArray} (h : (syncV D q).2 ≠ 0) (hl : D.left = -1) : (syncV D q).1 = D := by
  unfold syncV at h ⊢
  split
  · rfl
  · rename_i hq
    rw [if_neg hq] at h
    split
    · rfl
    · rename_i f hf
      rw [hf] at h
      simp only [pass_free hl] at h
      exact absurd rfl h
theorem sur_sync {n : Nat} {D : DD} {p s : ByteArray} (hf : Fit n D) (h : Sur p D s) (q : ByteArray) :
    Sur p (syncV D q).1 (if (syncV D q).2 = 0 ∧ q = p then (readV (syncV D q).1 p).1 else s) := by
  by_cases hq : q = nul
  · have e : syncV D q = (D, 1) := by unfold syncV; rw [if_pos hq]
    rw [e, if_neg (by simp)]
    exact h
  · cases hg : at? D.files q with
    | none =>
      have e : syncV D q = (D, 10) := by unfold syncV; rw [if_neg hq, hg]
      rw [e, if_neg (by simp)]
      exact h
    | some g =>
      obtain ⟨e, hat⟩ := sync_at hf h.free hq hg
      rw [e]
      by_cases e2 : q = p
      · rw [if_pos ⟨rfl, e2⟩]
        have ha := hat p
        rw [if_pos e2] at ha
        refine ⟨rfl, fun f h2 => ?_, fun hn => by rw [show (⟨withF D.files ⟨g.name, g.data, g.data.size⟩, -1⟩ : DD).files = _ from rfl, ha] at hn; cases hn⟩
        have h3 : some (⟨g.name, g.data, g.data.size⟩ : FF) = some f := ha.symm.trans h2
        cases h3
        unfold readV
        show (match at? (withF D.files ⟨g.name, g.data, g.data.size⟩) p with | none => (nul, 10) | some f => (f.data, 0)).1 = g.data.extract 0 g.data.size
        rw [ha, ext_all]
      · rw [if_neg (fun hc => e2 hc.2)]
        have ha := hat p
        rw [if_neg e2] at ha
        exact ⟨rfl, fun f h2 => h.here f (ha.symm.trans h2), fun hn => h.gone (ha.symm.trans hn)⟩
theorem sur_remove {n : Nat} {D : DD} {p s : ByteArray} (hf : Fit n D) (h : Sur p D s) (q : ByteArray) :
    Sur p (removeV D q).1 (if (removeV D q).2 = 0 ∧ q = p then nul else s) := by
  by_cases hq : q = nul
  · have e : removeV D q = (D, 1) := by unfold removeV; rw [if_pos hq]
    rw [e, if_neg (by simp)]
    exact h
  · cases hg : at? D.files q with
    | none =>
      have e : removeV D q = (D, 10) := by unfold removeV; rw [if_neg hq, hg]
      rw [e, if_neg (by simp)]
      exact h
    | some g =>
      have e : removeV D q = (⟨dropF D.files q, -1⟩, 0) := by
        unfold removeV; rw [if_neg hq, hg]; exact pass_free h.free _
      rw [e]
      have ha := dropF_at hf.rise q p
      by_cases e2 : q = p
      · rw [if_pos ⟨rfl, e2⟩]
        rw [if_pos e2] at ha
        exact ⟨rfl, fun f h2 => (by cases ha.symm.trans h2), fun _ => rfl⟩
      · rw [if_neg (fun hc => e2 hc.2)]
        rw [if_neg e2] at ha
        exact ⟨rfl, fun f h2 => h.here f (ha.symm.trans h2), fun hn => h.gone (ha.symm.trans hn)⟩
/-- What is sure is the beginning of what is behind a crash, and that of what was ahead. -/
theorem sur_crash {n : Nat} {D : DD} {p s : ByteArray} (hf : Fit n D) (h : Sur p D s) (f : FF) (hat : at? D.files p = some f) (ps : List Int) :
    ∃ x, at? (crashV D.files ps) p = some x ∧ s.data.toList <+: x.data.data.toList ∧ x.data.data.toList <+: f.data.data.toList := by
  obtain ⟨x, hx, ⟨h1, h2, h3⟩ | ⟨z, rfl, hs⟩⟩ := crash_at hf.rise ps p f hat
  · refine ⟨x, hx, ?_, by rw [h1]; exact List.prefix_refl _⟩
    rw [h1, h.here f hat]
    exact ext_prefix _ _
  · refine ⟨_, hx, ?_, ext_prefix _ _⟩
    rw [h.here f hat]
    exact ext_prefix2 _ (Nat.le_add_right _ _)

/-- A file for itself: it is as it was put there. -/
structure Own (p x y : ByteArray) (D : DD) : Prop where
  free : D.left = -1
  here : at? D.files p = some ⟨p, x ++ y, x.size⟩
theorem own_append {n : Nat} {D : DD} {p x y : ByteArray} (hf : Fit n D) (h : Own p x y D) (q z : ByteArray) (hq : q ≠ p) : Own p x y (appendV D q z).1 := by
  by_cases h0 : q = nul
  · unfold appendV; rw [if_pos h0]; exact h
  · rw [append_free h.free h0]
    refine ⟨rfl, ?_⟩
    show at? (withF _ _) p = _
    rw [withF_at hf.rise, addF_name, if_neg hq]
    exact h.here
theorem own_sync {n : Nat} {D : DD} {p x y : ByteArray} (hf : Fit n D) (h : Own p x y D) (q : ByteArray) (hq : q ≠ p) : Own p x y (syncV D q).1 := by
  by_cases h0 : q = nul
  · unfold syncV; rw [if_pos h0]; exact h
  · cases hg : at? D.files q with
    | none => unfold syncV; rw [if_neg h0, hg]; exact h
    | some g =>
      obtain ⟨e, hat⟩ := sync_at hf h.free h0 hg
      rw [e]
      refine ⟨rfl, ?_⟩
      show at? (withF _ _) p = _
      rw [hat, if_neg hq]
      exact h.here
theorem own_rename {n : Nat} {D : DD} {p x y : ByteArray} (hf : Fit n D) (h : Own p x y D) (q r : ByteArray) (hq : q ≠ p) (hr : r ≠ p) : Own p x y (renameV D q r).1 := by
  unfold renameV
  split
  · exact h
  · split
    · exact h
    · rw [pass_free h.free]
      refine ⟨rfl, ?_⟩
      show at? (withF _ _) p = _
      rw [withF_at (dropF_rise hf.rise q), if_neg hr, dropF_at hf.rise, if_neg hq]
      exact h.here
theorem own_remove {n : Nat} {D : DD} {p x y : ByteArray} (hf : Fit n D) (h : Own p x y D) (q : ByteArray) (hq : q ≠ p) : Own p x y (removeV D q).1 := by
  unfold removeV
  split
  · exact h
  · split
    · exact h
    · rw [pass_free h.free]
      refine ⟨rfl, ?_⟩
      show at? (dropF _ _) p = _
      rw [dropF_at hf.rise, if_neg hq]
      exact h.here
theorem crash_nil : ∀ (l : List FF) (f : FF), f ∈ l → f.sure ≤ f.data.size → ∃ x ∈ crashV l [], x.name = f.name ∧ x.data = f.data.extract 0 f.sure
  | [], f, h, _ => by simp at h
  | g :: t, f, h, hs => by
    unfold crashV
    rcases List.mem_cons.1 h with rfl | h
    · split
      · refine ⟨_, List.mem_cons_self, rfl, ?_⟩
        show f.data.extract 0 (f.sure + ((0 : Int) % _).toNat) = _
        rw [Int.zero_emod]
        rfl
      · refine ⟨_, List.mem_cons_self, rfl, ?_⟩
        rename_i hn
        rw [show f.sure = f.data.size by omega, ext_all]
    · obtain ⟨x, hx, r⟩ := crash_nil t f h hs
      split
      · exact ⟨x, List.mem_cons_of_mem _ hx, r⟩
      · exact ⟨x, List.mem_cons_of_mem _ hx, r⟩
theorem own_crash {n : Nat} {D : DD} {p x y : ByteArray} (hf : Fit n D) (h : Own p x y D) : ∃ g, at? (crashV D.files []) p = some g ∧ g.data = x := by
  obtain ⟨g, hg, e1, e2⟩ := crash_nil D.files _ (at_mem h.here) (hf.sure _ (at_mem h.here))
  refine ⟨g, (at_some (crash_rise hf.rise [])).2 ⟨hg, e1⟩, ?_⟩
  rw [e2]
  show (x ++ y).extract 0 x.size = x
  rw [ext_app _ _ _ (Nat.le_refl _), ext_all]

/-- A file of as many bytes as passed. -/
abbrev xs (k : Nat) : ByteArray := ⟨(List.replicate k 120).toArray⟩
abbrev fname : ByteArray := ⟨#[102]⟩
def budF (j : Nat) : List FF := if j = 0 then [] else [⟨fname, xs j, 0⟩]
def budD (n k : Nat) : DD := ⟨budF (min n k), (n : Int) - ((min n k : Nat) : Int)⟩
theorem budF_more (k : Nat) : withF (budF k) (addF (budF k) fname (xs 1)) = budF (k + 1) := by
  unfold budF
  rw [if_neg (show ¬ k + 1 = 0 by omega)]
  by_cases h0 : k = 0
  · subst h0
    rw [if_pos rfl]
    unfold withF addF at?
    simp only [List.find?_nil, Option.getD_none, List.filter_nil, List.nil_append, List.append_nil]
    rw [nul_app]
  · rw [if_neg h0]
    have e : addF [⟨fname, xs k, 0⟩] fname (xs 1) = ⟨fname, xs (k + 1), 0⟩ := by
      unfold addF
      rw [at_cons, if_pos rfl]
      show (FF.mk fname (xs k ++ xs 1) 0) = _
      congr 1
      refine ba_eq ?_
      rw [app_data]
      simp [List.replicate_succ']
    rw [e]
    have h1 : decide (nm (⟨fname, xs k, 0⟩ : FF) < nm ⟨fname, xs (k + 1), 0⟩) = false := decide_eq_false lt_no
    unfold withF
    rw [List.filter_cons, List.filter_cons, h1]
    rfl
theorem bud_step (n k : Nat) : appendV (budD n k) fname (xs 1) = (budD n (k + 1), if k < n then 0 else 18) := by
  have hne : fname ≠ nul := by decide
  unfold appendV passV budD
  rw [if_neg hne]
  by_cases hk : k < n
  · have m1 : min n k = k := by omega
    have m2 : min n (k + 1) = k + 1 := by omega
    rw [m1, m2, if_pos hk, if_neg (show ¬ (n : Int) - ((k : Nat) : Int) = 0 by omega), if_pos (show 0 < (n : Int) - ((k : Nat) : Int) by omega), budF_more]
    have e : (n : Int) - ((k : Nat) : Int) - 1 = (n : Int) - ((k + 1 : Nat) : Int) := by omega
    rw [← e]
  · have m1 : min n k = n := by omega
    have m2 : min n (k + 1) = n := by omega
    rw [m1, m2, if_neg hk, if_pos (show (n : Int) - ((n : Nat) : Int) = 0 by omega)]
theorem bud_at (n k : Nat) (p : ByteArray) (hp : p ≠ fname) : at? (budD n k).files p = none := by
  refine at_none.2 fun f hf e => ?_
  unfold budD budF at hf
  split at hf
  · simp at hf
  · rw [List.mem_singleton.1 hf] at e
    exact hp e.symm
theorem bud_read (n k : Nat) : readV (budD n k) fname = (xs (min n k), if 0 < min n k then 0 else 10) := by
  unfold readV budD budF
  by_cases h : min n k = 0
  · rw [if_pos h, h]
    rfl
  · rw [if_neg h, if_pos (by omega), at_cons, if_pos rfl]
theorem bud_fit (n k : Nat) (hn : n ≤ 255) (hk : k ≤ 255) : Fit 300 (budD n k) := by
  have hm : ∀ f ∈ (budD n k).files, f = ⟨fname, xs (min n k), 0⟩ := fun f hf => by
    unfold budD budF at hf
    split at hf
    · simp at hf
    · exact List.mem_singleton.1 hf
  have hl : (budD n k).files.length ≤ 1 := by unfold budD budF; split <;> simp
  refine ⟨?_, fun f hf => by rw [hm f hf]; exact Nat.zero_le _, fun f hf => ?_, by omega, ?_, ?_⟩
  · unfold budD budF
    split
    · exact List.Pairwise.nil
    · exact List.pairwise_singleton _ _
  · rw [hm f hf]
    show (List.replicate (min n k) 120).toArray.size ≤ 300
    simp
    omega
  · show (-1 : Int) ≤ (n : Int) - ((min n k : Nat) : Int)
    omega
  · show (n : Int) - ((min n k : Nat) : Int) ≤ 9223372036854775807
    omega
end Dk
end Go.Proofs.YtogpigfepebibaaGreatDoor
