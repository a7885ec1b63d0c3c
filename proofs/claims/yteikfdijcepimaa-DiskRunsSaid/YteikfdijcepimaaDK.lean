/-
  Layer 7 (disk): what the laws ask of the program's calls; the walk of the laws' diskAlive.
-/
import Derived.Test.YteikfdijcepimaaDA
namespace Go.Proofs.Yteikfdijcepimaa
namespace Dk
open Go.RowKit Kr

abbrev Fits (D : DD) : Prop := Fit 10000 D
abbrev ptr (b : Nat) : Value := .pointer (some ⟨b, 0, none⟩)
/-- What a call that writes leaves: S the blocks of the disk b. -/
def Wrote (R : World → (Nat → Prop) → Nat → DD → Prop) (S : Nat → Prop) (b : Nat) (D : DD) (w : World) (v : Value) (e : Ending) (w' : World) : Prop :=
  ∃ S', e = .returned v ∧ R w' S' b D ∧ (∀ q, S' q → S q ∨ w.heap.size ≤ q) ∧ Away S w w'

/-- A name that may be. -/
abbrev NB (p : ByteArray) : Prop := p.size ≤ 140737488355328
/-- What the laws ask of a program's disks: R w S b D: the disk at block b is D, in the blocks S. -/
structure Keeps (R : World → (Nat → Prop) → Nat → DD → Prop) : Prop where
  keep : ∀ {w w' : World} {S : Nat → Prop} {b : Nat} {D : DD}, R w S b D → (∀ q, S q → w'.heap[q]? = w.heap[q]?) → R w' S b D
  inside : ∀ {w : World} {S : Nat → Prop} {b : Nat} {D : DD}, R w S b D → ∀ q, S q → q < w.heap.size
  bound : ∀ {w : World} {S : Nat → Prop} {b : Nat} {D : DD}, R w S b D → ∀ f ∈ D.files, NB f.name
  new : ∀ w, Calls Try.prog 9 #[] w fun e w' => ∃ b S, e = .returned (ptr b) ∧ R w' S b newV ∧ (∀ q, S q → w.heap.size ≤ q) ∧ Below w.heap.size w w'
  append : ∀ (w : World) (S : Nat → Prop) (b : Nat) (D : DD) (p x : ByteArray), R w S b D → Fits D → NB p → x.size ≤ 10000 →
    Calls Try.prog 15 #[ptr b, .string p, .string x] w (Wrote R S b (appendV D p x).1 w (.int .i64 ((appendV D p x).2 : Int)))
  sync : ∀ (w : World) (S : Nat → Prop) (b : Nat) (D : DD) (p : ByteArray), R w S b D → Fits D → NB p →
    Calls Try.prog 18 #[ptr b, .string p] w (Wrote R S b (syncV D p).1 w (.int .i64 ((syncV D p).2 : Int)))
  rename : ∀ (w : World) (S : Nat → Prop) (b : Nat) (D : DD) (p q : ByteArray), R w S b D → Fits D → NB p → NB q →
    Calls Try.prog 26 #[ptr b, .string p, .string q] w (Wrote R S b (renameV D p q).1 w (.int .i64 ((renameV D p q).2 : Int)))
  remove : ∀ (w : World) (S : Nat → Prop) (b : Nat) (D : DD) (p : ByteArray), R w S b D → Fits D → NB p →
    Calls Try.prog 19 #[ptr b, .string p] w (Wrote R S b (removeV D p).1 w (.int .i64 ((removeV D p).2 : Int)))
  budget : ∀ (w : World) (S : Nat → Prop) (b : Nat) (D : DD) (z : Int), R w S b D → Fits D → -9223372036854775808 ≤ z → z ≤ 9223372036854775807 →
    Calls Try.prog 23 #[ptr b, .int .i64 z] w (Wrote R S b (budgetV D z) w (.tuple #[]))
  read : ∀ (w : World) (S : Nat → Prop) (b : Nat) (D : DD) (p : ByteArray), R w S b D → Fits D → NB p →
    Calls Try.prog 16 #[ptr b, .string p] w fun e w' => e = .returned (.tuple #[.string (readV D p).1, .int .i64 ((readV D p).2 : Int)]) ∧ Below w.heap.size w w'
  names : ∀ (w : World) (S : Nat → Prop) (b : Nat) (D : DD), R w S b D → Fits D →
    Calls Try.prog 22 #[ptr b] w fun e w' => ∃ A m cap, e = .returned (.slice A m cap) ∧ D.files.length = m ∧ NRow w' w'.heap.size A (D.files.map (·.name)) ∧ Below w.heap.size w w'
  crash : ∀ (w : World) (S : Nat → Prop) (b : Nat) (D : DD) (A : Option Addr) (n cap : Nat) (ps : List Int), R w S b D → Fits D → ps.length = n → n ≤ cap → n ≤ 10000 → (∀ z ∈ ps, -9223372036854775808 ≤ z ∧ z ≤ 9223372036854775807) → PRow w w.heap.size A ps →
    Calls Try.prog 12 #[ptr b, .slice A n cap] w fun e w' => ∃ b' S', e = .returned (ptr b') ∧ R w' S' b' ⟨crashV D.files ps, -1⟩ ∧ (∀ q, S' q → w.heap.size ≤ q) ∧ Below w.heap.size w w'

section
variable {R : World → (Nat → Prop) → Nat → DD → Prop} {b : Nat} {w0 w w' : World} {S S' : Nat → Prop} {D D' : DD}
theorem Keeps.later (hK : Keeps R) (h : R w S b D) (hb : Below w.heap.size w w') : R w' S b D := hK.keep h fun q hq => hb.block q (hK.inside h q hq)
/-- A disk that a call has made, and all that it has done since. -/
structure St (R : World → (Nat → Prop) → Nat → DD → Prop) (w0 w : World) (S : Nat → Prop) (b : Nat) (D : DD) : Prop where
  below : Below w0.heap.size w0 w
  own : ∀ q, S q → w0.heap.size ≤ q
  has : R w S b D
theorem St.later (hK : Keeps R) (h : St R w0 w S b D) (hb : Below w.heap.size w w') : St R w0 w' S b D :=
  ⟨h.below.trans (hb.mono h.below.size), h.own, hK.later h.has hb⟩
theorem St.alloc (hK : Keeps R) (h : St R w0 w S b D) (o : Obj) : St R w0 (w.alloc o) S b D := h.later hK ((Below.refl _ _).alloc (Nat.le_refl _) _)
theorem St.acted (h : St R w0 w S b D) (hr : R w' S' b D') (hq : ∀ q, S' q → S q ∨ w.heap.size ≤ q) (ha : Away S w w') : St R w0 w' S' b D' :=
  ⟨h.below.trans (ha.below (fun q hq => h.own q hq) h.below.size), fun q hs => (hq q hs).elim (h.own q) (fun h2 => Nat.le_trans h.below.size h2), hr⟩
theorem St.wrote (h : St R w0 w S b D) {v : Value} {e : Ending} (hw : Wrote R S b D' w v e w') : ∃ S', e = .returned v ∧ St R w0 w' S' b D' ∧ (∀ q, S' q → S q ∨ w.heap.size ≤ q) ∧ Away S w w' := by
  obtain ⟨S', h1, h2, h3, h4⟩ := hw
  exact ⟨S', h1, h.acted h2 h3 h4, h3, h4⟩
end

abbrev na : ByteArray := ⟨#[97]⟩
abbrev xyz : ByteArray := ⟨#[120, 121, 122]⟩
abbrev uv : ByteArray := ⟨#[117, 118]⟩
def al1 : DD := ⟨[⟨na, xyz, 0⟩], -1⟩
def al2 : DD := ⟨[⟨na, xyz, 3⟩], -1⟩
def al3 : DD := ⟨[⟨na, ⟨#[120, 121, 122, 117, 118]⟩, 3⟩], -1⟩
def al4 : DD := ⟨[⟨na, ⟨#[120, 121, 122, 117]⟩, 4⟩], -1⟩
theorem al_1 : appendV newV na xyz = (al1, 0) := by rfl
theorem al_2 : syncV al1 na = (al2, 0) := by rfl
theorem al_3 : appendV al2 na uv = (al3, 0) := by rfl
theorem al_4 : (⟨crashV al3.files [1], -1⟩ : DD) = al4 := by rfl
theorem al_5 : readV al4 na = (⟨#[120, 121, 122, 117]⟩, 0) := by rfl
theorem prow_one (W : World) (z : Int) (T : TypeId) : PRow (W.alloc (.cells #[.int .i64 z] T)) (W.alloc (.cells #[.int .i64 z] T)).heap.size (some ⟨W.heap.size, 0, none⟩) [z] := by
  intro j x hx
  cases j with
  | zero =>
    injection hx with hx
    subst hx
    refine ⟨W.heap.size, 0, rfl, by simp, fun i v hv => ?_⟩
    cases i with
    | zero =>
      injection hv with hv
      subst hv
      simp
    | succ i => simp [encI] at hv
  | succ j => simp at hx

set_option maxRecDepth 100000 in
set_option maxHeartbeats 4000000 in
theorem alive_any {R : World → (Nat → Prop) → Nat → DD → Prop} (hK : Keeps R) (w : World) :
    Calls Try.prog 7 #[] w fun e w' => e = .returned (.bool true) ∧ Below w.heap.size w w' := by
  have F1 : Fit 10 al1 := by have := fit_append (fit_new 0) na xyz; rw [al_1] at this; exact this.more (by decide)
  have F2 : Fit 10 al2 := by have := fit_sync F1 na; rw [al_2] at this; exact this
  have F3 : Fit 20 al3 := by have := fit_append F2 na uv; rw [al_3] at this; exact this.more (by decide)
  have F4 : Fit 20 al4 := by have := fit_crash F3 [1]; rw [al_4] at this; exact this
  have H1 := Lib.hid (fun W S b h => hK.append W S b newV na xyz h (fit_new _) (by decide) (by decide))
  have H2 := Lib.hid (fun W S b h => hK.sync W S b al1 na h (F1.more (by decide)) (by decide))
  have H3 := Lib.hid (fun W S b h => hK.append W S b al2 na uv h (F2.more (by decide)) (by decide) (by decide))
  have H4 := Lib.hid (fun W S b A h hp => hK.crash W S b al3 A 1 1 [1] h (F3.more (by decide)) rfl (Nat.le_refl _) (by decide) (by simp) hp)
  have H5 := Lib.hid (fun W S b h => hK.read W S b al4 na h (F4.more (by decide)) (by decide))
  rw [al_1] at H1
  rw [al_2] at H2
  rw [al_3] at H3
  rw [al_4] at H4
  rw [al_5] at H5
  clear F1 F2 F3 F4
  go_enter Try.func7, Try.ntmps7
  go_wp2_with fail
  refine (hK.new _).mono ?_
  rintro e w1 ⟨b, S, rfl, hr1, hS1, hb1⟩
  have HT1 : Hid (St R w w1 S b newV) := ⟨hb1, hS1, hr1⟩
  clear hr1 hS1 hb1
  go_wp2_with fail
  refine (H1.out _ S b HT1.out.has).mono ?_
  rintro e w2 hw
  obtain ⟨S2, rfl, hT2, _⟩ := HT1.out.wrote hw
  have HT2 := Lib.hid hT2
  clear hw hT2
  go_wp2_with fail
  refine (H2.out _ S2 b HT2.out.has).mono ?_
  rintro e w3 hw
  obtain ⟨S3, rfl, hT3, _⟩ := HT2.out.wrote hw
  have HT3 := Lib.hid hT3
  clear hw hT3
  go_wp2_with fail
  refine (H3.out _ S3 b HT3.out.has).mono ?_
  rintro e w4 hw
  obtain ⟨S4, rfl, hT4, _⟩ := HT3.out.wrote hw
  have HT4 := Lib.hid hT4
  clear hw hT4
  go_wp2_with fail
  refine (H4.out _ S4 b _ (HT4.out.alloc hK _).has (prow_one _ _ _)).mono ?_
  rintro e w5 ⟨b5, S5, rfl, hr5, hS5, hb5⟩
  have HT5 : Hid (St R w w5 S5 b5 al4) := ⟨((HT4.out.alloc hK _).later hK hb5).below, fun q hq => Nat.le_trans (HT4.out.alloc hK _).below.size (hS5 q hq), hr5⟩
  clear hr5 hS5 hb5
  go_wp2_with fail
  refine (H5.out _ S5 b5 HT5.out.has).mono ?_
  rintro e w6 ⟨rfl, hb6⟩
  have HT6 := Lib.hid (HT5.out.later hK hb6)
  clear hb6
  go_wp2
  go_ret
  exact ⟨rfl, HT6.out.below⟩
end Dk
end Go.Proofs.Yteikfdijcepimaa
