/-
  Layer 7 (disk): files, names and picks in memory; the walk of the document's Same on names. Layer 7 (disk): what the laws ask of the program's calls; the walk of the laws' diskAlive.
-/
import Derived.Test.YtogpigfepebibaaGreatDoorProg
import Derived.Test.YtogpigfepebibaaGreatDoorMDM
import Derived.Test.YtogpigfepebibaaGreatDoorMKR
import Derived.BigQuiet
import Derived.Deep.QuietTactic
import Derived.Lib.Hide
import Derived.Laws.Strings
import Derived.DataElems
import Derived.ChangeSlices
import Derived.Sort.Walk0
namespace Go.Proofs.YtogpigfepebibaaGreatDoor
namespace Dk
open Go.RowKit Go.ChangeShapes Kr

theorem take_snoc {α : Type} (xs : List α) (k : Nat) (x : α) (h : xs[k]? = some x) : xs.take (k + 1) = xs.take k ++ [x] := by
  obtain ⟨hk, rfl⟩ := List.getElem?_eq_some_iff.1 h
  rw [List.take_succ_eq_append_getElem hk]
/-- A file: three cells. -/
def encF (f : FF) : List Value := [.string f.name, .string f.data, .int .i64 (f.sure : Int)]
theorem encF_length (f : FF) : (encF f).length = 3 := rfl
theorem f_name (f : FF) : (encF f)[0]? = some (.string f.name) := rfl
theorem f_data (f : FF) : (encF f)[1]? = some (.string f.data) := rfl
theorem f_sure (f : FF) : (encF f)[2]? = some (.int .i64 (f.sure : Int)) := rfl
abbrev FRow (w : World) (B : Nat) (A : Option Addr) (l : List FF) : Prop := KRow encF 3 w B A l
/-- A name: one cell. -/
def encN (s : ByteArray) : List Value := [.string s]
theorem encN_length (s : ByteArray) : (encN s).length = 1 := rfl
abbrev NRow (w : World) (B : Nat) (A : Option Addr) (l : List ByteArray) : Prop := KRow encN 1 w B A l
/-- A pick: one cell. -/
def encI (z : Int) : List Value := [.int .i64 z]
theorem encI_length (z : Int) : (encI z).length = 1 := rfl
abbrev PRow (w : World) (B : Nat) (A : Option Addr) (l : List Int) : Prop := KRow encI 1 w B A l
theorem one_cell {α : Type} {enc : α → List Value} {w : World} {B : Nat} {A : Option Addr} {l : List α} (h : KRow enc 1 w B A l) {j : Nat} {x : α} {v : Value} (hx : l[j]? = some x) (hv : (enc x)[0]? = some v) :
    ∃ b o, A = some ⟨b, o, none⟩ ∧ b < B ∧ w.cell? ⟨b, o + j, none⟩ = some v := by
  obtain ⟨b, o, h1, h2, h3⟩ := h j x hx
  have h4 := h3 0 v hv
  rw [Nat.mul_one, Nat.add_zero] at h4
  exact ⟨b, o, h1, h2, h4⟩
theorem eqB (a b : ByteArray) : (a.toList == b.toList) = decide (a = b) := by
  rw [ByteArray.toList_eq, ByteArray.toList_eq]
  by_cases h : a = b
  · rw [h]; simp
  · have : a.data.toList ≠ b.data.toList := fun e => h (ba_eq e)
    rw [decide_eq_false h]
    simpa using this
theorem lessB (a b : ByteArray) : Op.bytesLess a.toList b.toList = decide (a.data.toList < b.data.toList) := by rw [bytesLess_eq, ByteArray.toList_eq, ByteArray.toList_eq]

end Dk
end Go.Proofs.YtogpigfepebibaaGreatDoor

namespace Go.Proofs.YtogpigfepebibaaGreatDoor
namespace Dk
open Go.RowKit Kr

abbrev Fits (D : DD) : Prop := Fit 90000 D
abbrev ptr (b : Nat) : Value := .pointer (some ⟨b, 0, none⟩)
/-- What a call that writes leaves: S the blocks of the disk b. -/
def Wrote (R : World → (Nat → Prop) → Nat → DD → Prop) (S : Nat → Prop) (b : Nat) (D : DD) (w : World) (v : Value) (e : Ending) (w' : World) : Prop :=
  ∃ S', e = .returned v ∧ R w' S' b D ∧ (∀ q, S' q → S q ∨ w.heap.size ≤ q) ∧ Away S w w'

/-- A name that may be. -/
abbrev NB (p : ByteArray) : Prop := p.size ≤ 140737488355328
/-- What the laws ask of a program's disks: R w S b D: the disk at block b is D, in the blocks S. -/
structure Keeps (R : World → (Nat → Prop) → Nat → DD → Prop) : Prop where
  keep : ∀ {w w' : World} {S : Nat → Prop} {b : Nat} {D : DD}, R w S b D → (∀ q, S q → w'.heap[q]? = w.heap[q]?) → R w' S b D
  inside : ∀ {w : World} {S : Nat → Prop} {b : Nat} {D : DD}, R w S b D → ∀ q, S q → q < w.heap.size
  bound : ∀ {w : World} {S : Nat → Prop} {b : Nat} {D : DD}, R w S b D → ∀ f ∈ D.files, NB f.name
  new : ∀ w, Calls Tryz.prog 6 #[] w fun e w' => ∃ b S, e = .returned (ptr b) ∧ R w' S b newV ∧ (∀ q, S q → w.heap.size ≤ q) ∧ Below w.heap.size w w'
  append : ∀ (w : World) (S : Nat → Prop) (b : Nat) (D : DD) (p x : ByteArray), R w S b D → Fits D → NB p → x.size ≤ 90000 →
    Calls Tryz.prog 18 #[ptr b, .string p, .string x] w (Wrote R S b (appendV D p x).1 w (.int .i64 ((appendV D p x).2 : Int)))
  sync : ∀ (w : World) (S : Nat → Prop) (b : Nat) (D : DD) (p : ByteArray), R w S b D → Fits D → NB p →
    Calls Tryz.prog 35 #[ptr b, .string p] w (Wrote R S b (syncV D p).1 w (.int .i64 ((syncV D p).2 : Int)))
  rename : ∀ (w : World) (S : Nat → Prop) (b : Nat) (D : DD) (p q : ByteArray), R w S b D → Fits D → NB p → NB q →
    Calls Tryz.prog 64 #[ptr b, .string p, .string q] w (Wrote R S b (renameV D p q).1 w (.int .i64 ((renameV D p q).2 : Int)))
  remove : ∀ (w : World) (S : Nat → Prop) (b : Nat) (D : DD) (p : ByteArray), R w S b D → Fits D → NB p →
    Calls Tryz.prog 53 #[ptr b, .string p] w (Wrote R S b (removeV D p).1 w (.int .i64 ((removeV D p).2 : Int)))
  budget : ∀ (w : World) (S : Nat → Prop) (b : Nat) (D : DD) (z : Int), R w S b D → Fits D → -9223372036854775808 ≤ z → z ≤ 9223372036854775807 →
    Calls Tryz.prog 14 #[ptr b, .int .i64 z] w (Wrote R S b (budgetV D z) w (.tuple #[]))
  read : ∀ (w : World) (S : Nat → Prop) (b : Nat) (D : DD) (p : ByteArray), R w S b D → Fits D → NB p →
    Calls Tryz.prog 24 #[ptr b, .string p] w fun e w' => e = .returned (.tuple #[.string (readV D p).1, .int .i64 ((readV D p).2 : Int)]) ∧ Below w.heap.size w w'
  names : ∀ (w : World) (S : Nat → Prop) (b : Nat) (D : DD), R w S b D → Fits D →
    Calls Tryz.prog 41 #[ptr b] w fun e w' => ∃ A m cap, e = .returned (.slice A m cap) ∧ D.files.length = m ∧ NRow w' w'.heap.size A (D.files.map (·.name)) ∧ Below w.heap.size w w'
  crash : ∀ (w : World) (S : Nat → Prop) (b : Nat) (D : DD) (A : Option Addr) (n cap : Nat) (ps : List Int), R w S b D → Fits D → ps.length = n → n ≤ cap → n ≤ 90000 → (∀ z ∈ ps, -9223372036854775808 ≤ z ∧ z ≤ 9223372036854775807) → PRow w w.heap.size A ps →
    Calls Tryz.prog 16 #[ptr b, .slice A n cap] w fun e w' => ∃ b' S', e = .returned (ptr b') ∧ R w' S' b' ⟨crashV D.files ps, -1⟩ ∧ (∀ q, S' q → w.heap.size ≤ q) ∧ Below w.heap.size w w'

section
variable {R : World → (Nat → Prop) → Nat → DD → Prop} {b : Nat} {w0 w w' : World} {S S' : Nat → Prop} {D D' : DD}
theorem Keeps.later (hK : Keeps R) (h : R w S b D) (hb : Below w.heap.size w w') : R w' S b D := hK.keep h fun q hq => hb.block q (hK.inside h q hq)
/-- A disk that a call has made, and all that it has done since. -/
structure St (R : World → (Nat → Prop) → Nat → DD → Prop) (w0 w : World) (S : Nat → Prop) (b : Nat) (D : DD) : Prop where
  below : Below w0.heap.size w0 w
  own : ∀ q, S q → w0.heap.size ≤ q
  has : R w S b D
theorem St.later (hK : Keeps R) (h : St R w0 w S b D) (hb : Below w.heap.size w w') : St R w0 w' S b D :=
  ⟨h.below.trans (hb.mono h.below.size), h.own, hK.later h.has hb⟩
theorem St.alloc (hK : Keeps R) (h : St R w0 w S b D) (o : Obj) : St R w0 (w.alloc o) S b D := h.later hK ((Below.refl _ _).alloc (Nat.le_refl _) _)
theorem St.acted (h : St R w0 w S b D) (hr : R w' S' b D') (hq : ∀ q, S' q → S q ∨ w.heap.size ≤ q) (ha : Away S w w') : St R w0 w' S' b D' :=
  ⟨h.below.trans (ha.below (fun q hq => h.own q hq) h.below.size), fun q hs => (hq q hs).elim (h.own q) (fun h2 => Nat.le_trans h.below.size h2), hr⟩
theorem St.wrote (h : St R w0 w S b D) {v : Value} {e : Ending} (hw : Wrote R S b D' w v e w') : ∃ S', e = .returned v ∧ St R w0 w' S' b D' ∧ (∀ q, S' q → S q ∨ w.heap.size ≤ q) ∧ Away S w w' := by
  obtain ⟨S', h1, h2, h3, h4⟩ := hw
  exact ⟨S', h1, h.acted h2 h3 h4, h3, h4⟩
end

abbrev na : ByteArray := ⟨#[97]⟩
abbrev xyz : ByteArray := ⟨#[120, 121, 122]⟩
abbrev uv : ByteArray := ⟨#[117, 118]⟩
def al1 : DD := ⟨[⟨na, xyz, 0⟩], -1⟩
def al2 : DD := ⟨[⟨na, xyz, 3⟩], -1⟩
def al3 : DD := ⟨[⟨na, ⟨#[120, 121, 122, 117, 118]⟩, 3⟩], -1⟩
def al4 : DD := ⟨[⟨na, ⟨#[120, 121, 122, 117]⟩, 4⟩], -1⟩
theorem al_1 : appendV newV na xyz = (al1, 0) := by rfl
theorem al_2 : syncV al1 na = (al2, 0) := by rfl
theorem al_3 : appendV al2 na uv = (al3, 0) := by rfl
theorem al_4 : (⟨crashV al3.files [1], -1⟩ : DD) = al4 := by rfl
theorem al_5 : readV al4 na = (⟨#[120, 121, 122, 117]⟩, 0) := by rfl
theorem prow_one (W : World) (z : Int) (T : TypeId) : PRow (W.alloc (.cells #[.int .i64 z] T)) (W.alloc (.cells #[.int .i64 z] T)).heap.size (some ⟨W.heap.size, 0, none⟩) [z] := by
  intro j x hx
  cases j with
  | zero =>
    injection hx with hx
    subst hx
    refine ⟨W.heap.size, 0, rfl, by simp, fun i v hv => ?_⟩
    cases i with
    | zero =>
      injection hv with hv
      subst hv
      simp
    | succ i => simp [encI] at hv
  | succ j => simp at hx

end Dk
end Go.Proofs.YtogpigfepebibaaGreatDoor
