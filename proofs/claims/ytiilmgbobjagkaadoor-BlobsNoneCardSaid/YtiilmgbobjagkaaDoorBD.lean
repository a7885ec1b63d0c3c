/-
  Layer 6 (blobs): what the laws ask of the program's calls; the walk of the laws' alive.
-/
import Derived.Test.YtiilmgbobjagkaaDoorBC
namespace Go.Proofs.YtiilmgbobjagkaaDoor
namespace Bl
open Go.RowKit Kr

/-- The table of sha stands, below block B. -/
def Ok (B : Nat) (w : World) : Prop := Sh.Tab w ∧ 0 < B ∧ B ≤ w.heap.size
theorem Ok.below {B : Nat} {w w' : World} (h : Ok B w) (hb : Below B w w') : Ok B w' := ⟨h.1.below hb h.2.1, h.2.1, Nat.le_trans h.2.2 hb.size⟩
/-- A row of digests. -/
abbrev DRow (w : World) (B : Nat) (A : Option Addr) (l : List Bs) : Prop := KRow (fun d => Sh.bvals (fix32 d)) 32 w B A l
/-- What a store may keep here. -/
def Fits (l : List Bb) : Prop := Rise l ∧ Sums l ∧ l.length ≤ 100 ∧ ∀ f ∈ l, f.2.length ≤ 1000
theorem fits_nil : Fits [] := ⟨List.Pairwise.nil, fun f h => by simp at h, by simp, fun f h => by simp at h⟩
abbrev dig (X : ByteArray) : Bs := Sh.dig X.data.toList
abbrev ptr (b : Nat) : Value := .pointer (some ⟨b, 0, none⟩)
abbrev dv (d : Bs) : Value := .agg (Sh.bvals d).toArray

/-- What the laws ask of a program's stores: R w S b l: the store at block b keeps the row l, in the blocks S. -/
structure Keeps (R : World → (Nat → Prop) → Nat → List Bb → Prop) : Prop where
  keep : ∀ {w w' : World} {S : Nat → Prop} {b : Nat} {l : List Bb}, R w S b l → (∀ q, S q → w'.heap[q]? = w.heap[q]?) → R w' S b l
  inside : ∀ {w : World} {S : Nat → Prop} {b : Nat} {l : List Bb}, R w S b l → ∀ q, S q → q < w.heap.size
  new : ∀ w, Calls Tryd.prog 10 #[] w fun e w' => ∃ b S, e = .returned (ptr b) ∧ R w' S b [] ∧ (∀ q, S q → w.heap.size ≤ q) ∧ Below w.heap.size w w'
  put : ∀ (w : World) (B : Nat) (S : Nat → Prop) (b : Nat) (l : List Bb) (X : ByteArray), R w S b l → Ok B w → (∀ q, S q → B ≤ q) → Fits l → X.size ≤ 1000 → (∀ y, Bl.get l (dig X) = some y → y = X.data.toList) →
    Calls Tryd.prog 16 #[ptr b, .string X] w fun e w' => ∃ S', e = .returned (dv (dig X)) ∧ R w' S' b (putV l (dig X, X.data.toList)) ∧ (∀ q, S' q → S q ∨ w.heap.size ≤ q) ∧ Away S w w'
  get : ∀ (w : World) (S : Nat → Prop) (b : Nat) (l : List Bb) (d : Bs) (Y : ByteArray) (t : Bool), R w S b l → Fits l → d.length = 32 → Y.data.toList = (Bl.get l d).getD [] → (Bl.get l d).isSome = t →
    Calls Tryd.prog 13 #[ptr b, dv d] w fun e w' => e = .returned (.tuple #[.string Y, .bool t]) ∧ Below w.heap.size w w'
  drop : ∀ (w : World) (S : Nat → Prop) (b : Nat) (l : List Bb) (d : Bs) (t : Bool), R w S b l → Fits l → d.length = 32 → (Bl.get l d).isSome = t →
    Calls Tryd.prog 14 #[ptr b, dv d] w fun e w' => ∃ S', e = .returned (.bool t) ∧ R w' S' b (dropV l d) ∧ (∀ q, S' q → S q ∨ w.heap.size ≤ q) ∧ Away S w w'
  all : ∀ (w : World) (S : Nat → Prop) (b : Nat) (l : List Bb), R w S b l → Fits l →
    Calls Tryd.prog 21 #[ptr b] w fun e w' => ∃ A m cap, e = .returned (.slice A m cap) ∧ l.length = m ∧ DRow w' w'.heap.size A (l.map (·.1)) ∧ Below w.heap.size w w'
  size : ∀ (w : World) (S : Nat → Prop) (b : Nat) (l : List Bb) (z : Nat), R w S b l → Fits l → sizeV l = z →
    Calls Tryd.prog 22 #[ptr b] w fun e w' => e = .returned (.int .i64 z) ∧ Below w.heap.size w w'

theorem Keeps.later {R : World → (Nat → Prop) → Nat → List Bb → Prop} (hK : Keeps R) {w w' : World} {S : Nat → Prop} {b : Nat} {l : List Bb} (h : R w S b l) (hb : Below w.heap.size w w') : R w' S b l :=
  hK.keep h fun q hq => hb.block q (hK.inside h q hq)
/-- What the laws ask of a nil store. -/
structure Nils : Prop where
  put : ∀ (w : World) (B : Nat) (X : ByteArray), Ok B w → X.size ≤ 1000 → Calls Tryd.prog 16 #[.pointer none, .string X] w fun e w' => e = .returned (dv (dig X)) ∧ Below w.heap.size w w'
  get : ∀ (w : World) (d : Bs), d.length = 32 → Calls Tryd.prog 13 #[.pointer none, dv d] w fun e w' => e = .returned (.tuple #[.string ⟨#[]⟩, .bool false]) ∧ Below w.heap.size w w'
  drop : ∀ (w : World) (d : Bs), d.length = 32 → Calls Tryd.prog 14 #[.pointer none, dv d] w fun e w' => e = .returned (.bool false) ∧ Below w.heap.size w w'
  all : ∀ (w : World), Calls Tryd.prog 21 #[.pointer none] w fun e w' => ∃ A cap, e = .returned (.slice A 0 cap) ∧ Below w.heap.size w w'
  size : ∀ (w : World), Calls Tryd.prog 22 #[.pointer none] w fun e w' => e = .returned (.int .i64 0) ∧ Below w.heap.size w w'

def PCheck : Prop := ∀ (w : World) (B : Nat) (d : Bs) (X : ByteArray), Ok B w → d.length = 32 → X.size ≤ 1000 →
  Calls Tryd.prog 20 #[dv d, .string X] w fun e w' => e = .returned (.bool (decide (d = dig X))) ∧ Below w.heap.size w w'

/-- The digest of one text, as the laws ask it. -/
theorem sum_one (w : World) (B b : Nat) (X : ByteArray) (hX : X.size ≤ 1000) (hc : w.cell? ⟨b, 0, none⟩ = some (.string X)) (hb : b < w.heap.size) (ho : Ok B w) :
    Calls Tryd.prog 17 #[.slice (some ⟨b, 0, none⟩) 1 1] w fun e w' => e = .returned (dv (dig X)) ∧ Below w.heap.size w w' := by
  have h := Sh.sum_any (some ⟨b, 0, none⟩) 1 [X.data.toList] w (fun j x hx => by
    cases j with
    | zero =>
      injection hx with hx
      exact ⟨b, 0, X, rfl, hb, hx, hc⟩
    | succ j => simp at hx) (by simp) (by simp; omega) ho.1 (Nat.lt_of_lt_of_le ho.2.1 ho.2.2)
  have e : [X.data.toList].flatten = X.data.toList := by simp
  rw [e] at h
  exact h

theorem dig_ab : decide (Sh.dig [97] = Sh.dig [98]) = false := by decide +kernel
theorem dig_len (X : ByteArray) : (dig X).length = 32 := Sh.dig_length _
theorem bsize_le (X : ByteArray) (n : Nat) (h : X.size ≤ n) : X.data.toList.length ≤ n := by
  have : X.data.toList.length = X.size := by rfl
  omega
theorem put_fits {l : List Bb} {X : ByteArray} (h : Fits l) (hn : l.length ≤ 99) (hX : X.size ≤ 1000) : Fits (putV l (dig X, X.data.toList)) := by
  have hm : ∀ f ∈ putV l (dig X, X.data.toList), f = (dig X, X.data.toList) ∨ f ∈ l := fun f hf => by
    unfold putV at hf
    split at hf
    · exact .inr hf
    · rw [insV_eq _ h.1] at hf
      exact (insAt_mem _ _ _).1 hf
  refine ⟨put_rise _ h.1, fun f hf => ?_, ?_, fun f hf => ?_⟩
  · rcases hm f hf with rfl | hf
    · exact dig_len X
    · exact h.2.1 f hf
  · have := put_len l (dig X, X.data.toList) h.1
    omega
  · rcases hm f hf with rfl | hf
    · exact bsize_le X _ hX
    · exact h.2.2.2 f hf
theorem drop_fits {l : List Bb} (h : Fits l) (d : Bs) : Fits (dropV l d) :=
  ⟨drop_rise h.1 d, fun f hf => h.2.1 f (List.mem_filter.1 hf).1, Nat.le_trans (List.length_filter_le _ _) h.2.2.1, fun f hf => h.2.2.2 f (List.mem_filter.1 hf).1⟩
end Bl
end Go.Proofs.YtiilmgbobjagkaaDoor
