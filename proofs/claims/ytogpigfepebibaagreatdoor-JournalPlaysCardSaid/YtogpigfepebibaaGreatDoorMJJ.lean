/-
  Layer 8 (journal): what the laws ask of the program's calls; the walk of the laws' fixed. Layer 8 (journal): laws Scans, Tails.
-/
import Derived.Test.YtogpigfepebibaaGreatDoorMJH
import Derived.Test.YtogpigfepebibaaGreatDoorMDA
namespace Go.Proofs.YtogpigfepebibaaGreatDoor
namespace Jl
open Go.RowKit Go.ChangeShapes Kr Dk

/-- The table of sha stands, below block B. -/
def Ok (B : Nat) (w : World) : Prop := Sh.Tab w ∧ 0 < B ∧ B ≤ w.heap.size
theorem Ok.below {B : Nat} {w w' : World} (h : Ok B w) (hb : Below B w w') : Ok B w' := ⟨h.1.below hb h.2.1, h.2.1, Nat.le_trans h.2.2 hb.size⟩
theorem Ok.later {B : Nat} {w w' : World} (h : Ok B w) (hb : Below w.heap.size w w') : Ok B w' := h.below (hb.mono h.2.2)
/-- A journal: its block, its name, whether it is broken. -/
abbrev Jn := Option (Nat × ByteArray × Bool)
/-- What a call that writes leaves: U the blocks of the disk b, and of a journal on it. -/
def Leaves (Q : World → (Nat → Prop) → Nat → DD → Jn → Prop) (U : Nat → Prop) (b : Nat) (D : DD) (j : Jn) (w : World) (v : Value) (e : Ending) (w' : World) : Prop :=
  ∃ U', e = .returned v ∧ Q w' U' b D j ∧ (∀ q, U' q → U q ∨ w.heap.size ≤ q) ∧ Away U w w'
abbrev jp (j : Jn) : Value := .pointer (j.map fun x => ⟨x.1, 0, none⟩)
/-- The journal behind an Open. -/
def openJ (O : Op) (g : Nat) (p : ByteArray) : Jn := if O.is = true then some (g, p, false) else none
/-- What the laws ask of a program's journals: Q w U b D j: the disk at block b is D, and j a journal on it, in the blocks U. -/
structure JKeeps (Q : World → (Nat → Prop) → Nat → DD → Jn → Prop) : Prop where
  keep : ∀ {w w' : World} {U : Nat → Prop} {b : Nat} {D : DD} {j : Jn}, Q w U b D j → (∀ q, U q → w'.heap[q]? = w.heap[q]?) → Q w' U b D j
  inside : ∀ {w : World} {U : Nat → Prop} {b : Nat} {D : DD} {j : Jn}, Q w U b D j → ∀ q, U q → q < w.heap.size
  bound : ∀ {w : World} {U : Nat → Prop} {b : Nat} {D : DD} {j : Jn}, Q w U b D j → ∀ f ∈ D.files, NB f.name
  new : ∀ w, Calls Tryz.prog 6 #[] w fun e w' => ∃ b U, e = .returned (ptr b) ∧ Q w' U b newV none ∧ (∀ q, U q → w.heap.size ≤ q) ∧ Below w.heap.size w w'
  append : ∀ (w : World) (U : Nat → Prop) (b : Nat) (D : DD) (j : Jn) (p x : ByteArray), Q w U b D j → Fits D → p.size ≤ 10000 → x.size ≤ 10000 →
    Calls Tryz.prog 18 #[ptr b, .string p, .string x] w (Leaves Q U b (appendV D p x).1 j w (.int .i64 ((appendV D p x).2 : Int)))
  budget : ∀ (w : World) (U : Nat → Prop) (b : Nat) (D : DD) (j : Jn) (z : Int), Q w U b D j → Fits D → -9223372036854775808 ≤ z → z ≤ 9223372036854775807 →
    Calls Tryz.prog 14 #[ptr b, .int .i64 z] w (Leaves Q U b (budgetV D z) j w (.tuple #[]))
  read : ∀ (w : World) (U : Nat → Prop) (b : Nat) (D : DD) (j : Jn) (p : ByteArray), Q w U b D j → Fits D → NB p →
    Calls Tryz.prog 24 #[ptr b, .string p] w fun e w' => e = .returned (.tuple #[.string (readV D p).1, .int .i64 ((readV D p).2 : Int)]) ∧ Below w.heap.size w w'
  names : ∀ (w : World) (U : Nat → Prop) (b : Nat) (D : DD) (j : Jn), Q w U b D j → Fits D →
    Calls Tryz.prog 41 #[ptr b] w fun e w' => ∃ A m cap, e = .returned (.slice A m cap) ∧ D.files.length = m ∧ NRow w' w'.heap.size A (D.files.map (·.name)) ∧ Below w.heap.size w w'
  crash : ∀ (w : World) (U : Nat → Prop) (b : Nat) (D : DD) (j : Jn) (A : Option Addr) (n cap : Nat) (ps : List Int), Q w U b D j → Fits D → ps.length = n → n ≤ cap → n ≤ 10000 → (∀ z ∈ ps, -9223372036854775808 ≤ z ∧ z ≤ 9223372036854775807) → PRow w w.heap.size A ps →
    Calls Tryz.prog 16 #[ptr b, .slice A n cap] w fun e w' => ∃ b' U', e = .returned (ptr b') ∧ Q w' U' b' ⟨crashV D.files ps, -1⟩ none ∧ (∀ q, U' q → w.heap.size ≤ q) ∧ Below w.heap.size w w'
  frame : ∀ (B : Nat) (w : World) (x : ByteArray), Ok B w → x.size ≤ 20000 →
    Calls Tryz.prog 23 #[.string x] w fun e w' => e = .returned (.tuple #[.string (ofB (frame Sh.dig (toB x))), .int .i64 0]) ∧ Below w.heap.size w w'
  long : ∀ (w : World) (x : ByteArray), most < x.size → x.size ≤ 10000000 →
    Calls Tryz.prog 23 #[.string x] w fun e w' => e = .returned (.tuple #[.string nul, .int .i64 6]) ∧ Below w.heap.size w w'
  scan : ∀ (B : Nat) (w : World) (x : ByteArray), Ok B w → x.size ≤ 40000 →
    Calls Tryz.prog 25 #[.string x] w fun e w' => ∃ A n cap, e = .returned (.tuple #[.slice A n cap, .int .i64 (lenV Sh.dig x : Int)]) ∧ (recsV Sh.dig x).length = n ∧ NRow w' w'.heap.size A (recsV Sh.dig x) ∧ Below w.heap.size w w'
  open_ : ∀ (B : Nat) (w : World) (U : Nat → Prop) (b : Nat) (D : DD) (j : Jn) (p : ByteArray), Q w U b D j → Fits D → p.size ≤ 10000 → Ok B w → (∀ q, U q → B ≤ q) →
    Calls Tryz.prog 8 #[ptr b, .string p] w fun e w' => ∃ U' g A n cap, e = .returned (.tuple #[jp (openJ (openV Sh.dig D p) g p), .slice A n cap, .int .i64 ((openV Sh.dig D p).err : Int)]) ∧ Q w' U' b (openV Sh.dig D p).disk (openJ (openV Sh.dig D p) g p) ∧
      (∀ q, U' q → U q ∨ w.heap.size ≤ q) ∧ Away U w w' ∧ (openV Sh.dig D p).recs.length = n ∧ NRow w' w'.heap.size A (openV Sh.dig D p).recs ∧ From A w.heap.size
  add : ∀ (B : Nat) (w : World) (U : Nat → Prop) (b : Nat) (D : DD) (g : Nat) (nm : ByteArray) (br : Bool) (x : ByteArray), Q w U b D (some (g, nm, br)) → Fits D → x.size ≤ 20000 → Ok B w → (∀ q, U q → B ≤ q) →
    Calls Tryz.prog 10 #[ptr g, .string x] w (Leaves Q U b (addJ Sh.dig true br D nm x).1 (some (g, nm, (addJ Sh.dig true br D nm x).2.1)) w (.int .i64 ((addJ Sh.dig true br D nm x).2.2 : Int)))
  swap : ∀ (B : Nat) (w : World) (U : Nat → Prop) (b : Nat) (D : DD) (g : Nat) (nm : ByteArray) (br : Bool) (A : Option Addr) (n cap : Nat) (l : List ByteArray), Q w U b D (some (g, nm, br)) → Fits D → l.length = n → n ≤ cap → n ≤ 12 → (∀ r ∈ l, r.size ≤ 100) → NRow w B A l → Ok B w → (∀ q, U q → B ≤ q) →
    Calls Tryz.prog 12 #[ptr g, .slice A n cap] w (Leaves Q U b (swapJ Sh.dig true br D nm l).1 (some (g, nm, (swapJ Sh.dig true br D nm l).2.1)) w (.int .i64 ((swapJ Sh.dig true br D nm l).2.2 : Int)))
  addnil : ∀ (w : World) (x : ByteArray), x.size ≤ 20000 → Calls Tryz.prog 10 #[.pointer none, .string x] w fun e w' => e = .returned (.int .i64 19) ∧ Below w.heap.size w w'
  swapnil : ∀ (w : World) (A : Option Addr) (n cap : Nat) (l : List ByteArray), l.length = n → n ≤ cap → n ≤ 12 → (∀ r ∈ l, r.size ≤ 100) → NRow w w.heap.size A l → Calls Tryz.prog 12 #[.pointer none, .slice A n cap] w fun e w' => e = .returned (.int .i64 19) ∧ Below w.heap.size w w'

section
variable {Q : World → (Nat → Prop) → Nat → DD → Jn → Prop} {b : Nat} {w0 w w' : World} {U U' : Nat → Prop} {D D' : DD} {j j' : Jn}
/-- A disk that a call has made, a journal on it, and all that it has done since. -/
structure Sj (Q : World → (Nat → Prop) → Nat → DD → Jn → Prop) (w0 w : World) (U : Nat → Prop) (b : Nat) (D : DD) (j : Jn) : Prop where
  below : Below w0.heap.size w0 w
  own : ∀ q, U q → w0.heap.size ≤ q
  has : Q w U b D j
theorem JKeeps.later (hK : JKeeps Q) (h : Q w U b D j) (hb : Below w.heap.size w w') : Q w' U b D j := hK.keep h fun q hq => hb.block q (hK.inside h q hq)
theorem Sj.later (hK : JKeeps Q) (h : Sj Q w0 w U b D j) (hb : Below w.heap.size w w') : Sj Q w0 w' U b D j := ⟨h.below.trans (hb.mono h.below.size), h.own, hK.later h.has hb⟩
theorem Sj.acted (h : Sj Q w0 w U b D j) (hr : Q w' U' b D' j') (hq : ∀ q, U' q → U q ∨ w.heap.size ≤ q) (ha : Away U w w') : Sj Q w0 w' U' b D' j' :=
  ⟨h.below.trans (ha.below (fun q hq => h.own q hq) h.below.size), fun q hs => (hq q hs).elim (h.own q) (fun h2 => Nat.le_trans h.below.size h2), hr⟩
theorem Sj.left (h : Sj Q w0 w U b D j) {v : Value} {e : Ending} (hw : Leaves Q U b D' j' w v e w') : ∃ U', e = .returned v ∧ Sj Q w0 w' U' b D' j' ∧ (∀ q, U' q → U q ∨ w.heap.size ≤ q) ∧ Away U w w' := by
  obtain ⟨U', h1, h2, h3, h4⟩ := hw
  exact ⟨U', h1, h.acted h2 h3 h4, h3, h4⟩
theorem Sj.ok {B : Nat} (h : Sj Q w0 w U b D j) (ho : Ok B w0) (hB : B ≤ w0.heap.size) : Ok B w := ho.below (h.below.mono hB)
end

set_option maxRecDepth 100000 in
set_option maxHeartbeats 4000000 in
theorem fixed_any {Q : World → (Nat → Prop) → Nat → DD → Jn → Prop} (hK : JKeeps Q) (B : Nat) (w : World) (ho : Ok B w) :
    Calls Tryz.prog 5 #[] w fun e w' => e = .returned (.bool true) ∧ Below w.heap.size w w' := by
  have HF := Lib.hid (hK.frame B w nul ho (by decide))
  have hs : (ofB (frame Sh.dig (toB nul))).size = 12 := by rw [ofB_size, frame_length H_len]; rfl
  have h4 : (ofB (frame Sh.dig (toB nul))).extract 0 4 = ⟨#[0, 0, 0, 0]⟩ := by
    refine ba_eq ?_
    rw [ext_front]
    show (toB (ofB (frame Sh.dig (toB nul)))).take 4 = _
    rw [toB_ofB]
    rfl
  generalize ofB (frame Sh.dig (toB nul)) = f at *
  have HX : Hid ((f.extract 0 4).toList = [0, 0, 0, 0]) := by show _ = _; rw [h4, ByteArray.toList_eq]
  have hsi : ((f.size : Int) == 12) = true := by rw [hs]; rfl
  clear h4
  go_enter Tryz.func5, Tryz.ntmps5
  go_wp2_with fail
  refine HF.out.mono ?_
  rintro e w1 ⟨rfl, hb1⟩
  go_wp2
  go_ret
  refine ⟨?_, hb1⟩
  show Ending.returned (.bool ((f.extract 0 4).toList == [0, 0, 0, 0])) = _
  rw [HX.out]
  rfl
end Jl
end Go.Proofs.YtogpigfepebibaaGreatDoor

namespace Go.Proofs.YtogpigfepebibaaGreatDoor
namespace Jl
open Go.RowKit Go.ChangeShapes Kr Dk

theorem same_yes (A A' : Option Addr) (cap cap' B n m : Nat) (xs : List ByteArray) (w : World) (hn : xs.length = n) (hm : xs.length = m) (hnm : n ≤ 9223372036854775807) (hx : NRow w B A xs) (hy : NRow w B A' xs) :
    Calls Tryz.prog 20 #[.slice A n cap, .slice A' m cap'] w fun e w' => e = .returned (.bool true) ∧ Below w.heap.size w w' := by
  subst hm
  refine (refsame_any A A' cap cap' B n _ xs xs w hn rfl hnm (by omega) hx hy).mono ?_
  rintro e w' ⟨rfl, q, rfl⟩
  exact ⟨by rw [decide_eq_true rfl], below_drewN (Below.refl _ _) q⟩
theorem recs_few (b : ByteArray) : (recsV Sh.dig b).length ≤ b.size := by
  unfold recsV
  rw [List.length_map]
  exact (scan_le _ _ (Nat.le_refl _)).2

theorem tails_math {l : List ByteArray} {r : ByteArray} (hl : ∀ x ∈ l, x.size ≤ 100) (hr : r.size ≤ 100) {k : Nat} (hk : k < (frame Sh.dig (toB r)).length) (x : ByteArray) (hx : x = ofB (frames Sh.dig (l.map toB)) ++ (ofB (frame Sh.dig (toB r))).extract 0 k) : recsV Sh.dig x = l ∧ lenV Sh.dig x = (ofB (frames Sh.dig (l.map toB))).size := by
  have e : toB x = frames Sh.dig (l.map toB) ++ (frame Sh.dig (toB r)).take k := by
    rw [hx]
    show (ofB _ ++ _).data.toList = _
    rw [app_data, ext_front]
  have hm : ∀ y ∈ l.map toB, y.length ≤ most := fun y hy => by
    obtain ⟨z, hz, rfl⟩ := List.mem_map.1 hy
    have := hl z hz
    rw [toB_length]
    have e : most = 1048576 := rfl
    omega
  have hs := scan_tail (D := Sh.dig) H_len hm (r := toB r) (by rw [toB_length]; have e : most = 1048576 := rfl; omega) hk
  unfold recsV lenV
  rw [e, hs, ofB_size]
  refine ⟨?_, rfl⟩
  show (l.map toB).map ofB = l
  rw [List.map_map]
  conv => rhs; rw [← List.map_id l]
  exact List.map_congr_left (fun x _ => ofB_toB x)
theorem frames_low {l : List ByteArray} (h : ∀ r ∈ l, r.size ≤ 100) : (ofB (frames Sh.dig (l.map toB))).size ≤ 112 * l.length := by
  rw [ofB_size]
  induction l with
  | nil => exact Nat.le_refl _
  | cons r l ih =>
    have h1 := ih (fun x hx => h x (List.mem_cons_of_mem _ hx))
    have h2 := h r List.mem_cons_self
    unfold frames at h1 ⊢
    rw [List.map_cons, List.flatMap_cons, List.length_append, frame_length H_len, List.length_cons]
    show 12 + r.size + _ ≤ _
    omega
end Jl
end Go.Proofs.YtogpigfepebibaaGreatDoor
