/-
  Layer 5 (tree): slices of files in memory (two cells a file), and the walk of the document's Great.
-/
import Derived.Test.YtkldgfdfpanelaaDoorTM
import Derived.Test.YtkldgfdfpanelaaDoorD
namespace Go.Proofs.YtkldgfdfpanelaaDoor
namespace Tr
open Go.RowKit Go.ChangeShapes Pt

/-- A slice's address under which files stand, below block B. -/
def FRow (w : World) (B : Nat) (A : Option Addr) (t : List Fl) : Prop :=
  ∀ j f, t[j]? = some f → ∃ b o s d, A = some ⟨b, o, none⟩ ∧ b < B ∧ s.data.toList = f.1 ∧ d.data.toList = f.2 ∧ w.cell? ⟨b, o + j * 2, none⟩ = some (.string s) ∧ w.cell? ⟨b, o + j * 2 + 1, none⟩ = some (.string d)

theorem FRow.none_ (w : World) (B : Nat) (A : Option Addr) : FRow w B A [] := fun j x h => by simp at h
theorem FRow.keep {w w' : World} {B : Nat} {A : Option Addr} {t : List Fl} (h : FRow w B A t) (hk : ∀ p : Addr, p.block < B → w'.cell? p = w.cell? p) : FRow w' B A t := fun j x hx => by
  obtain ⟨b, o, s, d, h1, h2, h3, h4, h5, h6⟩ := h j x hx
  exact ⟨b, o, s, d, h1, h2, h3, h4, (hk _ h2).trans h5, (hk _ h2).trans h6⟩
theorem FRow.below {w w' : World} {B B' : Nat} {A : Option Addr} {t : List Fl} (h : FRow w B A t) (hb : Below B' w w') (hB : B ≤ B') : FRow w' B A t := h.keep fun _ hp => (hb.mono hB).cell hp
theorem FRow.more {w : World} {B B' : Nat} {A : Option Addr} {t : List Fl} (h : FRow w B A t) (hB : B ≤ B') : FRow w B' A t := fun j x hx => by
  obtain ⟨b, o, s, d, h1, h2, h3⟩ := h j x hx
  exact ⟨b, o, s, d, h1, by omega, h3⟩
theorem FRow.drewN {w : World} {B : Nat} {A : Option Addr} {t : List Fl} (h : FRow w B A t) (n : Nat) : FRow (w.drewN n) B A t := h
theorem FRow.alloc {w : World} {B : Nat} {A : Option Addr} {t : List Fl} (h : FRow w B A t) (hB : B ≤ w.heap.size) (o : Obj) : FRow (w.alloc o) B A t :=
  h.keep fun p hp => World.cell?_alloc_lt w o p (by omega)

def big (f : Fl) : Bool := decide (300 < f.1.length) || decide (300 < f.2.length)
def greatV (t : List Fl) : Bool := decide (60 < t.length) || t.any big

set_option maxRecDepth 100000 in
set_option maxHeartbeats 2000000 in
theorem great_any (A : Option Addr) (cap B n : Nat) (t : List Fl) (b : Bool) (hb : greatV t = b) (w : World) (hn : t.length = n) (hnm : n ≤ 9223372036854775807) (hx : FRow w B A t) :
    Calls Tryd.prog 4 #[.slice A n cap] w fun e w' => e = .returned (.bool b) ∧ ∃ n, w' = w.drewN n := by
  have HX := Lib.hid hx
  have HL := Lib.hid hn
  have HB := Lib.hid hb
  clear hx hn hb
  by_cases h60 : 60 < n
  · have hb : b = true := by rw [← HB.out]; unfold greatV; rw [HL.out, decide_eq_true h60]; rfl
    subst hb
    have hi : (60 : Int) < n := by omega
    go_enter Tryd.func4, Tryd.ntmps4
    go_wp2
    go_ret
    exact ⟨rfl, 0, by rw [World.drewN_zero]⟩
  · have hi : (n : Int) ≤ 60 := by omega
    go_enter Tryd.func4, Tryd.ntmps4
    go_wp2
    go_loopw [9] (fun i wr => ∃ k d : Nat, k ≤ n ∧ i = .int .i64 k ∧ Hid (∀ j f, j < k → t[j]? = some f → big f = false) ∧ wr = w.drewN d) (fun i _ => n - (intOf i).toNat)
    case atStart => exact ⟨0, 0, Nat.zero_le _, rfl, fun j f hj => absurd hj (Nat.not_lt_zero _), by rw [World.drewN_zero]⟩
    case round =>
      obtain ⟨k, d, hk, rfl, HA, rfl⟩ := hrel
      by_cases hlt : k < n
      · have hki : (k : Int) < n := by omega
        have hxk : t[k]? = some (t[k]'(by rw [HL.out]; exact hlt)) := List.getElem?_eq_getElem _
        generalize t[k]'(by rw [HL.out]; exact hlt) = x at hxk
        obtain ⟨b1, o1, sp, sd, rfl, _, hsp, hsd, cP, cD⟩ := HX.out k x hxk
        have e1 : x.1.length = sp.size := by rw [← hsp, data_length]
        have e2 : x.2.length = sd.size := by rw [← hsd, data_length]
        have hbig : big x = (decide (300 < sp.size) || decide (300 < sd.size)) := by unfold big; rw [e1, e2]
        have hyes : big x = true → true = b := fun h => by
          rw [← HB.out]; unfold greatV
          rw [List.any_eq_true.2 ⟨x, List.mem_of_getElem? hxk, h⟩, Bool.or_true]
        have hno : big x = false → ∀ j f, j < k + 1 → t[j]? = some f → big f = false := fun h j f hj hf => by
          by_cases he : j = k
          · subst he; rw [hxk] at hf; cases hf; exact h
          · exact HA.out j f (by omega) hf
        have HBI := Lib.hid hbig
        have HYE := Lib.hid hyes
        have HNO := Lib.hid hno
        clear e1 e2 hbig hyes hno hsp hsd hxk
        by_cases h1 : 300 < sp.size
        · have hi1 : (300 : Int) < sp.size := by omega
          go_wp2
          go_ret
          exact ⟨by rw [← HYE.out (by rw [HBI.out]; simp [h1])]; rfl, d, rfl⟩
        · have hi1 : ¬ (300 : Int) < sp.size := by omega
          by_cases h2 : 300 < sd.size
          · have hi2 : (300 : Int) < sd.size := by omega
            go_wp2
            go_ret
            exact ⟨by rw [← HYE.out (by rw [HBI.out]; simp [h2])]; rfl, d, rfl⟩
          · have hi2 : ¬ (300 : Int) < sd.size := by omega
            have hq : Hid (∀ j f, j < k + 1 → t[j]? = some f → big f = false) := HNO.out (by rw [HBI.out]; simp [h1, h2])
            go_wp2
            go_roundw
            case rel => exact ⟨k + 1, d, by omega, by go_num, hq.out, rfl⟩
            case measure => simp [intOf]; omega
      · obtain rfl : k = n := by omega
        have hb : b = false := by
          rw [← HB.out]; unfold greatV
          rw [HL.out, decide_eq_false h60, Bool.false_or, List.any_eq_false]
          intro f hf
          obtain ⟨j, hj⟩ := List.getElem?_of_mem hf
          have hjl := (List.getElem?_eq_some_iff.1 hj).1
          rw [HA.out j f (by have := HL.out; omega) hj]; simp
        subst hb
        go_wp2
        go_ret
        exact ⟨rfl, d, rfl⟩
end Tr
end Go.Proofs.YtkldgfdfpanelaaDoor
