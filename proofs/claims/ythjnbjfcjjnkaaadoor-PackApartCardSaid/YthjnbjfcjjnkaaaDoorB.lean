/-
  Layer 1 (pack): slices of strings in memory, and the walks of long and Same.
-/
import Derived.Test.YthjnbjfcjjnkaaaDoorA
import Derived.Below
import Derived.Deep.Draws
import Derived.Laws.OwnMore
import Derived.DataElems
import Derived.ChangeSlices
namespace Go.Proofs.YthjnbjfcjjnkaaaDoor
namespace Pk
open Go.RowKit Go.ChangeShapes

/-- A slice's address under which strings stand, below block B: the rows of bytes xs. -/
def SRow (w : World) (B : Nat) (A : Option Addr) (xs : List Bs) : Prop :=
  ∀ j x, xs[j]? = some x → ∃ b o s, A = some ⟨b, o, none⟩ ∧ b < B ∧ s.data.toList = x ∧ w.cell? ⟨b, o + j, none⟩ = some (.string s)

theorem SRow.none_ (w : World) (B : Nat) (A : Option Addr) : SRow w B A [] := fun j x h => by simp at h
theorem SRow.keep {w w' : World} {B : Nat} {A : Option Addr} {xs : List Bs} (h : SRow w B A xs) (hk : ∀ p : Addr, p.block < B → w'.cell? p = w.cell? p) : SRow w' B A xs := fun j x hx => by
  obtain ⟨b, o, s, h1, h2, h3, h4⟩ := h j x hx
  exact ⟨b, o, s, h1, h2, h3, (hk _ h2).trans h4⟩
theorem SRow.below {w w' : World} {B B' : Nat} {A : Option Addr} {xs : List Bs} (h : SRow w B A xs) (hb : Below B' w w') (hB : B ≤ B') : SRow w' B A xs := h.keep fun _ hp => (hb.mono hB).cell hp
theorem SRow.more {w : World} {B B' : Nat} {A : Option Addr} {xs : List Bs} (h : SRow w B A xs) (hB : B ≤ B') : SRow w B' A xs := fun j x hx => by
  obtain ⟨b, o, s, h1, h2, h3, h4⟩ := h j x hx
  exact ⟨b, o, s, h1, by omega, h3, h4⟩
theorem SRow.drewN {w : World} {B : Nat} {A : Option Addr} {xs : List Bs} (h : SRow w B A xs) (n : Nat) : SRow (w.drewN n) B A xs := h
theorem SRow.alloc {w : World} {B : Nat} {A : Option Addr} {xs : List Bs} (h : SRow w B A xs) (hB : B ≤ w.heap.size) (o : Obj) : SRow (w.alloc o) B A xs :=
  h.keep fun p hp => World.cell?_alloc_lt w o p (by omega)

/-- The total that long asks of. -/
def tot : List Bs → Nat
  | [] => 0
  | s :: r => s.length + 1 + tot r
theorem tot_append (a b : List Bs) : tot (a ++ b) = tot a + tot b := by
  induction a with
  | nil => simp [tot]
  | cons s r ih => simp [tot, ih]; omega
theorem tot_take (xs : List Bs) (k : Nat) : tot (xs.take k) ≤ tot xs := by
  have := tot_append (xs.take k) (xs.drop k)
  rw [List.take_append_drop] at this
  omega
theorem take_snoc {α : Type} (xs : List α) (k : Nat) (x : α) (h : xs[k]? = some x) : xs.take (k + 1) = xs.take k ++ [x] := by
  obtain ⟨hk, rfl⟩ := List.getElem?_eq_some_iff.1 h
  rw [List.take_succ_eq_append_getElem hk]
theorem tot_snoc (xs : List Bs) (k : Nat) (x : Bs) (h : xs[k]? = some x) : tot (xs.take (k + 1)) = tot (xs.take k) + x.length + 1 := by
  rw [take_snoc xs k x h, tot_append]
  simp [tot]; omega
theorem tot_len (xs : List Bs) : xs.length ≤ tot xs := by
  induction xs with
  | nil => simp
  | cons s r ih => simp [tot]; omega
theorem tot_mem {xs : List Bs} {s : Bs} (h : s ∈ xs) : s.length < tot xs := by
  induction xs with
  | nil => cases h
  | cons a r ih =>
    rcases List.mem_cons.1 h with rfl | h
    · simp [tot]; omega
    · have := ih h; simp [tot]; omega

def longB (xs : List Bs) : Bool := decide (5000 < tot xs)

set_option maxRecDepth 100000 in
theorem long_any (A : Option Addr) (cap B : Nat) (xs : List Bs) (w : World) (hx : SRow w B A xs) (hn : xs.length ≤ 9223372036854775807) (hs : ∀ x ∈ xs, x.length ≤ 140737488355328) :
    Calls Tryd.prog 9 #[.slice A xs.length cap] w fun e w' => e = .returned (.bool (longB xs)) ∧ w = w' := by
  have HX := Lib.hid hx
  have HS := Lib.hid hs
  clear hx hs
  generalize hln : xs.length = n at *
  have HL := Lib.hid hln
  clear hln
  go_enter Tryd.func9, Tryd.ntmps9
  go_wp2
  go_loop [3, 8] (fun t i => ∃ k : Nat, k ≤ n ∧ i = .int .i64 k ∧ t = .int .i64 (tot (xs.take k)) ∧ tot (xs.take k) ≤ 5000) (fun _ i => n - (intOf i).toNat)
  case atStart => exact ⟨0, Nat.zero_le _, rfl, rfl, Nat.zero_le _⟩
  case round =>
    obtain ⟨k, hk, rfl, rfl, ht⟩ := hrel
    by_cases hlt : k < n
    · have hxk : xs[k]? = some (xs[k]'(by rw [HL.out]; exact hlt)) := List.getElem?_eq_getElem _
      generalize xs[k]'(by rw [HL.out]; exact hlt) = x at hxk
      obtain ⟨b, o, s, rfl, _, hsx, hc⟩ := HX.out k x hxk
      have hsz : s.size ≤ 140737488355328 := by
        have := HS.out x (List.mem_of_getElem? hxk)
        rw [← hsx, data_length] at this
        exact this
      have hsn := tot_snoc xs k x hxk
      rw [← hsx, data_length] at hsn
      have HSN := Lib.hid hsn
      clear hsn hsx hxk
      by_cases hb : tot (xs.take k) + s.size + 1 ≤ 5000
      · have hb' : (tot (xs.take k) : Int) + (s.size + 1) ≤ 5000 := by omega
        clear hsz
        go_wp2
        go_round
        case rel => exact ⟨k + 1, by omega, by go_num, by rw [HSN.out]; go_num, by rw [HSN.out]; omega⟩
        case measure => simp [intOf]; omega
      · have hb' : (5000 : Int) < (tot (xs.take k) : Int) + (s.size + 1) := by omega
        have hL : longB xs = true := by
          have := tot_take xs (k + 1)
          rw [HSN.out] at this
          simp [longB]; omega
        have HL := Lib.hid hL
        clear hL
        go_wp2
        go_ret
        rw [HL.out]
        exact ⟨rfl, rfl⟩
    · have hL : longB xs = false := by
        rw [List.take_of_length_le (by rw [HL.out]; omega)] at ht
        simp [longB]; omega
      have HL := Lib.hid hL
      clear hL
      go_wp2
      go_ret
      rw [HL.out]
      exact ⟨rfl, rfl⟩

theorem same_any (A A' : Option Addr) (cap cap' B : Nat) (xs ys : List Bs) (w : World) (hx : SRow w B A xs) (hy : SRow w B A' ys) (hn : xs.length ≤ 9223372036854775807) (hm : ys.length ≤ 9223372036854775807) :
    Calls Tryd.prog 13 #[.slice A xs.length cap, .slice A' ys.length cap'] w fun e w' => e = .returned (.bool (decide (xs = ys))) ∧ ∃ n, w' = w.drewN n := by
  have HX := Lib.hid hx
  have HY := Lib.hid hy
  clear hx hy
  generalize hln : xs.length = n at *
  generalize hlm : ys.length = m at *
  have HL := Lib.hid hln
  have HM := Lib.hid hlm
  clear hln hlm
  by_cases hnm : n = m
  · subst hnm
    have hb : ((n : Int) != (n : Int)) = false := by simp
    go_enter Tryd.func13, Tryd.ntmps13
    go_wp2
    go_loopw [13] (fun i wr => ∃ k d : Nat, k ≤ n ∧ i = .int .i64 k ∧ xs.take k = ys.take k ∧ wr = w.drewN d) (fun i _ => n - (intOf i).toNat)
    case atStart => exact ⟨0, 0, Nat.zero_le _, rfl, rfl, by rw [World.drewN_zero]⟩
    case round =>
      obtain ⟨k, d, hk, rfl, ht, rfl⟩ := hrel
      have HT := Lib.hid ht
      clear ht
      by_cases hlt : k < n
      · have hxk : xs[k]? = some (xs[k]'(by rw [HL.out]; exact hlt)) := List.getElem?_eq_getElem _
        generalize xs[k]'(by rw [HL.out]; exact hlt) = x at hxk
        have hyk : ys[k]? = some (ys[k]'(by rw [HM.out]; exact hlt)) := List.getElem?_eq_getElem _
        generalize ys[k]'(by rw [HM.out]; exact hlt) = y at hyk
        obtain ⟨b, o, s, rfl, _, hsx, hc⟩ := HX.out k x hxk
        obtain ⟨b', o', s', rfl, _, hsy, hc'⟩ := HY.out k y hyk
        have HSX := Lib.hid hsx
        have HSY := Lib.hid hsy
        have HXK := Lib.hid hxk
        have HYK := Lib.hid hyk
        clear hsx hsy hxk hyk
        have hki : (k : Int) < n := by omega
        cases he : (s.toList == s'.toList)
        · have hne : x ≠ y := by
            rw [← HSX.out, ← HSY.out]
            rw [ByteArray.toList_eq, ByteArray.toList_eq] at he
            simpa using he
          have hD : decide (xs = ys) = false := by
            rw [decide_eq_false_iff_not]
            rintro rfl
            have h1 := HXK.out
            rw [HYK.out] at h1
            exact hne (Option.some.inj h1).symm
          have HD := Lib.hid hD
          clear hne hD
          go_wp2
          go_quiet (fail)
          go_wp2
          go_ret
          rw [HD.out]
          exact ⟨rfl, _, World.drewN_drewN _ _ _⟩
        · have hT : xs.take (k + 1) = ys.take (k + 1) := by
            rw [take_snoc xs k x HXK.out, take_snoc ys k y HYK.out, HT.out, ← HSX.out, ← HSY.out]
            rw [ByteArray.toList_eq, ByteArray.toList_eq] at he
            rw [beq_iff_eq.1 he]
          have HT' := Lib.hid hT
          clear hT
          go_wp2
          go_quiet (fail)
          go_wp2
          go_roundw
          case rel => exact ⟨k + 1, _, by omega, by go_num, HT'.out, rfl⟩
          case measure => simp [intOf]; omega
      · have hD : decide (xs = ys) = true := by
          have := HT.out
          rw [List.take_of_length_le (by rw [HL.out]; omega), List.take_of_length_le (by rw [HM.out]; omega)] at this
          simp [this]
        have HD := Lib.hid hD
        clear hD
        go_wp2
        go_ret
        rw [HD.out]
        exact ⟨rfl, _, rfl⟩
  · have hb : ((n : Int) != (m : Int)) = true := by simp; omega
    have hD : decide (xs = ys) = false := by
      rw [decide_eq_false_iff_not]
      rintro rfl
      exact hnm (HL.out.symm.trans HM.out)
    have HD := Lib.hid hD
    clear hD
    go_enter Tryd.func13, Tryd.ntmps13
    go_wp2
    go_ret
    rw [HD.out]
    exact ⟨rfl, 0, by rw [World.drewN_zero]⟩
end Pk
end Go.Proofs.YthjnbjfcjjnkaaaDoor
