/-
  Layer 7 (disk): files, names and picks in memory; the walk of the document's Same on names.
-/
import Derived.Test.YteikfdijcepimaaProg
import Derived.Test.YteikfdijcepimaaDN
import Derived.Test.YteikfdijcepimaaKR
import Derived.BigQuiet
import Derived.Deep.QuietTactic
import Derived.Lib.Hide
import Derived.Laws.Strings
import Derived.DataElems
import Derived.ChangeSlices
import Derived.Sort.Walk0
namespace Go.Proofs.Yteikfdijcepimaa
namespace Dk
open Go.RowKit Go.ChangeShapes Kr

theorem take_snoc {α : Type} (xs : List α) (k : Nat) (x : α) (h : xs[k]? = some x) : xs.take (k + 1) = xs.take k ++ [x] := by
  obtain ⟨hk, rfl⟩ := List.getElem?_eq_some_iff.1 h
  rw [List.take_succ_eq_append_getElem hk]
/-- A file: three cells. -/
def encF (f : FF) : List Value := [.string f.name, .string f.data, .int .i64 (f.sure : Int)]
theorem encF_length (f : FF) : (encF f).length = 3 := rfl
theorem f_name (f : FF) : (encF f)[0]? = some (.string f.name) := rfl
theorem f_data (f : FF) : (encF f)[1]? = some (.string f.data) := rfl
theorem f_sure (f : FF) : (encF f)[2]? = some (.int .i64 (f.sure : Int)) := rfl
abbrev FRow (w : World) (B : Nat) (A : Option Addr) (l : List FF) : Prop := KRow encF 3 w B A l
/-- A name: one cell. -/
def encN (s : ByteArray) : List Value := [.string s]
theorem encN_length (s : ByteArray) : (encN s).length = 1 := rfl
abbrev NRow (w : World) (B : Nat) (A : Option Addr) (l : List ByteArray) : Prop := KRow encN 1 w B A l
/-- A pick: one cell. -/
def encI (z : Int) : List Value := [.int .i64 z]
theorem encI_length (z : Int) : (encI z).length = 1 := rfl
abbrev PRow (w : World) (B : Nat) (A : Option Addr) (l : List Int) : Prop := KRow encI 1 w B A l
theorem one_cell {α : Type} {enc : α → List Value} {w : World} {B : Nat} {A : Option Addr} {l : List α} (h : KRow enc 1 w B A l) {j : Nat} {x : α} {v : Value} (hx : l[j]? = some x) (hv : (enc x)[0]? = some v) :
    ∃ b o, A = some ⟨b, o, none⟩ ∧ b < B ∧ w.cell? ⟨b, o + j, none⟩ = some v := by
  obtain ⟨b, o, h1, h2, h3⟩ := h j x hx
  have h4 := h3 0 v hv
  rw [Nat.mul_one, Nat.add_zero] at h4
  exact ⟨b, o, h1, h2, h4⟩
theorem eqB (a b : ByteArray) : (a.toList == b.toList) = decide (a = b) := by
  rw [ByteArray.toList_eq, ByteArray.toList_eq]
  by_cases h : a = b
  · rw [h]; simp
  · have : a.data.toList ≠ b.data.toList := fun e => h (ba_eq e)
    rw [decide_eq_false h]
    simpa using this
theorem lessB (a b : ByteArray) : Op.bytesLess a.toList b.toList = decide (a.data.toList < b.data.toList) := by rw [bytesLess_eq, ByteArray.toList_eq, ByteArray.toList_eq]

set_option maxRecDepth 100000 in
set_option maxHeartbeats 2000000 in
theorem same_any (A A' : Option Addr) (cap cap' B n m : Nat) (xs ys : List ByteArray) (w : World) (hn : xs.length = n) (hm : ys.length = m) (hnm : n ≤ 9223372036854775807) (hmm : m ≤ 9223372036854775807) (hx : NRow w B A xs) (hy : NRow w B A' ys) :
    Calls Try.prog 21 #[.slice A n cap, .slice A' m cap'] w fun e w' => e = .returned (.bool (decide (xs = ys))) ∧ ∃ n, w' = w.drewN n := by
  have HX := Lib.hid hx
  have HY := Lib.hid hy
  have HL := Lib.hid hn
  have HM := Lib.hid hm
  clear hx hy hn hm
  by_cases hnm : n = m
  · subst hnm
    have hb : ((n : Int) != (n : Int)) = false := by simp
    go_enter Try.func21, Try.ntmps21
    go_wp2
    go_loopw [13] (fun i wr => ∃ k d : Nat, k ≤ n ∧ i = .int .i64 k ∧ xs.take k = ys.take k ∧ wr = w.drewN d) (fun i _ => n - (intOf i).toNat)
    case atStart => exact ⟨0, 0, Nat.zero_le _, rfl, rfl, by rw [World.drewN_zero]⟩
    case round =>
      obtain ⟨k, d, hk, rfl, ht, rfl⟩ := hrel
      have HT := Lib.hid ht
      clear ht
      by_cases hlt : k < n
      · have hxk : xs[k]? = some (xs[k]'(by rw [HL.out]; exact hlt)) := List.getElem?_eq_getElem _
        generalize xs[k]'(by rw [HL.out]; exact hlt) = x at hxk
        have hyk : ys[k]? = some (ys[k]'(by rw [HM.out]; exact hlt)) := List.getElem?_eq_getElem _
        generalize ys[k]'(by rw [HM.out]; exact hlt) = y at hyk
        obtain ⟨b, o, rfl, _, hc⟩ := one_cell HX.out hxk rfl
        obtain ⟨b', o', rfl, _, hc'⟩ := one_cell HY.out hyk rfl
        have HXK := Lib.hid hxk
        have HYK := Lib.hid hyk
        clear hxk hyk
        have hki : (k : Int) < n := by omega
        have he := eqB x y
        by_cases hxy : x = y
        · rw [decide_eq_true hxy] at he
          have hT : xs.take (k + 1) = ys.take (k + 1) := by
            rw [take_snoc xs k x HXK.out, take_snoc ys k y HYK.out, HT.out, hxy]
          have HT' := Lib.hid hT
          clear hT hxy
          go_wp2
          go_quiet (fail)
          go_wp2
          go_roundw
          case rel => exact ⟨k + 1, _, by omega, by go_num, HT'.out, rfl⟩
          case measure => simp [intOf]; omega
        · rw [decide_eq_false hxy] at he
          have hD : decide (xs = ys) = false := by
            rw [decide_eq_false_iff_not]
            rintro rfl
            have h1 := HXK.out
            rw [HYK.out] at h1
            exact hxy (Option.some.inj h1).symm
          have HD := Lib.hid hD
          clear hxy hD
          go_wp2
          go_quiet (fail)
          go_wp2
          go_ret
          rw [HD.out]
          exact ⟨rfl, _, World.drewN_drewN _ _ _⟩
      · have hD : decide (xs = ys) = true := by
          have := HT.out
          rw [List.take_of_length_le (by rw [HL.out]; omega), List.take_of_length_le (by rw [HM.out]; omega)] at this
          simp [this]
        have HD := Lib.hid hD
        clear hD
        go_wp2
        go_ret
        rw [HD.out]
        exact ⟨rfl, _, rfl⟩
  · have hb : ((n : Int) != (m : Int)) = true := by simp; omega
    have hD : decide (xs = ys) = false := by
      rw [decide_eq_false_iff_not]
      rintro rfl
      exact hnm (HL.out.symm.trans HM.out)
    have HD := Lib.hid hD
    clear hD
    go_enter Try.func21, Try.ntmps21
    go_wp2
    go_ret
    rw [HD.out]
    exact ⟨rfl, 0, by rw [World.drewN_zero]⟩
end Dk
end Go.Proofs.Yteikfdijcepimaa
