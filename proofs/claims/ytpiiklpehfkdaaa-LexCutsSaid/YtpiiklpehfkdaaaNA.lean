/-
  Layer 9 (lex): the walks of the document's digit, letter, gap, At.
-/
import Derived.Test.YtpiiklpehfkdaaaProg
import Derived.Test.YtpiiklpehfkdaaaNO
import Derived.BigQuiet
import Derived.Deep.QuietTactic
import Derived.Lib.Hide
import Derived.Laws.Strings
import Derived.Below
import Derived.Laws.OwnMore
import Derived.Laws.Rows
import Derived.WalkLawsBesides
namespace Go.Proofs.Ytpiiklpehfkdaaa
namespace Lx
open Go.RowKit

abbrev toB (s : ByteArray) : Bs := s.data.toList
abbrev ofB (l : Bs) : ByteArray := ⟨l.toArray⟩
theorem ofB_toB (s : ByteArray) : ofB (toB s) = s := by simp
theorem toB_ofB (l : Bs) : toB (ofB l) = l := List.toList_toArray
theorem toB_length (s : ByteArray) : (toB s).length = s.size := rfl
theorem ofB_size (l : Bs) : (ofB l).size = l.length := by simp [ByteArray.size]
theorem ba_eq {a b : ByteArray} (h : toB a = toB b) : a = b := by rw [← ofB_toB a, h, ofB_toB]
theorem str_index (s : ByteArray) (n : Nat) (i : Int) (hi : i = (n : Int)) (hn : n < s.size) (W : World) :
    (Instr.index 9 (.string s) (.int .i64 i)).run Try.prog W = .ok (.int .u8 (((toB s).getD n 0).toNat : Int)) W := by
  subst hi
  have hd : s[n]? = some ((toB s).getD n 0) := by
    rw [getElem?_pos s n hn, List.getD_eq_getElem?_getD, List.getElem?_eq_getElem (by rw [toB_length]; exact hn)]; rfl
  simp [Instr.index, asIntOf, run_underlying Try.underlying9, hd]
/-- Where a front ends. -/
theorem tw_in_front {f : UInt8 → Bool} : ∀ {s : Bs} {k : Nat}, k < (s.takeWhile f).length → f (s.getD k 0) = true
  | [], k, h => by simp at h
  | c :: s, k, h => by
    by_cases hc : f c = true
    · rw [List.takeWhile_cons_of_pos hc, List.length_cons] at h
      cases k with
      | zero => exact hc
      | succ k => rw [List.getD_cons_succ]; exact tw_in_front (by omega)
    · rw [List.takeWhile_cons_of_neg hc] at h; simp at h
theorem tw_end {f : UInt8 → Bool} : ∀ {s : Bs}, (s.takeWhile f).length < s.length → f (s.getD (s.takeWhile f).length 0) = false
  | [], h => by simp at h
  | c :: s, h => by
    by_cases hc : f c = true
    · rw [List.takeWhile_cons_of_pos hc, List.length_cons] at h ⊢
      rw [List.length_cons] at h
      rw [List.getD_cons_succ]
      exact tw_end (by omega)
    · rw [List.takeWhile_cons_of_neg hc]
      simpa using hc

set_option maxRecDepth 100000 in
theorem refdigit_any (c : UInt8) (w : World) : Calls Try.prog 28 #[.int .u8 (c.toNat : Int)] w fun e w' => e = .returned (.bool (isD c)) ∧ w = w' := by
  have hc := c.toNat_lt
  obtain ⟨b, hb⟩ : ∃ b, isD c = b := ⟨_, rfl⟩
  rw [hb]
  unfold isD at hb
  generalize c.toNat = n at hb hc ⊢
  have HB := Lib.hid hb
  clear hb
  go_enter Try.func28, Try.ntmps28
  go_wp2
  all_goals
    go_ret
    refine ⟨congrArg (fun b => Ending.returned (Value.bool b)) ?_, rfl⟩
    rw [← HB.out, Bool.eq_iff_iff]
    simp only [Bool.and_eq_true, decide_eq_true_eq, Bool.false_eq_true, false_iff]
    omega
set_option maxRecDepth 100000 in
theorem refletter_any (c : UInt8) (w : World) : Calls Try.prog 27 #[.int .u8 (c.toNat : Int)] w fun e w' => e = .returned (.bool (isL c)) ∧ w = w' := by
  have hc := c.toNat_lt
  obtain ⟨b, hb⟩ : ∃ b, isL c = b := ⟨_, rfl⟩
  rw [hb]
  unfold isL at hb
  generalize c.toNat = n at hb hc ⊢
  have HB := Lib.hid hb
  clear hb
  go_enter Try.func27, Try.ntmps27
  go_wp2
  all_goals
    go_ret
    refine ⟨congrArg (fun b => Ending.returned (Value.bool b)) ?_, rfl⟩
    rw [← HB.out, Bool.eq_iff_iff]
    simp only [Bool.or_eq_true, Bool.and_eq_true, decide_eq_true_eq, beq_iff_eq, true_iff]
    omega

/-- How many bytes of one gap a text begins with. -/
def gapV : Bs → Nat
  | [] => 0
  | c :: r => if isG c = true then 1 else if c = 35 then ((c :: r).takeWhile notNl).length else 0
theorem gap_cons (c : UInt8) (r : Bs) : gapV (c :: r) = if isG c = true then 1 else if c = 35 then ((c :: r).takeWhile notNl).length else 0 := rfl
theorem u8_is (c : UInt8) (n : Nat) (hn : n < 256) : c = UInt8.ofNat n ↔ c.toNat = n := by
  constructor
  · rintro rfl; simp [UInt8.toNat_ofNat']; omega
  · intro h; rw [← h]; simp
theorem isG_eq (c : UInt8) : isG c = (decide (c.toNat = 32) || (decide (c.toNat = 9) || (decide (c.toNat = 10) || decide (c.toNat = 13)))) := by
  unfold isG
  have h := fun n hn => u8_is c n hn
  have h1 := h 32 (by decide)
  have h2 := h 9 (by decide)
  have h3 := h 10 (by decide)
  have h4 := h 13 (by decide)
  simp only [show UInt8.ofNat 32 = 32 from rfl, show UInt8.ofNat 9 = 9 from rfl, show UInt8.ofNat 10 = 10 from rfl, show UInt8.ofNat 13 = 13 from rfl] at h1 h2 h3 h4
  simp only [h1, h2, h3, h4]
set_option maxRecDepth 100000 in
set_option maxHeartbeats 1000000 in
theorem refgap_any (s : ByteArray) (w : World) (h0 : toB s ≠ []) (hs : s.size ≤ 1000000) : Calls Try.prog 26 #[.string s] w fun e w' => e = .returned (.int .i64 (gapV (toB s) : Int)) ∧ w = w' := by
  obtain ⟨T, hT⟩ : ∃ T, toB s = T := ⟨_, rfl⟩
  have HT := Lib.hid hT
  have HTL : Hid (T.length = s.size) := by show _ = _; rw [← hT]; rfl
  rw [hT] at h0 ⊢
  clear hT
  cases T with
  | nil => exact absurd rfl h0
  | cons c r =>
    have hpos : 0 < s.size := by have := HTL.out; rw [List.length_cons] at this; omega
    have hx0 := str_index s 0 0 rfl hpos
    rw [HT.out, List.getD_cons_zero] at hx0
    by_cases hg : isG c = true
    · have HE : Hid (gapV (c :: r) = 1) := by show _ = _; rw [gap_cons, if_pos hg]
      rw [isG_eq] at hg
      simp only [Bool.or_eq_true, decide_eq_true_eq] at hg
      generalize c.toNat = n at hx0 hg
      go_enter Try.func26, Try.ntmps26
      rcases hg with rfl | rfl | rfl | rfl
      all_goals
        go_wp2
        go_ret
        rw [HE.out]
        exact ⟨rfl, rfl⟩
    · have HG := Lib.hid hg
      rw [isG_eq] at hg
      simp only [Bool.or_eq_true, decide_eq_true_eq, not_or] at hg
      obtain ⟨g1, g2, g3, g4⟩ := hg
      have i1 : ¬ (c.toNat : Int) = 32 := by omega
      have i2 : ¬ (c.toNat : Int) = 9 := by omega
      have i3 : ¬ (c.toNat : Int) = 10 := by omega
      have i4 : ¬ (c.toNat : Int) = 13 := by omega
      by_cases h35 : c = 35
      · subst h35
        have HE : Hid (gapV (35 :: r) = ((35 :: r).takeWhile notNl).length) := by show _ = _; rw [gap_cons, if_neg HG.out, if_pos rfl]
        obtain ⟨m, hm⟩ : ∃ m, ((35 :: r).takeWhile notNl).length = m := ⟨_, rfl⟩
        have HM := Lib.hid hm
        rw [hm] at HE
        have hml : m ≤ s.size := by rw [← hm, ← HTL.out]; exact tw_le _ _
        clear hm i1 i2 i3 i4 g1 g2 g3 g4
        go_enter Try.func26, Try.ntmps26
        go_wp2
        go_loopw [3] (fun i wr => ∃ k : Nat, k ≤ m ∧ i = .int .i64 k ∧ wr = w) (fun i _ => m - (intOf i).toNat)
        case atStart => exact ⟨0, Nat.zero_le _, rfl, rfl⟩
        case round =>
          obtain ⟨k, hk, rfl, rfl⟩ := hrel
          by_cases hlt : k < m
          · have hki : (k : Int) < s.size := by omega
            have hxk := str_index s k (k : Int) rfl (by omega)
            have hn := tw_in_front (f := notNl) (s := 35 :: r) (k := k) (by rw [HM.out]; exact hlt)
            rw [HT.out] at hxk
            generalize (35 :: r).getD k 0 = d at hxk hn
            have hd : ¬ (d.toNat : Int) = 10 := by
              unfold notNl at hn
              have h10 := u8_is d 10 (by decide)
              have : d ≠ 10 := by simpa using hn
              intro e
              exact this (h10.2 (by omega))
            go_wp2
            go_roundw
            case rel => exact ⟨k + 1, by omega, by go_num, by trivial⟩
            case measure => simp [intOf]; omega
          · obtain rfl : k = m := by omega
            by_cases hsz : k < s.size
            · have hki : (k : Int) < s.size := by omega
              have hxk := str_index s k (k : Int) rfl hsz
              have hn := tw_end (f := notNl) (s := 35 :: r) (by rw [HM.out, HTL.out]; exact hsz)
              rw [HM.out] at hn
              rw [HT.out] at hxk
              generalize (35 :: r).getD k 0 = d at hxk hn
              have hd : (d.toNat : Int) = 10 := by
                unfold notNl at hn
                have : d = 10 := by simpa using hn
                rw [this]; rfl
              rw [hd] at hxk
              go_wp2
              go_ret
              rw [HE.out]
              exact ⟨rfl, rfl⟩
            · have hki : ¬ (k : Int) < s.size := by omega
              go_wp2
              go_ret
              rw [HE.out]
              exact ⟨rfl, rfl⟩
      · have i5 : ¬ (c.toNat : Int) = 35 := by
          have h35' := u8_is c 35 (by decide)
          intro e
          exact h35 (h35'.2 (by omega))
        have j1 : ((c.toNat : Int) == 32) = false := beq_eq_false_iff_ne.2 i1
        have j2 : ((c.toNat : Int) == 9) = false := beq_eq_false_iff_ne.2 i2
        have j3 : ((c.toNat : Int) == 10) = false := beq_eq_false_iff_ne.2 i3
        have j4 : ((c.toNat : Int) == 13) = false := beq_eq_false_iff_ne.2 i4
        have j5 : ((c.toNat : Int) == 35) = false := beq_eq_false_iff_ne.2 i5
        clear i1 i2 i3 i4 i5
        have HE : Hid (gapV (c :: r) = 0) := by show _ = _; rw [gap_cons, if_neg HG.out, if_neg h35]
        go_enter Try.func26, Try.ntmps26
        go_wp2
        go_ret
        rw [HE.out]
        exact ⟨rfl, rfl⟩
end Lx
end Go.Proofs.Ytpiiklpehfkdaaa
