/-
  Layer 9 (lex): the landed lexer's small functions: isLetter, isDigit, isControl, escape, never, begin's first closure, lineSize.
-/
import Derived.Test.YtpiiklpehfkdaaaNQ
import Derived.Test.YtpiiklpehfkdaaaShelf
namespace Go.Proofs.Ytpiiklpehfkdaaa
namespace Lx
open Go.RowKit Kr

set_option maxRecDepth 100000 in
theorem digit_any (c : UInt8) (w : World) : Calls Try.prog 34 #[.int .u8 (c.toNat : Int)] w fun e w' => e = .returned (.bool (isD c)) ∧ w = w' := by
  have hc := c.toNat_lt
  obtain ⟨b, hb⟩ : ∃ b, isD c = b := ⟨_, rfl⟩
  rw [hb]
  unfold isD at hb
  generalize c.toNat = n at hb hc ⊢
  have HB := Lib.hid hb
  clear hb
  go_enter Try.func34, Try.ntmps34
  go_wp2
  all_goals
    go_ret
    refine ⟨congrArg (fun b => Ending.returned (Value.bool b)) ?_, rfl⟩
    rw [← HB.out, Bool.eq_iff_iff]
    simp only [Bool.and_eq_true, decide_eq_true_eq, Bool.false_eq_true, false_iff]
    omega
set_option maxRecDepth 100000 in
theorem letter_any (c : UInt8) (w : World) : Calls Try.prog 32 #[.int .u8 (c.toNat : Int)] w fun e w' => e = .returned (.bool (isL c)) ∧ w = w' := by
  have hc := c.toNat_lt
  obtain ⟨b, hb⟩ : ∃ b, isL c = b := ⟨_, rfl⟩
  rw [hb]
  unfold isL at hb
  generalize c.toNat = n at hb hc ⊢
  have HB := Lib.hid hb
  clear hb
  go_enter Try.func32, Try.ntmps32
  go_wp2
  all_goals
    go_ret
    refine ⟨congrArg (fun b => Ending.returned (Value.bool b)) ?_, rfl⟩
    rw [← HB.out, Bool.eq_iff_iff]
    simp only [Bool.or_eq_true, Bool.and_eq_true, decide_eq_true_eq, beq_iff_eq, true_iff]
    omega
set_option maxRecDepth 100000 in
theorem control_any (c : UInt8) (w : World) : Calls Try.prog 21 #[.int .u8 (c.toNat : Int)] w fun e w' => e = .returned (.bool (bad c)) ∧ w = w' := by
  have hc := c.toNat_lt
  obtain ⟨b, hb⟩ : ∃ b, bad c = b := ⟨_, rfl⟩
  rw [hb]
  unfold bad at hb
  generalize c.toNat = n at hb hc ⊢
  have HB := Lib.hid hb
  clear hb
  go_enter Try.func21, Try.ntmps21
  go_wp2
  all_goals
    go_ret
    refine ⟨congrArg (fun b => Ending.returned (Value.bool b)) ?_, rfl⟩
    rw [← HB.out, Bool.eq_iff_iff]
    simp only [Bool.or_eq_true, decide_eq_true_eq, beq_iff_eq, true_iff]
    omega
def escV (d : UInt8) : UInt8 := if d = 110 then 10 else d
set_option maxRecDepth 100000 in
theorem escape_any (d : UInt8) (w : World) : Calls Try.prog 38 #[.int .u8 (d.toNat : Int)] w fun e w' => e = .returned (.int .u8 ((escV d).toNat : Int)) ∧ w = w' := by
  have hd := d.toNat_lt
  by_cases h : d = 110
  · have HE : Hid (escV d = 10) := if_pos h
    subst h
    go_enter Try.func38, Try.ntmps38
    go_wp2
    go_ret
    rw [HE.out]
    exact ⟨rfl, rfl⟩
  · have HE : Hid (escV d = d) := if_neg h
    have j : ((d.toNat : Int) == 110) = false := beq_eq_false_iff_ne.2 fun e => h ((u8_is d 110 (by decide)).2 (by omega))
    go_enter Try.func38, Try.ntmps38
    go_wp2
    go_ret
    rw [HE.out]
    exact ⟨rfl, rfl⟩
set_option maxRecDepth 100000 in
theorem never_any (v : Value) (w : World) : Calls Try.prog 37 #[v] w fun e w' => e = .returned (.bool false) ∧ w = w' := by
  go_enter Try.func37, Try.ntmps37
  go_wp2
  go_ret
  exact ⟨rfl, rfl⟩
set_option maxRecDepth 100000 in
theorem word_any (c : UInt8) (w : World) : Calls Try.prog 33 #[.int .u8 (c.toNat : Int)] w fun e w' => e = .returned (.bool (isW c)) ∧ w = w' := by
  have HL := Lib.hid (fun W => letter_any c W)
  have HD := Lib.hid (fun W => digit_any c W)
  have HW : Hid (isW c = (isL c || isD c)) := rfl
  generalize isL c = a at *
  generalize isD c = b at *
  go_enter Try.func33, Try.ntmps33
  cases a <;> cases b <;>
    (go_wp2_with (first
        | (go_at_call 32; refine (HL.out _).mono ?_; rintro e _ ⟨rfl, rfl⟩)
        | (go_at_call 34; refine (HD.out _).mono ?_; rintro e _ ⟨rfl, rfl⟩))
     go_ret
     rw [HW.out]
     exact ⟨rfl, rfl⟩)
theorem index_nl : ∀ l : Bs, Lib.indexByte l 10 = if (l.takeWhile notNl).length < l.length then ((l.takeWhile notNl).length : Int) else -1
  | [] => rfl
  | b :: l => by
    unfold Lib.indexByte
    by_cases h : b = 10
    · subst h
      rw [if_pos (by rfl), List.takeWhile_cons_of_neg (by decide), if_pos (by simp)]
      rfl
    · have hn : notNl b = true := by unfold notNl; simpa using h
      have hb : ¬ (b == 10) = true := by simpa using h
      rw [if_neg hb, index_nl l, List.takeWhile_cons_of_pos hn, List.length_cons, List.length_cons]
      by_cases h2 : (l.takeWhile notNl).length < l.length
      · rw [if_pos h2, if_neg (by simp only [beq_iff_eq]; omega), if_pos (by omega)]
        omega
      · rw [if_neg h2, if_pos (by rfl), if_neg (by omega)]
set_option maxRecDepth 100000 in
theorem line_any (s : ByteArray) (w : World) (_hs : s.size ≤ 1000000) : Calls Try.prog 22 #[.string s] w fun e w' => e = .returned (.int .i64 (lineV (toB s) : Int)) ∧ w = w' := by
  have HI := Lib.hid (fun W => Try.strings_IndexByte s 10 W)
  have h10 : (10 : Int).toNat.toUInt8 = 10 := rfl
  rw [h10] at HI
  have h1 := index_nl (toB s)
  have h2 := line_le (toB s)
  have HV : Hid (lineV (toB s) = ((toB s).takeWhile notNl).length) := rfl
  rw [toB_length] at h2
  change lineV (toB s) ≤ _ at h2
  have h3 : Lib.indexByte s.data.toList 10 = if lineV (toB s) < s.size then (lineV (toB s) : Int) else -1 := h1
  clear h1 HV
  generalize lineV (toB s) = m at *
  by_cases hm : m < s.size
  · rw [if_pos hm] at h3
    rw [h3] at HI
    clear h3
    go_enter Try.func22, Try.ntmps22
    go_wp2_with (go_at_call 31; refine (HI.out _).mono ?_; rintro e _ ⟨rfl, rfl⟩)
    go_ret
    exact ⟨rfl, rfl⟩
  · rw [if_neg hm] at h3
    rw [h3] at HI
    obtain rfl : m = s.size := by omega
    clear h3 hm h2
    go_enter Try.func22, Try.ntmps22
    go_wp2_with (go_at_call 31; refine (HI.out _).mono ?_; rintro e _ ⟨rfl, rfl⟩)
    go_ret
    exact ⟨rfl, rfl⟩
end Lx
end Go.Proofs.Ytpiiklpehfkdaaa
