/-
  Layer 9 (lex): law Quotes.
-/
import Derived.Test.YtpiiklpehfkdaaaNJ
namespace Go.Proofs.Ytpiiklpehfkdaaa
namespace Lx
open Go.RowKit Kr

theorem quotes_math {T : Bs} {b : Nat} (hT : T.length ≤ 500) (hb : b ≤ 9) (hq : quoteV T ≠ []) : ansV (List.replicate b 32 ++ quoteV T) = ([⟨3, T, 1, 1 + b⟩], 0, (0, 0)) := by
  have hl := quote_len T
  refine ans_yes ?_ ?_
  · rw [List.length_append, List.length_replicate]; omega
  · rw [cut_blanks, cut_quote hq]
theorem blanks_more (k : Nat) : ofB (List.replicate k 32) ++ ⟨#[32]⟩ = ofB (List.replicate (k + 1) 32) := by
  refine ba_eq ?_
  rw [app_toB, toB_ofB, toB_ofB, List.replicate_succ']
set_option maxRecDepth 100000 in
set_option maxHeartbeats 4000000 in
theorem quotes_law (hK : LxKeeps) (s : ByteArray) (bl : Nat) (hbl : bl < 256) (w : World) : Calls Try.prog 4 #[.string s, .int .u8 (bl : Int)] w fun e w' => e = .returned (.bool true) ∧ Below w.heap.size w w' := by
  have HAL := Lib.hid (alive_any hK w)
  by_cases ha : (500 : Int) < s.size
  · go_enter Try.func4, Try.ntmps4
    go_wp2_with fail
    refine HAL.out.mono ?_
    rintro e w0 ⟨rfl, hb0⟩
    go_wp2
    go_ret
    exact ⟨rfl, hb0⟩
  · have HQ := Lib.hid (fun W => hK.quote s W (by omega))
    have HR := Lib.hid (fun W => refquote_any s W (by omega))
    obtain ⟨X, hX⟩ : ∃ X, ofB (quoteV (toB s)) = X := ⟨_, rfl⟩
    rw [hX] at HQ HR
    have HX := Lib.hid hX
    have hxl := quote_len (toB s)
    have hxs : X.size ≤ 1010 := by
      rw [toB_length] at hxl
      rw [← hX, ofB_size]
      omega
    have hxx : (X.toList == X.toList) = true := beq_self_eq_true _
    have htX : toB X = quoteV (toB s) := by rw [← hX, toB_ofB]
    have HTX := Lib.hid htX
    obtain ⟨b, hb⟩ : ∃ b, bl % 9 = b := ⟨_, rfl⟩
    have hb9 : b ≤ 8 := by omega
    have hmod : Int.tmod (bl : Int) 9 = (b : Int) := by rw [← hb]; rfl
    clear hX hxl htX
    by_cases h0 : X.toList = []
    · have hx0 : (X.toList == []) = true := by rw [h0]; rfl
      go_enter Try.func4, Try.ntmps4
      go_wp2_with fail
      refine HAL.out.mono ?_
      rintro e w0 ⟨rfl, hb0⟩
      have HB0 := Lib.hid hb0
      clear hb0
      go_wp2_with fail
      refine (HQ.out _).mono ?_
      rintro e w1 ⟨rfl, hb1⟩
      have HB1 := Lib.hid (HB0.out.trans (hb1.mono HB0.out.size))
      clear hb1
      go_wp2_with fail
      refine (HR.out _).mono ?_
      rintro e w2 ⟨rfl, hb2⟩
      have HB2 := Lib.hid (HB1.out.trans (hb2.mono HB1.out.size))
      clear hb2
      go_wp2
      go_ret
      exact ⟨rfl, HB2.out⟩
    · have hx0 : (X.toList == []) = false := beq_eq_false_iff_ne.2 h0
      have hq0 : quoteV (toB s) ≠ [] := by
        rw [← HTX.out]
        intro e
        exact h0 (by rw [ByteArray.toList_eq]; exact e)
      have HM := Lib.hid (quotes_math (b := b) (by rw [toB_length]; omega) (by omega) hq0)
      have HA := Lib.hid (fun W => hK.all (ofB (List.replicate b 32) ++ X) W)
      rw [app_toB, toB_ofB, HTX.out] at HA
      have hE := eqK 3 s 1 (1 + (b : Int))
      have hG := guardK
      clear h0 hq0
      go_enter Try.func4, Try.ntmps4
      go_wp2_with fail
      refine HAL.out.mono ?_
      rintro e w0 ⟨rfl, hb0⟩
      have HB0 := Lib.hid hb0
      clear hb0
      go_wp2_with fail
      refine (HQ.out _).mono ?_
      rintro e w1 ⟨rfl, hb1⟩
      have HB1 := Lib.hid (HB0.out.trans (hb1.mono HB0.out.size))
      clear hb1
      go_wp2_with fail
      refine (HR.out _).mono ?_
      rintro e w2 ⟨rfl, hb2⟩
      have HB2 := Lib.hid (HB1.out.trans (hb2.mono HB1.out.size))
      clear hb2
      go_wp2
      go_loopw [6, 7] (fun v i wr => ∃ k : Nat, k ≤ b ∧ i = .int .i64 k ∧ v = .string (ofB (List.replicate k 32)) ∧ wr = w2) (fun _ i _ => b - (intOf i).toNat)
      case atStart => exact ⟨0, Nat.zero_le _, rfl, rfl, rfl⟩
      case round =>
        obtain ⟨k, hk, rfl, rfl, rfl⟩ := hrel
        have hsz : (ofB (List.replicate k 32)).size = k := by rw [ofB_size, List.length_replicate]
        have HBM := Lib.hid (blanks_more k)
        by_cases hlt : k < b
        · have hki : (k : Int) < b := by omega
          have hsz2 : (ofB (List.replicate k 32)).size ≤ 100 := by omega
          generalize ofB (List.replicate k 32) = Y at *
          clear hsz
          go_wp2
          go_roundw
          case rel => exact ⟨k + 1, by omega, by go_num, by rw [HBM.out], by trivial⟩
          case measure => simp [intOf]; omega
        · obtain rfl : k = b := by omega
          have hsz2 : (ofB (List.replicate k 32)).size ≤ 100 := by omega
          generalize ofB (List.replicate k 32) = Y at *
          clear hsz HBM
          go_wp2_with fail
          refine (HA.out _).mono ?_
          rintro e w3 h3
          obtain ⟨A3, m3, cap3, rfl, hm3, hr3, hb3⟩ := ans_of h3 HM.out
          obtain rfl : 1 = m3 := hm3
          obtain ⟨b1, o1, rfl, hbl1, _⟩ := hr3 0 _ rfl
          obtain ⟨x0, x1, x2, x3⟩ := row_load hr3 (j := 0) rfl
          have HB3 := Lib.hid ((HB2.out.trans (hb3.mono HB2.out.size)).alloc (Nat.le_trans HB2.out.size hb3.size) (.cells #[.int .i64 0, .int .i64 0] T_P))
          have x0' : w3.cell? ⟨b1, o1, none⟩ = some (.int .i64 3) := by rw [Nat.zero_mul, Nat.add_zero] at x0; exact x0
          have x1' : w3.cell? ⟨b1, o1 + 1, none⟩ = some (.string s) := by rw [Nat.zero_mul, Nat.add_zero] at x1; rw [x1]
          have x2' : w3.cell? ⟨b1, o1 + 2, none⟩ = some (.int .i64 1) := by rw [Nat.zero_mul, Nat.add_zero] at x2; exact x2
          have x3' : w3.cell? ⟨b1, o1 + 3, none⟩ = some (.int .i64 (1 + (k : Int))) := by rw [Nat.zero_mul, Nat.add_zero] at x3; rw [x3]; show some (Value.int .i64 ((1 + k : Nat) : Int)) = _; rw [Int.natCast_add]; rfl
          clear h3 hr3 hb3 x0 x1 x2 x3
          go_wp2
          go_ret
          exact ⟨rfl, HB3.out⟩
end Lx
end Go.Proofs.Ytpiiklpehfkdaaa
