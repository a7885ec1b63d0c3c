/-
  Layer 9 (lex): law Faults.
-/
import Derived.Test.YtpiiklpehfkdaaaNJ
namespace Go.Proofs.Ytpiiklpehfkdaaa
namespace Lx
open Go.RowKit Kr

theorem two_lines (a b : ByteArray) : toB (a ++ ⟨#[10]⟩ ++ b) = toB a ++ 10 :: toB b := by
  rw [app_toB, app_toB]
  show toB a ++ [10] ++ toB b = _
  rw [List.append_assoc]; rfl
theorem faults_math {A B : Bs} {n : Nat} {p : Pl} {l : List Tk} (hA : A.length ≤ 300) (hB : B.length ≤ 300) (h : ansV A = (l, n, p)) (hn : n ≠ 0) : ansV (A ++ 10 :: B) = ([], n, p) := by
  have h1 : ¬ 65536 < A.length := by omega
  have h2 : ¬ 65536 < (A ++ 10 :: B).length := by rw [List.length_append, List.length_cons]; omega
  unfold ansV at h
  rw [if_neg h1] at h
  cases hc : cut (1, 1) A with
  | inl m =>
    rw [hc] at h
    simp only [Prod.mk.injEq] at h
    exact absurd h.2.1.symm hn
  | inr e =>
    rw [hc] at h
    simp only [Prod.mk.injEq] at h
    refine ans_no h2 ?_
    rw [cut_nl A.length A (1, 1) B (Nat.le_refl _), hc, ← h.2.1, ← h.2.2]
set_option maxRecDepth 100000 in
set_option maxHeartbeats 4000000 in
theorem faults_law (hK : LxKeeps) (a b : ByteArray) (w : World) : Calls Try.prog 7 #[.string a, .string b] w fun e w' => e = .returned (.bool true) ∧ Below w.heap.size w w' := by
  have HAL := Lib.hid (alive_any hK w)
  by_cases ha : (300 : Int) < a.size
  · go_enter Try.func7, Try.ntmps7
    go_wp2_with fail
    refine HAL.out.mono ?_
    rintro e w0 ⟨rfl, hb0⟩
    go_wp2
    go_ret
    exact ⟨rfl, hb0⟩
  · by_cases hb : (300 : Int) < b.size
    · go_enter Try.func7, Try.ntmps7
      go_wp2_with fail
      refine HAL.out.mono ?_
      rintro e w0 ⟨rfl, hb0⟩
      go_wp2
      go_ret
      exact ⟨rfl, hb0⟩
    · have HA := Lib.hid (fun W => hK.all a W)
      have HC := Lib.hid (fun W => hK.all (a ++ ⟨#[10]⟩ ++ b) W)
      rw [two_lines] at HC
      obtain ⟨R, hR⟩ : ∃ R, ansV (toB a) = R := ⟨_, rfl⟩
      obtain ⟨L, no, p1, p2⟩ := R
      have hf := faults_math (A := toB a) (B := toB b) (by rw [toB_length]; omega) (by rw [toB_length]; omega) hR
      have HRR := Lib.hid hR
      have HF := Lib.hid hf
      obtain ⟨R2, hR2⟩ : ∃ R, ansV (toB a ++ 10 :: toB b) = R := ⟨_, rfl⟩
      obtain ⟨L2, no2, q1, q2⟩ := R2
      have HRR2 := Lib.hid hR2
      have hP := eqP (p1 : Int) (p2 : Int)
      have hG := guardP
      clear hf hR hR2
      go_enter Try.func7, Try.ntmps7
      go_wp2_with fail
      refine HAL.out.mono ?_
      rintro e w0 ⟨rfl, hb0⟩
      have HB0 := Lib.hid hb0
      clear hb0
      go_wp2_with fail
      refine (HA.out w0).mono ?_
      rintro e w1 h1
      obtain ⟨A1, m1, cap1, rfl, hm1, hr1, hb1⟩ := ans_of h1 HRR.out
      have HB1 := Lib.hid (HB0.out.trans (hb1.mono HB0.out.size))
      have HP1 : Hid (Row (w1.alloc (.cells #[.int .i64 (p1 : Int), .int .i64 (p2 : Int)] T_P)) w1.heap.size T_P (lpl (p1, p2))) := Row.new_at _ _ _ _ rfl rfl
      clear h1 hr1 hb1 hm1
      go_wp2_with fail
      refine (HC.out _).mono ?_
      rintro e w2 h2
      obtain ⟨A2, m2, cap2, rfl, hm2, hr2, hb2⟩ := ans_of h2 HRR2.out
      have hs2 := hb2.size
      rw [World.size_alloc] at hs2
      have HP3 := Lib.hid ((HP1.out.below hb2 (by simp)).alloc (.cells #[.int .i64 (q1 : Int), .int .i64 (q2 : Int)] T_P))
      have HP4 : Hid (Row (w2.alloc (.cells #[.int .i64 (q1 : Int), .int .i64 (q2 : Int)] T_P)) w2.heap.size T_P (lpl (q1, q2))) := Row.new_at _ _ _ _ rfl rfl
      have HB2 := Lib.hid (((HB1.out.alloc HB1.out.size (.cells #[.int .i64 (p1 : Int), .int .i64 (p2 : Int)] T_P)).trans (hb2.mono (by rw [World.size_alloc]; have := HB1.out.size; omega))).alloc (by have := HB1.out.size; omega) (.cells #[.int .i64 (q1 : Int), .int .i64 (q2 : Int)] T_P))
      clear h2 hr2 hb2 hm2
      by_cases hn : no = 0
      · subst hn
        simp only [Int.natCast_zero]
        go_wp2
        go_ret
        exact ⟨rfl, HB2.out⟩
      · have hni : ((no : Int) == 0) = false := beq_eq_false_iff_ne.2 (by omega)
        have he := HRR2.out.symm.trans (HF.out hn)
        simp only [Prod.mk.injEq] at he
        obtain ⟨_, rfl, rfl, rfl⟩ := he
        have y0 := (HP1.out.cell 0)
        have y1 := HP3.out.cell 0
        have y2 := HP3.out.cell 1
        have hlt := HP3.out.lt
        clear hn
        go_wp2
        go_ret
        exact ⟨rfl, HB2.out⟩
end Lx
end Go.Proofs.Ytpiiklpehfkdaaa
