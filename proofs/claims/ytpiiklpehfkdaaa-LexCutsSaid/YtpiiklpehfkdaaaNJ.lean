/-
  Layer 9 (lex): law Cuts.
-/
import Derived.Test.YtpiiklpehfkdaaaNI
namespace Go.Proofs.Ytpiiklpehfkdaaa
namespace Lx
open Go.RowKit Kr

theorem ans_len (T : Bs) : (ansV T).1.length ≤ T.length ∧ (ansV T).1.length ≤ 65536 := by
  unfold ansV
  split
  · exact ⟨Nat.zero_le _, Nat.zero_le _⟩
  · rename_i h
    split
    · exact ⟨Nat.zero_le _, Nat.zero_le _⟩
    · rename_i l hl
      have := (cut_good T.length T (1, 1) l (Nat.le_refl _) hl).2.2
      exact ⟨this, by show l.length ≤ _; omega⟩
set_option maxRecDepth 100000 in
set_option maxHeartbeats 4000000 in
theorem cuts_law (hK : LxKeeps) (s : ByteArray) (w : World) : Calls Try.prog 3 #[.string s] w fun e w' => e = .returned (.bool true) ∧ Below w.heap.size w w' := by
  have HAL := Lib.hid (alive_any hK w)
  have HA := Lib.hid (fun W => hK.all s W)
  have HR := Lib.hid (fun W => refall_any s W)
  obtain ⟨R, hR⟩ : ∃ R, ansV (toB s) = R := ⟨_, rfl⟩
  have hlen := ans_len (toB s)
  rw [hR] at hlen
  have HRR := Lib.hid hR
  obtain ⟨L, no, p1, p2⟩ := R
  simp only at hlen
  obtain ⟨n, hn⟩ : ∃ n, L.length = n := ⟨_, rfl⟩
  rw [hn] at hlen
  obtain ⟨_, hlen⟩ := hlen
  have HN := Lib.hid hn
  have hP := eqP (p1 : Int) (p2 : Int)
  have hG := guardP
  clear hR hn
  have hz : (600 : Int) < s.size ∧ (s.size : Int) ≤ 65536 ∨ (¬ (600 : Int) < s.size ∨ (600 : Int) < s.size ∧ ¬ (s.size : Int) ≤ 65536) := by omega
  go_enter Try.func3, Try.ntmps3
  go_wp2_with fail
  refine HAL.out.mono ?_
  rintro e w0 ⟨rfl, hb0⟩
  have HB0 := Lib.hid hb0
  clear hb0
  rcases hz with ⟨hz1, hz2⟩ | hz
  · go_wp2
    go_ret
    exact ⟨rfl, HB0.out⟩
  · rcases hz with hz | ⟨hz1, hz2⟩
    all_goals
      go_wp2_with fail
      refine (HA.out w0).mono ?_
      rintro e w1 h1
      obtain ⟨A1, m1, cap1, rfl, hm1, hr1, hb1⟩ := ans_of h1 HRR.out
      obtain rfl : n = m1 := HN.out.symm.trans hm1
      have HR1 := Lib.hid hr1
      have HB1 := Lib.hid (HB0.out.trans (hb1.mono HB0.out.size))
      have HP1 : Hid (Row (w1.alloc (.cells #[.int .i64 (p1 : Int), .int .i64 (p2 : Int)] T_P)) w1.heap.size T_P (lpl (p1, p2))) := Row.new_at _ _ _ _ rfl rfl
      clear h1 hr1 hb1 hm1
      go_wp2_with fail
      refine (HR.out _).mono ?_
      rintro e w2 h2
      obtain ⟨A2, m2, cap2, rfl, hm2, hr2, hb2⟩ := ans_of h2 HRR.out
      obtain rfl : n = m2 := HN.out.symm.trans hm2
      have hs2 := hb2.size
      rw [World.size_alloc] at hs2
      have HR2 := Lib.hid (hr2.alloc (Nat.le_refl _) (.cells #[.int .i64 (p1 : Int), .int .i64 (p2 : Int)] T_P))
      have HR3 := Lib.hid ((((HR1.out.alloc (Nat.le_refl _) (.cells #[.int .i64 (p1 : Int), .int .i64 (p2 : Int)] T_P)).below hb2 (by simp)).alloc (by omega) (.cells #[.int .i64 (p1 : Int), .int .i64 (p2 : Int)] T_P)).more (B' := w2.heap.size) (by omega))
      have HP3 := Lib.hid ((HP1.out.below hb2 (by simp)).alloc (.cells #[.int .i64 (p1 : Int), .int .i64 (p2 : Int)] T_P))
      have HP4 : Hid (Row (w2.alloc (.cells #[.int .i64 (p1 : Int), .int .i64 (p2 : Int)] T_P)) w2.heap.size T_P (lpl (p1, p2))) := Row.new_at _ _ _ _ rfl rfl
      have HB2 := Lib.hid (((HB1.out.alloc HB1.out.size (.cells #[.int .i64 (p1 : Int), .int .i64 (p2 : Int)] T_P)).trans (hb2.mono (by rw [World.size_alloc]; have := HB1.out.size; omega))).alloc (by have := HB1.out.size; omega) (.cells #[.int .i64 (p1 : Int), .int .i64 (p2 : Int)] T_P))
      have HSM := Lib.hid (same_yes A1 A2 cap1 cap2 w2.heap.size n L _ HN.out (by omega) HR3.out HR2.out)
      clear h2 hr2 hb2 hm2 HR1 HR2 HR3
      go_wp2_with fail
      refine HSM.out.mono ?_
      rintro e w3 ⟨rfl, hb3⟩
      have hp3 := HP3.out.below hb3 HP3.out.lt
      have hp4 := HP4.out.below hb3 HP4.out.lt
      have y0 := hp3.cell 0
      have y1 := hp3.cell 1
      have y2 := hp4.cell 0
      have y3 := hp4.cell 1
      have HB3 := Lib.hid (HB2.out.trans (hb3.mono HB2.out.size))
      clear hb3 hp3 hp4 HSM
      go_wp2
      go_ret
      exact ⟨rfl, HB3.out⟩
end Lx
end Go.Proofs.Ytpiiklpehfkdaaa
