/-
  Layer 3 (path): the walks of the laws PathParts, PathAbove.
-/
import Derived.Test.YtaoebhggkalmlaaK
namespace Go.Proofs.Ytaoebhggkalmlaa
namespace Pt
open Go.RowKit

theorem ext_len (l : Bs) : (extOf l).length ≤ l.length := by
  have h : ∀ (b : Bs) (k : Nat), (extF b k).length ≤ b.length := by
    intro b k
    induction k with
    | zero => simp [extF]
    | succ k ih =>
      unfold extF
      split
      · rw [List.length_drop]; omega
      · exact ih
  exact Nat.le_trans (h _ _) (base_len l)
theorem extOf_not {l : Bs} (h : may l = false) : extOf l = [] := by unfold extOf; rw [baseOf_not h]; rfl

set_option maxRecDepth 100000 in
set_option maxHeartbeats 2000000 in
theorem parts_law (s : ByteArray) (w : World) (hs : s.size ≤ 140737488355328) :
    Calls Try.prog 5 #[.string s] w fun e w' => e = .returned (.bool true) ∧ Below w.heap.size w w' := by
  by_cases hl : 2000 < s.size
  · have hl' : (2000 : Int) < s.size := by omega
    clear hl
    go_enter Try.func5, Try.ntmps5
    go_wp2_with fail
    refine (alive_any _).mono ?_
    rintro e w1 ⟨rfl, hb1⟩
    have HB1 := Lib.hid hb1
    clear hb1
    go_wp2_with fail
    go_ret
    exact ⟨rfl, HB1.out⟩
  · have hl' : decide ((2000 : Int) < s.size) = false := by rw [decide_eq_false_iff_not]; omega
    obtain ⟨X, hX⟩ : ∃ X : ByteArray, X.data.toList = dirOf s.data.toList := ⟨⟨(dirOf s.data.toList).toArray⟩, by simp⟩
    obtain ⟨Y, hY⟩ : ∃ Y : ByteArray, Y.data.toList = baseOf s.data.toList := ⟨⟨(baseOf s.data.toList).toArray⟩, by simp⟩
    obtain ⟨Z, hZ⟩ : ∃ Z : ByteArray, Z.data.toList = extOf s.data.toList := ⟨⟨(extOf s.data.toList).toArray⟩, by simp⟩
    have hYs : Y.size ≤ s.size := by rw [← data_length, hY, ← data_length]; exact base_len _
    have H1 := Lib.hid (fun W => dir_any s X hX W (by omega))
    have H2 := Lib.hid (fun W => refdir_any s X hX W (by omega))
    have H3 := Lib.hid (fun W => base_any s Y hY W (by omega))
    have H4 := Lib.hid (fun W => refbase_any s Y hY W (by omega))
    have H5 := Lib.hid (fun W => ext_any s Z hZ W (by omega))
    have H6 := Lib.hid (fun W => refext_any s Z hZ W (by omega))
    cases hm : may s.data.toList
    · obtain rfl := str_nil (hX.trans (dirOf_not hm))
      obtain rfl := str_nil (hY.trans (baseOf_not hm))
      obtain rfl := str_nil (hZ.trans (extOf_not hm))
      have H7 := Lib.hid (fun W => refmay_any s false hm W (by omega))
      clear hm hX hY hZ
      go_enter Try.func5, Try.ntmps5
      go_wp2_with fail
      refine (alive_any _).mono ?_
      rintro e w1 ⟨rfl, hb1⟩
      have HB1 := Lib.hid hb1
      clear hb1
      go_wp2_with fail
      refine (H1.out _).mono ?_
      rintro e w2 ⟨rfl, hb2⟩
      have HB2 := Lib.hid (HB1.out.trans (hb2.mono HB1.out.size))
      clear hb2
      go_wp2_with fail
      refine (H2.out _).mono ?_
      rintro e w3 ⟨rfl, hb3⟩
      have HB3 := Lib.hid (HB2.out.trans (hb3.mono HB2.out.size))
      clear hb3
      go_wp2_with fail
      refine (H3.out _).mono ?_
      rintro e w4 ⟨rfl, hb4⟩
      have HB4 := Lib.hid (HB3.out.trans (hb4.mono HB3.out.size))
      clear hb4
      go_wp2_with fail
      refine (H4.out _).mono ?_
      rintro e w5 ⟨rfl, hb5⟩
      have HB5 := Lib.hid (HB4.out.trans (hb5.mono HB4.out.size))
      clear hb5
      go_wp2_with fail
      refine (H5.out _).mono ?_
      rintro e w6 ⟨rfl, hb6⟩
      have HB6 := Lib.hid (HB5.out.trans (hb6.mono HB5.out.size))
      clear hb6
      go_wp2_with fail
      refine (H6.out _).mono ?_
      rintro e w7 ⟨rfl, hb7⟩
      have HB7 := Lib.hid (HB6.out.trans (hb7.mono HB6.out.size))
      clear hb7
      go_wp2_with fail
      refine (H7.out _).mono ?_
      rintro e w8 ⟨rfl, hb8⟩
      have HB8 := Lib.hid (HB7.out.trans (hb8.mono HB7.out.size))
      clear hb8
      go_wp2_with fail
      refine (H1.out _).mono ?_
      rintro e w9 ⟨rfl, hb9⟩
      have HB9 := Lib.hid (HB8.out.trans (hb9.mono HB8.out.size))
      clear hb9
      go_wp2_with fail
      refine (H3.out _).mono ?_
      rintro e w10 ⟨rfl, hb10⟩
      have HB10 := Lib.hid (HB9.out.trans (hb10.mono HB9.out.size))
      clear hb10
      go_wp2_with fail
      refine (H5.out _).mono ?_
      rintro e w11 ⟨rfl, hb11⟩
      have HB11 := Lib.hid (HB10.out.trans (hb11.mono HB10.out.size))
      clear hb11
      go_wp2_with fail
      go_ret
      exact ⟨rfl, HB11.out⟩
    · have hXs : X.size ≤ s.size := by
        rw [← data_length, hX, dirOf_up hm, ← data_length]
        exact up_len _ _
      have hj := join_back hm
      rw [← hX, ← hY] at hj
      have H7 := Lib.hid (fun W => refmay_any s true hm W (by omega))
      have H8 := Lib.hid (fun W => join_any X Y s 0 hj W (by omega) (by omega))
      clear hm hX hY hZ hj
      go_enter Try.func5, Try.ntmps5
      go_wp2_with fail
      refine (alive_any _).mono ?_
      rintro e w1 ⟨rfl, hb1⟩
      have HB1 := Lib.hid hb1
      clear hb1
      go_wp2_with fail
      refine (H1.out _).mono ?_
      rintro e w2 ⟨rfl, hb2⟩
      have HB2 := Lib.hid (HB1.out.trans (hb2.mono HB1.out.size))
      clear hb2
      go_wp2_with fail
      refine (H2.out _).mono ?_
      rintro e w3 ⟨rfl, hb3⟩
      have HB3 := Lib.hid (HB2.out.trans (hb3.mono HB2.out.size))
      clear hb3
      go_wp2_with fail
      refine (H3.out _).mono ?_
      rintro e w4 ⟨rfl, hb4⟩
      have HB4 := Lib.hid (HB3.out.trans (hb4.mono HB3.out.size))
      clear hb4
      go_wp2_with fail
      refine (H4.out _).mono ?_
      rintro e w5 ⟨rfl, hb5⟩
      have HB5 := Lib.hid (HB4.out.trans (hb5.mono HB4.out.size))
      clear hb5
      go_wp2_with fail
      refine (H5.out _).mono ?_
      rintro e w6 ⟨rfl, hb6⟩
      have HB6 := Lib.hid (HB5.out.trans (hb6.mono HB5.out.size))
      clear hb6
      go_wp2_with fail
      refine (H6.out _).mono ?_
      rintro e w7 ⟨rfl, hb7⟩
      have HB7 := Lib.hid (HB6.out.trans (hb7.mono HB6.out.size))
      clear hb7
      go_wp2_with fail
      refine (H7.out _).mono ?_
      rintro e w8 ⟨rfl, hb8⟩
      have HB8 := Lib.hid (HB7.out.trans (hb8.mono HB7.out.size))
      clear hb8
      go_wp2_with fail
      refine (H1.out _).mono ?_
      rintro e w9 ⟨rfl, hb9⟩
      have HB9 := Lib.hid (HB8.out.trans (hb9.mono HB8.out.size))
      clear hb9
      go_wp2_with fail
      refine (H3.out _).mono ?_
      rintro e w10 ⟨rfl, hb10⟩
      have HB10 := Lib.hid (HB9.out.trans (hb10.mono HB9.out.size))
      clear hb10
      go_wp2_with fail
      refine (H8.out _).mono ?_
      rintro e w11 ⟨rfl, hb11⟩
      have HB11 := Lib.hid (HB10.out.trans (hb11.mono HB10.out.size))
      clear hb11
      go_wp2_with fail
      go_ret
      exact ⟨rfl, HB11.out⟩

theorem met_next {s o : Bs} {n j : Nat} {m : Bool} (h : m = true ↔ ∃ i, 1 ≤ i ∧ i ≤ j ∧ up s (n - i) = o) : (m || (up s (n - (j + 1)) == o)) = true ↔ ∃ i, 1 ≤ i ∧ i ≤ j + 1 ∧ up s (n - i) = o := by
  rw [Bool.or_eq_true, h, beq_iff_eq]
  constructor
  · rintro (⟨i, h1, h2, h3⟩ | h)
    · exact ⟨i, h1, by omega, h3⟩
    · exact ⟨j + 1, by omega, by omega, h⟩
  · rintro ⟨i, h1, h2, h3⟩
    by_cases he : i = j + 1
    · exact .inr (by rw [← he]; exact h3)
    · exact .inl ⟨i, h1, by omega, h3⟩
theorem met_all {s o : Bs} {n : Nat} {m : Bool} (hm : may s = true) (hn : (parts s).length = n) (h : m = true ↔ ∃ i, 1 ≤ i ∧ i ≤ n ∧ up s (n - i) = o) : under s o = m := by
  rw [Bool.eq_iff_iff, under_iff hm o, h, hn]
  constructor
  · rintro ⟨k, h1, h2⟩
    exact ⟨n - k, by omega, by omega, by rw [show n - (n - k) = k by omega]; exact h2⟩
  · rintro ⟨i, h1, h2, h3⟩
    exact ⟨n - i, by omega, h3⟩

set_option maxRecDepth 100000 in
set_option maxHeartbeats 4000000 in
theorem above_law (s o : ByteArray) (w : World) (hs : s.size ≤ 140737488355328) (ho : o.size ≤ 140737488355328) :
    Calls Try.prog 7 #[.string s, .string o] w fun e w' => e = .returned (.bool true) ∧ Below w.heap.size w w' := by
  by_cases hl : 1500 < s.size
  · have hl' : (1500 : Int) < s.size := by omega
    clear hl
    go_enter Try.func7, Try.ntmps7
    go_wp2_with fail
    refine (alive_any _).mono ?_
    rintro e w1 ⟨rfl, hb1⟩
    have HB1 := Lib.hid hb1
    clear hb1
    go_wp2_with fail
    go_ret
    exact ⟨rfl, HB1.out⟩
  · have hl' : decide ((1500 : Int) < s.size) = false := by rw [decide_eq_false_iff_not]; omega
    by_cases hm : 1500 < o.size
    · have hm' : (1500 : Int) < o.size := by omega
      clear hm
      go_enter Try.func7, Try.ntmps7
      go_wp2_with fail
      refine (alive_any _).mono ?_
      rintro e w1 ⟨rfl, hb1⟩
      have HB1 := Lib.hid hb1
      clear hb1
      go_wp2_with fail
      go_ret
      exact ⟨rfl, HB1.out⟩
    · have hm' : decide ((1500 : Int) < o.size) = false := by rw [decide_eq_false_iff_not]; omega
      cases hms : may s.data.toList
      · have H1 := Lib.hid (fun W => refmay_any s false hms W (by omega))
        clear hms
        go_enter Try.func7, Try.ntmps7
        go_wp2_with fail
        refine (alive_any _).mono ?_
        rintro e w1 ⟨rfl, hb1⟩
        have HB1 := Lib.hid hb1
        clear hb1
        go_wp2_with fail
        refine (H1.out _).mono ?_
        rintro e w2 ⟨rfl, hb2⟩
        have HB2 := Lib.hid (HB1.out.trans (hb2.mono HB1.out.size))
        clear hb2
        go_wp2_with fail
        go_ret
        exact ⟨rfl, HB2.out⟩
      · have H1 := Lib.hid (fun W => refmay_any s true hms W (by omega))
        have hn16 := may_len hms
        have hnp := parts_pos s.data.toList
        obtain ⟨n, hn⟩ : ∃ n, (parts s.data.toList).length = n := ⟨_, rfl⟩
        rw [hn] at hn16 hnp
        have HN := Lib.hid hn
        have HM := Lib.hid hms
        have HUL := Lib.hid (up_len s.data.toList)
        have HP := Lib.hid (fun W => parts_any s W (by omega))
        have HU0 : Hid (up s.data.toList (n - 0) = s.data.toList) := up_all _ _ (by omega)
        clear hn hms
        go_enter Try.func7, Try.ntmps7
        go_wp2_with fail
        refine (alive_any _).mono ?_
        rintro e w1 ⟨rfl, hb1⟩
        have HB1 := Lib.hid hb1
        clear hb1
        go_wp2_with fail
        refine (H1.out _).mono ?_
        rintro e w2 ⟨rfl, hb2⟩
        have HB2 := Lib.hid (HB1.out.trans (hb2.mono HB1.out.size))
        clear hb2
        go_wp2_with fail
        go_loopw [5, 6, 7] (fun a i v wr => ∃ (j : Nat) (A : ByteArray) (m : Bool), j ≤ n ∧ a = .string A ∧ i = .int .i64 j ∧ v = .bool m ∧ A.size ≤ s.size ∧ Hid (A.data.toList = up s.data.toList (n - j)) ∧ Hid (m = true ↔ ∃ i, 1 ≤ i ∧ i ≤ j ∧ up s.data.toList (n - i) = o.data.toList) ∧ Hid (Below w.heap.size w wr)) (fun _ i _ _ => n - (intOf i).toNat)
        case atStart => exact ⟨0, s, false, Nat.zero_le _, rfl, rfl, rfl, Nat.le_refl _, HU0.out.symm, ⟨fun h => (by cases h), fun ⟨i, h1, h2, _⟩ => by omega⟩, HB2.out⟩
        case round =>
          obtain ⟨j, A, m, hj, rfl, rfl, rfl, hAs, HA, HMM, HB0⟩ := hrel
          clear HB1 HB2 HU0
          by_cases hlt : j < n
          · have hne : A.data.toList ≠ [] := by rw [HA.out]; exact up_ne HM.out (by omega)
            obtain ⟨n1, n2⟩ := ne_facts hne
            obtain ⟨X, hX⟩ : ∃ X : ByteArray, X.data.toList = up s.data.toList (n - (j + 1)) := ⟨⟨(up s.data.toList (n - (j + 1))).toArray⟩, by simp⟩
            have hXs : X.size ≤ s.size := by rw [← data_length, hX, ← data_length]; exact HUL.out _
            have hXd : X.data.toList = dirOf A.data.toList := by
              rw [hX, HA.out, dirOf_step HM.out (by omega) (by rw [HN.out]; omega)]
              rfl
            have hXu : under s.data.toList X.data.toList = true := (under_iff HM.out _).2 ⟨n - (j + 1), by rw [HN.out]; omega, hX.symm⟩
            have hmn := met_next HMM.out
            rw [← hX] at hmn
            have hst : decide ((16 : Int) < (j : Int) + 1) = false := by rw [decide_eq_false_iff_not]; omega
            have HD := Lib.hid (fun W => dir_any A X hXd W (by omega))
            have HUN := Lib.hid (fun W => under_any s X true hXu W (by omega) (by omega))
            have HX := Lib.hid hX
            have HMN := Lib.hid hmn
            clear hne hX hXd hXu hmn
            cases m
            · cases he : (X.data.toList == o.data.toList)
              · have hmn := HMN.out
                rw [he, Bool.or_self] at hmn
                have HMN2 := Lib.hid hmn
                have he' : (X.toList == o.toList) = false := by rw [ByteArray.toList_eq, ByteArray.toList_eq]; exact he
                clear he hmn HMN
                go_wp2_with fail
                refine (HD.out _).mono ?_
                rintro e w1 ⟨rfl, hb1⟩
                have HB1 := Lib.hid (HB0.out.trans (hb1.mono HB0.out.size))
                clear hb1
                go_wp2_with fail
                refine (HUN.out _).mono ?_
                rintro e w2 ⟨rfl, hb2⟩
                have HB2 := Lib.hid (HB1.out.trans (hb2.mono HB1.out.size))
                clear hb2
                go_wp2_with fail
                go_roundw
                case rel => exact ⟨j + 1, X, false, by omega, rfl, by go_num, rfl, hXs, HX.out, HMN2.out, HB2.out⟩
                case measure => simp [intOf]; omega
              · have hmn := HMN.out
                rw [he, Bool.false_or] at hmn
                have HMN2 := Lib.hid hmn
                have he' : (X.toList == o.toList) = true := by rw [ByteArray.toList_eq, ByteArray.toList_eq]; exact he
                clear he hmn HMN
                go_wp2_with fail
                refine (HD.out _).mono ?_
                rintro e w1 ⟨rfl, hb1⟩
                have HB1 := Lib.hid (HB0.out.trans (hb1.mono HB0.out.size))
                clear hb1
                go_wp2_with fail
                refine (HUN.out _).mono ?_
                rintro e w2 ⟨rfl, hb2⟩
                have HB2 := Lib.hid (HB1.out.trans (hb2.mono HB1.out.size))
                clear hb2
                go_wp2_with fail
                go_roundw
                case rel => exact ⟨j + 1, X, true, by omega, rfl, by go_num, rfl, hXs, HX.out, ⟨fun _ => HMN2.out.1 (by trivial), fun _ => rfl⟩, HB2.out⟩
                case measure => simp [intOf]; omega
            · have hmn := HMN.out
              rw [Bool.true_or] at hmn
              have HMN2 := Lib.hid hmn
              clear hmn HMN
              go_wp2_with fail
              refine (HD.out _).mono ?_
              rintro e w1 ⟨rfl, hb1⟩
              have HB1 := Lib.hid (HB0.out.trans (hb1.mono HB0.out.size))
              clear hb1
              go_wp2_with fail
              refine (HUN.out _).mono ?_
              rintro e w2 ⟨rfl, hb2⟩
              have HB2 := Lib.hid (HB1.out.trans (hb2.mono HB1.out.size))
              clear hb2
              go_wp2_with fail
              go_roundw
              case rel => exact ⟨j + 1, X, true, by omega, rfl, by go_num, rfl, hXs, HX.out, ⟨fun _ => HMN2.out.1 (by trivial), fun _ => rfl⟩, HB2.out⟩
              case measure => simp [intOf]; omega
          · obtain rfl : j = n := by omega
            have hA : A = ⟨#[]⟩ := str_nil (by rw [HA.out, Nat.sub_self, up_zero])
            subst hA
            have hu := met_all HM.out HN.out HMM.out
            have HUU := Lib.hid (fun W => under_any s o m hu W (by omega) (by omega))
            have heq : ((j : Int) == (j : Int)) = true := beq_self_eq_true _
            clear hu
            go_wp2_with fail
            refine (HP.out _).mono ?_
            rintro e w3 ⟨g3, cap3, rfl, _, hb3⟩
            rw [HN.out]
            have HB3 := Lib.hid (HB0.out.trans (hb3.mono HB0.out.size))
            clear hb3
            go_wp2_with fail
            refine (HUU.out _).mono ?_
            rintro e w4 ⟨rfl, hb4⟩
            have HB4 := Lib.hid (HB3.out.trans (hb4.mono HB3.out.size))
            clear hb4
            cases m
            all_goals
              go_wp2_with fail
              go_ret
              exact ⟨rfl, HB4.out⟩
end Pt
end Go.Proofs.Ytaoebhggkalmlaa
