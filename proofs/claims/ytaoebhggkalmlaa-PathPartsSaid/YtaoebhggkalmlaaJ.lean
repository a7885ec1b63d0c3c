/-
  Layer 3 (path): the walks of Dir, Ext, Join, Under.
-/
import Derived.Test.YtaoebhggkalmlaaI
namespace Go.Proofs.Ytaoebhggkalmlaa
namespace Pt
open Go.RowKit

theorem dir_trim (l : Bs) : Lib.trimSuffix (Lib.trimSuffix (onlyOf l) (baseOf l)) [47] = dirOf l := by
  cases hm : may l
  · rw [onlyOf_not hm, dirOf_not hm, trim_nil, trim_nil]
  · rw [onlyOf_may hm]
    by_cases h1 : (parts l).length = 1
    · rw [base_one hm h1, trim_self, trim_nil, dirOf_up hm, h1]; rfl
    · have h := base_more hm h1
      have e : Lib.trimSuffix l (baseOf l) = dirOf l ++ [47] := by
        conv => lhs; arg 1; rw [h]
        rw [show dirOf l ++ 47 :: baseOf l = (dirOf l ++ [47]) ++ baseOf l by simp, trim_hit]
      rw [e, trim_hit]
theorem trim_len (a b : Bs) : (Lib.trimSuffix a b).length ≤ a.length := by
  unfold Lib.trimSuffix
  split
  · rw [List.length_take]; omega
  · exact Nat.le_refl _

theorem dir_any (s X : ByteArray) (hX : X.data.toList = dirOf s.data.toList) (w : World) (hs : s.size ≤ 100000) :
    Calls Try.prog 14 #[.string s] w fun e w' => e = .returned (.string X) ∧ Below w.heap.size w w' := by
  obtain ⟨O, hO⟩ : ∃ O : ByteArray, O.data.toList = onlyOf s.data.toList := ⟨⟨(onlyOf s.data.toList).toArray⟩, by simp⟩
  obtain ⟨B, hB⟩ : ∃ B : ByteArray, B.data.toList = baseOf s.data.toList := ⟨⟨(baseOf s.data.toList).toArray⟩, by simp⟩
  obtain ⟨T, hT⟩ : ∃ T : ByteArray, T.data.toList = Lib.trimSuffix O.data.toList B.data.toList := ⟨⟨(Lib.trimSuffix O.data.toList B.data.toList).toArray⟩, by simp⟩
  have hOs : O.size ≤ 100000 := Nat.le_trans (only_size hO) hs
  have hTs : T.size ≤ O.size := by rw [← data_length, hT, ← data_length]; exact trim_len _ _
  have hXT : X.data.toList = Lib.trimSuffix T.data.toList (⟨#[47]⟩ : ByteArray).data.toList := by
    rw [hT, hO, hB, hX, ← dir_trim]
  have HO := Lib.hid (fun W => only_any s O hO W hs)
  have HB := Lib.hid (fun W => base_any s B hB W hs)
  have HT := Lib.hid (trim_any O B T (by omega) hT)
  have HX := Lib.hid (trim_any T ⟨#[47]⟩ X (by omega) hXT)
  clear hO hB hT hX hXT
  go_enter Try.func14, Try.ntmps14
  go_wp2_with fail
  refine (HO.out _).mono ?_
  rintro e w1 ⟨rfl, hb1⟩
  have HB1 := Lib.hid hb1
  clear hb1
  go_wp2_with fail
  refine (HB.out _).mono ?_
  rintro e w2 ⟨rfl, hb2⟩
  have HB2 := Lib.hid (HB1.out.trans (hb2.mono HB1.out.size))
  clear hb2
  go_wp2_with fail
  refine (HT.out _).mono ?_
  rintro e w3 ⟨rfl, rfl⟩
  go_wp2_with fail
  refine (HX.out _).mono ?_
  rintro e w4 ⟨rfl, rfl⟩
  go_wp2
  go_ret
  exact ⟨rfl, HB2.out⟩

theorem ext_any (s X : ByteArray) (hX : X.data.toList = extOf s.data.toList) (w : World) (hs : s.size ≤ 100000) :
    Calls Try.prog 18 #[.string s] w fun e w' => e = .returned (.string X) ∧ Below w.heap.size w w' := by
  obtain ⟨B, hB⟩ : ∃ B : ByteArray, B.data.toList = baseOf s.data.toList := ⟨⟨(baseOf s.data.toList).toArray⟩, by simp⟩
  have hBs : B.size ≤ s.size := by rw [← data_length, hB, ← data_length]; exact base_len _
  have hXB : X.data.toList = extF B.data.toList (B.data.toList.length - 1) := by rw [hX]; unfold extOf; rw [← hB]
  have HB := Lib.hid (fun W => base_any s B hB W hs)
  have hl := last_any B (by omega)
  rcases last_cases B with ⟨h1, h2⟩ | ⟨i, h0, hi, h1, h2⟩
  · obtain rfl := str_nil (hXB.trans h2)
    generalize Lib.lastIndexByte B 46 = z at hl h1
    have HL := Lib.hid hl
    clear hX hB hXB h2 hl
    go_enter Try.func18, Try.ntmps18
    go_wp2_with fail
    refine (HB.out _).mono ?_
    rintro e w1 ⟨rfl, hb1⟩
    have HB1 := Lib.hid hb1
    clear hb1
    go_wp2_with fail
    refine (HL.out _).mono ?_
    rintro e w3 ⟨rfl, rfl⟩
    go_wp2
    go_ret
    exact ⟨rfl, HB1.out⟩
  · have hXe : X = B.extract i B.size := str_eq (by rw [hXB, h2, ext_rest])
    rw [h1] at hl
    have HL := Lib.hid hl
    have HX := Lib.hid hXe
    have h0' : (0 : Int) < i := by omega
    have hi' : (i : Int) ≤ B.size := by omega
    clear hX hB hXB h2 hl h1 hXe h0
    go_enter Try.func18, Try.ntmps18
    go_wp2_with fail
    refine (HB.out _).mono ?_
    rintro e w1 ⟨rfl, hb1⟩
    have HB1 := Lib.hid hb1
    clear hb1
    go_wp2_with fail
    refine (HL.out _).mono ?_
    rintro e w3 ⟨rfl, rfl⟩
    go_wp2
    go_ret
    rw [HX.out]
    exact ⟨rfl, HB1.out⟩

set_option maxRecDepth 100000 in
set_option maxHeartbeats 2000000 in
theorem join_any (d s X : ByteArray) (er : Nat) (hX : joinV d.data.toList s.data.toList = (X.data.toList, er)) (w : World) (hd : d.size ≤ 100000) (hs : s.size ≤ 100000) :
    Calls Try.prog 11 #[.string d, .string s] w fun e w' => e = .returned (.tuple #[.string X, .int .i64 er]) ∧ Below w.heap.size w w' := by
  have hmd := fun b h W => isdir_any d b h W hd
  have hms := fun b h W => may_any s b h W hs
  have hqd := fun W => count_any d W hd
  have hqs := fun W => count_any s W hs
  rcases joinV_cases d.data.toList s.data.toList with ⟨h0, h1, h2⟩ | ⟨h0, h1, h2⟩ | ⟨h0, h1, h2⟩ | ⟨h0, h1, h1', h2⟩ | ⟨h0, h1, h1', hl, h2⟩ | ⟨h0, h1, h1', hl, h2⟩
  · rw [h2] at hX
    obtain ⟨e1, rfl⟩ := pair_eq hX
    obtain rfl := str_nil e1.symm
    have HD := Lib.hid (hmd true (by rw [h0]; rfl))
    obtain rfl := str_nil h0
    have HM := Lib.hid (hms _ h1)
    clear hX h0 h1 h2 hmd hms hqd hqs e1
    go_enter Try.func11, Try.ntmps11
    go_wp2_with fail
    refine (HD.out _).mono ?_
    rintro e w1 ⟨rfl, hb1⟩
    have HB1 := Lib.hid hb1
    clear hb1
    go_wp2_with fail
    refine (HM.out _).mono ?_
    rintro e w2 ⟨rfl, hb2⟩
    have HB2 := Lib.hid (HB1.out.trans (hb2.mono HB1.out.size))
    clear hb2
    go_wp2_with fail
    go_ret2
    exact ⟨rfl, HB2.out⟩
  · rw [h2] at hX
    obtain ⟨e1, rfl⟩ := pair_eq hX
    obtain rfl := str_eq e1
    have HD := Lib.hid (hmd true (by rw [h0]; rfl))
    obtain rfl := str_nil h0
    have HM := Lib.hid (hms _ h1)
    clear hX h0 h1 h2 hmd hms hqd hqs e1
    go_enter Try.func11, Try.ntmps11
    go_wp2_with fail
    refine (HD.out _).mono ?_
    rintro e w1 ⟨rfl, hb1⟩
    have HB1 := Lib.hid hb1
    clear hb1
    go_wp2_with fail
    refine (HM.out _).mono ?_
    rintro e w2 ⟨rfl, hb2⟩
    have HB2 := Lib.hid (HB1.out.trans (hb2.mono HB1.out.size))
    clear hb2
    go_wp2_with fail
    go_ret2
    exact ⟨rfl, HB2.out⟩
  · rw [h2] at hX
    obtain ⟨e1, rfl⟩ := pair_eq hX
    obtain rfl := str_nil e1.symm
    have HD := Lib.hid (hmd false (by unfold isDir; rw [h1, Bool.or_false, beq_eq_false_iff_ne]; exact h0))
    clear hX h0 h1 h2 hmd hms hqd hqs e1
    go_enter Try.func11, Try.ntmps11
    go_wp2_with fail
    refine (HD.out _).mono ?_
    rintro e w1 ⟨rfl, hb1⟩
    have HB1 := Lib.hid hb1
    clear hb1
    go_wp2_with fail
    go_ret2
    exact ⟨rfl, HB1.out⟩
  · rw [h2] at hX
    obtain ⟨e1, rfl⟩ := pair_eq hX
    obtain rfl := str_nil e1.symm
    have HD := Lib.hid (hmd true (by unfold isDir; rw [h1, Bool.or_true]))
    have HM := Lib.hid (hms _ h1')
    clear hX h0 h1 h1' h2 hmd hms hqd hqs e1
    go_enter Try.func11, Try.ntmps11
    go_wp2_with fail
    refine (HD.out _).mono ?_
    rintro e w1 ⟨rfl, hb1⟩
    have HB1 := Lib.hid hb1
    clear hb1
    go_wp2_with fail
    refine (HM.out _).mono ?_
    rintro e w2 ⟨rfl, hb2⟩
    have HB2 := Lib.hid (HB1.out.trans (hb2.mono HB1.out.size))
    clear hb2
    go_wp2_with fail
    go_ret2
    exact ⟨rfl, HB2.out⟩
  · rw [h2] at hX
    obtain ⟨e1, rfl⟩ := pair_eq hX
    obtain rfl := str_nil e1.symm
    obtain ⟨n1, n2⟩ := ne_facts h0
    have HD := Lib.hid (hmd true (by unfold isDir; rw [h1, Bool.or_true]))
    have HM := Lib.hid (hms _ h1')
    rw [cnt_may h1] at hqd
    rw [cnt_may h1'] at hqs
    have hpd := parts_len d.data.toList
    have hps := parts_len s.data.toList
    rw [data_length] at hpd hps
    generalize (parts d.data.toList).length = nd at hqd hl hpd
    generalize (parts s.data.toList).length = ns at hqs hl hps
    have HQ := Lib.hid hqd
    have HR := Lib.hid hqs
    have hl' : (16 : Int) < (nd : Int) + ns := by omega
    clear hX h0 h1 h1' h2 hmd hms hqd hqs e1
    go_enter Try.func11, Try.ntmps11
    go_wp2_with fail
    refine (HD.out _).mono ?_
    rintro e w1 ⟨rfl, hb1⟩
    have HB1 := Lib.hid hb1
    clear hb1
    go_wp2_with fail
    refine (HM.out _).mono ?_
    rintro e w2 ⟨rfl, hb2⟩
    have HB2 := Lib.hid (HB1.out.trans (hb2.mono HB1.out.size))
    clear hb2
    go_wp2_with fail
    refine (HQ.out _).mono ?_
    rintro e w3 ⟨rfl, hb3⟩
    have HB3 := Lib.hid (HB2.out.trans (hb3.mono HB2.out.size))
    clear hb3
    go_wp2_with fail
    refine (HR.out _).mono ?_
    rintro e w4 ⟨rfl, hb4⟩
    have HB4 := Lib.hid (HB3.out.trans (hb4.mono HB3.out.size))
    clear hb4
    go_wp2_with fail
    go_ret2
    exact ⟨rfl, HB4.out⟩
  · rw [h2] at hX
    obtain ⟨e1, rfl⟩ := pair_eq hX
    have hXe : X = d ++ ⟨#[47]⟩ ++ s := str_eq (by rw [← e1]; simp [ByteArray.data_append])
    have HXE := Lib.hid hXe
    clear hXe
    obtain ⟨n1, n2⟩ := ne_facts h0
    have HD := Lib.hid (hmd true (by unfold isDir; rw [h1, Bool.or_true]))
    have HM := Lib.hid (hms _ h1')
    rw [cnt_may h1] at hqd
    rw [cnt_may h1'] at hqs
    have hpd := parts_len d.data.toList
    have hps := parts_len s.data.toList
    rw [data_length] at hpd hps
    generalize (parts d.data.toList).length = nd at hqd hl hpd
    generalize (parts s.data.toList).length = ns at hqs hl hps
    have HQ := Lib.hid hqd
    have HR := Lib.hid hqs
    have hl' : (nd : Int) + ns ≤ 16 := by omega
    clear hX h0 h1 h1' h2 hmd hms hqd hqs e1
    go_enter Try.func11, Try.ntmps11
    go_wp2_with fail
    refine (HD.out _).mono ?_
    rintro e w1 ⟨rfl, hb1⟩
    have HB1 := Lib.hid hb1
    clear hb1
    go_wp2_with fail
    refine (HM.out _).mono ?_
    rintro e w2 ⟨rfl, hb2⟩
    have HB2 := Lib.hid (HB1.out.trans (hb2.mono HB1.out.size))
    clear hb2
    go_wp2_with fail
    refine (HQ.out _).mono ?_
    rintro e w3 ⟨rfl, hb3⟩
    have HB3 := Lib.hid (HB2.out.trans (hb3.mono HB2.out.size))
    clear hb3
    go_wp2_with fail
    refine (HR.out _).mono ?_
    rintro e w4 ⟨rfl, hb4⟩
    have HB4 := Lib.hid (HB3.out.trans (hb4.mono HB3.out.size))
    clear hb4
    go_wp2_with fail
    go_ret2
    rw [HXE.out]
    exact ⟨rfl, HB4.out⟩

set_option maxRecDepth 100000 in
set_option maxHeartbeats 2000000 in
theorem under_any (s d : ByteArray) (b : Bool) (hb : under s.data.toList d.data.toList = b) (w : World) (hs : s.size ≤ 100000) (hd : d.size ≤ 90000) :
    Calls Try.prog 13 #[.string s, .string d] w fun e w' => e = .returned (.bool b) ∧ Below w.heap.size w w' := by
  unfold under at hb
  cases hm : may s.data.toList
  · rw [hm, Bool.false_and] at hb
    subst hb
    have HM := Lib.hid (fun W => may_any s false hm W hs)
    clear hm
    go_enter Try.func13, Try.ntmps13
    go_wp2_with fail
    refine (HM.out _).mono ?_
    rintro e w1 ⟨rfl, hb1⟩
    have HB1 := Lib.hid hb1
    clear hb1
    go_wp2_with fail
    go_ret
    exact ⟨rfl, HB1.out⟩
  · rw [hm, Bool.true_and] at hb
    have HM := Lib.hid (fun W => may_any s true hm W hs)
    cases hdd : isDir d.data.toList
    · rw [hdd, Bool.false_and] at hb
      subst hb
      have HD := Lib.hid (fun W => isdir_any d false hdd W (by omega))
      clear hm hdd
      go_enter Try.func13, Try.ntmps13
      go_wp2_with fail
      refine (HM.out _).mono ?_
      rintro e w1 ⟨rfl, hb1⟩
      have HB1 := Lib.hid hb1
      clear hb1
      go_wp2_with fail
      refine (HD.out _).mono ?_
      rintro e w2 ⟨rfl, hb2⟩
      have HB2 := Lib.hid (HB1.out.trans (hb2.mono HB1.out.size))
      clear hb2
      go_wp2_with fail
      go_ret
      exact ⟨rfl, HB2.out⟩
    · rw [hdd, Bool.true_and] at hb
      have HD := Lib.hid (fun W => isdir_any d true hdd W (by omega))
      by_cases h0 : d.data.toList = []
      · have hb' : b = true := by rw [← hb, h0]; rfl
        subst hb'
        obtain rfl := str_nil h0
        clear hm hdd hb h0
        go_enter Try.func13, Try.ntmps13
        go_wp2_with fail
        refine (HM.out _).mono ?_
        rintro e w1 ⟨rfl, hb1⟩
        have HB1 := Lib.hid hb1
        clear hb1
        go_wp2_with fail
        refine (HD.out _).mono ?_
        rintro e w2 ⟨rfl, hb2⟩
        have HB2 := Lib.hid (HB1.out.trans (hb2.mono HB1.out.size))
        clear hb2
        go_wp2_with fail
        go_ret
        exact ⟨rfl, HB2.out⟩
      · obtain ⟨n1, n2⟩ := ne_facts h0
        have h0' : (d.data.toList == []) = false := by rw [beq_eq_false_iff_ne]; exact h0
        rw [h0', Bool.false_or] at hb
        have HP := Lib.hid (pre_any s (d ++ ⟨#[47]⟩) b (by rw [← hb]; rfl))
        clear hm hdd hb h0 h0'
        go_enter Try.func13, Try.ntmps13
        go_wp2_with fail
        refine (HM.out _).mono ?_
        rintro e w1 ⟨rfl, hb1⟩
        have HB1 := Lib.hid hb1
        clear hb1
        go_wp2_with fail
        refine (HD.out _).mono ?_
        rintro e w2 ⟨rfl, hb2⟩
        have HB2 := Lib.hid (HB1.out.trans (hb2.mono HB1.out.size))
        clear hb2
        go_wp2_with fail
        refine (HP.out _).mono ?_
        rintro e w3 ⟨rfl, rfl⟩
        go_wp2_with fail
        go_ret
        exact ⟨rfl, HB2.out⟩
end Pt
end Go.Proofs.Ytaoebhggkalmlaa
