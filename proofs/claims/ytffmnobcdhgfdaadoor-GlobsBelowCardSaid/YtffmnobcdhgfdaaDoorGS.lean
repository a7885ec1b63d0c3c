/-
  Layer 4 (globs): the walks of the laws GlobsFixed and GlobsBelow.
-/
import Derived.Test.YtffmnobcdhgfdaaDoorGP
import Derived.Test.YtffmnobcdhgfdaaDoorGR
namespace Go.Proofs.YtffmnobcdhgfdaaDoor
namespace Gl
open Go.RowKit Pt

theorem u8_47 (x : UInt8) : ((x.toNat : Int) = 47) ↔ x = 47 := by
  constructor
  · intro h
    have : x.toNat = 47 := by omega
    exact UInt8.toNat_inj.1 this
  · rintro rfl; rfl
/-- The last stroke. -/
theorem last47 (s : ByteArray) (hm : may s.data.toList = true) : (Lib.lastIndexByte s 47 = -1 ∧ baseOf s.data.toList = s.data.toList) ∨
    ∃ i : Nat, i < s.size ∧ Lib.lastIndexByte s 47 = i ∧ baseOf s.data.toList = s.data.toList.drop (i + 1) := by
  have hl := data_length s
  rcases Lib.lastIndexByte_spec s 47 with ⟨h1, h2⟩ | ⟨i, hi, h1, h2, h3⟩
  · refine .inl ⟨h1, ?_⟩
    have hno : (47 : UInt8) ∉ s.data.toList := by
      intro hmem
      obtain ⟨j, hj⟩ := List.getElem?_of_mem hmem
      have hjl := (List.getElem?_eq_some_iff.1 hj).1
      refine h2 j (by omega) ((u8_47 _).2 ?_)
      rw [← getD_bang s j (by omega), List.getD_eq_getElem?_getD, hj]; rfl
    exact base_one hm (by rw [parts_one _ hno]; rfl)
  · refine .inr ⟨i, hi, h1, ?_⟩
    have hno : (47 : UInt8) ∉ s.data.toList.drop (i + 1) := by
      intro hmem
      obtain ⟨j, hj⟩ := List.getElem?_of_mem hmem
      rw [List.getElem?_drop] at hj
      have hjl := (List.getElem?_eq_some_iff.1 hj).1
      refine h3 (i + 1 + j) (by omega) (by omega) ((u8_47 _).2 ?_)
      rw [← getD_bang s _ (by omega), List.getD_eq_getElem?_getD, hj]; rfl
    have h47 : s[i] = 47 := by
      have := (u8_47 _).1 h2
      rw [← getD_bang s i hi, at_char s i hi] at this
      exact this
    have he : s.data.toList = s.data.toList.take i ++ 47 :: s.data.toList.drop (i + 1) := by
      rw [← h47, ← drop_at s i hi, List.take_append_drop]
    have hp : parts s.data.toList = parts (s.data.toList.take i) ++ [s.data.toList.drop (i + 1)] := by
      conv => lhs; rw [he]
      rw [parts_mid, parts_one _ hno]
    unfold baseOf
    rw [if_pos hm, hp]; simp

set_option maxRecDepth 100000 in
theorem lastlaw_any (s X : ByteArray) (hX : X.data.toList = baseOf s.data.toList) (hm : may s.data.toList = true) (w : World) (hs : s.size ≤ 100000) :
    Calls Tryd.prog 20 #[.string s] w fun e w' => e = .returned (.string X) ∧ Below w.heap.size w w' := by
  have hx := Tryd.strings_LastIndexByte s 47 (by omega) w
  rcases last47 s hm with ⟨h1, h2⟩ | ⟨i, hi, h1, h2⟩
  · obtain rfl : X = s := str_eq (hX.trans h2)
    rw [h1] at hx
    have HX := Lib.hid hx
    clear hx hm hX h1 h2
    have he : X.extract 0 X.size = X := str_eq (by rw [ext_rest]; rfl)
    have HE := Lib.hid he
    clear he
    go_enter Tryd.func20, Tryd.ntmps20
    go_wp2_with fail
    refine HX.out.mono ?_
    rintro e w' ⟨rfl, rfl⟩
    go_wp2
    go_ret
    exact ⟨by rw [← HE.out]; simp, Below.refl _ _⟩
  · have he : s.extract (i + 1) s.size = X := str_eq (by rw [ext_rest, hX, h2])
    rw [h1] at hx
    have hi1 : (i : Int) + 1 ≤ s.size := by omega
    have HX := Lib.hid hx
    have HE := Lib.hid he
    clear hx hm hX h1 h2 he
    go_enter Tryd.func20, Tryd.ntmps20
    go_wp2_with fail
    refine HX.out.mono ?_
    rintro e w' ⟨rfl, rfl⟩
    go_wp2
    go_ret
    exact ⟨by rw [← HE.out]; rfl, Below.refl _ _⟩
theorem last_size {l : Bs} : (baseOf l).length ≤ l.length := by
  unfold baseOf
  split
  · have h := parts_le l
    refine h _ ?_
    have := parts_last (s := l)
    rw [this]; simp
  · simp

set_option maxRecDepth 100000 in
set_option maxHeartbeats 8000000 in
theorem fixed_law (p s o : ByteArray) (w : World) (hmx : Mx w) (hp : p.size ≤ 140737488355328) (hs : s.size ≤ 140737488355328) (ho : o.size ≤ 140737488355328) :
    Calls Tryd.prog 5 #[.string p, .string s, .string o] w fun e w' => e = .returned (.bool true) ∧ Below w.heap.size w w' := by
  have HA := Lib.hid alive_any
  have HX0 := Lib.hid hmx
  clear hmx
  by_cases hl : 500 < p.size
  · have hl' : (500 : Int) < p.size := by omega
    clear hl
    go_enter Tryd.func5, Tryd.ntmps5
    go_wp2_with fail
    refine (HA.out _ HX0.out).mono ?_
    rintro e w1 ⟨rfl, hb1⟩
    have HX1 := Lib.hid (HX0.out.later hb1)
    have HB1 := Lib.hid hb1
    clear hb1
    go_wp2_with fail
    go_ret
    exact ⟨rfl, HB1.out⟩
  · have hl' : decide ((500 : Int) < p.size) = false := by rw [decide_eq_false_iff_not]; omega
    by_cases hl2 : 500 < s.size
    · have hl2' : (500 : Int) < s.size := by omega
      clear hl hl2
      go_enter Tryd.func5, Tryd.ntmps5
      go_wp2_with fail
      refine (HA.out _ HX0.out).mono ?_
      rintro e w1 ⟨rfl, hb1⟩
      have HX1 := Lib.hid (HX0.out.later hb1)
      have HB1 := Lib.hid hb1
      clear hb1
      go_wp2_with fail
      go_ret
      exact ⟨rfl, HB1.out⟩
    · have hl2' : decide ((500 : Int) < s.size) = false := by rw [decide_eq_false_iff_not]; omega
      by_cases hl3 : 500 < o.size
      · have hl3' : (500 : Int) < o.size := by omega
        clear hl hl2 hl3
        go_enter Tryd.func5, Tryd.ntmps5
        go_wp2_with fail
        refine (HA.out _ HX0.out).mono ?_
        rintro e w1 ⟨rfl, hb1⟩
        have HX1 := Lib.hid (HX0.out.later hb1)
        have HB1 := Lib.hid hb1
        clear hb1
        go_wp2_with fail
        go_ret
        exact ⟨rfl, HB1.out⟩
      · have hl3' : decide ((500 : Int) < o.size) = false := by rw [decide_eq_false_iff_not]; omega
        cases hsm : may s.data.toList
        · have H1 := Lib.hid (fun W h => gmatch_any p s false (mtch_no hsm _) W (by omega) (by omega) h)
          have H2 := Lib.hid (fun W => refmay_any s false hsm W (by omega))
          clear hsm hl hl2 hl3
          go_enter Tryd.func5, Tryd.ntmps5
          go_wp2_with fail
          refine (HA.out _ HX0.out).mono ?_
          rintro e w1 ⟨rfl, hb1⟩
          have HX1 := Lib.hid (HX0.out.later hb1)
          have HB1 := Lib.hid hb1
          clear hb1
          go_wp2_with fail
          refine (H1.out _ HX1.out).mono ?_
          rintro e w2 ⟨rfl, hb2⟩
          have HX2 := Lib.hid (HX1.out.later hb2)
          have HB2 := Lib.hid (HB1.out.trans (hb2.mono HB1.out.size))
          clear hb2
          go_wp2_with fail
          refine (H2.out _).mono ?_
          rintro e w3 ⟨rfl, hb3⟩
          have HX3 := Lib.hid (HX2.out.later hb3)
          have HB3 := Lib.hid (HB2.out.trans (hb3.mono HB2.out.size))
          clear hb3
          go_wp2_with fail
          refine (H1.out _ HX3.out).mono ?_
          rintro e w4 ⟨rfl, hb4⟩
          have HX4 := Lib.hid (HX3.out.later hb4)
          have HB4 := Lib.hid (HB3.out.trans (hb4.mono HB3.out.size))
          clear hb4
          go_wp2_with fail
          go_ret
          exact ⟨rfl, HB4.out⟩
        · have H2 := Lib.hid (fun W => refmay_any s true hsm W (by omega))
          have H3 := Lib.hid (fun W h => gmay_any s true (may_pmay hsm) W (by omega) h)
          have H4 := Lib.hid (fun W h => gmatch_any s s true (mtch_self hsm) W (by omega) (by omega) h)
          obtain ⟨q, hq⟩ : ∃ q, (s.data.toList == o.data.toList) = q := ⟨_, rfl⟩
          have hso : (s.toList == o.toList) = q := by rw [ByteArray.toList_eq, ByteArray.toList_eq]; exact hq
          have H5 := Lib.hid (fun W h => gmatch_any s o q ((mtch_path hsm _).trans hq) W (by omega) (by omega) h)
          have H6 := Lib.hid (fun W h => gfixed_any s s (fixd_path hsm).symm W (by omega) h)
          have H7 := Lib.hid (fun W h => gmatch_any ⟨#[42, 42]⟩ s true (mtch_all hsm) W (by decide) (by omega) h)
          obtain ⟨B, hB⟩ : ∃ B : ByteArray, B.data.toList = baseOf s.data.toList := ⟨⟨(baseOf s.data.toList).toArray⟩, by simp⟩
          have hBs : B.size ≤ 500 := by
            have := last_size (l := s.data.toList)
            rw [← hB, data_length, data_length] at this
            omega
          have H8 := Lib.hid (fun W => lastlaw_any s B hB hsm W (by omega))
          have hcat : ((⟨#[42, 42, 47]⟩ : ByteArray) ++ B).data.toList = star ++ 47 :: baseOf s.data.toList := by
            rw [← hB]; simp [ByteArray.data_append, star]
          have hcs : ((⟨#[42, 42, 47]⟩ : ByteArray) ++ B).size ≤ 100000 := by rw [ByteArray.size_append]; have : (⟨#[42, 42, 47]⟩ : ByteArray).size = 3 := rfl; omega
          have H9 := Lib.hid (fun W h => gmatch_any ((⟨#[42, 42, 47]⟩ : ByteArray) ++ B) s true (by rw [hcat]; exact base_star hsm) W hcs (by omega) h)
          obtain ⟨k, hk⟩ : ∃ k, Lib.countByte s.data.toList 47 = k := ⟨_, rfl⟩
          have hk16 : k < 16 := by rw [← hk]; exact count_few hsm
          have hki : (k : Int) < 16 := by omega
          have H10 := Lib.hid (fun W => (Tryd.strings_Count_one s 47 W).mono (fun e w' (h : e = .returned (.int .i64 (Lib.countByte s.data.toList 47)) ∧ w' = W) => (⟨by rw [h.1, hk], by rw [h.2]; exact Below.refl _ _⟩ : e = .returned (.int .i64 (k : Nat)) ∧ Below W.heap.size W w')))
          have hBi : (3 : Int) + B.size ≤ 9223372036854775807 := by omega
          cases hpm : mtch p.data.toList s.data.toList
          · have H1 := Lib.hid (fun W h => gmatch_any p s false hpm W (by omega) (by omega) h)
            clear hpm hsm hl hl2 hl3 hq hk hB hcat hcs
            cases q
            all_goals
              go_enter Tryd.func5, Tryd.ntmps5
              go_wp2_with fail
              refine (HA.out _ HX0.out).mono ?_
              rintro e w1 ⟨rfl, hb1⟩
              have HX1 := Lib.hid (HX0.out.later hb1)
              have HB1 := Lib.hid hb1
              clear hb1
              go_wp2_with fail
              refine (H1.out _ HX1.out).mono ?_
              rintro e w2 ⟨rfl, hb2⟩
              have HX2 := Lib.hid (HX1.out.later hb2)
              have HB2 := Lib.hid (HB1.out.trans (hb2.mono HB1.out.size))
              clear hb2
              go_wp2_with fail
              refine (H2.out _).mono ?_
              rintro e w3 ⟨rfl, hb3⟩
              have HX3 := Lib.hid (HX2.out.later hb3)
              have HB3 := Lib.hid (HB2.out.trans (hb3.mono HB2.out.size))
              clear hb3
              go_wp2_with fail
              refine (H3.out _ HX3.out).mono ?_
              rintro e w4 ⟨rfl, hb4⟩
              have HX4 := Lib.hid (HX3.out.later hb4)
              have HB4 := Lib.hid (HB3.out.trans (hb4.mono HB3.out.size))
              clear hb4
              go_wp2_with fail
              refine (H4.out _ HX4.out).mono ?_
              rintro e w5 ⟨rfl, hb5⟩
              have HX5 := Lib.hid (HX4.out.later hb5)
              have HB5 := Lib.hid (HB4.out.trans (hb5.mono HB4.out.size))
              clear hb5
              go_wp2_with fail
              refine (H5.out _ HX5.out).mono ?_
              rintro e w6 ⟨rfl, hb6⟩
              have HX6 := Lib.hid (HX5.out.later hb6)
              have HB6 := Lib.hid (HB5.out.trans (hb6.mono HB5.out.size))
              clear hb6
              go_wp2_with fail
              refine (H6.out _ HX6.out).mono ?_
              rintro e w7 ⟨rfl, hb7⟩
              have HX7 := Lib.hid (HX6.out.later hb7)
              have HB7 := Lib.hid (HB6.out.trans (hb7.mono HB6.out.size))
              clear hb7
              go_wp2_with fail
              refine (H7.out _ HX7.out).mono ?_
              rintro e w8 ⟨rfl, hb8⟩
              have HX8 := Lib.hid (HX7.out.later hb8)
              have HB8 := Lib.hid (HB7.out.trans (hb8.mono HB7.out.size))
              clear hb8
              go_wp2_with fail
              refine (H8.out _).mono ?_
              rintro e w9 ⟨rfl, hb9⟩
              have HX9 := Lib.hid (HX8.out.later hb9)
              have HB9 := Lib.hid (HB8.out.trans (hb9.mono HB8.out.size))
              clear hb9
              go_wp2_with fail
              refine (H9.out _ HX9.out).mono ?_
              rintro e w10 ⟨rfl, hb10⟩
              have HX10 := Lib.hid (HX9.out.later hb10)
              have HB10 := Lib.hid (HB9.out.trans (hb10.mono HB9.out.size))
              clear hb10
              go_wp2_with fail
              refine (H10.out _).mono ?_
              rintro e w11 ⟨rfl, hb11⟩
              have HX11 := Lib.hid (HX10.out.later hb11)
              have HB11 := Lib.hid (HB10.out.trans (hb11.mono HB10.out.size))
              clear hb11
              go_wp2_with fail
              go_ret
              exact ⟨rfl, HB11.out⟩
          · have H1 := Lib.hid (fun W h => gmatch_any p s true hpm W (by omega) (by omega) h)
            obtain ⟨X, hX⟩ : ∃ X : ByteArray, X.data.toList = fixd p.data.toList := ⟨⟨(fixd p.data.toList).toArray⟩, by simp⟩
            have H11 := Lib.hid (fun W h => gfixed_any p X hX W (by omega) h)
            have H12 := Lib.hid (fun W => (pre_any s X true (by rw [hX]; exact fixd_pre hpm) W).mono (fun e w' (h : e = .returned (.bool true) ∧ W = w') => (⟨h.1, by rw [h.2]; exact Below.refl _ _⟩ : e = .returned (.bool true) ∧ Below W.heap.size W w')))
            clear hpm hsm hl hl2 hl3 hq hk hB hcat hcs hX
            cases q
            all_goals
              go_enter Tryd.func5, Tryd.ntmps5
              go_wp2_with fail
              refine (HA.out _ HX0.out).mono ?_
              rintro e w1 ⟨rfl, hb1⟩
              have HX1 := Lib.hid (HX0.out.later hb1)
              have HB1 := Lib.hid hb1
              clear hb1
              go_wp2_with fail
              refine (H1.out _ HX1.out).mono ?_
              rintro e w2 ⟨rfl, hb2⟩
              have HX2 := Lib.hid (HX1.out.later hb2)
              have HB2 := Lib.hid (HB1.out.trans (hb2.mono HB1.out.size))
              clear hb2
              go_wp2_with fail
              refine (H11.out _ HX2.out).mono ?_
              rintro e w3 ⟨rfl, hb3⟩
              have HX3 := Lib.hid (HX2.out.later hb3)
              have HB3 := Lib.hid (HB2.out.trans (hb3.mono HB2.out.size))
              clear hb3
              go_wp2_with fail
              refine (H12.out _).mono ?_
              rintro e w4 ⟨rfl, hb4⟩
              have HX4 := Lib.hid (HX3.out.later hb4)
              have HB4 := Lib.hid (HB3.out.trans (hb4.mono HB3.out.size))
              clear hb4
              go_wp2_with fail
              refine (H2.out _).mono ?_
              rintro e w5 ⟨rfl, hb5⟩
              have HX5 := Lib.hid (HX4.out.later hb5)
              have HB5 := Lib.hid (HB4.out.trans (hb5.mono HB4.out.size))
              clear hb5
              go_wp2_with fail
              refine (H3.out _ HX5.out).mono ?_
              rintro e w6 ⟨rfl, hb6⟩
              have HX6 := Lib.hid (HX5.out.later hb6)
              have HB6 := Lib.hid (HB5.out.trans (hb6.mono HB5.out.size))
              clear hb6
              go_wp2_with fail
              refine (H4.out _ HX6.out).mono ?_
              rintro e w7 ⟨rfl, hb7⟩
              have HX7 := Lib.hid (HX6.out.later hb7)
              have HB7 := Lib.hid (HB6.out.trans (hb7.mono HB6.out.size))
              clear hb7
              go_wp2_with fail
              refine (H5.out _ HX7.out).mono ?_
              rintro e w8 ⟨rfl, hb8⟩
              have HX8 := Lib.hid (HX7.out.later hb8)
              have HB8 := Lib.hid (HB7.out.trans (hb8.mono HB7.out.size))
              clear hb8
              go_wp2_with fail
              refine (H6.out _ HX8.out).mono ?_
              rintro e w9 ⟨rfl, hb9⟩
              have HX9 := Lib.hid (HX8.out.later hb9)
              have HB9 := Lib.hid (HB8.out.trans (hb9.mono HB8.out.size))
              clear hb9
              go_wp2_with fail
              refine (H7.out _ HX9.out).mono ?_
              rintro e w10 ⟨rfl, hb10⟩
              have HX10 := Lib.hid (HX9.out.later hb10)
              have HB10 := Lib.hid (HB9.out.trans (hb10.mono HB9.out.size))
              clear hb10
              go_wp2_with fail
              refine (H8.out _).mono ?_
              rintro e w11 ⟨rfl, hb11⟩
              have HX11 := Lib.hid (HX10.out.later hb11)
              have HB11 := Lib.hid (HB10.out.trans (hb11.mono HB10.out.size))
              clear hb11
              go_wp2_with fail
              refine (H9.out _ HX11.out).mono ?_
              rintro e w12 ⟨rfl, hb12⟩
              have HX12 := Lib.hid (HX11.out.later hb12)
              have HB12 := Lib.hid (HB11.out.trans (hb12.mono HB11.out.size))
              clear hb12
              go_wp2_with fail
              refine (H10.out _).mono ?_
              rintro e w13 ⟨rfl, hb13⟩
              have HX13 := Lib.hid (HX12.out.later hb13)
              have HB13 := Lib.hid (HB12.out.trans (hb13.mono HB12.out.size))
              clear hb13
              go_wp2_with fail
              go_ret
              exact ⟨rfl, HB13.out⟩

set_option maxRecDepth 100000 in
set_option maxHeartbeats 8000000 in
theorem below_law (d s : ByteArray) (w : World) (hmx : Mx w) (hd : d.size ≤ 140737488355328) (hs : s.size ≤ 140737488355328) :
    Calls Tryd.prog 6 #[.string d, .string s] w fun e w' => e = .returned (.bool true) ∧ Below w.heap.size w w' := by
  have HA := Lib.hid alive_any
  have HX0 := Lib.hid hmx
  clear hmx
  by_cases hl : 500 < d.size
  · have hl' : (500 : Int) < d.size := by omega
    clear hl
    go_enter Tryd.func6, Tryd.ntmps6
    go_wp2_with fail
    refine (HA.out _ HX0.out).mono ?_
    rintro e w1 ⟨rfl, hb1⟩
    have HX1 := Lib.hid (HX0.out.later hb1)
    have HB1 := Lib.hid hb1
    clear hb1
    go_wp2_with fail
    go_ret
    exact ⟨rfl, HB1.out⟩
  · have hl' : decide ((500 : Int) < d.size) = false := by rw [decide_eq_false_iff_not]; omega
    by_cases hl2 : 500 < s.size
    · have hl2' : (500 : Int) < s.size := by omega
      clear hl hl2
      go_enter Tryd.func6, Tryd.ntmps6
      go_wp2_with fail
      refine (HA.out _ HX0.out).mono ?_
      rintro e w1 ⟨rfl, hb1⟩
      have HX1 := Lib.hid (HX0.out.later hb1)
      have HB1 := Lib.hid hb1
      clear hb1
      go_wp2_with fail
      go_ret
      exact ⟨rfl, HB1.out⟩
    · have hl2' : decide ((500 : Int) < s.size) = false := by rw [decide_eq_false_iff_not]; omega
      cases hdm : may d.data.toList
      · have H1 := Lib.hid (fun W => refmay_any d false hdm W (by omega))
        clear hdm hl hl2
        go_enter Tryd.func6, Tryd.ntmps6
        go_wp2_with fail
        refine (HA.out _ HX0.out).mono ?_
        rintro e w1 ⟨rfl, hb1⟩
        have HX1 := Lib.hid (HX0.out.later hb1)
        have HB1 := Lib.hid hb1
        clear hb1
        go_wp2_with fail
        refine (H1.out _).mono ?_
        rintro e w2 ⟨rfl, hb2⟩
        have HX2 := Lib.hid (HX1.out.later hb2)
        have HB2 := Lib.hid (HB1.out.trans (hb2.mono HB1.out.size))
        clear hb2
        go_wp2_with fail
        go_ret
        exact ⟨rfl, HB2.out⟩
      · have H1 := Lib.hid (fun W => refmay_any d true hdm W (by omega))
        obtain ⟨k, hk⟩ : ∃ k, Lib.countByte d.data.toList 47 = k := ⟨_, rfl⟩
        have H2 := Lib.hid (fun W => (Tryd.strings_Count_one d 47 W).mono (fun e w' (h : e = .returned (.int .i64 (Lib.countByte d.data.toList 47)) ∧ w' = W) => (⟨by rw [h.1, hk], by rw [h.2]; exact Below.refl _ _⟩ : e = .returned (.int .i64 (k : Nat)) ∧ Below W.heap.size W w')))
        by_cases hk14 : 14 < k
        · have hki : (14 : Int) < k := by omega
          clear hdm hl hl2 hk
          go_enter Tryd.func6, Tryd.ntmps6
          go_wp2_with fail
          refine (HA.out _ HX0.out).mono ?_
          rintro e w1 ⟨rfl, hb1⟩
          have HX1 := Lib.hid (HX0.out.later hb1)
          have HB1 := Lib.hid hb1
          clear hb1
          go_wp2_with fail
          refine (H1.out _).mono ?_
          rintro e w2 ⟨rfl, hb2⟩
          have HX2 := Lib.hid (HX1.out.later hb2)
          have HB2 := Lib.hid (HB1.out.trans (hb2.mono HB1.out.size))
          clear hb2
          go_wp2_with fail
          refine (H2.out _).mono ?_
          rintro e w3 ⟨rfl, hb3⟩
          have HX3 := Lib.hid (HX2.out.later hb3)
          have HB3 := Lib.hid (HB2.out.trans (hb3.mono HB2.out.size))
          clear hb3
          go_wp2_with fail
          go_ret
          exact ⟨rfl, HB3.out⟩
        · have hki : decide ((14 : Int) < k) = false := by rw [decide_eq_false_iff_not]; omega
          have hkc : d.data.toList.count 47 ≤ 14 := by
            have : d.data.toList.count 47 = k := hk
            omega
          have h3 : (d ++ (⟨#[47, 42, 42]⟩ : ByteArray)).data.toList = d.data.toList ++ 47 :: star := by simp [ByteArray.data_append, star]
          have h4 : (d ++ (⟨#[47, 42]⟩ : ByteArray)).data.toList = d.data.toList ++ 47 :: [42] := by simp [ByteArray.data_append]
          have s3 : (d ++ (⟨#[47, 42, 42]⟩ : ByteArray)).size ≤ 100000 := by rw [ByteArray.size_append]; have : (⟨#[47, 42, 42]⟩ : ByteArray).size = 3 := rfl; omega
          have s4 : (d ++ (⟨#[47, 42]⟩ : ByteArray)).size ≤ 100000 := by rw [ByteArray.size_append]; have : (⟨#[47, 42]⟩ : ByteArray).size = 2 := rfl; omega
          obtain ⟨u, hu⟩ : ∃ u, under s.data.toList d.data.toList = u := ⟨_, rfl⟩
          obtain ⟨D, hD⟩ : ∃ D : ByteArray, D.data.toList = dirOf s.data.toList := ⟨⟨(dirOf s.data.toList).toArray⟩, by simp⟩
          obtain ⟨e, he⟩ : ∃ e, (dirOf s.data.toList == d.data.toList) = e := ⟨_, rfl⟩
          have hDe : (D.toList == d.toList) = e := by rw [ByteArray.toList_eq, ByteArray.toList_eq, hD]; exact he
          have H3 := Lib.hid (fun W h => gmatch_any (d ++ (⟨#[47, 42, 42]⟩ : ByteArray)) s u (by rw [h3, below_all hdm hkc]; exact hu) W s3 (by omega) h)
          have H4 := Lib.hid (fun W h => gmatch_any (d ++ (⟨#[47, 42]⟩ : ByteArray)) s (u && e) (by rw [h4, below_one hdm hkc, hu, he]) W s4 (by omega) h)
          have H5 := Lib.hid (fun W => refunder_any s d u hu W (by omega))
          have H6 := Lib.hid (fun W => refdir_any s D hD W (by omega))
          have hdi3 : (d.size : Int) + 3 ≤ 9223372036854775807 := by omega
          have hdi2 : (d.size : Int) + 2 ≤ 9223372036854775807 := by omega
          clear hdm hl hl2 hk hkc h3 h4 s3 s4 hu hD he hk14
          cases u
          · rw [Bool.false_and] at H4
            go_enter Tryd.func6, Tryd.ntmps6
            go_wp2_with fail
            refine (HA.out _ HX0.out).mono ?_
            rintro e w1 ⟨rfl, hb1⟩
            have HX1 := Lib.hid (HX0.out.later hb1)
            have HB1 := Lib.hid hb1
            clear hb1
            go_wp2_with fail
            refine (H1.out _).mono ?_
            rintro e w2 ⟨rfl, hb2⟩
            have HX2 := Lib.hid (HX1.out.later hb2)
            have HB2 := Lib.hid (HB1.out.trans (hb2.mono HB1.out.size))
            clear hb2
            go_wp2_with fail
            refine (H2.out _).mono ?_
            rintro e w3 ⟨rfl, hb3⟩
            have HX3 := Lib.hid (HX2.out.later hb3)
            have HB3 := Lib.hid (HB2.out.trans (hb3.mono HB2.out.size))
            clear hb3
            go_wp2_with fail
            refine (H3.out _ HX3.out).mono ?_
            rintro e w4 ⟨rfl, hb4⟩
            have HX4 := Lib.hid (HX3.out.later hb4)
            have HB4 := Lib.hid (HB3.out.trans (hb4.mono HB3.out.size))
            clear hb4
            go_wp2_with fail
            refine (H5.out _).mono ?_
            rintro e w5 ⟨rfl, hb5⟩
            have HX5 := Lib.hid (HX4.out.later hb5)
            have HB5 := Lib.hid (HB4.out.trans (hb5.mono HB4.out.size))
            clear hb5
            go_wp2_with fail
            refine (H4.out _ HX5.out).mono ?_
            rintro e w6 ⟨rfl, hb6⟩
            have HX6 := Lib.hid (HX5.out.later hb6)
            have HB6 := Lib.hid (HB5.out.trans (hb6.mono HB5.out.size))
            clear hb6
            go_wp2_with fail
            refine (H5.out _).mono ?_
            rintro e w7 ⟨rfl, hb7⟩
            have HX7 := Lib.hid (HX6.out.later hb7)
            have HB7 := Lib.hid (HB6.out.trans (hb7.mono HB6.out.size))
            clear hb7
            go_wp2_with fail
            go_ret
            exact ⟨rfl, HB7.out⟩
          · rw [Bool.true_and] at H4
            cases e
            all_goals
              go_enter Tryd.func6, Tryd.ntmps6
              go_wp2_with fail
              refine (HA.out _ HX0.out).mono ?_
              rintro e w1 ⟨rfl, hb1⟩
              have HX1 := Lib.hid (HX0.out.later hb1)
              have HB1 := Lib.hid hb1
              clear hb1
              go_wp2_with fail
              refine (H1.out _).mono ?_
              rintro e w2 ⟨rfl, hb2⟩
              have HX2 := Lib.hid (HX1.out.later hb2)
              have HB2 := Lib.hid (HB1.out.trans (hb2.mono HB1.out.size))
              clear hb2
              go_wp2_with fail
              refine (H2.out _).mono ?_
              rintro e w3 ⟨rfl, hb3⟩
              have HX3 := Lib.hid (HX2.out.later hb3)
              have HB3 := Lib.hid (HB2.out.trans (hb3.mono HB2.out.size))
              clear hb3
              go_wp2_with fail
              refine (H3.out _ HX3.out).mono ?_
              rintro e w4 ⟨rfl, hb4⟩
              have HX4 := Lib.hid (HX3.out.later hb4)
              have HB4 := Lib.hid (HB3.out.trans (hb4.mono HB3.out.size))
              clear hb4
              go_wp2_with fail
              refine (H5.out _).mono ?_
              rintro e w5 ⟨rfl, hb5⟩
              have HX5 := Lib.hid (HX4.out.later hb5)
              have HB5 := Lib.hid (HB4.out.trans (hb5.mono HB4.out.size))
              clear hb5
              go_wp2_with fail
              refine (H4.out _ HX5.out).mono ?_
              rintro e w6 ⟨rfl, hb6⟩
              have HX6 := Lib.hid (HX5.out.later hb6)
              have HB6 := Lib.hid (HB5.out.trans (hb6.mono HB5.out.size))
              clear hb6
              go_wp2_with fail
              refine (H5.out _).mono ?_
              rintro e w7 ⟨rfl, hb7⟩
              have HX7 := Lib.hid (HX6.out.later hb7)
              have HB7 := Lib.hid (HB6.out.trans (hb7.mono HB6.out.size))
              clear hb7
              go_wp2_with fail
              refine (H6.out _).mono ?_
              rintro e w8 ⟨rfl, hb8⟩
              have HX8 := Lib.hid (HX7.out.later hb8)
              have HB8 := Lib.hid (HB7.out.trans (hb8.mono HB7.out.size))
              clear hb8
              go_wp2_with fail
              go_ret
              exact ⟨rfl, HB8.out⟩
end Gl
end Go.Proofs.YtffmnobcdhgfdaaDoor
