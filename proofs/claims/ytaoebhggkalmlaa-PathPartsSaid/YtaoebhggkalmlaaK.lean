/-
  Layer 3 (path): the walks of the document's examples, and of the laws PathMay, PathJoins, PathUnder.
-/
import Derived.Test.YtaoebhggkalmlaaJ
namespace Go.Proofs.Ytaoebhggkalmlaa
namespace Pt
open Go.RowKit

theorem bounds_of {n : Nat} (h : n ≤ 140737488355328) : (n : Int) ≤ 140737488355328 := by omega

set_option maxRecDepth 100000 in
set_option maxHeartbeats 2000000 in
theorem alive_any (w : World) : Calls Try.prog 8 #[] w fun e w' => e = .returned (.bool true) ∧ Below w.heap.size w w' := by
  have H1 := Lib.hid (fun W => join_any ⟨#[97, 47, 98]⟩ ⟨#[99, 46, 103, 111]⟩ ⟨#[97, 47, 98, 47, 99, 46, 103, 111]⟩ 0 (by decide +kernel) W (by decide) (by decide))
  have H2 := Lib.hid (fun W => ext_any ⟨#[120, 46, 116, 97, 114, 46, 103, 122]⟩ ⟨#[46, 103, 122]⟩ (by decide +kernel) W (by decide))
  have H3 := Lib.hid (fun W => ext_any ⟨#[46, 114, 99]⟩ ⟨#[]⟩ (by decide +kernel) W (by decide))
  have H4 := Lib.hid (fun W => under_any ⟨#[97, 98, 47, 99]⟩ ⟨#[97]⟩ false (by decide +kernel) W (by decide) (by decide))
  have H5 := Lib.hid (fun W => may_any ⟨#[97]⟩ true (by decide +kernel) W (by decide))
  have H6 := Lib.hid (fun W => may_any ⟨#[97, 47, 47, 98]⟩ false (by decide +kernel) W (by decide))
  go_enter Try.func8, Try.ntmps8
  go_wp2_with fail
  refine (H1.out _).mono ?_
  rintro e w1 ⟨rfl, hb1⟩
  have HB1 := Lib.hid hb1
  clear hb1
  go_wp2_with fail
  refine (H2.out _).mono ?_
  rintro e w2 ⟨rfl, hb2⟩
  have HB2 := Lib.hid (HB1.out.trans (hb2.mono HB1.out.size))
  clear hb2
  go_wp2_with fail
  refine (H3.out _).mono ?_
  rintro e w3 ⟨rfl, hb3⟩
  have HB3 := Lib.hid (HB2.out.trans (hb3.mono HB2.out.size))
  clear hb3
  go_wp2_with fail
  refine (H4.out _).mono ?_
  rintro e w4 ⟨rfl, hb4⟩
  have HB4 := Lib.hid (HB3.out.trans (hb4.mono HB3.out.size))
  clear hb4
  go_wp2_with fail
  refine (H5.out _).mono ?_
  rintro e w5 ⟨rfl, hb5⟩
  have HB5 := Lib.hid (HB4.out.trans (hb5.mono HB4.out.size))
  clear hb5
  go_wp2_with fail
  refine (H6.out _).mono ?_
  rintro e w6 ⟨rfl, hb6⟩
  have HB6 := Lib.hid (HB5.out.trans (hb6.mono HB5.out.size))
  clear hb6
  go_wp2_with fail
  go_ret
  exact ⟨rfl, HB6.out⟩

set_option maxRecDepth 100000 in
set_option maxHeartbeats 2000000 in
theorem may_law (s : ByteArray) (w : World) (hs : s.size ≤ 140737488355328) :
    Calls Try.prog 3 #[.string s] w fun e w' => e = .returned (.bool true) ∧ Below w.heap.size w w' := by
  by_cases hl : 2000 < s.size
  · have hl' : (2000 : Int) < s.size := by omega
    clear hl
    go_enter Try.func3, Try.ntmps3
    go_wp2_with fail
    refine (alive_any _).mono ?_
    rintro e w1 ⟨rfl, hb1⟩
    have HB1 := Lib.hid hb1
    clear hb1
    go_wp2_with fail
    go_ret
    exact ⟨rfl, HB1.out⟩
  · have hl' : decide ((2000 : Int) < s.size) = false := by rw [decide_eq_false_iff_not]; omega
    obtain ⟨b, hb⟩ : ∃ b, may s.data.toList = b := ⟨_, rfl⟩
    have H1 := Lib.hid (fun W => may_any s b hb W (by omega))
    have H2 := Lib.hid (fun W => refmay_any s b hb W (by omega))
    clear hb
    cases b
    · go_enter Try.func3, Try.ntmps3
      go_wp2_with fail
      refine (alive_any _).mono ?_
      rintro e w1 ⟨rfl, hb1⟩
      have HB1 := Lib.hid hb1
      clear hb1
      go_wp2_with fail
      refine (H1.out _).mono ?_
      rintro e w2 ⟨rfl, hb2⟩
      have HB2 := Lib.hid (HB1.out.trans (hb2.mono HB1.out.size))
      clear hb2
      go_wp2_with fail
      refine (H2.out _).mono ?_
      rintro e w3 ⟨rfl, hb3⟩
      have HB3 := Lib.hid (HB2.out.trans (hb3.mono HB2.out.size))
      clear hb3
      go_wp2_with fail
      go_ret
      exact ⟨rfl, HB3.out⟩
    · go_enter Try.func3, Try.ntmps3
      go_wp2_with fail
      refine (alive_any _).mono ?_
      rintro e w1 ⟨rfl, hb1⟩
      have HB1 := Lib.hid hb1
      clear hb1
      go_wp2_with fail
      refine (H1.out _).mono ?_
      rintro e w2 ⟨rfl, hb2⟩
      have HB2 := Lib.hid (HB1.out.trans (hb2.mono HB1.out.size))
      clear hb2
      go_wp2_with fail
      refine (H2.out _).mono ?_
      rintro e w3 ⟨rfl, hb3⟩
      have HB3 := Lib.hid (HB2.out.trans (hb3.mono HB2.out.size))
      clear hb3
      go_wp2_with fail
      go_ret
      exact ⟨rfl, HB3.out⟩

set_option maxRecDepth 100000 in
set_option maxHeartbeats 2000000 in
theorem joins_law (d s : ByteArray) (w : World) (hd : d.size ≤ 140737488355328) (hs : s.size ≤ 140737488355328) :
    Calls Try.prog 4 #[.string d, .string s] w fun e w' => e = .returned (.bool true) ∧ Below w.heap.size w w' := by
  by_cases hl : 1500 < d.size
  · have hl' : (1500 : Int) < d.size := by omega
    clear hl
    go_enter Try.func4, Try.ntmps4
    go_wp2_with fail
    refine (alive_any _).mono ?_
    rintro e w1 ⟨rfl, hb1⟩
    have HB1 := Lib.hid hb1
    clear hb1
    go_wp2_with fail
    go_ret
    exact ⟨rfl, HB1.out⟩
  · have hl' : decide ((1500 : Int) < d.size) = false := by rw [decide_eq_false_iff_not]; omega
    by_cases hm : 1500 < s.size
    · have hm' : (1500 : Int) < s.size := by omega
      clear hm
      go_enter Try.func4, Try.ntmps4
      go_wp2_with fail
      refine (alive_any _).mono ?_
      rintro e w1 ⟨rfl, hb1⟩
      have HB1 := Lib.hid hb1
      clear hb1
      go_wp2_with fail
      go_ret
      exact ⟨rfl, HB1.out⟩
    · have hm' : decide ((1500 : Int) < s.size) = false := by rw [decide_eq_false_iff_not]; omega
      obtain ⟨x, er, hj⟩ : ∃ x er, joinV d.data.toList s.data.toList = (x, er) := ⟨_, _, rfl⟩
      obtain ⟨X, rfl⟩ : ∃ X : ByteArray, X.data.toList = x := ⟨⟨x.toArray⟩, by simp⟩
      have H1 := Lib.hid (fun W => join_any d s X er hj W (by omega) (by omega))
      have H2 := Lib.hid (fun W => refjoin_any d s X er hj W (by omega) (by omega))
      have hxx : (X.toList == X.toList) = true := beq_self_eq_true _
      by_cases he : er = 0
      · subst he
        have hju := join_under (d := d.data.toList) (s := s.data.toList) (by rw [hj])
        rw [hj] at hju
        have hxs : X.size ≤ 100000 := by
          rcases joinV_cases d.data.toList s.data.toList with ⟨_, _, h2⟩ | ⟨_, _, h2⟩ | ⟨_, _, h2⟩ | ⟨_, _, _, h2⟩ | ⟨_, _, _, _, h2⟩ | ⟨_, _, _, _, h2⟩
          all_goals
            have e1 := (pair_eq (hj.symm.trans h2)).1
            have e2 := congrArg List.length e1
            have e3 := data_length d
            have e4 := data_length s
            have e5 := data_length X
            try simp only [List.length_nil, List.length_append, List.length_cons] at e2
            omega
        have H3 := Lib.hid (fun W => may_any X true hju.1 W hxs)
        have H4 := Lib.hid (fun W => under_any X d true hju.2 W hxs (by omega))
        clear hju hj
        go_enter Try.func4, Try.ntmps4
        go_wp2_with fail
        refine (alive_any _).mono ?_
        rintro e w1 ⟨rfl, hb1⟩
        have HB1 := Lib.hid hb1
        clear hb1
        go_wp2_with fail
        refine (H1.out _).mono ?_
        rintro e w2 ⟨rfl, hb2⟩
        have HB2 := Lib.hid (HB1.out.trans (hb2.mono HB1.out.size))
        clear hb2
        go_wp2_with fail
        refine (H2.out _).mono ?_
        rintro e w3 ⟨rfl, hb3⟩
        have HB3 := Lib.hid (HB2.out.trans (hb3.mono HB2.out.size))
        clear hb3
        go_wp2_with fail
        refine (H3.out _).mono ?_
        rintro e w4 ⟨rfl, hb4⟩
        have HB4 := Lib.hid (HB3.out.trans (hb4.mono HB3.out.size))
        clear hb4
        go_wp2_with fail
        refine (H4.out _).mono ?_
        rintro e w5 ⟨rfl, hb5⟩
        have HB5 := Lib.hid (HB4.out.trans (hb5.mono HB4.out.size))
        clear hb5
        go_wp2_with fail
        go_ret
        exact ⟨rfl, HB5.out⟩
      · have he1 : ((er : Int) != 0) = true := by rw [bne_iff_ne]; omega
        clear hj
        go_enter Try.func4, Try.ntmps4
        go_wp2_with fail
        refine (alive_any _).mono ?_
        rintro e w1 ⟨rfl, hb1⟩
        have HB1 := Lib.hid hb1
        clear hb1
        go_wp2_with fail
        refine (H1.out _).mono ?_
        rintro e w2 ⟨rfl, hb2⟩
        have HB2 := Lib.hid (HB1.out.trans (hb2.mono HB1.out.size))
        clear hb2
        go_wp2_with fail
        refine (H2.out _).mono ?_
        rintro e w3 ⟨rfl, hb3⟩
        have HB3 := Lib.hid (HB2.out.trans (hb3.mono HB2.out.size))
        clear hb3
        go_wp2_with fail
        go_ret
        exact ⟨rfl, HB3.out⟩

set_option maxRecDepth 100000 in
set_option maxHeartbeats 2000000 in
theorem under_law (s d : ByteArray) (w : World) (hs : s.size ≤ 140737488355328) (hd : d.size ≤ 140737488355328) :
    Calls Try.prog 6 #[.string s, .string d] w fun e w' => e = .returned (.bool true) ∧ Below w.heap.size w w' := by
  by_cases hl : 1500 < s.size
  · have hl' : (1500 : Int) < s.size := by omega
    clear hl
    go_enter Try.func6, Try.ntmps6
    go_wp2_with fail
    refine (alive_any _).mono ?_
    rintro e w1 ⟨rfl, hb1⟩
    have HB1 := Lib.hid hb1
    clear hb1
    go_wp2_with fail
    go_ret
    exact ⟨rfl, HB1.out⟩
  · have hl' : decide ((1500 : Int) < s.size) = false := by rw [decide_eq_false_iff_not]; omega
    by_cases hm : 1500 < d.size
    · have hm' : (1500 : Int) < d.size := by omega
      clear hm
      go_enter Try.func6, Try.ntmps6
      go_wp2_with fail
      refine (alive_any _).mono ?_
      rintro e w1 ⟨rfl, hb1⟩
      have HB1 := Lib.hid hb1
      clear hb1
      go_wp2_with fail
      go_ret
      exact ⟨rfl, HB1.out⟩
    · have hm' : decide ((1500 : Int) < d.size) = false := by rw [decide_eq_false_iff_not]; omega
      obtain ⟨b, hb⟩ : ∃ b, under s.data.toList d.data.toList = b := ⟨_, rfl⟩
      have H1 := Lib.hid (fun W => under_any s d b hb W (by omega) (by omega))
      have H2 := Lib.hid (fun W => refunder_any s d b hb W (by omega))
      have H3 := Lib.hid (fun W => under_any s s false (under_self _) W (by omega) (by omega))
      clear hb
      cases b
      · go_enter Try.func6, Try.ntmps6
        go_wp2_with fail
        refine (alive_any _).mono ?_
        rintro e w1 ⟨rfl, hb1⟩
        have HB1 := Lib.hid hb1
        clear hb1
        go_wp2_with fail
        refine (H1.out _).mono ?_
        rintro e w2 ⟨rfl, hb2⟩
        have HB2 := Lib.hid (HB1.out.trans (hb2.mono HB1.out.size))
        clear hb2
        go_wp2_with fail
        refine (H2.out _).mono ?_
        rintro e w3 ⟨rfl, hb3⟩
        have HB3 := Lib.hid (HB2.out.trans (hb3.mono HB2.out.size))
        clear hb3
        go_wp2_with fail
        refine (H3.out _).mono ?_
        rintro e w4 ⟨rfl, hb4⟩
        have HB4 := Lib.hid (HB3.out.trans (hb4.mono HB3.out.size))
        clear hb4
        go_wp2_with fail
        go_ret
        exact ⟨rfl, HB4.out⟩
      · go_enter Try.func6, Try.ntmps6
        go_wp2_with fail
        refine (alive_any _).mono ?_
        rintro e w1 ⟨rfl, hb1⟩
        have HB1 := Lib.hid hb1
        clear hb1
        go_wp2_with fail
        refine (H1.out _).mono ?_
        rintro e w2 ⟨rfl, hb2⟩
        have HB2 := Lib.hid (HB1.out.trans (hb2.mono HB1.out.size))
        clear hb2
        go_wp2_with fail
        refine (H2.out _).mono ?_
        rintro e w3 ⟨rfl, hb3⟩
        have HB3 := Lib.hid (HB2.out.trans (hb3.mono HB2.out.size))
        clear hb3
        go_wp2_with fail
        refine (H3.out _).mono ?_
        rintro e w4 ⟨rfl, hb4⟩
        have HB4 := Lib.hid (HB3.out.trans (hb4.mono HB3.out.size))
        clear hb4
        go_wp2_with fail
        go_ret
        exact ⟨rfl, HB4.out⟩
end Pt
end Go.Proofs.Ytaoebhggkalmlaa
