/-
  Layer 4 (globs): the walks of the document's examples, and of the law GlobsMatch.
-/
import Derived.Test.YtffmnobcdhgfdaaDoorGK
namespace Go.Proofs.YtffmnobcdhgfdaaDoor
namespace Gl
open Go.RowKit Pt

set_option maxRecDepth 100000 in
set_option maxHeartbeats 4000000 in
theorem alive_any (w : World) (hmx : Mx w) : Calls Tryd.prog 8 #[] w fun e w' => e = .returned (.bool true) ∧ Below w.heap.size w w' := by
  have H1 := Lib.hid (fun W h => gmatch_any ⟨#[97, 47, 42, 42, 47, 99]⟩ ⟨#[97, 47, 99]⟩ true (by decide +kernel) W (by decide) (by decide) h)
  have H2 := Lib.hid (fun W h => gmatch_any ⟨#[97, 47, 42, 42, 47, 99]⟩ ⟨#[97, 47, 98, 47, 98, 47, 99]⟩ true (by decide +kernel) W (by decide) (by decide) h)
  have H3 := Lib.hid (fun W h => gmatch_any ⟨#[97, 47, 42, 42, 47, 99]⟩ ⟨#[97]⟩ false (by decide +kernel) W (by decide) (by decide) h)
  have H4 := Lib.hid (fun W h => gfixed_any ⟨#[97, 47, 98, 42, 46, 99]⟩ ⟨#[97, 47, 98]⟩ (by decide +kernel) W (by decide) h)
  have HX0 := Lib.hid hmx
  clear hmx
  go_enter Tryd.func8, Tryd.ntmps8
  go_wp2_with fail
  refine (H1.out _ HX0.out).mono ?_
  rintro e w1 ⟨rfl, hb1⟩
  have HX1 := Lib.hid (HX0.out.later hb1)
  have HB1 := Lib.hid hb1
  clear hb1
  go_wp2_with fail
  refine (H2.out _ HX1.out).mono ?_
  rintro e w2 ⟨rfl, hb2⟩
  have HX2 := Lib.hid (HX1.out.later hb2)
  have HB2 := Lib.hid (HB1.out.trans (hb2.mono HB1.out.size))
  clear hb2
  go_wp2_with fail
  refine (H3.out _ HX2.out).mono ?_
  rintro e w3 ⟨rfl, hb3⟩
  have HX3 := Lib.hid (HX2.out.later hb3)
  have HB3 := Lib.hid (HB2.out.trans (hb3.mono HB2.out.size))
  clear hb3
  go_wp2_with fail
  refine (H4.out _ HX3.out).mono ?_
  rintro e w4 ⟨rfl, hb4⟩
  have HX4 := Lib.hid (HX3.out.later hb4)
  have HB4 := Lib.hid (HB3.out.trans (hb4.mono HB3.out.size))
  clear hb4
  go_wp2_with fail
  go_ret
  exact ⟨rfl, HB4.out⟩

set_option maxRecDepth 100000 in
set_option maxHeartbeats 4000000 in
theorem match_law (p s : ByteArray) (w : World) (hmx : Mx w) (hp : p.size ≤ 140737488355328) (hs : s.size ≤ 140737488355328) :
    Calls Tryd.prog 3 #[.string p, .string s] w fun e w' => e = .returned (.bool true) ∧ Below w.heap.size w w' := by
  have HA := Lib.hid alive_any
  have HX0 := Lib.hid hmx
  clear hmx
  by_cases hl : 1500 < p.size
  · have hl' : (1500 : Int) < p.size := by omega
    clear hl
    go_enter Tryd.func3, Tryd.ntmps3
    go_wp2_with fail
    refine (HA.out _ HX0.out).mono ?_
    rintro e w1 ⟨rfl, hb1⟩
    have HX1 := Lib.hid (HX0.out.later hb1)
    have HB1 := Lib.hid hb1
    clear hb1
    go_wp2_with fail
    go_ret
    exact ⟨rfl, HB1.out⟩
  · by_cases hl2 : 1500 < s.size
    · have hl' : decide ((1500 : Int) < p.size) = false := by rw [decide_eq_false_iff_not]; omega
      have hl2' : (1500 : Int) < s.size := by omega
      clear hl hl2
      go_enter Tryd.func3, Tryd.ntmps3
      go_wp2_with fail
      refine (HA.out _ HX0.out).mono ?_
      rintro e w1 ⟨rfl, hb1⟩
      have HX1 := Lib.hid (HX0.out.later hb1)
      have HB1 := Lib.hid hb1
      clear hb1
      go_wp2_with fail
      go_ret
      exact ⟨rfl, HB1.out⟩
    · have hl' : decide ((1500 : Int) < p.size) = false := by rw [decide_eq_false_iff_not]; omega
      have hl2' : decide ((1500 : Int) < s.size) = false := by rw [decide_eq_false_iff_not]; omega
      obtain ⟨b, hb⟩ : ∃ b, pmay p.data.toList = b := ⟨_, rfl⟩
      obtain ⟨c, hc⟩ : ∃ c, mtch p.data.toList s.data.toList = c := ⟨_, rfl⟩
      obtain ⟨X, hX⟩ : ∃ X : ByteArray, X.data.toList = fixd p.data.toList := ⟨⟨(fixd p.data.toList).toArray⟩, by simp⟩
      have H1 := Lib.hid (fun W h => gmay_any p b hb W (by omega) h)
      have H2 := Lib.hid (fun W => refpmay_any p b hb W (by omega))
      have H3 := Lib.hid (fun W h => gmatch_any p s c hc W (by omega) (by omega) h)
      have H4 := Lib.hid (fun W => refmatch_any p s c hc W (by omega) (by omega))
      have H5 := Lib.hid (fun W h => gfixed_any p X hX W (by omega) h)
      have H6 := Lib.hid (fun W => reffixed_any p X hX W (by omega))
      clear hb hc hX hl hl2
      cases b <;> cases c
      all_goals
        go_enter Tryd.func3, Tryd.ntmps3
        go_wp2_with fail
        refine (HA.out _ HX0.out).mono ?_
        rintro e w1 ⟨rfl, hb1⟩
        have HX1 := Lib.hid (HX0.out.later hb1)
        have HB1 := Lib.hid hb1
        clear hb1
        go_wp2_with fail
        refine (H1.out _ HX1.out).mono ?_
        rintro e w2 ⟨rfl, hb2⟩
        have HX2 := Lib.hid (HX1.out.later hb2)
        have HB2 := Lib.hid (HB1.out.trans (hb2.mono HB1.out.size))
        clear hb2
        go_wp2_with fail
        refine (H2.out _).mono ?_
        rintro e w3 ⟨rfl, hb3⟩
        have HX3 := Lib.hid (HX2.out.later hb3)
        have HB3 := Lib.hid (HB2.out.trans (hb3.mono HB2.out.size))
        clear hb3
        go_wp2_with fail
        refine (H3.out _ HX3.out).mono ?_
        rintro e w4 ⟨rfl, hb4⟩
        have HX4 := Lib.hid (HX3.out.later hb4)
        have HB4 := Lib.hid (HB3.out.trans (hb4.mono HB3.out.size))
        clear hb4
        go_wp2_with fail
        refine (H4.out _).mono ?_
        rintro e w5 ⟨rfl, hb5⟩
        have HX5 := Lib.hid (HX4.out.later hb5)
        have HB5 := Lib.hid (HB4.out.trans (hb5.mono HB4.out.size))
        clear hb5
        go_wp2_with fail
        refine (H5.out _ HX5.out).mono ?_
        rintro e w6 ⟨rfl, hb6⟩
        have HX6 := Lib.hid (HX5.out.later hb6)
        have HB6 := Lib.hid (HB5.out.trans (hb6.mono HB5.out.size))
        clear hb6
        go_wp2_with fail
        refine (H6.out _).mono ?_
        rintro e w7 ⟨rfl, hb7⟩
        have HX7 := Lib.hid (HX6.out.later hb7)
        have HB7 := Lib.hid (HB6.out.trans (hb7.mono HB6.out.size))
        clear hb7
        go_wp2_with fail
        go_ret
        exact ⟨rfl, HB7.out⟩
end Gl
end Go.Proofs.YtffmnobcdhgfdaaDoor
