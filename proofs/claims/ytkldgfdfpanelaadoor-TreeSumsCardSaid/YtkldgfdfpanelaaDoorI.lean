/-
  Layer 3 (path): the walks of May, isDirectory, Under.
-/
import Derived.Test.YtkldgfdfpanelaaDoorH
namespace Go.Proofs.YtkldgfdfpanelaaDoor
namespace Pt
open Go.RowKit Go.Shelf

theorem may_any (s : ByteArray) (b : Bool) (hb : may s.data.toList = b) (w : World) (hs : s.size ≤ 100000) :
    Calls Tryd.prog 32 #[.string s] w fun e w' => e = .returned (.bool b) ∧ Below w.heap.size w w' := by
  have hc := count_any s w hs
  have hp := cnt_pos s.data.toList
  generalize cnt s.data.toList = n at hc hp
  rw [hb] at hp
  have HC := Lib.hid hc
  have hb' : b = decide (0 < n) := hp.symm
  have HB := Lib.hid hb'
  clear hc hp hb hb'
  go_enter Tryd.func32, Tryd.ntmps32
  go_wp2_with fail
  refine HC.out.mono ?_
  rintro e w1 ⟨rfl, hb1⟩
  have HB1 := Lib.hid hb1
  clear hb1
  go_wp2
  go_ret
  rw [HB.out]
  exact ⟨rfl, HB1.out⟩

theorem isdir_any (s : ByteArray) (b : Bool) (hb : isDir s.data.toList = b) (w : World) (hs : s.size ≤ 100000) :
    Calls Tryd.prog 33 #[.string s] w fun e w' => e = .returned (.bool b) ∧ Below w.heap.size w w' := by
  by_cases h0 : s.data.toList = []
  · obtain rfl := str_nil h0
    have hb' : b = true := by rw [← hb]; rfl
    subst hb'
    clear hb h0
    go_enter Tryd.func33, Tryd.ntmps33
    go_wp2_with fail
    go_ret
    exact ⟨rfl, Below.refl _ _⟩
  · obtain ⟨n1, n2⟩ := ne_facts h0
    have h0' : (s.data.toList == []) = false := by rw [beq_eq_false_iff_ne]; exact h0
    have hb' : may s.data.toList = b := by rw [← hb]; unfold isDir; rw [h0', Bool.false_or]
    have HM := Lib.hid (may_any s b hb' w hs)
    clear hb hb' h0 h0'
    go_enter Tryd.func33, Tryd.ntmps33
    go_wp2_with fail
    refine HM.out.mono ?_
    rintro e w1 ⟨rfl, hb1⟩
    have HB1 := Lib.hid hb1
    clear hb1
    go_wp2_with fail
    go_ret
    exact ⟨rfl, HB1.out⟩

set_option maxRecDepth 100000 in
set_option maxHeartbeats 2000000 in
theorem under_any (s d : ByteArray) (b : Bool) (hb : under s.data.toList d.data.toList = b) (w : World) (hs : s.size ≤ 100000) (hd : d.size ≤ 90000) :
    Calls Tryd.prog 18 #[.string s, .string d] w fun e w' => e = .returned (.bool b) ∧ Below w.heap.size w w' := by
  unfold under at hb
  cases hm : may s.data.toList
  · rw [hm, Bool.false_and] at hb
    subst hb
    have HM := Lib.hid (fun W => may_any s false hm W hs)
    clear hm
    go_enter Tryd.func18, Tryd.ntmps18
    go_wp2_with fail
    refine (HM.out _).mono ?_
    rintro e w1 ⟨rfl, hb1⟩
    have HB1 := Lib.hid hb1
    clear hb1
    go_wp2_with fail
    go_ret
    exact ⟨rfl, HB1.out⟩
  · rw [hm, Bool.true_and] at hb
    have HM := Lib.hid (fun W => may_any s true hm W hs)
    cases hdd : isDir d.data.toList
    · rw [hdd, Bool.false_and] at hb
      subst hb
      have HD := Lib.hid (fun W => isdir_any d false hdd W (by omega))
      clear hm hdd
      go_enter Tryd.func18, Tryd.ntmps18
      go_wp2_with fail
      refine (HM.out _).mono ?_
      rintro e w1 ⟨rfl, hb1⟩
      have HB1 := Lib.hid hb1
      clear hb1
      go_wp2_with fail
      refine (HD.out _).mono ?_
      rintro e w2 ⟨rfl, hb2⟩
      have HB2 := Lib.hid (HB1.out.trans (hb2.mono HB1.out.size))
      clear hb2
      go_wp2_with fail
      go_ret
      exact ⟨rfl, HB2.out⟩
    · rw [hdd, Bool.true_and] at hb
      have HD := Lib.hid (fun W => isdir_any d true hdd W (by omega))
      by_cases h0 : d.data.toList = []
      · have hb' : b = true := by rw [← hb, h0]; rfl
        subst hb'
        obtain rfl := str_nil h0
        clear hm hdd hb h0
        go_enter Tryd.func18, Tryd.ntmps18
        go_wp2_with fail
        refine (HM.out _).mono ?_
        rintro e w1 ⟨rfl, hb1⟩
        have HB1 := Lib.hid hb1
        clear hb1
        go_wp2_with fail
        refine (HD.out _).mono ?_
        rintro e w2 ⟨rfl, hb2⟩
        have HB2 := Lib.hid (HB1.out.trans (hb2.mono HB1.out.size))
        clear hb2
        go_wp2_with fail
        go_ret
        exact ⟨rfl, HB2.out⟩
      · obtain ⟨n1, n2⟩ := ne_facts h0
        have h0' : (d.data.toList == []) = false := by rw [beq_eq_false_iff_ne]; exact h0
        rw [h0', Bool.false_or] at hb
        have HP := Lib.hid (pre_any s (d ++ ⟨#[47]⟩) b (by rw [← hb]; rfl))
        clear hm hdd hb h0 h0'
        go_enter Tryd.func18, Tryd.ntmps18
        go_wp2_with fail
        refine (HM.out _).mono ?_
        rintro e w1 ⟨rfl, hb1⟩
        have HB1 := Lib.hid hb1
        clear hb1
        go_wp2_with fail
        refine (HD.out _).mono ?_
        rintro e w2 ⟨rfl, hb2⟩
        have HB2 := Lib.hid (HB1.out.trans (hb2.mono HB1.out.size))
        clear hb2
        go_wp2_with fail
        refine (HP.out _).mono ?_
        rintro e w3 ⟨rfl, rfl⟩
        go_wp2_with fail
        go_ret
        exact ⟨rfl, HB2.out⟩
end Pt
end Go.Proofs.YtkldgfdfpanelaaDoor
