/-
  Layer 3 (path): the walks of the document's Join, Under.
-/
import Derived.Test.YtkldgfdfpanelaaDoorD
namespace Go.Proofs.YtkldgfdfpanelaaDoor
namespace Pt
open Go.RowKit

theorem str_nil {s : ByteArray} (h : s.data.toList = []) : s = ⟨#[]⟩ := str_eq h
theorem ne_facts {s : ByteArray} (h : s.data.toList ≠ []) : s.toList.isEmpty = false ∧ ¬ s.toList = [] := by
  rw [ByteArray.toList_eq]
  refine ⟨?_, h⟩
  cases e : s.data.toList
  · exact absurd e h
  · rfl

set_option maxRecDepth 100000 in
set_option maxHeartbeats 2000000 in
theorem refunder_rec (d : ByteArray) (n : Nat) : ∀ (s : ByteArray) (b : Bool) (w : World), under s.data.toList d.data.toList = b → s.size ≤ 100000 → (parts s.data.toList).length ≤ n →
    Calls Tryd.prog 28 #[.string s, .string d] w fun e w' => e = .returned (.bool b) ∧ Below w.heap.size w w' := by
  induction n with
  | zero =>
    intro s b w hb hs hn
    have := parts_pos s.data.toList
    omega
  | succ n ih =>
    intro s b w hb hs hn
    have HI := Lib.hid ih
    clear ih
    cases hm : may s.data.toList
    · rw [under_not hm] at hb
      subst hb
      have HM := Lib.hid (refmay_any s false hm w hs)
      clear hm
      go_enter Tryd.func28, Tryd.ntmps28
      go_wp2_with fail
      refine HM.out.mono ?_
      rintro e w1 ⟨rfl, hb1⟩
      have HB1 := Lib.hid hb1
      clear hb1
      go_wp2_with fail
      go_ret
      exact ⟨rfl, HB1.out⟩
    · have HM := Lib.hid (refmay_any s true hm w hs)
      by_cases hd : d.data.toList = []
      · obtain rfl := str_nil hd
        have hb' : under s.data.toList [] = b := hb
        rw [under_nil hm] at hb'
        subst hb'
        clear hm hb
        go_enter Tryd.func28, Tryd.ntmps28
        go_wp2_with fail
        refine HM.out.mono ?_
        rintro e w1 ⟨rfl, hb1⟩
        have HB1 := Lib.hid hb1
        clear hb1
        go_wp2_with fail
        go_ret
        exact ⟨rfl, HB1.out⟩
      · obtain ⟨n1, n2⟩ := ne_facts hd
        rw [under_rec hm hd] at hb
        obtain ⟨U, hU⟩ : ∃ U : ByteArray, U.data.toList = dirOf s.data.toList := ⟨⟨(dirOf s.data.toList).toArray⟩, by simp⟩
        have hUs : U.size ≤ s.size := by
          rw [← data_length, hU, dirOf_up hm, ← data_length]
          exact up_len _ _
        have hUn : U.data.toList ≠ [] → (parts U.data.toList).length ≤ n := fun hne => by
          rw [hU, dirOf_up hm] at hne ⊢
          have h0 : 0 < (parts s.data.toList).length - 1 := by
            rcases Nat.eq_zero_or_pos ((parts s.data.toList).length - 1) with h | h
            · rw [h, up_zero] at hne; exact absurd rfl hne
            · exact h
          rw [up_parts hm h0, List.length_take]
          omega
        have HU := Lib.hid (fun W => refdir_any s U hU W hs)
        rw [← hU] at hb
        have HUN := Lib.hid hUn
        clear hm hU hUn
        by_cases hu : U.data.toList = []
        · have hb' : b = false := by rw [← hb, hu]; rfl
          subst hb'
          obtain rfl := str_nil hu
          clear hb hu
          go_enter Tryd.func28, Tryd.ntmps28
          go_wp2_with fail
          refine HM.out.mono ?_
          rintro e w1 ⟨rfl, hb1⟩
          have HB1 := Lib.hid hb1
          clear hb1
          go_wp2_with fail
          refine (HU.out _).mono ?_
          rintro e w2 ⟨rfl, hb2⟩
          have HB2 := Lib.hid (HB1.out.trans (hb2.mono HB1.out.size))
          clear hb2
          go_wp2_with fail
          go_ret
          exact ⟨rfl, HB2.out⟩
        · obtain ⟨m1, m2⟩ := ne_facts hu
          have hub : (U.data.toList == []) = false := by rw [beq_eq_false_iff_ne]; exact hu
          rw [hub, Bool.not_false, Bool.true_and] at hb
          cases he : (U.data.toList == d.data.toList)
          · rw [he, Bool.false_or] at hb
            have hr := fun W => HI.out U b W hb (by omega) (HUN.out hu)
            have HR := Lib.hid hr
            have he' : (U.toList == d.toList) = false := by rw [ByteArray.toList_eq, ByteArray.toList_eq]; exact he
            clear hb he hub hu hr HI
            go_enter Tryd.func28, Tryd.ntmps28
            go_wp2_with fail
            refine HM.out.mono ?_
            rintro e w1 ⟨rfl, hb1⟩
            have HB1 := Lib.hid hb1
            clear hb1
            go_wp2_with fail
            refine (HU.out _).mono ?_
            rintro e w2 ⟨rfl, hb2⟩
            have HB2 := Lib.hid (HB1.out.trans (hb2.mono HB1.out.size))
            clear hb2
            go_wp2_with fail
            refine (HR.out _).mono ?_
            rintro e w3 ⟨rfl, hb3⟩
            have HB3 := Lib.hid (HB2.out.trans (hb3.mono HB2.out.size))
            clear hb3
            go_wp2_with fail
            go_ret
            exact ⟨rfl, HB3.out⟩
          · rw [he, Bool.true_or] at hb
            subst hb
            have he' : (U.toList == d.toList) = true := by rw [ByteArray.toList_eq, ByteArray.toList_eq]; exact he
            clear he hub hu HI
            go_enter Tryd.func28, Tryd.ntmps28
            go_wp2_with fail
            refine HM.out.mono ?_
            rintro e w1 ⟨rfl, hb1⟩
            have HB1 := Lib.hid hb1
            clear hb1
            go_wp2_with fail
            refine (HU.out _).mono ?_
            rintro e w2 ⟨rfl, hb2⟩
            have HB2 := Lib.hid (HB1.out.trans (hb2.mono HB1.out.size))
            clear hb2
            go_wp2_with fail
            go_ret
            exact ⟨rfl, HB2.out⟩
theorem refunder_any (s d : ByteArray) (b : Bool) (hb : under s.data.toList d.data.toList = b) (w : World) (hs : s.size ≤ 100000) :
    Calls Tryd.prog 28 #[.string s, .string d] w fun e w' => e = .returned (.bool b) ∧ Below w.heap.size w w' := refunder_rec d _ s b w hb hs (Nat.le_refl _)
end Pt
end Go.Proofs.YtkldgfdfpanelaaDoor
