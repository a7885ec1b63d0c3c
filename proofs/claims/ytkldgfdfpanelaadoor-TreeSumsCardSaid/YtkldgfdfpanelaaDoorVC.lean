/-
  Layer 5 (tree): law Sums.
-/
import Derived.Test.YtkldgfdfpanelaaDoorVB
import Derived.Test.YtkldgfdfpanelaaDoorPT
import Derived.Test.YtkldgfdfpanelaaDoorSQ
namespace Go.Proofs.YtkldgfdfpanelaaDoor
namespace Tr
open Go.RowKit Go.ChangeShapes Pt

theorem tot_row : ∀ t : List Fl, (∀ f ∈ t, f.1.length ≤ 300 ∧ f.2.length ≤ 300) → Pk.tot (rowV t) ≤ 602 * t.length
  | [], _ => Nat.zero_le _
  | f :: t, h => by
    have h1 := h f List.mem_cons_self
    have h2 := tot_row t (fun g hg => h g (List.mem_cons_of_mem _ hg))
    have e : rowV (f :: t) = f.1 :: f.2 :: rowV t := rfl
    rw [e]
    simp only [Pk.tot, List.length_cons]
    omega
theorem enc_small {t : List Fl} (h : greatV t = false) : (Pk.enc (rowV t)).length ≤ 90000 := by
  unfold greatV at h
  rw [Bool.or_eq_false_iff, decide_eq_false_iff_not, List.any_eq_false] at h
  have h1 := tot_row t (fun f hf => by
    have h2 := h.2 f hf
    unfold big at h2
    rw [Bool.not_eq_true, Bool.or_eq_false_iff, decide_eq_false_iff_not, decide_eq_false_iff_not] at h2
    omega)
  have h2 := Pk.enc_le (rowV t)
  omega

set_option maxRecDepth 100000 in
set_option maxHeartbeats 4000000 in
theorem sums_law (A A' : Option Addr) (cap cap' n m : Nat) (a b : List Fl) (w : World) (hn : a.length = n) (hm : b.length = m) (hnm : n ≤ 9223372036854775807) (hmm : m ≤ 9223372036854775807) (hx : FRow w w.heap.size A a) (hy : FRow w w.heap.size A' b) (htp : Pk.Tab w.heap.size w) (hts : Sh.Tab w) (hb0 : 0 < w.heap.size) :
    Calls Tryd.prog 3 #[.slice A n cap, .slice A' m cap'] w fun e w' => e = .returned (.bool true) ∧ Below w.heap.size w w' := by
  have HXN : Hid (∀ W, Below w.heap.size w W → FRow W W.heap.size A a) := fun W hW => (hx.keep fun q hq => hW.cell hq).more hW.size
  have HYN : Hid (∀ W, Below w.heap.size w W → FRow W W.heap.size A' b) := fun W hW => (hy.keep fun q hq => hW.cell hq).more hW.size
  have HF := Lib.hid (fun W => fixed_any paths_any W)
  obtain ⟨g1, hg1⟩ : ∃ c, greatV a = c := ⟨_, rfl⟩
  obtain ⟨g2, hg2⟩ : ∃ c, greatV b = c := ⟨_, rfl⟩
  have HG1 := Lib.hid (great_any A cap w.heap.size n a g1 hg1 w hn hnm hx)
  have HG2 := Lib.hid (fun W (h : FRow W W.heap.size A' b) => great_any A' cap' W.heap.size m b g2 hg2 W hm hmm h)
  cases g1
  · cases g2
    · have HSA := Lib.hid (fun W (h : Below w.heap.size w W) => treesum_any A cap n a W hn (few_of hg1) (enc_small hg1) (HXN.out _ h) (Lib.tabBelow_of_tabIs (htp.on h).here) (hts.below h hb0) (Nat.lt_of_lt_of_le hb0 h.size))
      have HSB := Lib.hid (fun W (h : Below w.heap.size w W) => treesum_any A' cap' m b W hm (few_of hg2) (enc_small hg2) (HYN.out _ h) (Lib.tabBelow_of_tabIs (htp.on h).here) (hts.below h hb0) (Nat.lt_of_lt_of_le hb0 h.size))
      have HRA := Lib.hid (fun W (h : Below w.heap.size w W) => reftreesum_any A cap n a W hn (few_of hg1) (enc_small hg1) (HXN.out _ h))
      have HRB := Lib.hid (fun W (h : Below w.heap.size w W) => reftreesum_any A' cap' m b W hm (few_of hg2) (enc_small hg2) (HYN.out _ h))
      obtain ⟨c, hc⟩ : ∃ c, decide (a = b) = c := ⟨_, rfl⟩
      have HSM := Lib.hid (fun W (h : Below w.heap.size w W) => same_any A A' cap cap' W.heap.size n m a b c hc W hn hm hnm hmm (HXN.out _ h) (HYN.out _ h))
      have hqa := Sh.eq_same (sumV a) (sumV_length a)
      have hqb := Sh.eq_same (sumV b) (sumV_length b)
      have hng := Sh.no_guard
      cases c
      · clear hx hy hg1 hg2 hn hm htp hts hc
        go_enter Tryd.func3, Tryd.ntmps3
        go_wp2_with fail
        refine HG1.out.mono ?_
        rintro e w1 ⟨rfl, d1, hw1⟩
        have HB1 : Hid (Below w.heap.size w w1) := by rw [hw1]; exact below_drewN (Below.refl _ _) _
        clear hw1
        go_wp2_with fail
        refine (HG2.out _ (HYN.out _ HB1.out)).mono ?_
        rintro e w2 ⟨rfl, d2, hw2⟩
        have HB2 : Hid (Below w.heap.size w w2) := by rw [hw2]; exact below_drewN HB1.out _
        clear hw2
        go_wp2_with fail
        refine (HSA.out _ HB2.out).mono ?_
        rintro e w3 ⟨rfl, hb3⟩
        have HB3 := Lib.hid (HB2.out.trans (hb3.mono HB2.out.size))
        clear hb3
        go_wp2_with fail
        refine (HRA.out _ HB3.out).mono ?_
        rintro e w4 ⟨rfl, hb4⟩
        have HB4 := Lib.hid (HB3.out.trans (hb4.mono HB3.out.size))
        clear hb4
        go_wp2_with fail
        refine (HSB.out _ HB4.out).mono ?_
        rintro e w5 ⟨rfl, hb5⟩
        have HB5 := Lib.hid (HB4.out.trans (hb5.mono HB4.out.size))
        clear hb5
        go_wp2_with fail
        refine (HRB.out _ HB5.out).mono ?_
        rintro e w6 ⟨rfl, hb6⟩
        have HB6 := Lib.hid (HB5.out.trans (hb6.mono HB5.out.size))
        clear hb6
        go_wp2_with fail
        refine (HSM.out _ HB6.out).mono ?_
        rintro e w7 ⟨rfl, d7, hw7⟩
        have HB7 : Hid (Below w.heap.size w w7) := by rw [hw7]; exact below_drewN HB6.out _
        clear hw7
        go_wp2_with fail
        refine (HF.out _).mono ?_
        rintro e w99 ⟨rfl, hb99⟩
        have HB99 := Lib.hid (HB7.out.trans (hb99.mono HB7.out.size))
        clear hb99
        go_wp2_with fail
        go_ret
        exact ⟨rfl, HB99.out⟩
      · have hab : a = b := of_decide_eq_true hc
        have hsab : sumV b = sumV a := by rw [hab]
        rw [hsab] at HSB HRB hqb
        have HSAB := Lib.hid hsab
        clear hx hy hg1 hg2 hn hm htp hts hc hab hsab hqb
        go_enter Tryd.func3, Tryd.ntmps3
        go_wp2_with fail
        refine HG1.out.mono ?_
        rintro e w1 ⟨rfl, d1, hw1⟩
        have HB1 : Hid (Below w.heap.size w w1) := by rw [hw1]; exact below_drewN (Below.refl _ _) _
        clear hw1
        go_wp2_with fail
        refine (HG2.out _ (HYN.out _ HB1.out)).mono ?_
        rintro e w2 ⟨rfl, d2, hw2⟩
        have HB2 : Hid (Below w.heap.size w w2) := by rw [hw2]; exact below_drewN HB1.out _
        clear hw2
        go_wp2_with fail
        refine (HSA.out _ HB2.out).mono ?_
        rintro e w3 ⟨rfl, hb3⟩
        have HB3 := Lib.hid (HB2.out.trans (hb3.mono HB2.out.size))
        clear hb3
        go_wp2_with fail
        refine (HRA.out _ HB3.out).mono ?_
        rintro e w4 ⟨rfl, hb4⟩
        have HB4 := Lib.hid (HB3.out.trans (hb4.mono HB3.out.size))
        clear hb4
        go_wp2_with fail
        refine (HSB.out _ HB4.out).mono ?_
        rintro e w5 ⟨rfl, hb5⟩
        have HB5 := Lib.hid (HB4.out.trans (hb5.mono HB4.out.size))
        clear hb5
        go_wp2_with fail
        refine (HRB.out _ HB5.out).mono ?_
        rintro e w6 ⟨rfl, hb6⟩
        have HB6 := Lib.hid (HB5.out.trans (hb6.mono HB5.out.size))
        clear hb6
        go_wp2_with fail
        refine (HSM.out _ HB6.out).mono ?_
        rintro e w7 ⟨rfl, d7, hw7⟩
        have HB7 : Hid (Below w.heap.size w w7) := by rw [hw7]; exact below_drewN HB6.out _
        clear hw7
        go_wp2_with fail
        refine (HSA.out _ HB7.out).mono ?_
        rintro e w8 ⟨rfl, hb8⟩
        have HB8 := Lib.hid (HB7.out.trans (hb8.mono HB7.out.size))
        clear hb8
        go_wp2_with fail
        refine (HSB.out _ HB8.out).mono ?_
        rintro e w9 ⟨rfl, hb9⟩
        have HB9 := Lib.hid (HB8.out.trans (hb9.mono HB8.out.size))
        clear hb9
        go_wp2_with fail
        refine (HF.out _).mono ?_
        rintro e w99 ⟨rfl, hb99⟩
        have HB99 := Lib.hid (HB9.out.trans (hb99.mono HB9.out.size))
        clear hb99
        go_wp2_with fail
        go_ret
        exact ⟨rfl, HB99.out⟩
    · clear hx hy hg1 hg2 hn hm htp hts
      go_enter Tryd.func3, Tryd.ntmps3
      go_wp2_with fail
      refine HG1.out.mono ?_
      rintro e w1 ⟨rfl, d1, hw1⟩
      have HB1 : Hid (Below w.heap.size w w1) := by rw [hw1]; exact below_drewN (Below.refl _ _) _
      clear hw1
      go_wp2_with fail
      refine (HG2.out _ (HYN.out _ HB1.out)).mono ?_
      rintro e w2 ⟨rfl, d2, hw2⟩
      have HB2 : Hid (Below w.heap.size w w2) := by rw [hw2]; exact below_drewN HB1.out _
      clear hw2
      go_wp2_with fail
      refine (HF.out _).mono ?_
      rintro e w99 ⟨rfl, hb99⟩
      have HB99 := Lib.hid (HB2.out.trans (hb99.mono HB2.out.size))
      clear hb99
      go_wp2_with fail
      go_ret
      exact ⟨rfl, HB99.out⟩
  · clear hx hy hg1 hg2 hn hm htp hts
    go_enter Tryd.func3, Tryd.ntmps3
    go_wp2_with fail
    refine HG1.out.mono ?_
    rintro e w1 ⟨rfl, d1, hw1⟩
    have HB1 : Hid (Below w.heap.size w w1) := by rw [hw1]; exact below_drewN (Below.refl _ _) _
    clear hw1
    go_wp2_with fail
    refine (HF.out _).mono ?_
    rintro e w99 ⟨rfl, hb99⟩
    have HB99 := Lib.hid (HB1.out.trans (hb99.mono HB1.out.size))
    clear hb99
    go_wp2_with fail
    go_ret
    exact ⟨rfl, HB99.out⟩
end Tr
end Go.Proofs.YtkldgfdfpanelaaDoor
