/-
  Layer 5 (tree): the law's texts, law Gets.
-/
import Derived.Test.YtkldgfdfpanelaaTH
namespace Go.Proofs.Ytkldgfdfpanelaa
namespace Tr
open Go.RowKit Go.ChangeShapes Pt

set_option maxRecDepth 100000 in
set_option maxHeartbeats 2000000 in
theorem texts_any (A A' : Option Addr) (cap cap' B n : Nat) (xs : List Bs) (w : World) (hx : SRow w B A xs) (hy : SRow w B A' xs) (hln : xs.length = n) (hn : n ≤ 9223372036854775807) :
    Calls Try.prog 19 #[.slice A n cap, .slice A' n cap'] w fun e w' => e = .returned (.bool true) ∧ ∃ n, w' = w.drewN n := by
  have HX := Lib.hid hx
  have HY := Lib.hid hy
  have HL := Lib.hid hln
  clear hx hy hln
  have hb : ((n : Int) != (n : Int)) = false := by simp
  go_enter Try.func19, Try.ntmps19
  go_wp2
  go_loopw [5] (fun i wr => ∃ k d : Nat, k ≤ n ∧ i = .int .i64 k ∧ wr = w.drewN d) (fun i _ => n - (intOf i).toNat)
  case atStart => exact ⟨0, 0, Nat.zero_le _, rfl, by rw [World.drewN_zero]⟩
  case round =>
    obtain ⟨k, d, hk, rfl, rfl⟩ := hrel
    by_cases hlt : k < n
    · have hxk : xs[k]? = some (xs[k]'(by rw [HL.out]; exact hlt)) := List.getElem?_eq_getElem _
      generalize xs[k]'(by rw [HL.out]; exact hlt) = x at hxk
      obtain ⟨b, o, s, rfl, _, hsx, hc⟩ := HX.out k x hxk
      obtain ⟨b', o', s', rfl, _, hsy, hc'⟩ := HY.out k x hxk
      have hki : (k : Int) < n := by omega
      have he : (s.toList == s'.toList) = true := by rw [ByteArray.toList_eq, ByteArray.toList_eq, hsx, hsy]; simp
      clear hsx hsy hxk
      go_wp2
      go_quiet (fail)
      go_wp2
      go_roundw
      case rel => exact ⟨k + 1, _, by omega, by go_num, rfl⟩
      case measure => simp [intOf]; omega
    · obtain rfl : k = n := by omega
      go_wp2
      go_ret
      exact ⟨rfl, _, rfl⟩

set_option maxRecDepth 100000 in
set_option maxHeartbeats 2000000 in
theorem gets_law (hP : PPaths) (hG : PGet) (A : Option Addr) (cap n : Nat) (t : List Fl) (p q : ByteArray) (w : World) (hn : t.length = n) (hnm : n ≤ 9223372036854775807) (hps : p.size ≤ 9223372036854775807) (hqs : q.size ≤ 9223372036854775807) (hx : FRow w w.heap.size A t) :
    Calls Try.prog 5 #[.slice A n cap, .string p, .string q] w fun e w' => e = .returned (.bool true) ∧ Below w.heap.size w w' := by
  have HX := Lib.hid hx
  have HF := Lib.hid (fun W => fixed_any hP W)
  obtain ⟨b, hb⟩ : ∃ b, greatV t = b := ⟨_, rfl⟩
  have HG := Lib.hid (great_any A cap w.heap.size n t b hb w hn hnm hx)
  cases b
  · have hf := few_of hb
    by_cases hp : 300 < p.size
    · have hpi : (300 : Int) < p.size := by omega
      clear hx hb hn hP hG hf
      go_enter Try.func5, Try.ntmps5
      go_wp2_with fail
      refine HG.out.mono ?_
      rintro e w1 ⟨rfl, d, rfl⟩
      go_wp2_with fail
      refine (HF.out _).mono ?_
      rintro e w2 ⟨rfl, hb2⟩
      have HB2 := Lib.hid ((below_drewN (Below.refl w.heap.size w) d).trans (hb2.mono (Nat.le_refl _)))
      clear hb2
      go_wp2_with fail
      go_ret
      exact ⟨rfl, HB2.out⟩
    · have hpi : ¬ (300 : Int) < p.size := by omega
      by_cases hq : 300 < q.size
      · have hqi : (300 : Int) < q.size := by omega
        clear hx hb hn hP hG hf
        go_enter Try.func5, Try.ntmps5
        go_wp2_with fail
        refine HG.out.mono ?_
        rintro e w1 ⟨rfl, d, rfl⟩
        go_wp2_with fail
        refine (HF.out _).mono ?_
        rintro e w2 ⟨rfl, hb2⟩
        have HB2 := Lib.hid ((below_drewN (Below.refl w.heap.size w) d).trans (hb2.mono (Nat.le_refl _)))
        clear hb2
        go_wp2_with fail
        go_ret
        exact ⟨rfl, HB2.out⟩
      · have hqi : ¬ (300 : Int) < q.size := by omega
        obtain ⟨X, hX⟩ : ∃ X : ByteArray, X = ⟨((get t p.data.toList).getD []).toArray⟩ := ⟨_, rfl⟩
        obtain ⟨ok, hok⟩ : ∃ ok, (get t p.data.toList).isSome = ok := ⟨_, rfl⟩
        have HGP := Lib.hid (fun W (h : FRow W W.heap.size A t) => hG A cap n t p X ok W (by rw [hX]) hok hn hf h (by omega))
        have HGR := Lib.hid (fun W (h : FRow W w.heap.size A t) => refget_any A cap w.heap.size n t p X ok (by rw [hX]) hok W hn hnm h)
        obtain ⟨l, hl⟩ : ∃ l, pathsV t q.data.toList = l := ⟨_, rfl⟩
        have HPP := Lib.hid (fun W (h : FRow W W.heap.size A t) => hP A cap n t q W hn hf h (by omega))
        have HPR := Lib.hid (fun W (h : FRow W W.heap.size A t) => refpaths_any A cap W.heap.size n t q W hn (by have := hf.1; omega) (fun f h => by have := (hf.2 f h).1; omega) h (Nat.le_refl _))
        rw [hl] at HPP HPR
        have hln : l.length ≤ 1000 := by
          have h1 : l.length ≤ t.length := by
            rw [← hl]; unfold pathsV; split
            · rw [List.length_map]; exact List.length_filter_le _ _
            · exact Nat.zero_le _
          have := hf.1; omega
        have hXX : (X.toList == X.toList) = true := by simp
        have hoo : (ok == ok) = true := by simp
        clear hx hb hn hP hG hf hX hok hl
        go_enter Try.func5, Try.ntmps5
        go_wp2_with fail
        refine HG.out.mono ?_
        rintro e w1 ⟨rfl, d, rfl⟩
        go_wp2_with fail
        refine (HGP.out _ (HX.out.drewN d)).mono ?_
        rintro e w1 ⟨rfl, hb1⟩
        have HB1 : Hid (Below w.heap.size w w1) := (below_drewN (Below.refl w.heap.size w) d).trans (hb1.mono (Nat.le_refl _))
        have HX1 : Hid (FRow w1 w.heap.size A t) := (HX.out.drewN d).below hb1 (Nat.le_refl _)
        clear hb1
        go_wp2_with fail
        refine (HGR.out _ HX1.out).mono ?_
        rintro e w2 ⟨rfl, d2, rfl⟩
        go_wp2_with fail
        refine (HPP.out _ ((HX1.out.more HB1.out.size).drewN d2)).mono ?_
        rintro e w3 ⟨A3, m3, c3, rfl, hm3, hr3, hb3⟩
        have HB3 : Hid (Below w.heap.size w w3) := (below_drewN HB1.out d2).trans (hb3.mono HB1.out.size)
        have HX3 : Hid (FRow w3 w.heap.size A t) := (HX1.out.drewN d2).below hb3 HB1.out.size
        have HR3 := Lib.hid hr3
        have HM3 := Lib.hid hm3
        clear hb3 hr3
        go_wp2_with fail
        refine (HPR.out _ (HX3.out.more HB3.out.size)).mono ?_
        rintro e w4 ⟨g4, m4, c4, rfl, hm4, ho4, hb4⟩
        obtain rfl : m4 = m3 := by rw [← hm4, ← hm3]
        have hB4 := HB3.out.trans (hb4.mono HB3.out.size)
        have hr4 : SRow w4 w4.heap.size (some ⟨g4, 0, none⟩) l := by
          have := ho4
          rw [← hm4] at this
          exact this.row
        have HB4 := Lib.hid hB4
        have HT := Lib.hid (texts_any A3 (some ⟨g4, 0, none⟩) c3 c4 w4.heap.size m4 l w4 ((HR3.out.keep fun p hp => hb4.cell hp).more hb4.size) hr4 hm4 (by omega))
        clear hb4 ho4 hr4 hB4 hm3
        go_wp2_with fail
        refine HT.out.mono ?_
        rintro e w5 ⟨rfl, d5, rfl⟩
        go_wp2_with fail
        refine (HF.out _).mono ?_
        rintro e w6 ⟨rfl, hb6⟩
        have HB6 : Hid (Below w.heap.size w w6) := (below_drewN HB4.out d5).trans (hb6.mono HB4.out.size)
        clear hb6
        go_wp2_with fail
        go_ret
        exact ⟨rfl, HB6.out⟩
  · clear hx hb hn hP hG
    go_enter Try.func5, Try.ntmps5
    go_wp2_with fail
    refine HG.out.mono ?_
    rintro e w1 ⟨rfl, d, rfl⟩
    go_wp2_with fail
    refine (HF.out _).mono ?_
    rintro e w2 ⟨rfl, hb2⟩
    have HB2 := Lib.hid ((below_drewN (Below.refl w.heap.size w) d).trans (hb2.mono (Nat.le_refl _)))
    clear hb2
    go_wp2_with fail
    go_ret
    exact ⟨rfl, HB2.out⟩
end Tr
end Go.Proofs.Ytkldgfdfpanelaa
