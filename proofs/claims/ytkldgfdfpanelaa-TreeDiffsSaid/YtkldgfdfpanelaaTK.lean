/-
  Layer 5 (tree): law Diffs.
-/
import Derived.Test.YtkldgfdfpanelaaTI
namespace Go.Proofs.Ytkldgfdfpanelaa
namespace Tr
open Go.RowKit Go.ChangeShapes Pt

/-- Two changes are held against each other. -/
theorem eqC (a c : ByteArray) (b d : Int) (w : World) : (Op.equalIn 10000 43 (.agg #[.string a, .int .i64 b]) (.agg #[.string c, .int .i64 d])).run Try.prog w = .ok (a.toList == c.toList && b == d) w := by
  have u3 := Try.underlying9
  have a3 := Try.isAgg9
  have z3 := Try.sizeOf9
  have u4 := Try.underlying3
  have a4 := Try.isAgg3
  have z4 := Try.sizeOf3
  have hS : Try.prog.underlying 43 = some (.struct (Try.prog.fieldsOf 43)) := by kernel_rfl
  have hp : Try.prog.stoodInHeld 43 = false := by kernel_rfl
  rw [show (10000 : Nat) = 9999 + 1 from rfl, run_equalIn_agg w 9999 43 _ _ hS hp]
  simp only [Program.fieldsOf, Try.underlying43]
  go_simp
  by_cases h1 : a.toList = c.toList <;> by_cases h2 : b = d <;> simp [h1, h2]
theorem guardC : Try.prog.eqGuardType Try.prog.depth 43 = false := by kernel_rfl

/-- From files to themselves nothing becomes of any. -/
theorem diff_self (a : List Fl) : diffV a a = [] := by
  unfold diffV
  by_cases h : tcheck a = 0
  · rw [if_pos ⟨h, h⟩]
    have hr := ((tree_iff a).1 h).2.1
    unfold diffL
    rw [List.filter_eq_nil_iff]
    intro c hc
    obtain ⟨f, hf, rfl⟩ := List.mem_map.1 hc
    have hp := ((allV_spec hr a).2.1 f.1).1 ⟨f, hf, rfl⟩
    obtain ⟨g, hg, he⟩ : ∃ g ∈ a, g.1 = f.1 := hp.elim id id
    have hs := (get_some hr).2 (show (f.1, g.2) ∈ a by rw [← he]; exact hg)
    have : kindV a a f.1 = 0 := by rw [kind_both hs hs, if_pos rfl]
    simp [this]
  · rw [if_neg (fun e => h e.1)]
theorem diff_len (a b : List Fl) : (diffV a b).length ≤ a.length + b.length := by
  unfold diffV
  by_cases h : tcheck a = 0 ∧ tcheck b = 0
  · rw [if_pos h]
    have hr := ((tree_iff a).1 h.1).2.1
    unfold diffL
    exact Nat.le_trans (List.length_filter_le _ _) (by rw [List.length_map]; exact (allV_spec hr b).2.2)
  · rw [if_neg h]; exact Nat.zero_le _

set_option maxRecDepth 100000 in
set_option maxHeartbeats 2000000 in
theorem diffs_law (hP : PPaths) (hD : PDiff) (A A' : Option Addr) (cap cap' n m : Nat) (a b : List Fl) (w : World) (hn : a.length = n) (hm : b.length = m) (hcp : n ≤ cap) (hcm : m ≤ cap') (hnm : n ≤ 9223372036854775807) (hmm : m ≤ 9223372036854775807) (hx : FRow w w.heap.size A a) (hy : FRow w w.heap.size A' b) :
    Calls Try.prog 6 #[.slice A n cap, .slice A' m cap'] w fun e w' => e = .returned (.bool true) ∧ Below w.heap.size w w' := by
  have HX := Lib.hid hx
  have HY := Lib.hid hy
  have HXN : Hid (∀ W, Below w.heap.size w W → FRow W W.heap.size A a) := fun W hW => (HX.out.keep fun q hq => hW.cell hq).more hW.size
  have HYN : Hid (∀ W, Below w.heap.size w W → FRow W W.heap.size A' b) := fun W hW => (HY.out.keep fun q hq => hW.cell hq).more hW.size
  have HF := Lib.hid (fun W => fixed_any hP W)
  obtain ⟨b1, hb1⟩ : ∃ c, greatV a = c := ⟨_, rfl⟩
  obtain ⟨b2, hb2⟩ : ∃ c, greatV b = c := ⟨_, rfl⟩
  have HG1 := Lib.hid (great_any A cap w.heap.size n a b1 hb1 w hn hnm hx)
  have HG2 := Lib.hid (fun W (h : FRow W w.heap.size A' b) => great_any A' cap' w.heap.size m b b2 hb2 W hm hmm h)
  cases b1
  · cases b2
    · have hf1 := few_of hb1
      have hf2 := few_of hb2
      obtain ⟨l, hl⟩ : ∃ l, diffV a b = l := ⟨_, rfl⟩
      have HD1 := Lib.hid (fun W (h : FRow W W.heap.size A a) (h2 : FRow W W.heap.size A' b) => hD A A' cap cap' n m a b W hcp hcm hn hm hf1 hf2 h h2)
      have HD2 := Lib.hid (fun W (h : FRow W W.heap.size A a) => hD A A cap cap n n a a W hcp hcp hn hn hf1 hf1 h h)
      have HRD := Lib.hid (fun W (h : FRow W W.heap.size A a) (h2 : FRow W W.heap.size A' b) => refdiff_any A A' cap cap' W.heap.size n m a b W hn hm (by have := hf1.1; omega) (by have := hf2.1; omega) (fun f h => by have := (hf1.2 f h).1; omega) (fun f h => by have := (hf2.2 f h).1; omega) h h2 (Nat.le_refl _))
      rw [diff_self] at HD2
      have hll : l.length ≤ 2000 := by rw [← hl]; have := diff_len a b; have := hf1.1; have := hf2.1; omega
      rw [hl] at HD1 HRD
      have HLL := Lib.hid hll
      clear hx hy hb1 hb2 hn hm hP hD hf1 hf2 hl hll
      go_enter Try.func6, Try.ntmps6
      go_wp2_with fail
      refine HG1.out.mono ?_
      rintro e w1 ⟨rfl, d1, rfl⟩
      go_wp2_with fail
      refine (HG2.out _ (HY.out.drewN d1)).mono ?_
      rintro e w2 ⟨rfl, d2, hw2⟩
      have HB2 : Hid (Below w.heap.size w w2) := by rw [hw2]; exact below_drewN (below_drewN (Below.refl _ _) _) _
      clear hw2
      go_wp2_with fail
      refine (HD1.out _ (HXN.out _ HB2.out) (HYN.out _ HB2.out)).mono ?_
      rintro e w3 ⟨A3, m3, c3, rfl, hm3, hr3, hb3⟩
      have HB3 : Hid (Below w.heap.size w w3) := HB2.out.trans (hb3.mono HB2.out.size)
      have HR3 := Lib.hid hr3
      have HM3 := Lib.hid hm3
      have hm3n : m3 ≤ 2000 := by rw [← hm3]; exact HLL.out
      clear hb3 hr3 hm3
      go_wp2_with fail
      refine (HRD.out _ (HXN.out _ HB3.out) (HYN.out _ HB3.out)).mono ?_
      rintro e w4 ⟨g4, m4, c4, rfl, hm4, ho4, hb4⟩
      obtain rfl : m4 = m3 := by rw [← hm4, HM3.out]
      have HB4 : Hid (Below w.heap.size w w4) := HB3.out.trans (hb4.mono HB3.out.size)
      have HR34 : Hid (CRow w4 w4.heap.size A3 l) := (HR3.out.keep fun q hq => hb4.cell hq).more hb4.size
      have HR4 : Hid (CRow w4 w4.heap.size (some ⟨g4, 0, none⟩) l) := ho4.row
      clear hb4 ho4 hm4 HR3
      have hne : ((m4 : Int) != (m4 : Int)) = false := by simp
      go_wp2_with fail
      refine (HD2.out _ (HXN.out _ HB4.out)).mono ?_
      rintro e w5 ⟨A5, m5, c5, rfl, hm5, hr5, hb5⟩
      obtain rfl : m5 = 0 := hm5.symm
      have HB5 : Hid (Below w.heap.size w w5) := HB4.out.trans (hb5.mono HB4.out.size)
      have HR35 : Hid (CRow w5 w5.heap.size A3 l) := (HR34.out.keep fun q hq => hb5.cell hq).more hb5.size
      have HR45 : Hid (CRow w5 w5.heap.size (some ⟨g4, 0, none⟩) l) := (HR4.out.keep fun q hq => hb5.cell hq).more hb5.size
      clear hb5 hr5 hm5 HR34 HR4
      go_wp2_with fail
      go_loopw [7] (fun i wr => ∃ k d : Nat, k ≤ m4 ∧ i = .int .i64 k ∧ wr = w5.drewN d) (fun i _ => m4 - (intOf i).toNat)
      case atStart => exact ⟨0, 0, Nat.zero_le _, rfl, by rw [World.drewN_zero]⟩
      case round =>
        obtain ⟨k, d, hk, rfl, rfl⟩ := hrel
        by_cases hlt : k < m4
        · have hki : (k : Int) < m4 := by omega
          have hxk : l[k]? = some (l[k]'(by rw [HM3.out]; exact hlt)) := List.getElem?_eq_getElem _
          generalize l[k]'(by rw [HM3.out]; exact hlt) = x at hxk
          obtain ⟨p1, o1, sx, rfl, _, hsx, cP, cD⟩ := HR35.out k x hxk
          obtain ⟨p2, o2, sy, e2, _, hsy, cP', cD'⟩ := HR45.out k x hxk
          injection e2 with e2
          injection e2 with e3 e4
          subst e3 e4
          rw [Nat.zero_add] at cP' cD'
          have hG := guardC
          have hQ : ∀ W, (Op.equalIn 10000 43 (.agg #[.string sx, .int .i64 x.2]) (.agg #[.string sy, .int .i64 x.2])).run Try.prog W = .ok true W := fun W => by
            rw [eqC, ByteArray.toList_eq, ByteArray.toList_eq, hsx, hsy]; simp
          clear hsx hsy hxk
          go_wp2
          go_quiet (fail)
          go_wp2
          go_roundw
          case rel => exact ⟨k + 1, _, by omega, by go_num, rfl⟩
          case measure => simp [intOf]; omega
        · obtain rfl : k = m4 := by omega
          go_wp2_with fail
          refine (HF.out _).mono ?_
          rintro e w6 ⟨rfl, hb6⟩
          have HB6 : Hid (Below w.heap.size w w6) := (below_drewN HB5.out d).trans (hb6.mono HB5.out.size)
          clear hb6
          go_wp2_with fail
          go_ret
          exact ⟨rfl, HB6.out⟩
    · clear hx hy hb1 hb2 hn hm hP hD
      go_enter Try.func6, Try.ntmps6
      go_wp2_with fail
      refine HG1.out.mono ?_
      rintro e w1 ⟨rfl, d1, rfl⟩
      go_wp2_with fail
      refine (HG2.out _ (HY.out.drewN d1)).mono ?_
      rintro e w2 ⟨rfl, d2, hw2⟩
      have HB2 : Hid (Below w.heap.size w w2) := by rw [hw2]; exact below_drewN (below_drewN (Below.refl _ _) _) _
      clear hw2
      go_wp2_with fail
      refine (HF.out _).mono ?_
      rintro e w3 ⟨rfl, hb3⟩
      have HB3 := Lib.hid (HB2.out.trans (hb3.mono HB2.out.size))
      clear hb3
      go_wp2_with fail
      go_ret
      exact ⟨rfl, HB3.out⟩
  · clear hx hy hb1 hb2 hn hm hP hD
    go_enter Try.func6, Try.ntmps6
    go_wp2_with fail
    refine HG1.out.mono ?_
    rintro e w1 ⟨rfl, d1, rfl⟩
    go_wp2_with fail
    refine (HF.out _).mono ?_
    rintro e w3 ⟨rfl, hb3⟩
    have HB3 := Lib.hid ((below_drewN (Below.refl w.heap.size w) d1).trans (hb3.mono (Nat.le_refl _)))
    clear hb3
    go_wp2_with fail
    go_ret
    exact ⟨rfl, HB3.out⟩
end Tr
end Go.Proofs.Ytkldgfdfpanelaa
