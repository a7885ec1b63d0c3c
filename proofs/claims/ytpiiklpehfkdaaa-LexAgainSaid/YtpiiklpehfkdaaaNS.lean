/-
  Layer 9 (lex): law Again, its walk.
-/
import Derived.Test.YtpiiklpehfkdaaaNR
namespace Go.Proofs.Ytpiiklpehfkdaaa
namespace Lx
open Go.RowKit Kr

set_option maxRecDepth 100000 in
set_option maxHeartbeats 4000000 in
theorem again_law (hK : LxKeeps) (s : ByteArray) (w : World) : Calls Try.prog 5 #[.string s] w fun e w' => e = .returned (.bool true) ∧ Below w.heap.size w w' := by
  have HAL := Lib.hid (alive_any hK w)
  by_cases ha : (600 : Int) < s.size
  · go_enter Try.func5, Try.ntmps5
    go_wp2_with fail
    refine HAL.out.mono ?_
    rintro e w0 ⟨rfl, hb0⟩
    go_wp2
    go_ret
    exact ⟨rfl, hb0⟩
  · have HA := Lib.hid (fun W => hK.all s W)
    have hT : (toB s).length ≤ 600 := by rw [toB_length]; omega
    rcases ans_two hT with ⟨l, hc, hans⟩ | ⟨no, p, hno, hans⟩
    · obtain ⟨hw, hg, m, hm, hmm⟩ := again_math hT hans ⟨l, hc⟩
      have HANS := Lib.hid hans
      have HG := Lib.hid hg
      have HM := Lib.hid hm
      have HMM := Lib.hid hmm
      have HC := Lib.hid (fun W => hK.all (ofB (wrAll l)) W)
      rw [toB_ofB] at HC
      obtain ⟨n, hn⟩ : ∃ n, l.length = n := ⟨_, rfl⟩
      have hnm : m.length = n := by rw [← hn]; have := congrArg List.length hmm; rw [List.length_map, List.length_map] at this; exact this
      have hn6 : n ≤ 600 := by
        have := ans_len (toB s)
        rw [hans] at this
        simp only at this
        omega
      have HN := Lib.hid hn
      have HNM := Lib.hid hnm
      have HW := Lib.hid hw
      clear hw hg hm hmm hn hnm hans hc
      go_enter Try.func5, Try.ntmps5
      go_wp2_with fail
      refine HAL.out.mono ?_
      rintro e w0 ⟨rfl, hb0⟩
      have HB0 := Lib.hid hb0
      clear hb0
      go_wp2_with fail
      refine (HA.out _).mono ?_
      rintro e w1 h1
      obtain ⟨A1, m1, cap1, rfl, hm1, hr1, hb1⟩ := ans_of h1 HANS.out
      obtain rfl : n = m1 := HN.out.symm.trans hm1
      obtain ⟨w2, hw2⟩ : ∃ W, W = w1.alloc (.cells #[.int .i64 0, .int .i64 0] T_P) := ⟨_, rfl⟩
      have HB2 : Hid (Below w.heap.size w w2) := by rw [hw2]; exact (HB0.out.trans (hb1.mono HB0.out.size)).alloc (Nat.le_trans HB0.out.size hb1.size) _
      have HR2 : Hid (TRow w2 w1.heap.size A1 l) := by rw [hw2]; exact hr1.alloc (Nat.le_refl _) _
      have hs2 : w1.heap.size ≤ w2.heap.size := by rw [hw2]; simp
      have HW2 := Lib.hid hw2
      clear h1 hr1 hb1 hm1
      go_wp2
      rw [← HW2.out]
      clear hw2 HW2
      go_loopw [6, 7] (fun v i wr => ∃ k : Nat, k ≤ n ∧ i = .int .i64 k ∧ v = .string (ofB (wrAll (l.take k))) ∧ Hid (Below w2.heap.size w2 wr)) (fun _ i _ => n - (intOf i).toNat)
      case atStart => exact ⟨0, Nat.zero_le _, rfl, rfl, Below.refl _ _⟩
      case round =>
        obtain ⟨k, hk, rfl, rfl, HB⟩ := hrel
        have hws := HB.out.size
        have hsz : (ofB (wrAll (l.take k))).size ≤ 1200 := by rw [ofB_size]; have := wr_part l k; have := HW.out; omega
        by_cases hlt : k < n
        · have hki : (k : Int) < n := by omega
          have hxk : l[k]? = some (l[k]'(by rw [HN.out]; exact hlt)) := List.getElem?_eq_getElem _
          generalize l[k]'(by rw [HN.out]; exact hlt) = t at hxk
          have hgt := HG.out t (List.mem_of_getElem? hxk)
          have htx := good_text hgt
          have hwp := writ_part l hxk
          have hwz : (ofB (writ t.kind t.text)).size ≤ 1200 := by rw [ofB_size]; have := HW.out; omega
          have HWR := Lib.hid (fun W => written_any t (by have := HW.out; omega) W)
          have hwt : ofB (wrAll (l.take k)) ++ ofB (writ t.kind t.text) ++ ⟨#[32]⟩ = ofB (wrAll (l.take (k + 1))) := by
            refine ba_eq ?_
            rw [app_toB, app_toB, toB_ofB, toB_ofB, toB_ofB, wr_take l hxk]
          have HWT := Lib.hid hwt
          obtain ⟨b1, o1, rfl, hbl, _⟩ := HR2.out k t hxk
          obtain ⟨x0, x1, x2, x3⟩ := row_load (HR2.out.below HB.out (by omega)) hxk
          generalize ofB (wrAll (l.take k)) = S at *
          generalize ofB (writ t.kind t.text) = Y at *
          clear hxk hgt htx hwp hwt
          go_wp2_with fail
          refine (HWR.out _).mono ?_
          rintro e w3 ⟨rfl, hb3⟩
          have HB3 := Lib.hid (HB.out.trans (hb3.mono hws))
          clear hb3 x0 x1 x2 x3
          go_wp2
          go_roundw
          case rel => exact ⟨k + 1, by omega, by go_num, by rw [← HWT.out], HB3.out⟩
          case measure => simp [intOf]; omega
        · obtain rfl : k = n := by omega
          rw [List.take_of_length_le (by rw [HN.out]; exact Nat.le_refl _)] at hsz ⊢
          generalize ofB (wrAll l) = S at *
          go_wp2_with fail
          refine (HC.out _).mono ?_
          rintro e w3 h3
          obtain ⟨A3, m3, cap3, rfl, hm3, hr3, hb3⟩ := ans_of h3 HM.out
          obtain rfl : k = m3 := HNM.out.symm.trans hm3
          obtain ⟨w4, hw4⟩ : ∃ W, W = w3.alloc (.cells #[.int .i64 0, .int .i64 0] T_P) := ⟨_, rfl⟩
          have hs3 := hb3.size
          have HB4 : Hid (Below w.heap.size w w4) := by rw [hw4]; exact ((HB2.out.trans (HB.out.mono HB2.out.size)).trans (hb3.mono (Nat.le_trans HB2.out.size hws))).alloc (Nat.le_trans HB2.out.size (Nat.le_trans hws hs3)) _
          have HR4 : Hid (TRow w4 w3.heap.size A3 m) := by rw [hw4]; exact hr3.alloc (Nat.le_refl _) _
          have HR5 : Hid (TRow w4 w3.heap.size A1 l) := by rw [hw4]; exact ((((HR2.out.below HB.out hs2).below hb3 (by omega)).more (B' := w3.heap.size) (by omega)).alloc (Nat.le_refl _) _)
          have HW4 := Lib.hid hw4
          clear h3 hr3 hb3 hm3 hw4
          go_wp2
          rw [← HW4.out]
          clear HW4
          go_loopw [11] (fun i wr => ∃ j d : Nat, j ≤ k ∧ i = .int .i64 j ∧ wr = w4.drewN d) (fun i _ => k - (intOf i).toNat)
          case atStart => exact ⟨0, 0, Nat.zero_le _, rfl, (World.drewN_zero _).symm⟩
          case round =>
            obtain ⟨j, d, hj, rfl, rfl⟩ := hrel
            by_cases hlt2 : j < k
            · have hji : (j : Int) < k := by omega
              have hxk : l[j]? = some (l[j]'(by rw [HN.out]; exact hlt2)) := List.getElem?_eq_getElem _
              generalize l[j]'(by rw [HN.out]; exact hlt2) = t at hxk
              have hyk : m[j]? = some (m[j]'(by rw [HNM.out]; exact hlt2)) := List.getElem?_eq_getElem _
              generalize m[j]'(by rw [HNM.out]; exact hlt2) = u at hyk
              have hut : (u.kind, u.text) = (t.kind, t.text) := by
                have h1 : (m.map fun t => (t.kind, t.text))[j]? = some (u.kind, u.text) := by rw [List.getElem?_map, hyk]; rfl
                have h2 : (l.map fun t => (t.kind, t.text))[j]? = some (t.kind, t.text) := by rw [List.getElem?_map, hxk]; rfl
                rw [HMM.out, h2] at h1
                injection h1 with h1
                exact h1.symm
              obtain ⟨b1, o1, rfl, hbl1, _⟩ := HR5.out j t hxk
              obtain ⟨b3, o3, rfl, hbl3, _⟩ := HR4.out j u hyk
              obtain ⟨x0, x1, _, _⟩ := row_load HR5.out hxk
              obtain ⟨y0, y1, _, _⟩ := row_load HR4.out hyk
              obtain ⟨uk, ux, ul, uc⟩ := u
              obtain ⟨tk, tx, tl, tc⟩ := t
              simp only [Prod.mk.injEq] at hut x0 x1 y0 y1
              obtain ⟨rfl, rfl⟩ := hut
              have hnk : ((uk : Int) != (uk : Int)) = false := by simp
              generalize ofB ux = X at *
              have hxx : (X.toList == X.toList) = true := beq_self_eq_true _
              clear hxk hyk
              go_wp2
              go_big_quiet (fail)
              go_wp2
              go_roundw
              case rel => exact ⟨j + 1, _, by omega, by go_num, rfl⟩
              case measure => simp [intOf]; omega
            · obtain rfl : j = k := by omega
              go_wp2
              go_ret
              exact ⟨rfl, below_drawn HB4.out _⟩
    · have HANS := Lib.hid hans
      have hni : ((no : Int) != 0) = true := by simp only [bne_iff_ne, ne_eq]; omega
      clear hans hno
      go_enter Try.func5, Try.ntmps5
      go_wp2_with fail
      refine HAL.out.mono ?_
      rintro e w0 ⟨rfl, hb0⟩
      have HB0 := Lib.hid hb0
      clear hb0
      go_wp2_with fail
      refine (HA.out _).mono ?_
      rintro e w1 h1
      obtain ⟨A1, m1, cap1, rfl, hm1, hr1, hb1⟩ := ans_of h1 HANS.out
      obtain rfl : 0 = m1 := hm1
      have HB1 := Lib.hid ((HB0.out.trans (hb1.mono HB0.out.size)).alloc (Nat.le_trans HB0.out.size hb1.size) (.cells #[.int .i64 (p.1 : Int), .int .i64 (p.2 : Int)] T_P))
      clear h1 hr1 hb1
      go_wp2
      go_ret
      exact ⟨rfl, HB1.out⟩
end Lx
end Go.Proofs.Ytpiiklpehfkdaaa
