/-
  Layer 9 (lex): law Parts, its walk.
-/
import Derived.Test.YtpiiklpehfkdaaaNT
namespace Go.Proofs.Ytpiiklpehfkdaaa
namespace Lx
open Go.RowKit Kr

theorem down_take (l : List Tk) (d : Nat) {k : Nat} {t : Tk} (h : l[k]? = some t) : (l.take (k + 1)).map (downT d) = (l.take k).map (downT d) ++ [⟨t.kind, t.text, t.line + d, t.col⟩] := by
  obtain ⟨hk, rfl⟩ := List.getElem?_eq_some_iff.1 h
  rw [List.take_succ_eq_append_getElem hk, List.map_append]
  rfl
set_option maxRecDepth 100000 in
set_option maxHeartbeats 4000000 in
theorem parts_law (hK : LxKeeps) (a b r : ByteArray) (w : World) : Calls Try.prog 6 #[.string a, .string b, .string r] w fun e w' => e = .returned (.bool true) ∧ Below w.heap.size w w' := by
  obtain ⟨i0, hi, hz0, hz1, hz2⟩ := info_parts tokInfo
  have HAL := Lib.hid (alive_any hK w)
  by_cases ha : (300 : Int) < a.size
  · go_enter Try.func6, Try.ntmps6
    go_wp2_with fail
    refine HAL.out.mono ?_
    rintro e w0 ⟨rfl, hb0⟩
    go_wp2
    go_ret
    exact ⟨rfl, hb0⟩
  by_cases hb : (300 : Int) < b.size
  · go_enter Try.func6, Try.ntmps6
    go_wp2_with fail
    refine HAL.out.mono ?_
    rintro e w0 ⟨rfl, hb0⟩
    go_wp2
    go_ret
    exact ⟨rfl, hb0⟩
  by_cases hr : (100 : Int) < r.size
  · go_enter Try.func6, Try.ntmps6
    go_wp2_with fail
    refine HAL.out.mono ?_
    rintro e w0 ⟨rfl, hb0⟩
    go_wp2
    go_ret
    exact ⟨rfl, hb0⟩
  have HA := Lib.hid (fun W => hK.all a W)
  have HB := Lib.hid (fun W => hK.all b W)
  have HP1 := Lib.hid (fun W => hK.all (a ++ ⟨#[10]⟩ ++ b) W)
  have HP2 := Lib.hid (fun W => hK.all (a ++ ⟨#[35]⟩ ++ r ++ ⟨#[10]⟩ ++ b) W)
  have HAT := Lib.hid (fun W => refat_any a a.size W (Nat.le_refl _) (by omega))
  rw [two_lines] at HP1
  rw [three_lines] at HP2
  obtain ⟨d, hd⟩ : ∃ d, adv (1, 1) (toB a) = d := ⟨_, rfl⟩
  have htk : (toB a).take a.size = toB a := List.take_of_length_le (Nat.le_refl _)
  rw [htk, hd] at HAT
  have hdl := adv_le (toB a) (1, 1)
  rw [hd, toB_length] at hdl
  obtain ⟨d, dc⟩ := d
  simp only at hdl
  have HAT2 : Hid (∀ W, Calls Try.prog 15 #[.string a, .int .i64 (a.size : Int)] W fun e w' => e = .returned (.agg #[.int .i64 (d : Int), .int .i64 (dc : Int)]) ∧ Below W.heap.size W w') := HAT.out
  have hfd : ∀ W, (Instr.field T_P (.agg #[.int .i64 (d : Int), .int .i64 (dc : Int)]) 0).run Try.prog W = .ok (.int .i64 (d : Int)) W := fun W => by kernel_rfl
  clear HAT
  have HMT : Hid ((10 : UInt8) ∉ toB r → ∀ x y p q, ansV (toB a) = (x, 0, p) → ansV (toB b) = (y, 0, q) → ansV (toB a ++ 10 :: toB b) = (x ++ y.map (downT d), 0, (0, 0)) ∧ ansV (toB a ++ 35 :: (toB r ++ 10 :: toB b)) = (x ++ y.map (downT d), 0, (0, 0))) := fun h10 x y p q hx hy => by
    have := parts_math (by rw [toB_length]; omega) (by rw [toB_length]; omega) (by rw [toB_length]; omega) h10 hx hy
    rw [hd] at this
    exact this
  have HTA := Lib.hid (ans_two (T := toB a) (by rw [toB_length]; omega))
  have HTB := Lib.hid (ans_two (T := toB b) (by rw [toB_length]; omega))
  have HLB : Hid (∀ l n p, ansV (toB b) = (l, n, p) → ∀ t ∈ l, t.line ≤ 301) := fun l n p h => ans_lines (by rw [toB_length]; omega) h
  have HNA := Lib.hid (ans_len (toB a))
  have HNB := Lib.hid (ans_len (toB b))
  rw [toB_length] at HNA HNB
  have HDD := Lib.hid hd
  obtain ⟨hd1, _⟩ := hdl
  clear hd htk
  go_enter Try.func6, Try.ntmps6
  go_wp2_with fail
  refine HAL.out.mono ?_
  rintro e w0 ⟨rfl, hb0⟩
  have HB0 := Lib.hid hb0
  clear hb0
  go_wp2
  go_loopw [7] (fun i wr => ∃ k : Nat, k ≤ r.size ∧ i = .int .i64 k ∧ Hid ((10 : UInt8) ∉ (toB r).take k) ∧ wr = w0) (fun i _ => r.size - (intOf i).toNat)
  case atStart => exact ⟨0, Nat.zero_le _, rfl, (by show _ ∉ _; simp), rfl⟩
  case round =>
    obtain ⟨k, hk, rfl, HNO, rfl⟩ := hrel
    by_cases hlt : k < r.size
    · have hki : (k : Int) < r.size := by omega
      have hx := str_index r k (k : Int) rfl hlt
      have hts := take_snoc (toB r) (k := k) hlt
      generalize (toB r).getD k 0 = c at hx hts
      have hc256 := c.toNat_lt
      by_cases h10 : c = 10
      · subst h10
        have hx3 : ∀ W, (Instr.index 9 (.string r) (.int .i64 (k : Int))).run Try.prog W = .ok (.int .u8 10) W := hx
        clear hts hx
        go_wp2
        go_ret
        exact ⟨rfl, HB0.out⟩
      · have j10 : ((c.toNat : Int) == 10) = false := beq_eq_false_iff_ne.2 fun e => h10 ((u8_is c 10 (by decide)).2 (by omega))
        have HN2 : Hid ((10 : UInt8) ∉ (toB r).take (k + 1)) := by
          show _ ∉ _
          rw [hts]
          intro h
          rcases List.mem_append.1 h with h | h
          · exact HNO.out h
          · exact h10 (List.mem_singleton.1 h).symm
        clear hts h10
        go_wp2
        go_roundw
        case rel => exact ⟨k + 1, by omega, by go_num, HN2.out, by trivial⟩
        case measure => simp [intOf]; omega
    · obtain rfl : k = r.size := by omega
      have HN2 : Hid ((10 : UInt8) ∉ toB r) := by
        have h := HNO.out
        have htr : (toB r).take r.size = toB r := List.take_of_length_le (Nat.le_refl _)
        rw [htr] at h
        exact h
      have HM2 := Lib.hid (HMT.out HN2.out)
      clear HMT HNO
      rcases HTA.out with ⟨x, _, hx⟩ | ⟨en, ep, hen, hx⟩
      · rcases HTB.out with ⟨y, _, hy⟩ | ⟨en, ep, hen, hy⟩
        · obtain ⟨hm1, hm2⟩ := HM2.out x y _ _ hx hy
          have HX := Lib.hid hx
          have HY := Lib.hid hy
          have HQ1 := Lib.hid hm1
          have HQ2 := Lib.hid hm2
          have HLL := Lib.hid (HLB.out y 0 _ hy)
          obtain ⟨n, hn⟩ : ∃ n, x.length = n := ⟨_, rfl⟩
          obtain ⟨m, hm⟩ : ∃ m, y.length = m := ⟨_, rfl⟩
          have HN := Lib.hid hn
          have HM := Lib.hid hm
          have hn3 : n ≤ 300 := by have := HNA.out.1; rw [hx] at this; simp only at this; omega
          have hm3 : m ≤ 300 := by have := HNB.out.1; rw [hy] at this; simp only at this; omega
          have HTL : Hid ((x ++ y.map (downT d)).length = n + m) := by show _ = _; rw [List.length_append, List.length_map, hn, hm]
          clear hx hy hm1 hm2 HM2 HTA HTB HNA HNB HLB hn hm
          go_wp2_with fail
          refine (HA.out _).mono ?_
          rintro e w1 h1
          obtain ⟨A1, m1, cap1, rfl, hm1, hr1, hb1⟩ := ans_of h1 HX.out
          obtain rfl : n = m1 := HN.out.symm.trans hm1
          obtain ⟨w2, hw2⟩ : ∃ W, W = w1.alloc (.cells #[.int .i64 0, .int .i64 0] T_P) := ⟨_, rfl⟩
          have HB2 : Hid (Below w.heap.size w w2) := by rw [hw2]; exact (HB0.out.trans (hb1.mono HB0.out.size)).alloc (Nat.le_trans HB0.out.size hb1.size) _
          have HX2 : Hid (TRow w2 w2.heap.size A1 x) := by rw [hw2]; exact (hr1.alloc (Nat.le_refl _) _).more (by simp)
          have HW2 := Lib.hid hw2
          clear h1 hr1 hb1 hm1 hw2
          go_wp2_with fail
          rw [← HW2.out]
          clear HW2
          refine (HB.out _).mono ?_
          rintro e w3 h3
          obtain ⟨A3, m3, cap3, rfl, hm3', hr3, hb3⟩ := ans_of h3 HY.out
          obtain rfl : m = m3 := HM.out.symm.trans hm3'
          obtain ⟨w4, hw4⟩ : ∃ W, W = w3.alloc (.cells #[.int .i64 0, .int .i64 0] T_P) := ⟨_, rfl⟩
          have HB4 : Hid (Below w.heap.size w w4) := by rw [hw4]; exact (HB2.out.trans (hb3.mono HB2.out.size)).alloc (Nat.le_trans HB2.out.size hb3.size) _
          have HX4 : Hid (TRow w4 w4.heap.size A1 x) := by rw [hw4]; exact ((HX2.out.later hb3).alloc (Nat.le_refl _) _).more (by simp)
          have HY4 : Hid (TRow w4 w4.heap.size A3 y) := by rw [hw4]; exact (hr3.alloc (Nat.le_refl _) _).more (by simp)
          have HW4 := Lib.hid hw4
          clear h3 hr3 hb3 hm3' hw4 HX2
          go_wp2_with fail
          rw [← HW4.out]
          clear HW4
          refine (HAT2.out _).mono ?_
          rintro e w5 ⟨rfl, hb5⟩
          have HB5 := Lib.hid (HB4.out.trans (hb5.mono HB4.out.size))
          have HX5 := Lib.hid (HX4.out.later hb5)
          have HY5 := Lib.hid (HY4.out.later hb5)
          obtain ⟨A6, cap6, w6, hrun, hown6, hgr6⟩ := append_toks w5 w5.heap.size A1 n cap1 x 23 (Nat.le_refl _) HN.out (by omega) HX5.out
          have HO6 := Lib.hid hown6
          have hb6 : Below w5.heap.size w5 w6 := ⟨hgr6.os, hgr6.tape, hgr6.output, hgr6.size, fun q hq => hgr6.block q hq (by simp)⟩
          have HB6 := Lib.hid hb6
          clear hb5 HX4 HY4 hown6 hgr6 hb6
          go_wp2_with (at_builtin; refine Lib.wpList_append_run w5 rfl (.tmp 72) (.tmp 73) 23 23 rfl _ _ rfl rfl _ _ hrun ?_)
          clear hrun
          go_loopw [15, 16] (fun v i wr => ∃ (k cp : Nat) (A : Option Addr), k ≤ m ∧ i = .int .i64 k ∧ v = .slice A (n + k) cp ∧ Hid (OwnsT wr w5.heap.size (.slice A (n + k) cp) (x ++ (y.take k).map (downT d))) ∧ Hid (Below w5.heap.size w5 wr)) (fun _ i _ => m - (intOf i).toNat)
          case atStart =>
            refine ⟨0, cap6, A6, Nat.zero_le _, rfl, rfl, ?_, HB6.out⟩
            have := HO6.out
            show OwnsT w6 w5.heap.size _ (x ++ [])
            rw [List.append_nil]
            exact this
          case round =>
            obtain ⟨k, cp, A, hk, rfl, rfl, HO, HBW⟩ := hrel
            have hws := HBW.out.size
            have hkl : ((y.take k).map (downT d)).length = k := by rw [List.length_map, List.length_take, HM.out]; omega
            have hlk : (x ++ (y.take k).map (downT d)).length = n + k := by rw [List.length_append, hkl, HN.out]
            have HLK := Lib.hid hlk
            clear hkl hlk
            by_cases hlt : k < m
            · have hki : (k : Int) < m := by omega
              have hyk : y[k]? = some (y[k]'(by rw [HM.out]; exact hlt)) := List.getElem?_eq_getElem _
              generalize y[k]'(by rw [HM.out]; exact hlt) = t at hyk
              have hll := HLL.out t (List.mem_of_getElem? hyk)
              have hdt := down_take y d hyk
              obtain ⟨b1, o1, rfl, hbl1, _⟩ := HY5.out k t hyk
              obtain ⟨x0, x1, x2, x3⟩ := row_load (HY5.out.below HBW.out (Nat.le_refl _)) hyk
              obtain ⟨tk, tx, tl, tc⟩ := t
              simp only at x0 x1 x2 x3 hdt hll
              have HDT := Lib.hid hdt
              generalize (y.take k).map (downT d) = Z at *
              have HBX : Hid (encT ⟨tk, tx, tl + d, tc⟩ = [.int .i64 (tk : Int), .string (ofB tx), .int .i64 ((tl : Int) + (d : Int)), .int .i64 (tc : Int)]) := rfl
              generalize ofB tx = sx at *
              clear hyk hdt
              go_wp2_with (at_builtin; refine wpList_append_own _ rfl _ _ 23 rfl w5.heap.size T_K i0 (.agg #[.int .i64 0, .string ⟨#[]⟩, .int .i64 0, .int .i64 0]) 4 40 Try.underlying23 hi hz0 hz1 hz2 rfl (by decide) _ (n + k) ((x ++ Z).flatMap encT) rfl ?c0a ⟨wr.heap.size + 1, 0, none⟩ 1 1 [.int .i64 (tk : Int), .string sx, .int .i64 ((tl : Int) + (d : Int)), .int .i64 (tc : Int)] rfl rfl ?c1a ?c2a ?c3a ?c4a ?c5a ?_)
              case c0a => have := fun o1 o2 => (HO.out.alloc o1).alloc o2; unfold OwnsK at this; rw [HLK.out] at this; exact this _ _
              case c2a => exact fun u hu => encT_one ⟨tk, tx, tl + d, tc⟩ u (by rw [HBX.out]; exact hu)
              case c3a => simp only [maxLen]; omega
              case c4a => omega
              case c5a => simp; omega
              · intro j u hj
                rw [Addr.add_lit, Nat.zero_add]
                exact ((Row.new_at _ _ _ _ (by simp) rfl).cell j).trans hj
              intro v' w7 hown' hgrow _
              have hO7 : OwnsT w7 w5.heap.size v' ((x ++ Z) ++ [⟨tk, tx, tl + d, tc⟩]) := OwnsK.appended HLK.out (by rw [HBX.out, List.flatMap_append, List.append_assoc]; exact hown')
              obtain ⟨A7, cap7, e⟩ := hO7.form
              have hl7 : ((x ++ Z) ++ [(⟨tk, tx, tl + d, tc⟩ : Tk)]).length = n + (k + 1) := by rw [List.length_append, HLK.out]; rfl
              rw [hl7] at e
              subst e
              have HB7 := Lib.hid (((HBW.out.alloc hws (.cells #[.int .i64 (tk : Int), .string sx, .int .i64 ((tl : Int) + (d : Int)), .int .i64 (tc : Int)] T_K)).alloc (by simp; omega) (.cells #[.int .i64 (tk : Int), .string sx, .int .i64 ((tl : Int) + (d : Int)), .int .i64 (tc : Int)] T_K)).grown hgrow (by simp; omega) (fun q hq => (World.ownsRow.lt HO.out q hq).1))
              have HO7 : Hid (OwnsT w7 w5.heap.size (.slice A7 (n + (k + 1)) cap7) (x ++ (y.take (k + 1)).map (downT d))) := by
                show OwnsT _ _ _ _
                rw [HDT.out, ← List.append_assoc]
                exact hO7
              clear hO7 hown' hgrow hl7
              go_wp2
              go_roundw
              case rel => exact ⟨k + 1, cap7, A7, by omega, by go_num, by go_num, HO7.out, HB7.out⟩
              case measure => simp [intOf]; omega
            · obtain rfl : k = m := by omega
              rw [List.take_of_length_le (by rw [HM.out]; exact Nat.le_refl _)] at HO HLK
              have HBK : Hid (Below w.heap.size w wr) := HB5.out.trans (HBW.out.mono HB5.out.size)
              have HWT : Hid (TRow wr wr.heap.size A (x ++ y.map (downT d))) := OwnsK.row (enc := encT) (fun _ => rfl) HO.out
              clear HO HX5 HY5 HBW HO6 HB6
              go_wp2_with fail
              refine (HP1.out _).mono ?_
              rintro e w7 h7
              obtain ⟨A7, m7, cap7, rfl, hm7, hr7, hb7⟩ := ans_of h7 HQ1.out
              obtain rfl : n + k = m7 := HLK.out.symm.trans hm7
              obtain ⟨w8, hw8⟩ : ∃ W, W = w7.alloc (.cells #[.int .i64 0, .int .i64 0] T_P) := ⟨_, rfl⟩
              have HB8 : Hid (Below w.heap.size w w8) := by rw [hw8]; exact (HBK.out.trans (hb7.mono HBK.out.size)).alloc (Nat.le_trans HBK.out.size hb7.size) _
              have HW8 : Hid (TRow w8 w8.heap.size A (x ++ y.map (downT d))) := by rw [hw8]; exact ((HWT.out.later hb7).alloc (Nat.le_refl _) _).more (by simp)
              have HR8 : Hid (TRow w8 w8.heap.size A7 (x ++ y.map (downT d))) := by rw [hw8]; exact (hr7.alloc (Nat.le_refl _) _).more (by simp)
              have HE8 := Lib.hid hw8
              clear h7 hr7 hb7 hm7 hw8 HWT
              go_wp2_with fail
              rw [← HE8.out]
              clear HE8
              refine (HP2.out _).mono ?_
              rintro e w9 h9
              obtain ⟨A9, m9, cap9, rfl, hm9, hr9, hb9⟩ := ans_of h9 HQ2.out
              obtain rfl : n + k = m9 := HLK.out.symm.trans hm9
              obtain ⟨w10, hw10⟩ : ∃ W, W = w9.alloc (.cells #[.int .i64 0, .int .i64 0] T_P) := ⟨_, rfl⟩
              have HB10 : Hid (Below w.heap.size w w10) := by rw [hw10]; exact (HB8.out.trans (hb9.mono HB8.out.size)).alloc (Nat.le_trans HB8.out.size hb9.size) _
              have HW10 : Hid (TRow w10 w10.heap.size A (x ++ y.map (downT d))) := by rw [hw10]; exact ((HW8.out.later hb9).alloc (Nat.le_refl _) _).more (by simp)
              have HR10 : Hid (TRow w10 w10.heap.size A7 (x ++ y.map (downT d))) := by rw [hw10]; exact ((HR8.out.later hb9).alloc (Nat.le_refl _) _).more (by simp)
              have HQ10 : Hid (TRow w10 w10.heap.size A9 (x ++ y.map (downT d))) := by rw [hw10]; exact (hr9.alloc (Nat.le_refl _) _).more (by simp)
              have HE10 := Lib.hid hw10
              have HSA := Lib.hid (same_yes A7 A cap7 cp w10.heap.size (n + k) _ w10 HLK.out (by omega) HR10.out HW10.out)
              clear h9 hr9 hb9 hm9 hw10 HW8 HR8
              go_wp2_with fail
              rw [← HE10.out]
              clear HE10
              refine HSA.out.mono ?_
              rintro e w11 ⟨rfl, hb11⟩
              have HB11 := Lib.hid (HB10.out.trans (hb11.mono HB10.out.size))
              have HSB := Lib.hid (same_yes A9 A cap9 cp w11.heap.size (n + k) _ w11 HLK.out (by omega) (HQ10.out.later hb11) (HW10.out.later hb11))
              clear hb11
              go_wp2_with fail
              refine HSB.out.mono ?_
              rintro e w12 ⟨rfl, hb12⟩
              have HB12 := Lib.hid (HB11.out.trans (hb12.mono HB11.out.size))
              clear hb12
              go_wp2
              go_ret
              exact ⟨rfl, HB12.out⟩
        · have hni : ((en : Int) != 0) = true := by simp only [bne_iff_ne, ne_eq]; omega
          have HX := Lib.hid hx
          have HY := Lib.hid hy
          clear hx hy hen
          go_wp2_with fail
          refine (HA.out _).mono ?_
          rintro e w1 h1
          obtain ⟨A1, m1, cap1, rfl, hm1, hr1, hb1⟩ := ans_of h1 HX.out
          have HB1 := Lib.hid ((HB0.out.trans (hb1.mono HB0.out.size)).alloc (Nat.le_trans HB0.out.size hb1.size) (.cells #[.int .i64 0, .int .i64 0] T_P))
          clear h1 hr1 hb1
          go_wp2_with fail
          refine (HB.out _).mono ?_
          rintro e w2 h2
          obtain ⟨A2, m2, cap2, rfl, hm2, hr2, hb2⟩ := ans_of h2 HY.out
          have HB2 := Lib.hid ((HB1.out.trans (hb2.mono HB1.out.size)).alloc (Nat.le_trans HB1.out.size hb2.size) (.cells #[.int .i64 (ep.1 : Int), .int .i64 (ep.2 : Int)] T_P))
          clear h2 hr2 hb2
          go_wp2
          go_ret
          exact ⟨rfl, HB2.out⟩
      · have hni : ((en : Int) != 0) = true := by simp only [bne_iff_ne, ne_eq]; omega
        obtain ⟨R, hR⟩ : ∃ R, ansV (toB b) = R := ⟨_, rfl⟩
        obtain ⟨y, fn, fp⟩ := R
        have HX := Lib.hid hx
        have HY := Lib.hid hR
        clear hx hR hen
        go_wp2_with fail
        refine (HA.out _).mono ?_
        rintro e w1 h1
        obtain ⟨A1, m1, cap1, rfl, hm1, hr1, hb1⟩ := ans_of h1 HX.out
        have HB1 := Lib.hid ((HB0.out.trans (hb1.mono HB0.out.size)).alloc (Nat.le_trans HB0.out.size hb1.size) (.cells #[.int .i64 (ep.1 : Int), .int .i64 (ep.2 : Int)] T_P))
        clear h1 hr1 hb1
        go_wp2_with fail
        refine (HB.out _).mono ?_
        rintro e w2 h2
        obtain ⟨A2, m2, cap2, rfl, hm2, hr2, hb2⟩ := ans_of h2 HY.out
        have HB2 := Lib.hid ((HB1.out.trans (hb2.mono HB1.out.size)).alloc (Nat.le_trans HB1.out.size hb2.size) (.cells #[.int .i64 (fp.1 : Int), .int .i64 (fp.2 : Int)] T_P))
        clear h2 hr2 hb2
        go_wp2
        go_ret
        exact ⟨rfl, HB2.out⟩
end Lx
end Go.Proofs.Ytpiiklpehfkdaaa
