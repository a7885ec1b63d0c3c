/-
  Layer 9 (lex): the landed Quote.
-/
import Derived.Test.YtpiiklpehfkdaaaPD
import Derived.Test.YtpiiklpehfkdaaaNG
namespace Go.Proofs.Ytpiiklpehfkdaaa
namespace Lx
open Go.RowKit Kr

theorem owns_more {w : World} {base n : Nat} {v : Value} {t r : Bs} (hn : t.length = n) (h : w.ownsRow base 5 1 v (n + r.length) (t.flatMap encU ++ r.flatMap encU)) : OwnsU w base v (t ++ r) := by
  unfold OwnsU OwnsK
  rw [List.length_append, hn, List.flatMap_append]
  exact h
theorem quote_bad {T : Bs} {c : UInt8} (hm : c ∈ T) (h10 : c ≠ 10) (hb : bad c = true) : quoteV T = [] := by
  unfold quoteV
  rw [if_neg]
  intro h
  have := List.all_eq_true.1 h c hm
  unfold okQ at this
  rw [hb] at this
  simp [h10] at this
set_option maxRecDepth 100000 in
set_option maxHeartbeats 4000000 in
theorem quote_any (s : ByteArray) (w : World) (hs : s.size ≤ 1000000) : Calls Try.prog 12 #[.string s] w fun e w' => e = .returned (.string (ofB (quoteV (toB s)))) ∧ Below w.heap.size w w' := by
  obtain ⟨T, hT⟩ : ∃ T, toB s = T := ⟨_, rfl⟩
  have HT := Lib.hid hT
  have HTL : Hid (T.length = s.size) := by show _ = _; rw [← hT]; rfl
  rw [hT]
  clear hT
  obtain ⟨R, hR⟩ : ∃ R, ofB (quoteV T) = R := ⟨_, rfl⟩
  have HR := Lib.hid hR
  rw [hR]
  clear hR
  obtain ⟨i0, hi, hz0, hz1, hz2⟩ := info_parts u8Info
  go_enter Try.func12, Try.ntmps12
  go_wp2
  go_loopw [3, 4] (fun o i wr => ∃ (k cp : Nat) (A : Option Addr) (O : Bs), k ≤ s.size ∧ O.length ≤ 2 * k + 1 ∧ o = .slice A O.length cp ∧ i = .int .i64 k ∧ Hid (OwnsU wr w.heap.size (.slice A O.length cp) O) ∧ Hid (Below w.heap.size w wr) ∧ Hid (O = 34 :: esc (T.take k)) ∧ Hid (∀ c ∈ T.take k, okQ c = true)) (fun _ i _ => s.size - (intOf i).toNat)
  case atStart =>
    refine ⟨0, 1, some ⟨w.heap.size, 0, none⟩, [34], Nat.zero_le _, by simp, rfl, rfl, ?_, (Below.refl _ _).alloc (Nat.le_refl _) _, rfl, fun c hc => by simp at hc⟩
    exact World.ownsRow_lit (base := w.heap.size) (e := 5) (size := 1) w #[.int .u8 34] 1 (Nat.le_refl _) (by decide) rfl
  case round =>
    obtain ⟨k, cp, A, O, hk, hOl, rfl, rfl, HO, HB, HE, HQ⟩ := hrel
    have hwr := HB.out.size
    by_cases hlt : k < s.size
    · have hki : (k : Int) < s.size := by omega
      have hx := str_index s k (k : Int) rfl hlt
      rw [HT.out] at hx
      have hes := esc_take T (k := k) (by rw [HTL.out]; exact hlt)
      have hts := take_snoc T (k := k) (by rw [HTL.out]; exact hlt)
      have hmem : T.getD k 0 ∈ T := by
        rw [List.getD_eq_getElem?_getD, List.getElem?_eq_getElem (by rw [HTL.out]; exact hlt)]
        exact List.getElem_mem _
      generalize T.getD k 0 = c at *
      have hc256 := c.toNat_lt
      have HCT := Lib.hid (fun W => control_any c W)
      have HQ2 : Hid (okQ c = true → ∀ x ∈ T.take (k + 1), okQ x = true) := fun h x hx => by
        rw [hts] at hx
        rcases List.mem_append.1 hx with hx | hx
        · exact HQ.out x hx
        · rw [List.mem_singleton.1 hx]; exact h
      have HE1 : Hid (O ++ esc1 c = 34 :: esc (T.take (k + 1))) := by
        show _ = _
        rw [hes, HE.out]; rfl
      have HMM := Lib.hid hmem
      clear hes hts hmem
      by_cases h10 : c = 10
      · subst h10
        have HE2 : Hid (O ++ [92, 110] = 34 :: esc (T.take (k + 1))) := HE1.out
        have HQ2 := Lib.hid (HQ2.out rfl)
        clear HE1
        go_wp2_with (first
          | (go_at_call 21; refine (HCT.out _).mono ?_; rintro e _ ⟨rfl, rfl⟩)
          | (at_builtin; refine wpList_append_own _ rfl _ _ 49 rfl w.heap.size 5 i0 (.int .u8 0) 1 1 Try.underlying49 hi hz0 hz1 hz2 rfl (by decide) _ O.length (O.flatMap encU) rfl ?c0a ⟨wr.heap.size, 0, none⟩ 2 2 (([92, 110] : Bs).flatMap encU) rfl rfl ?c1a ?c2a ?c3a ?c4a ?c5a ?_))
        case c0a => have := fun o1 => HO.out.alloc o1; unfold OwnsK at this; exact this _
        case c2a => intro u hu; simp only [encU, List.flatMap_cons, List.flatMap_nil, List.append_nil, List.cons_append, List.nil_append, List.mem_cons, List.mem_nil_iff, or_false] at hu; rcases hu with rfl | rfl <;> rfl
        case c3a => simp only [maxLen]; omega
        case c4a => omega
        try (case c5a => simp; omega)
        · intro j u hj
          rw [Addr.add_lit, Nat.zero_add]
          exact new_cell wr (([92, 110] : Bs).flatMap encU) _ hj
        intro v' w2 hown' hgrow _
        have hO2 : OwnsU w2 w.heap.size v' (O ++ [92, 110]) := owns_more rfl hown'
        obtain ⟨A2, cap2, e⟩ := hO2.form
        subst e
        have HB2 := Lib.hid ((HB.out.alloc hwr _).grown hgrow (by simp; omega) (fun q hq => (World.ownsRow.lt HO.out q hq).1))
        have HO2 := Lib.hid hO2
        clear hO2 hown' hgrow
        have hla : (O ++ [92, 110]).length = O.length + 2 := by rw [List.length_append]; rfl
        have HLA := Lib.hid hla
        clear hla
        go_wp2
        go_roundw
        case rel => exact ⟨k + 1, cap2, A2, O ++ [92, 110], by omega, by rw [HLA.out]; omega, by rw [HLA.out], by go_num, by rw [HLA.out]; have h := HO2.out; rw [HLA.out] at h; exact h, HB2.out, HE2.out, HQ2.out⟩
        case measure => simp [intOf]; omega
      · have j10 : ((c.toNat : Int) == 10) = false := beq_eq_false_iff_ne.2 fun e => h10 ((u8_is c 10 (by decide)).2 (by omega))
        by_cases h2 : c = 34 ∨ c = 92
        · have HE2 : Hid (O ++ [92, c] = 34 :: esc (T.take (k + 1))) := by
            show _ = _
            rw [← HE1.out]
            unfold esc1
            rw [if_neg h10, if_pos h2]
          have hcq : (c.toNat : Int) = 34 ∨ ((c.toNat : Int) == 34) = false ∧ (c.toNat : Int) = 92 := by
            rcases h2 with rfl | rfl
            · exact .inl rfl
            · exact .inr ⟨rfl, rfl⟩
          have HQ2 := Lib.hid (HQ2.out (by rcases h2 with rfl | rfl <;> rfl))
          have HC0 : Hid ([c].flatMap encU = [.int .u8 (c.toNat : Int)]) := rfl
          clear HE1 h2 h10
          rcases hcq with hcq | ⟨hcq1, hcq⟩
          · have hq34 : ((c.toNat : Int) == 34) = true := beq_iff_eq.2 hcq
            clear hcq j10
            go_wp2_with (first
              | (go_at_call 21; refine (HCT.out _).mono ?_; rintro e _ ⟨rfl, rfl⟩)
              | (at_builtin; refine wpList_append_own _ rfl _ _ 49 rfl w.heap.size 5 i0 (.int .u8 0) 1 1 Try.underlying49 hi hz0 hz1 hz2 rfl (by decide) _ O.length (O.flatMap encU) rfl ?d0a ⟨wr.heap.size, 0, none⟩ 2 2 (([92, c] : Bs).flatMap encU) rfl rfl ?d1a ?d2a ?d3a ?d4a ?d5a ?_))
            case d0a => have := fun o1 => HO.out.alloc o1; unfold OwnsK at this; exact this _
            case d2a => intro u hu; simp only [encU, List.flatMap_cons, List.flatMap_nil, List.append_nil, List.cons_append, List.nil_append, List.mem_cons, List.mem_nil_iff, or_false] at hu; rcases hu with rfl | rfl <;> rfl
            case d3a => simp only [maxLen]; omega
            case d4a => omega
            try (case d5a => simp; omega)
            · intro j u hj
              rw [Addr.add_lit, Nat.zero_add]
              exact new_cell wr (([92, c] : Bs).flatMap encU) _ hj
            intro v' w2 hown' hgrow _
            have hO2 : OwnsU w2 w.heap.size v' (O ++ [92, c]) := owns_more rfl hown'
            obtain ⟨A2, cap2, e⟩ := hO2.form
            subst e
            have HB2 := Lib.hid ((HB.out.alloc hwr _).grown hgrow (by simp; omega) (fun q hq => (World.ownsRow.lt HO.out q hq).1))
            have HO2 := Lib.hid hO2
            clear hO2 hown' hgrow
            have hla : (O ++ [92, c]).length = O.length + 2 := by rw [List.length_append]; rfl
            have HLA := Lib.hid hla
            clear hla
            go_wp2
            go_roundw
            case rel => exact ⟨k + 1, cap2, A2, O ++ [92, c], by omega, by rw [HLA.out]; omega, by rw [HLA.out], by go_num, by rw [HLA.out]; have h := HO2.out; rw [HLA.out] at h; exact h, HB2.out, HE2.out, HQ2.out⟩
            case measure => simp [intOf]; omega
          · have hq92 : ((c.toNat : Int) == 92) = true := beq_iff_eq.2 hcq
            clear hcq j10
            go_wp2_with (first
              | (go_at_call 21; refine (HCT.out _).mono ?_; rintro e _ ⟨rfl, rfl⟩)
              | (at_builtin; refine wpList_append_own _ rfl _ _ 49 rfl w.heap.size 5 i0 (.int .u8 0) 1 1 Try.underlying49 hi hz0 hz1 hz2 rfl (by decide) _ O.length (O.flatMap encU) rfl ?e0a ⟨wr.heap.size, 0, none⟩ 2 2 (([92, c] : Bs).flatMap encU) rfl rfl ?e1a ?e2a ?e3a ?e4a ?e5a ?_))
            case e0a => have := fun o1 => HO.out.alloc o1; unfold OwnsK at this; exact this _
            case e2a => intro u hu; simp only [encU, List.flatMap_cons, List.flatMap_nil, List.append_nil, List.cons_append, List.nil_append, List.mem_cons, List.mem_nil_iff, or_false] at hu; rcases hu with rfl | rfl <;> rfl
            case e3a => simp only [maxLen]; omega
            case e4a => omega
            try (case e5a => simp; omega)
            · intro j u hj
              rw [Addr.add_lit, Nat.zero_add]
              exact new_cell wr (([92, c] : Bs).flatMap encU) _ hj
            intro v' w2 hown' hgrow _
            have hO2 : OwnsU w2 w.heap.size v' (O ++ [92, c]) := owns_more rfl hown'
            obtain ⟨A2, cap2, e⟩ := hO2.form
            subst e
            have HB2 := Lib.hid ((HB.out.alloc hwr _).grown hgrow (by simp; omega) (fun q hq => (World.ownsRow.lt HO.out q hq).1))
            have HO2 := Lib.hid hO2
            clear hO2 hown' hgrow
            have hla : (O ++ [92, c]).length = O.length + 2 := by rw [List.length_append]; rfl
            have HLA := Lib.hid hla
            clear hla
            go_wp2
            go_roundw
            case rel => exact ⟨k + 1, cap2, A2, O ++ [92, c], by omega, by rw [HLA.out]; omega, by rw [HLA.out], by go_num, by rw [HLA.out]; have h := HO2.out; rw [HLA.out] at h; exact h, HB2.out, HE2.out, HQ2.out⟩
            case measure => simp [intOf]; omega
        · have hn34 : ((c.toNat : Int) == 34) = false := beq_eq_false_iff_ne.2 fun e => h2 (.inl ((u8_is c 34 (by decide)).2 (by omega)))
          have hn92 : ((c.toNat : Int) == 92) = false := beq_eq_false_iff_ne.2 fun e => h2 (.inr ((u8_is c 92 (by decide)).2 (by omega)))
          cases hb : bad c with
          | true =>
            have HEE : Hid (R = ⟨#[]⟩) := by
              show _ = _
              rw [← HR.out, quote_bad HMM.out h10 hb]
            rw [hb] at HCT
            clear hb h2 h10 HE1 HQ2
            go_wp2_with (go_at_call 21; refine (HCT.out _).mono ?_; rintro e _ ⟨rfl, rfl⟩)
            go_ret
            rw [HEE.out]
            exact ⟨rfl, HB.out⟩
          | false =>
            have HE2 : Hid (O ++ [c] = 34 :: esc (T.take (k + 1))) := by
              show _ = _
              rw [← HE1.out]
              unfold esc1
              rw [if_neg h10, if_neg h2]
            have HQ2 := Lib.hid (HQ2.out (by unfold okQ; rw [hb]; simp))
            rw [hb] at HCT
            clear HE1 h2 h10 hb
            go_wp2_with (first
              | (go_at_call 21; refine (HCT.out _).mono ?_; rintro e _ ⟨rfl, rfl⟩)
              | (at_builtin; refine wpList_append_own _ rfl _ _ 49 rfl w.heap.size 5 i0 (.int .u8 0) 1 1 Try.underlying49 hi hz0 hz1 hz2 rfl (by decide) _ O.length (O.flatMap encU) rfl ?f0a ⟨wr.heap.size, 0, none⟩ 1 1 (([c] : Bs).flatMap encU) rfl rfl ?f1a ?f2a ?f3a ?f4a ?f5a ?_))
            case f0a => have := fun o1 => HO.out.alloc o1; unfold OwnsK at this; exact this _
            case f2a => intro u hu; obtain rfl := List.mem_singleton.1 hu; rfl
            case f3a => simp only [maxLen]; omega
            case f4a => omega
            try (case f5a => simp; omega)
            · intro j u hj
              rw [Addr.add_lit, Nat.zero_add]
              exact new_cell wr (([c] : Bs).flatMap encU) _ hj
            intro v' w2 hown' hgrow _
            have hO2 : OwnsU w2 w.heap.size v' (O ++ [c]) := owns_more rfl hown'
            obtain ⟨A2, cap2, e⟩ := hO2.form
            subst e
            have HB2 := Lib.hid ((HB.out.alloc hwr _).grown hgrow (by simp; omega) (fun q hq => (World.ownsRow.lt HO.out q hq).1))
            have HO2 := Lib.hid hO2
            clear hO2 hown' hgrow
            have hla : (O ++ [c]).length = O.length + 1 := by rw [List.length_append]; rfl
            have HLA := Lib.hid hla
            clear hla
            go_wp2
            go_roundw
            case rel => exact ⟨k + 1, cap2, A2, O ++ [c], by omega, by rw [HLA.out]; omega, by rw [HLA.out], by go_num, by rw [HLA.out]; have h := HO2.out; rw [HLA.out] at h; exact h, HB2.out, HE2.out, HQ2.out⟩
            case measure => simp [intOf]; omega
    · obtain rfl : k = s.size := by omega
      have HEE : Hid (R = ofB (O ++ [34])) := by
        show _ = _
        have h1 := HQ.out
        have h2 := HE.out
        rw [List.take_of_length_le (by rw [HTL.out]; exact Nat.le_refl _)] at h1 h2
        rw [← HR.out, quote_ok h1, h2]
        rfl
      have HCT := Lib.hid (fun W => control_any 0 W)
      have hcv := fun W A cap (h : OwnsU W w.heap.size (.slice A (O ++ [34]).length cap) (O ++ [34])) => conv_acc W w.heap.size cap A (O ++ [34]) h
      have HCV := Lib.hid hcv
      clear hcv
      go_wp2_with (at_builtin; refine wpList_append_own _ rfl _ _ 49 rfl w.heap.size 5 i0 (.int .u8 0) 1 1 Try.underlying49 hi hz0 hz1 hz2 rfl (by decide) _ O.length (O.flatMap encU) rfl ?z0a ⟨wr.heap.size, 0, none⟩ 1 1 (([34] : Bs).flatMap encU) rfl rfl ?z1a ?z2a ?z3a ?z4a ?z5a ?_)
      case z0a => have := fun o1 => HO.out.alloc o1; unfold OwnsK at this; exact this _
      case z2a => intro u hu; obtain rfl := List.mem_singleton.1 hu; rfl
      case z3a => simp only [maxLen]; omega
      case z4a => omega
      try (case z5a => simp; omega)
      · intro j u hj
        rw [Addr.add_lit, Nat.zero_add]
        exact new_cell wr (([34] : Bs).flatMap encU) _ hj
      intro v' w2 hown' hgrow _
      have hO2 : OwnsU w2 w.heap.size v' (O ++ [34]) := owns_more rfl hown'
      obtain ⟨A2, cap2, e⟩ := hO2.form
      subst e
      have HB2 := Lib.hid ((HB.out.alloc hwr _).grown hgrow (by simp; omega) (fun q hq => (World.ownsRow.lt HO.out q hq).1))
      have hcv := HCV.out w2 A2 cap2 hO2
      have hcs : (ofB (O ++ [34])).size ≤ 3000000 := by rw [ofB_size, List.length_append, List.length_singleton]; omega
      obtain ⟨Y, hY⟩ : ∃ Y, ofB (O ++ [34]) = Y := ⟨_, rfl⟩
      have HY := Lib.hid hY
      rw [hY] at hcv hcs
      have hla : (O ++ [34]).length = O.length + 1 := by rw [List.length_append]; rfl
      rw [hla] at hcv
      rw [hla]
      clear hO2 hown' hgrow hY hla HCV
      go_wp2
      go_ret
      rw [HEE.out, HY.out]
      exact ⟨rfl, HB2.out⟩
end Lx
end Go.Proofs.Ytpiiklpehfkdaaa
