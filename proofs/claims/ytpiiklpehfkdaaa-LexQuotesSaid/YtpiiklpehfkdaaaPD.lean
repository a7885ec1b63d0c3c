/-
  Layer 9 (lex): unquoted, meaning.
-/
import Derived.Test.YtpiiklpehfkdaaaPC
namespace Go.Proofs.Ytpiiklpehfkdaaa
namespace Lx
open Go.RowKit Kr

def unqP (o : Option Bs) : Bs × Nat := match o with | some t => (t, 0) | none => ([], 3)
set_option maxRecDepth 100000 in
set_option maxHeartbeats 4000000 in
theorem unquoted_any (s : ByteArray) (w : World) (h0 : 1 ≤ s.size) (hs : s.size ≤ 1000000) : Calls Try.prog 25 #[.string s] w fun e w' => e = .returned (.tuple #[.string (ofB (unqP (unq ((toB s).drop 1) [])).1), .int .i64 ((unqP (unq ((toB s).drop 1) [])).2 : Int)]) ∧ Below w.heap.size w w' := by
  obtain ⟨T, hT⟩ : ∃ T, toB s = T := ⟨_, rfl⟩
  have HT := Lib.hid hT
  have HTL : Hid (T.length = s.size) := by show _ = _; rw [← hT]; rfl
  rw [hT]
  clear hT
  obtain ⟨R, hR⟩ : ∃ R, unq (T.drop 1) [] = R := ⟨_, rfl⟩
  have HR := Lib.hid hR
  rw [hR]
  clear hR
  obtain ⟨i0, hi, hz0, hz1, hz2⟩ := info_parts u8Info
  go_enter Try.func25, Try.ntmps25
  go_wp2
  go_loopw [4, 5] (fun o i wr => ∃ (k cp : Nat) (A : Option Addr) (acc : Bs), 1 ≤ k ∧ k ≤ s.size ∧ acc.length ≤ k ∧ i = .int .i64 k ∧ o = .slice A acc.length cp ∧ Hid (OwnsU wr w.heap.size (.slice A acc.length cp) acc) ∧ Hid (Below w.heap.size w wr) ∧ Hid (unq (T.drop k) acc = R)) (fun _ i _ => s.size - (intOf i).toNat)
  case atStart => exact ⟨1, 0, none, [], by omega, by omega, by simp, rfl, rfl, OwnsK.nil _ _, Below.refl _ _, HR.out⟩
  case round =>
    obtain ⟨k, cp, A, acc, hk1, hk, hal, rfl, rfl, HO, HB, HQ⟩ := hrel
    have hwr := HB.out.size
    by_cases hlt : k < s.size
    · have hki : (k : Int) < s.size := by omega
      have hx := str_index s k (k : Int) rfl hlt
      rw [HT.out] at hx
      have hdr := drop_getD T (k := k) (by rw [HTL.out]; exact hlt)
      generalize T.getD k 0 = c at hx hdr
      rw [hdr] at HQ
      clear hdr
      have hc256 := c.toNat_lt
      have HU := Lib.hid (unq_cons c (T.drop (k + 1)) acc)
      by_cases h34 : c = 34
      · have HE : Hid (R = some acc) := by show _ = _; rw [← HQ.out, HU.out, if_pos h34]
        subst h34
        have hcv := conv_acc wr w.heap.size cp A acc HO.out
        have hcs : (ofB acc).size ≤ 1000000 := by rw [ofB_size]; omega
        obtain ⟨Y, hY⟩ : ∃ Y, ofB acc = Y := ⟨_, rfl⟩
        have HY := Lib.hid hY
        rw [hY] at hcv hcs
        clear hY HO HQ HU
        go_wp2
        go_ret2
        rw [HE.out, ← HY.out]
        exact ⟨rfl, HB.out⟩
      · have j34 : ((c.toNat : Int) == 34) = false := beq_eq_false_iff_ne.2 fun e => h34 ((u8_is c 34 (by decide)).2 (by omega))
        by_cases h92 : c = 92
        · subst h92
          clear j34 h34
          by_cases hk2 : k + 1 < s.size
          · have hki2 : (k : Int) + 1 < s.size := by omega
            have hx2 := str_index s (k + 1) ((k : Int) + 1) (by omega) hk2
            rw [HT.out] at hx2
            have hdr := drop_getD T (k := k + 1) (by rw [HTL.out]; exact hk2)
            generalize T.getD (k + 1) 0 = d at hx2 hdr
            have HQ2 : Hid (unq (T.drop (k + 2)) (acc ++ [escV d]) = R) := by
              show _ = _
              rw [← HQ.out, HU.out, if_neg (by decide), if_neg (by decide), hdr]
              rfl
            have HES := Lib.hid (fun W => escape_any d W)
            generalize escV d = x at *
            have hx256 := x.toNat_lt
            clear hdr HQ HU
            go_wp2_with (first
              | (go_at_call 38; refine (HES.out _).mono ?_; rintro e _ ⟨rfl, rfl⟩)
              | (at_builtin; refine wpList_append_own _ rfl _ _ 49 rfl w.heap.size 5 i0 (.int .u8 0) 1 1 Try.underlying49 hi hz0 hz1 hz2 rfl (by decide) _ acc.length (acc.flatMap encU) rfl ?c0a ⟨wr.heap.size, 0, none⟩ 1 1 (encU x) rfl rfl ?c1a ?c2a ?c3a ?c4a ?c5a ?_))
            case c0a => have := fun o1 => HO.out.alloc o1; unfold OwnsK at this; exact this _
            case c2a => intro u hu; obtain rfl := List.mem_singleton.1 hu; rfl
            case c3a => simp only [maxLen]; omega
            case c4a => omega
            try (case c5a => simp; omega)
            · rintro (_ | j) u hj
              · simp [encU] at hj; subst hj; simp [Addr.add]
              · simp [encU] at hj
            intro v' w2 hown' hgrow _
            have hO2 : OwnsU w2 w.heap.size v' (acc ++ [x]) := OwnsK.appended rfl hown'
            obtain ⟨A2, cap2, e⟩ := hO2.form
            subst e
            have HB2 := Lib.hid ((HB.out.alloc hwr _).grown hgrow (by simp; omega) (fun q hq => (World.ownsRow.lt HO.out q hq).1))
            have HO2 := Lib.hid hO2
            have hlo : (acc ++ [x]).length = acc.length + 1 := by rw [List.length_append, List.length_singleton]
            clear hO2 hown' hgrow
            go_wp2
            go_roundw
            case rel => exact ⟨k + 2, cap2, A2, acc ++ [x], by omega, by omega, by omega, by go_num, rfl, HO2.out, HB2.out, HQ2.out⟩
            case measure => simp [intOf]; omega
          · have hki2 : ¬ (k : Int) + 1 < s.size := by omega
            have HQ2 : Hid (unq (T.drop (k + 1)) acc = R) := by
              show _ = _
              have h3 : T.drop (k + 1) = [] := List.drop_of_length_le (by rw [HTL.out]; omega)
              rw [← HQ.out, HU.out, if_neg (by decide), if_neg (by decide), h3]
              rfl
            clear HQ HU
            go_wp2
            go_roundw
            case rel => exact ⟨k + 1, cp, A, acc, by omega, by omega, by omega, by go_num, rfl, HO.out, HB.out, HQ2.out⟩
            case measure => simp [intOf]; omega
        · have j92 : ((c.toNat : Int) == 92) = false := beq_eq_false_iff_ne.2 fun e => h92 ((u8_is c 92 (by decide)).2 (by omega))
          have n92 : ((c.toNat : Int) != 92) = true := by rw [bne, j92]; rfl
          have HQ2 : Hid (unq (T.drop (k + 1)) (acc ++ [c]) = R) := by
            show _ = _
            rw [← HQ.out, HU.out, if_neg h34, if_pos h92]
          have HES := Lib.hid (fun W => escape_any c W)
          clear HQ h34 h92 HU
          go_wp2_with (first
            | (go_at_call 38; refine (HES.out _).mono ?_; rintro e _ ⟨rfl, rfl⟩)
            | (at_builtin; refine wpList_append_own _ rfl _ _ 49 rfl w.heap.size 5 i0 (.int .u8 0) 1 1 Try.underlying49 hi hz0 hz1 hz2 rfl (by decide) _ acc.length (acc.flatMap encU) rfl ?d0a ⟨wr.heap.size, 0, none⟩ 1 1 (encU c) rfl rfl ?d1a ?d2a ?d3a ?d4a ?d5a ?_))
          case d0a => have := fun o1 => HO.out.alloc o1; unfold OwnsK at this; exact this _
          case d2a => intro u hu; obtain rfl := List.mem_singleton.1 hu; rfl
          case d3a => simp only [maxLen]; omega
          case d4a => omega
          try (case d5a => simp; omega)
          · rintro (_ | j) u hj
            · simp [encU] at hj; subst hj; simp [Addr.add]
            · simp [encU] at hj
          intro v' w2 hown' hgrow _
          have hO2 : OwnsU w2 w.heap.size v' (acc ++ [c]) := OwnsK.appended rfl hown'
          obtain ⟨A2, cap2, e⟩ := hO2.form
          subst e
          have HB2 := Lib.hid ((HB.out.alloc hwr _).grown hgrow (by simp; omega) (fun q hq => (World.ownsRow.lt HO.out q hq).1))
          have HO2 := Lib.hid hO2
          have hlo : (acc ++ [c]).length = acc.length + 1 := by rw [List.length_append, List.length_singleton]
          clear hO2 hown' hgrow
          go_wp2
          go_roundw
          case rel => exact ⟨k + 1, cap2, A2, acc ++ [c], by omega, by omega, by omega, by go_num, rfl, HO2.out, HB2.out, HQ2.out⟩
          case measure => simp [intOf]; omega
    · obtain rfl : k = s.size := by omega
      have HE : Hid (R = none) := by
        show _ = _
        rw [← HQ.out, List.drop_of_length_le (by rw [HTL.out]; exact Nat.le_refl _)]
        rfl
      clear HQ HO
      go_wp2
      go_ret2
      rw [HE.out]
      exact ⟨rfl, HB.out⟩

theorem ofB_one (s : ByteArray) (T : Bs) (h : toB s = T) : (s.toList == [33]) = decide (T = [33]) := by
  rw [ByteArray.toList_eq]
  show (toB s == [33]) = _
  rw [h, Bool.eq_iff_iff, beq_iff_eq, decide_eq_true_eq]
set_option maxRecDepth 100000 in
set_option maxHeartbeats 1000000 in
theorem meaning_any (k : Nat) (s : ByteArray) (w : World) (hk : k ≤ 4) (h0 : toB s ≠ []) (hs : s.size ≤ 1000000) : Calls Try.prog 19 #[.int .i64 (k : Int), .string s] w fun e w' => e = .returned (.tuple #[.string (ofB (meanV k (toB s)).1), .int .i64 ((meanV k (toB s)).2 : Int)]) ∧ Below w.heap.size w w' := by
  have hpos : 1 ≤ s.size := by
    have := List.length_pos_iff.2 h0
    rw [toB_length] at this
    exact this
  have HN := Lib.hid (fun W => number_any s W h0 hs)
  have HU := Lib.hid (fun W => unquoted_any s W hpos hs)
  have HS : Hid (ofB (toB s) = s) := ofB_toB s
  have hq := ofB_one s (toB s) rfl
  obtain ⟨T, hT⟩ : ∃ T, toB s = T := ⟨_, rfl⟩
  rw [hT] at HN HU HS hq ⊢
  clear hT h0
  by_cases h1 : T = [33]
  · have HE : Hid (meanV k T = ([], 3)) := by show _ = _; unfold meanV; rw [if_pos (.inr h1)]
    rw [decide_eq_true h1] at hq
    clear h1
    have hk0 : ((k : Int) == 0) = true ∨ ((k : Int) == 0) = false := by cases ((k : Int) == 0) <;> simp
    rcases hk0 with hk0 | hk0
    all_goals
      go_enter Try.func19, Try.ntmps19
      go_wp2
      go_ret2
      rw [HE.out]
      exact ⟨rfl, Below.refl _ _⟩
  · rw [decide_eq_false h1] at hq
    have HE : Hid (meanV k T = if k = 0 then ([], 3) else if k = 2 then numM T else if k = 3 then unqP (unq (T.drop 1) []) else (T, 0)) := by
      show _ = _
      unfold meanV
      by_cases hk0 : k = 0
      · rw [if_pos (.inl hk0), if_pos hk0]
      · rw [if_neg (fun h => h.elim hk0 h1), if_neg hk0]; rfl
    clear h1
    generalize meanV k T = M at *
    generalize unqP (unq (T.drop 1) []) = U at *
    rcases (by omega : k = 0 ∨ k = 1 ∨ k = 2 ∨ k = 3 ∨ k = 4) with rfl | rfl | rfl | rfl | rfl
    · have HE2 : Hid (M = ([], 3)) := HE.out
      go_enter Try.func19, Try.ntmps19
      go_wp2
      go_ret2
      rw [HE2.out]
      exact ⟨rfl, Below.refl _ _⟩
    · have HE2 : Hid (M = (T, 0)) := HE.out
      go_enter Try.func19, Try.ntmps19
      go_wp2
      go_ret2
      rw [HE2.out, HS.out]
      exact ⟨rfl, Below.refl _ _⟩
    · have HE2 : Hid (M = numM T) := HE.out
      go_enter Try.func19, Try.ntmps19
      go_wp2_with (go_at_call 24; refine (HN.out _).mono ?_; rintro e w1 ⟨rfl, hb1⟩)
      go_ret2
      rw [HE2.out]
      exact ⟨rfl, hb1⟩
    · have HE2 : Hid (M = U) := HE.out
      go_enter Try.func19, Try.ntmps19
      go_wp2_with (go_at_call 25; refine (HU.out _).mono ?_; rintro e w1 ⟨rfl, hb1⟩)
      go_ret2
      rw [HE2.out]
      exact ⟨rfl, hb1⟩
    · have HE2 : Hid (M = (T, 0)) := HE.out
      go_enter Try.func19, Try.ntmps19
      go_wp2
      go_ret2
      rw [HE2.out, HS.out]
      exact ⟨rfl, Below.refl _ _⟩
end Lx
end Go.Proofs.Ytpiiklpehfkdaaa
