/-
  Layer 9 (lex): begin; what a token means: number, unquoted, meaning.
-/
import Derived.Test.YtpiiklpehfkdaaaPB
import Derived.Sort.Walk0
namespace Go.Proofs.Ytpiiklpehfkdaaa
namespace Lx
open Go.RowKit Kr

theorem index_mem : ∀ (l : Bs) (c : UInt8), (0 ≤ Lib.indexByte l c ↔ c ∈ l)
  | [], c => by simp [Lib.indexByte]
  | b :: l, c => by
    unfold Lib.indexByte
    have ih := index_mem l c
    by_cases h : b = c
    · rw [if_pos (by simpa using h)]
      exact ⟨fun _ => by rw [h]; exact List.mem_cons_self, fun _ => Int.le_refl _⟩
    · have hc : c ∈ b :: l ↔ c ∈ l := by
        rw [List.mem_cons]
        exact ⟨fun hh => hh.elim (fun e => absurd e.symm h) id, .inr⟩
      rw [if_neg (by simpa using h), hc, ← ih]
      have hge := Lib.indexByte_ge l c
      by_cases h2 : (Lib.indexByte l c == -1) = true
      · rw [if_pos h2]
        rw [beq_iff_eq] at h2
        omega
      · rw [if_neg h2]
        rw [beq_iff_eq] at h2
        omega
set_option maxRecDepth 100000 in
set_option maxHeartbeats 1000000 in
theorem begin_any (c : UInt8) (w : World) : Calls Try.prog 23 #[.int .u8 (c.toNat : Int)] w fun e w' => ∃ (f : Fv) (I : World → Bool × Bool → Prop), e = .returned (.tuple #[.int .i64 (kindV c : Int), f.val]) ∧ Tells w.heap.size f (goV c) (stV c) I ∧ I w' (false, false) ∧ Below w.heap.size w w' := by
  have HL := Lib.hid (fun W => letter_any c W)
  have HD := Lib.hid (fun W => digit_any c W)
  have HQ := Lib.hid (fun W => untilq_any W)
  have HE := Lib.hid (fun W => untile_any W)
  have HI := Lib.hid (fun W => Try.strings_IndexByte ⟨#[43, 40, 41, 91, 93, 123, 125, 44, 58, 59]⟩ (c.toNat : Int) W)
  have ec : ((c.toNat : Int).toNat).toUInt8 = c := by simp
  rw [ec] at HI
  have hm := hmf
  have hc := c.toNat_lt
  cases hl : isL c with
  | true =>
    have HK : Hid (kindV c = 1 ∧ goV c = (fun _ b => isW b) ∧ stV c = same2) := by refine ⟨?_, ?_, ?_⟩ <;> (first | unfold kindV | unfold goV | unfold stV) <;> rw [if_pos hl]
    rw [hl] at HL
    clear hl
    go_enter Try.func23, Try.ntmps23
    go_wp2_with (go_at_call 32; refine (HL.out _).mono ?_; rintro e _ ⟨rfl, rfl⟩)
    go_ret2
    rw [HK.out.1, HK.out.2.1, HK.out.2.2]
    exact ⟨⟨33, #[], #[]⟩, _, rfl, plain_tells _ _ isW (enters_of Try.func33 (by kernel_rfl) rfl) word_any, trivial, Below.refl _ _⟩
  | false =>
    have hl2 : ¬ isL c = true := by rw [hl]; simp
    rw [hl] at HL
    cases hd : isD c with
    | true =>
      have HK : Hid (kindV c = 2 ∧ goV c = (fun _ b => isD b) ∧ stV c = same2) := by refine ⟨?_, ?_, ?_⟩ <;> (first | unfold kindV | unfold goV | unfold stV) <;> rw [if_neg hl2, if_pos hd]
      rw [hd] at HD
      clear hl hd hl2
      go_enter Try.func23, Try.ntmps23
      go_wp2_with (first
        | (go_at_call 32; refine (HL.out _).mono ?_; rintro e _ ⟨rfl, rfl⟩)
        | (go_at_call 34; refine (HD.out _).mono ?_; rintro e _ ⟨rfl, rfl⟩))
      go_ret2
      rw [HK.out.1, HK.out.2.1, HK.out.2.2]
      exact ⟨⟨34, #[], #[]⟩, _, rfl, plain_tells _ _ isD (enters_of Try.func34 (by kernel_rfl) rfl) digit_any, trivial, Below.refl _ _⟩
    | false =>
      have hd2 : ¬ isD c = true := by rw [hd]; simp
      rw [hd] at HD
      by_cases h34 : c = 34
      · have HK : Hid (kindV c = 3 ∧ goV c = uGo ∧ stV c = uSt) := by refine ⟨?_, ?_, ?_⟩ <;> (first | unfold kindV | unfold goV | unfold stV) <;> rw [if_neg hl2, if_neg hd2, if_pos h34]
        subst h34
        clear hl hd hl2 hd2 HI
        go_enter Try.func23, Try.ntmps23
        go_wp2_with (first
          | (go_at_call 32; refine (HL.out _).mono ?_; rintro e _ ⟨rfl, rfl⟩)
          | (go_at_call 34; refine (HD.out _).mono ?_; rintro e _ ⟨rfl, rfl⟩)
          | (go_at_call 35; refine (HQ.out _).mono ?_; rintro e w1 ⟨c1, d1, rfl, k1, k2, k3⟩; unfold uF Fv.val))
        go_ret2
        rw [HK.out.1, HK.out.2.1, HK.out.2.2]
        exact ⟨uF c1 d1, _, rfl, k1, k2, k3⟩
      · have j34 : ((c.toNat : Int) == 34) = false := beq_eq_false_iff_ne.2 fun e => h34 ((u8_is c 34 (by decide)).2 (by omega))
        by_cases h4 : c = 61 ∨ c = 33
        · have HK : Hid (kindV c = 4 ∧ goV c = eGo ∧ stV c = eSt) := by refine ⟨?_, ?_, ?_⟩ <;> (first | unfold kindV | unfold goV | unfold stV) <;> rw [if_neg hl2, if_neg hd2, if_neg h34, if_pos h4]
          clear hl hd hl2 hd2 HI h34 j34 ec hc
          rcases h4 with rfl | rfl
          all_goals
            go_enter Try.func23, Try.ntmps23
            go_wp2_with (first
              | (go_at_call 32; refine (HL.out _).mono ?_; rintro e _ ⟨rfl, rfl⟩)
              | (go_at_call 34; refine (HD.out _).mono ?_; rintro e _ ⟨rfl, rfl⟩)
              | (go_at_call 36; refine (HE.out _).mono ?_; rintro e w1 ⟨c1, rfl, k1, k2, k3⟩; unfold eF Fv.val))
            go_ret2
            rw [HK.out.1, HK.out.2.1, HK.out.2.2]
            exact ⟨eF c1, _, rfl, k1, k2, k3⟩
        · have j61 : ((c.toNat : Int) == 61) = false := beq_eq_false_iff_ne.2 fun e => h4 (.inl ((u8_is c 61 (by decide)).2 (by omega)))
          have j33 : ((c.toNat : Int) == 33) = false := beq_eq_false_iff_ne.2 fun e => h4 (.inr ((u8_is c 33 (by decide)).2 (by omega)))
          have hx := index_mem single c
          have hx' : (0 ≤ Lib.indexByte ([43, 40, 41, 91, 93, 123, 125, 44, 58, 59] : Bs) c ↔ c ∈ single) := hx
          clear hx
          have HT := plain_tells w.heap.size 37 (fun _ => false) (enters_of Try.func37 (by kernel_rfl) rfl) (fun b W => never_any _ W)
          by_cases h5 : c ∈ single
          · have HK : Hid (kindV c = 4 ∧ goV c = (fun _ _ => false) ∧ stV c = same2) := by
              refine ⟨?_, ?_, ?_⟩
              · unfold kindV; rw [if_neg hl2, if_neg hd2, if_neg h34, if_neg h4, if_pos h5]
              · unfold goV; rw [if_neg hl2, if_neg hd2, if_neg h34, if_neg h4]
              · unfold stV; rw [if_neg hl2, if_neg hd2, if_neg h34, if_neg h4]
            have hge := hx'.2 h5
            clear hl hd hl2 hd2 h34 h4 h5 hx' ec
            generalize Lib.indexByte ([43, 40, 41, 91, 93, 123, 125, 44, 58, 59] : Bs) c = z at *
            go_enter Try.func23, Try.ntmps23
            go_wp2_with (first
              | (go_at_call 32; refine (HL.out _).mono ?_; rintro e _ ⟨rfl, rfl⟩)
              | (go_at_call 34; refine (HD.out _).mono ?_; rintro e _ ⟨rfl, rfl⟩)
              | (go_at_call 31; refine (HI.out _).mono ?_; rintro e _ ⟨rfl, rfl⟩))
            go_ret2
            rw [HK.out.1, HK.out.2.1, HK.out.2.2]
            exact ⟨⟨37, #[], #[]⟩, _, rfl, HT, trivial, Below.refl _ _⟩
          · have HK : Hid (kindV c = 0 ∧ goV c = (fun _ _ => false) ∧ stV c = same2) := by
              refine ⟨?_, ?_, ?_⟩
              · unfold kindV; rw [if_neg hl2, if_neg hd2, if_neg h34, if_neg h4, if_neg h5]
              · unfold goV; rw [if_neg hl2, if_neg hd2, if_neg h34, if_neg h4]
              · unfold stV; rw [if_neg hl2, if_neg hd2, if_neg h34, if_neg h4]
            have hge : ¬ 0 ≤ Lib.indexByte ([43, 40, 41, 91, 93, 123, 125, 44, 58, 59] : Bs) c := fun h => h5 (hx'.1 h)
            clear hl hd hl2 hd2 h34 h4 h5 hx' ec
            generalize Lib.indexByte ([43, 40, 41, 91, 93, 123, 125, 44, 58, 59] : Bs) c = z at *
            go_enter Try.func23, Try.ntmps23
            go_wp2_with (first
              | (go_at_call 32; refine (HL.out _).mono ?_; rintro e _ ⟨rfl, rfl⟩)
              | (go_at_call 34; refine (HD.out _).mono ?_; rintro e _ ⟨rfl, rfl⟩)
              | (go_at_call 31; refine (HI.out _).mono ?_; rintro e _ ⟨rfl, rfl⟩))
            go_ret2
            rw [HK.out.1, HK.out.2.1, HK.out.2.2]
            exact ⟨⟨37, #[], #[]⟩, _, rfl, HT, trivial, Below.refl _ _⟩

/-! What a token means. -/
theorem lt_tri (a b : Bs) : a < b ∨ a = b ∨ b < a := by
  rcases Decidable.em (a < b) with h | h
  · exact .inl h
  · rcases Decidable.em (b < a) with h2 | h2
    · exact .inr (.inr h2)
    · exact .inr (.inl (List.le_antisymm (List.not_lt.1 h2) (List.not_lt.1 h)))
theorem moreL (a : ByteArray) (b : Bs) : (!Op.bytesLess a.toList b && !(a.toList == b)) = decide (b < toB a) := by
  rw [bytesLess_eq, ByteArray.toList_eq]
  show (!(decide (toB a < b)) && !(toB a == b)) = _
  rcases lt_tri (toB a) b with h | h | h
  · rw [decide_eq_true h, decide_eq_false (fun h2 => List.lt_irrefl _ (List.lt_trans h h2))]; rfl
  · rw [h, beq_self_eq_true, decide_eq_false (List.lt_irrefl _)]; rfl
  · rw [decide_eq_true h, decide_eq_false (fun h2 => List.lt_irrefl _ (List.lt_trans h h2))]
    have : (toB a == b) = false := beq_eq_false_iff_ne.2 fun e => by rw [e] at h; exact List.lt_irrefl _ h
    rw [this]; rfl
set_option maxRecDepth 100000 in
set_option maxHeartbeats 1000000 in
theorem number_any (s : ByteArray) (w : World) (h0 : toB s ≠ []) (hs : s.size ≤ 1000000) : Calls Try.prog 24 #[.string s] w fun e w' => e = .returned (.tuple #[.string (ofB (numM (toB s)).1), .int .i64 ((numM (toB s)).2 : Int)]) ∧ Below w.heap.size w w' := by
  obtain ⟨T, hT⟩ : ∃ T, toB s = T := ⟨_, rfl⟩
  have HT := Lib.hid hT
  have HTL : Hid (T.length = s.size) := by show _ = _; rw [← hT]; rfl
  rw [hT] at h0 ⊢
  clear hT
  cases T with
  | nil => exact absurd rfl h0
  | cons c r =>
    have hpos : 0 < s.size := by have := HTL.out; rw [List.length_cons] at this; omega
    have hx0 := str_index s 0 0 rfl hpos
    rw [HT.out, List.getD_cons_zero] at hx0
    have HNM : Hid (numM (c :: r) = if 1 < s.size ∧ c = 48 then ([], 3) else if bigV (c :: r) = true then ([], 2) else (c :: r, 0)) := by
      show _ = _
      unfold numM
      rw [HTL.out]
      simp only [List.head?_cons, Option.some.injEq]
    have hbs : (!Op.bytesLess s.toList [57, 50, 50, 51, 51, 55, 50, 48, 51, 54, 56, 53, 52, 55, 55, 53, 56, 48, 55] && !(s.toList == [57, 50, 50, 51, 51, 55, 50, 48, 51, 54, 56, 53, 52, 55, 55, 53, 56, 48, 55])) = decide (most < c :: r) := by
      rw [moreL]
      show decide (most < toB s) = _
      rw [HT.out]
    have HBG : Hid (bigV (c :: r) = (decide (19 < s.size) || (decide (s.size = 19) && decide (most < c :: r)))) := by
      show _ = _
      unfold bigV
      rw [HTL.out]
    have HOT : Hid (ofB (c :: r) = s) := by show _ = _; rw [← HT.out, ofB_toB]
    have hc := c.toNat_lt
    by_cases hA : 1 < s.size ∧ c = 48
    · have HE : Hid (numM (c :: r) = ([], 3)) := by show _ = _; rw [HNM.out, if_pos hA]
      obtain ⟨hA1, rfl⟩ := hA
      have hA2 : (1 : Int) < s.size := by omega
      clear HNM HBG hbs hc
      go_enter Try.func24, Try.ntmps24
      go_wp2
      go_ret2
      rw [HE.out]
      exact ⟨rfl, Below.refl _ _⟩
    · have HNN : Hid (numM (c :: r) = if bigV (c :: r) = true then ([], 2) else (c :: r, 0)) := by show _ = _; rw [HNM.out, if_neg hA]
      have hcase : ¬ (1 : Int) < s.size ∨ (1 : Int) < s.size ∧ ((c.toNat : Int) == 48) = false := by
        by_cases h1 : (1 : Int) < s.size
        · exact .inr ⟨h1, beq_eq_false_iff_ne.2 fun e => hA ⟨by omega, (u8_is c 48 (by decide)).2 (by omega)⟩⟩
        · exact .inl h1
      clear HNM hA
      by_cases h19 : (19 : Int) < s.size
      · have HE : Hid (numM (c :: r) = ([], 2)) := by show _ = _; rw [HNN.out, HBG.out, decide_eq_true (by omega), Bool.true_or, if_pos rfl]
        clear HNN HBG hbs
        rcases hcase with h1 | ⟨h1, h2⟩
        · omega
        · go_enter Try.func24, Try.ntmps24
          go_wp2
          go_ret2
          rw [HE.out]
          exact ⟨rfl, Below.refl _ _⟩
      · by_cases h20 : (s.size : Int) = 19
        · have hq : ((s.size : Int) == 19) = true := beq_iff_eq.2 h20
          have h21 : s.size = 19 := by omega
          have HB2 : Hid (bigV (c :: r) = decide (most < c :: r)) := by show _ = _; rw [HBG.out, decide_eq_false (by omega), decide_eq_true h21, Bool.true_and, Bool.false_or]
          have HZ := Lib.hid h21
          rcases hcase with h1 | ⟨h1, h2⟩
          · omega
          · clear HBG h20 h21
            cases hm : decide (most < c :: r) with
            | true =>
              have HE : Hid (numM (c :: r) = ([], 2)) := by show _ = _; rw [HNN.out, HB2.out, hm, if_pos rfl]
              rw [hm] at hbs
              clear hm HNN HB2
              go_enter Try.func24, Try.ntmps24
              go_wp2
              go_ret2
              rw [HE.out]
              exact ⟨rfl, Below.refl _ _⟩
            | false =>
              have HE : Hid (numM (c :: r) = (c :: r, 0)) := by show _ = _; rw [HNN.out, HB2.out, hm, if_neg (by simp)]
              rw [hm] at hbs
              clear hm HNN HB2
              go_enter Try.func24, Try.ntmps24
              go_wp2
              go_ret2
              rw [HE.out, HOT.out]
              exact ⟨rfl, Below.refl _ _⟩
        · have hq : ((s.size : Int) == 19) = false := beq_eq_false_iff_ne.2 h20
          have HE : Hid (numM (c :: r) = (c :: r, 0)) := by show _ = _; rw [HNN.out, HBG.out, decide_eq_false (by omega), decide_eq_false (by omega), Bool.false_and, Bool.false_or, if_neg (by simp)]
          clear HBG HNN h20 hbs
          rcases hcase with h1 | ⟨h1, h2⟩
          all_goals
            go_enter Try.func24, Try.ntmps24
            go_wp2
            go_ret2
            rw [HE.out, HOT.out]
            exact ⟨rfl, Below.refl _ _⟩
end Lx
end Go.Proofs.Ytpiiklpehfkdaaa
