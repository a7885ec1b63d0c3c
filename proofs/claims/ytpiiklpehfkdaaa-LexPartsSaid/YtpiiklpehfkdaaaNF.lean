/-
  Layer 9 (lex): the walk of the document's Quote.
-/
import Derived.Test.YtpiiklpehfkdaaaNE
namespace Go.Proofs.Ytpiiklpehfkdaaa
namespace Lx
open Go.RowKit Kr

theorem app_toB (a b : ByteArray) : toB (a ++ b) = toB a ++ toB b := by
  show (a ++ b).data.toList = _
  rw [ByteArray.data_append, Array.toList_append]
theorem size_app (a b : ByteArray) : (a ++ b).size = a.size + b.size := by
  rw [← toB_length, ← toB_length, ← toB_length, app_toB, List.length_append]
theorem cut_byte (s : ByteArray) (i j : Int) (n : Nat) (hi : i = (n : Int)) (hj : j = ((n + 1 : Nat) : Int)) (h : n < s.size) (W : World) :
    (Instr.slice 9 (.string s) (some (.int .i64 i)) (some (.int .i64 j)) none).run Try.prog W = .ok (.string (ofB [(toB s).getD n 0])) W := by
  subst hi hj
  rw [run_slice_string W 9 s .i64 .i64 _ _ Try.underlying9 (by omega) (by omega) (by omega)]
  congr 2
  refine ba_eq ?_
  rw [toB_ofB]
  show (s.extract n (n + 1)).data.toList = _
  have h1 : (s.extract n (n + 1)).data.toList = ((toB s).drop n).take 1 := by
    simp [ByteArray.data_extract, Array.toList_extract, List.extract_eq_take_drop]
  rw [h1, drop_getD (toB s) (by rw [toB_length]; exact h)]
  rfl
theorem esc_take (s : Bs) {k : Nat} (h : k < s.length) : esc (s.take (k + 1)) = esc (s.take k) ++ esc1 (s.getD k 0) := by rw [take_snoc s h, esc_snoc]
set_option maxRecDepth 100000 in
set_option maxHeartbeats 2000000 in
theorem refquote_any (s : ByteArray) (w : World) (hs : s.size ≤ 1000000) :
    Calls Try.prog 13 #[.string s] w fun e w' => e = .returned (.string (ofB (quoteV (toB s)))) ∧ Below w.heap.size w w' := by
  obtain ⟨T, hT⟩ : ∃ T, toB s = T := ⟨_, rfl⟩
  have HT := Lib.hid hT
  have HTL : Hid (T.length = s.size) := by show _ = _; rw [← hT]; rfl
  rw [hT]
  clear hT
  obtain ⟨R, hR⟩ : ∃ R, ofB (quoteV T) = R := ⟨_, rfl⟩
  have HR := Lib.hid hR
  rw [hR]
  clear hR
  go_enter Try.func13, Try.ntmps13
  go_wp2
  go_loopw [3, 4] (fun o i wr => ∃ (k : Nat) (O : ByteArray), k ≤ s.size ∧ i = .int .i64 k ∧ o = .string O ∧ Hid (toB O = 34 :: esc (T.take k)) ∧ O.size ≤ 2 * k + 1 ∧ Hid (∀ c ∈ T.take k, okQ c = true) ∧ Hid (Below w.heap.size w wr)) (fun _ i _ => s.size - (intOf i).toNat)
  case atStart => exact ⟨0, ⟨#[34]⟩, Nat.zero_le _, rfl, rfl, rfl, by decide, fun c hc => by simp at hc, Below.refl _ _⟩
  case round =>
    obtain ⟨k, O, hk, rfl, rfl, HO, hO, HQ, HB⟩ := hrel
    by_cases hlt : k < s.size
    · have hki : (k : Int) < s.size := by omega
      have hx := str_index s k (k : Int) rfl hlt
      have hcb := cut_byte s (k : Int) ((k : Int) + 1) k rfl (by omega) hlt
      have hes := esc_take T (k := k) (by rw [HTL.out]; exact hlt)
      have hts := take_snoc T (k := k) (by rw [HTL.out]; exact hlt)
      have hmem : T.getD k 0 ∈ T := by
        rw [List.getD_eq_getElem?_getD, List.getElem?_eq_getElem (by rw [HTL.out]; exact hlt)]
        exact List.getElem_mem _
      rw [HT.out] at hx hcb
      generalize T.getD k 0 = c at hx hcb hes hts hmem
      have HES := Lib.hid hes
      have HTS := Lib.hid hts
      have HMM := Lib.hid hmem
      have hc256 := c.toNat_lt
      have hb1 : (ofB [c]).size = 1 := by rw [ofB_size]; rfl
      clear hes hts hmem
      by_cases hc10 : c = 10
      · subst hc10
        have HO2 : Hid (toB (O ++ ⟨#[92, 110]⟩) = 34 :: esc (T.take (k + 1))) := by
          show _ = _
          rw [app_toB, show toB O = 34 :: esc (T.take k) from HO.out, HES.out]; rfl
        have hO2 : (O ++ ⟨#[92, 110]⟩).size ≤ 2 * (k + 1) + 1 := by
          simp only [size_app]
          have h1 : (⟨#[92, 110]⟩ : ByteArray).size = 2 := rfl
          have h2 : (⟨#[92]⟩ : ByteArray).size = 1 := rfl
          omega
        have HQ2 : Hid (∀ x ∈ T.take (k + 1), okQ x = true) := by
          intro x hx
          rw [HTS.out] at hx
          rcases List.mem_append.1 hx with hx | hx
          · exact HQ.out x hx
          · rw [List.mem_singleton.1 hx]; rfl
        have HZ := Lib.hid hO2
        clear hO2 HO HQ HES HTS HMM
        go_wp2
        go_roundw
        case rel => exact ⟨k + 1, O ++ ⟨#[92, 110]⟩, by omega, by go_num, rfl, HO2, HZ.out, HQ2, HB⟩
        case measure => simp [intOf]; omega
      · have j10 : ((c.toNat : Int) == 10) = false := beq_eq_false_iff_ne.2 fun e => hc10 ((u8_is c 10 (by decide)).2 (by omega))
        by_cases hb : bad c = true
        · have HE : Hid (R = ⟨#[]⟩) := by
            show _ = _
            rw [← HR.out]
            have hno : quoteV T = [] := by
              unfold quoteV
              rw [if_neg]
              intro h
              have := List.all_eq_true.1 h c HMM.out
              unfold okQ at this
              rw [hb] at this
              simp [hc10] at this
            rw [hno]
          rw [bad_eq] at hb
          have hb2 : (c.toNat : Int) < 32 ∨ ¬ (c.toNat : Int) < 32 ∧ (c.toNat : Int) = 127 := by
            simp only [Bool.or_eq_true, decide_eq_true_eq] at hb
            omega
          clear HO HQ HES HTS HMM hb hc10
          generalize c.toNat = n at hx j10 hb2 hc256
          rcases hb2 with hb2 | ⟨hb2, hb3⟩
          · go_wp2
            go_ret
            rw [HE.out]
            exact ⟨rfl, HB.out⟩
          · obtain rfl : n = 127 := by omega
            go_wp2
            go_ret
            rw [HE.out]
            exact ⟨rfl, HB.out⟩
        · have hbf : bad c = false := by simpa using hb
          have hbn : ¬ (c.toNat : Int) < 32 ∧ ((c.toNat : Int) == 127) = false := by
            rw [bad_eq] at hb
            simp only [Bool.or_eq_true, decide_eq_true_eq, not_or] at hb
            exact ⟨by omega, beq_eq_false_iff_ne.2 (by omega)⟩
          obtain ⟨hb1', hb2'⟩ := hbn
          by_cases h34 : c = 34
          · subst h34
            have HO2 : Hid (toB (O ++ ⟨#[92]⟩ ++ ofB [34]) = 34 :: esc (T.take (k + 1))) := by
              show _ = _
              rw [app_toB, app_toB, toB_ofB, show O.data.toList = 34 :: esc (T.take k) from HO.out, HES.out]
              show (34 :: esc (T.take k) ++ [92]) ++ [34] = 34 :: (esc (T.take k) ++ [92, 34])
              simp
            have hO2 : (O ++ ⟨#[92]⟩ ++ ofB [34]).size ≤ 2 * (k + 1) + 1 := by
              simp only [size_app, hb1]
              have h1 : (⟨#[92, 110]⟩ : ByteArray).size = 2 := rfl
              have h2 : (⟨#[92]⟩ : ByteArray).size = 1 := rfl
              omega
            have HQ2 : Hid (∀ x ∈ T.take (k + 1), okQ x = true) := by
              intro x hx
              rw [HTS.out] at hx
              rcases List.mem_append.1 hx with hx | hx
              · exact HQ.out x hx
              · rw [List.mem_singleton.1 hx]; rfl
            have HZ := Lib.hid hO2
            clear hO2 HO HQ HES HTS HMM
            go_wp2
            go_roundw
            case rel => exact ⟨k + 1, O ++ ⟨#[92]⟩ ++ ofB [34], by omega, by go_num, rfl, HO2, HZ.out, HQ2, HB⟩
            case measure => simp [intOf]; omega
          · have j34 : ((c.toNat : Int) == 34) = false := beq_eq_false_iff_ne.2 fun e => h34 ((u8_is c 34 (by decide)).2 (by omega))
            by_cases h92 : c = 92
            · subst h92
              have HO2 : Hid (toB (O ++ ⟨#[92]⟩ ++ ofB [92]) = 34 :: esc (T.take (k + 1))) := by
                show _ = _
                rw [app_toB, app_toB, toB_ofB, show O.data.toList = 34 :: esc (T.take k) from HO.out, HES.out]
                show (34 :: esc (T.take k) ++ [92]) ++ [92] = 34 :: (esc (T.take k) ++ [92, 92])
                simp
              have hO2 : (O ++ ⟨#[92]⟩ ++ ofB [92]).size ≤ 2 * (k + 1) + 1 := by
                simp only [size_app, hb1]
                have h1 : (⟨#[92, 110]⟩ : ByteArray).size = 2 := rfl
                have h2 : (⟨#[92]⟩ : ByteArray).size = 1 := rfl
                omega
              have HQ2 : Hid (∀ x ∈ T.take (k + 1), okQ x = true) := by
                intro x hx
                rw [HTS.out] at hx
                rcases List.mem_append.1 hx with hx | hx
                · exact HQ.out x hx
                · rw [List.mem_singleton.1 hx]; rfl
              have HZ := Lib.hid hO2
              clear hO2 HO HQ HES HTS HMM
              go_wp2
              go_roundw
              case rel => exact ⟨k + 1, O ++ ⟨#[92]⟩ ++ ofB [92], by omega, by go_num, rfl, HO2, HZ.out, HQ2, HB⟩
              case measure => simp [intOf]; omega
            · have j92 : ((c.toNat : Int) == 92) = false := beq_eq_false_iff_ne.2 fun e => h92 ((u8_is c 92 (by decide)).2 (by omega))
              have HO2 : Hid (toB (O ++ ofB [c]) = 34 :: esc (T.take (k + 1))) := by
                show _ = _
                rw [app_toB, toB_ofB, show O.data.toList = 34 :: esc (T.take k) from HO.out, HES.out]
                have e1 : esc1 c = [c] := by
                  unfold esc1
                  rw [if_neg hc10, if_neg (by rintro (e | e); exact h34 e; exact h92 e)]
                rw [e1]; rfl
              have hO2 : (O ++ ofB [c]).size ≤ 2 * (k + 1) + 1 := by
                simp only [size_app, hb1]
                have h1 : (⟨#[92, 110]⟩ : ByteArray).size = 2 := rfl
                have h2 : (⟨#[92]⟩ : ByteArray).size = 1 := rfl
                omega
              have HQ2 : Hid (∀ x ∈ T.take (k + 1), okQ x = true) := by
                intro x hx
                rw [HTS.out] at hx
                rcases List.mem_append.1 hx with hx | hx
                · exact HQ.out x hx
                · rw [List.mem_singleton.1 hx]; (unfold okQ; rw [hbf]; simp)
              have HZ := Lib.hid hO2
              clear hO2 HO HQ HES HTS HMM
              go_wp2
              go_roundw
              case rel => exact ⟨k + 1, O ++ ofB [c], by omega, by go_num, rfl, HO2, HZ.out, HQ2, HB⟩
              case measure => simp [intOf]; omega
    · obtain rfl : k = s.size := by omega
      have HE : Hid (O ++ ⟨#[34]⟩ = R) := by
        show _ = _
        rw [← HR.out]
        refine ba_eq ?_
        have h1 := HQ.out
        have h2 := HO.out
        rw [List.take_of_length_le (by rw [HTL.out]; exact Nat.le_refl _)] at h1 h2
        rw [app_toB, show toB O = 34 :: esc T from h2]
        show _ = toB (ofB (quoteV T))
        rw [toB_ofB, quote_ok h1]
        rfl
      go_wp2
      go_ret
      rw [← HE.out]
      exact ⟨rfl, HB.out⟩
end Lx
end Go.Proofs.Ytpiiklpehfkdaaa
