/-
  Layer 1 (pack): the walk of the document's answer Texts.
-/
import Derived.Test.YthjnbjfcjjnkaaaDoorF
import Derived.Laws.DeepStrings4
namespace Go.Proofs.YthjnbjfcjjnkaaaDoor
namespace Pk
open Go.RowKit

theorem cut_run (b : ByteArray) (i j : Int) (h0 : 0 ≤ i) (h1 : i ≤ j) (h2 : j ≤ b.size) (W : World) :
    (Instr.slice 9 (.string b) (some (.int .i64 i)) (some (.int .i64 j)) none).run Tryd.prog W = .ok (.string (b.extract i.toNat j.toNat)) W := by
  rw [run_slice_string_if W 9 b .i64 .i64 i j Tryd.underlying9, if_pos ⟨by omega, h2⟩, if_pos ⟨h0, h1⟩]

set_option maxHeartbeats 4000000 in
set_option maxRecDepth 100000 in
theorem reftexts_any (b : ByteArray) (w : World) (hs : b.size ≤ 8796093022208) :
    Calls Tryd.prog 14 #[.string b] w (TextsPost b.data.toList w) := by
  obtain ⟨i0, hi, hz0, hz1, hz2⟩ := info_parts strInfo
  have ho0 : Owns (w.alloc (.cells #[] 9)) w.heap.size (.slice (some ⟨w.heap.size, 0, none⟩) 0 0) [] := World.ownsRow_lit w #[] 0 (Nat.le_refl _) (by decide) rfl
  have HO0 := Lib.hid ho0
  clear ho0
  go_enter Tryd.func14, Tryd.ntmps14
  go_wp2
  go_loopw [4, 5] (fun v i wr => ∃ (acc : List Bs) (a : Nat), i = .int .i64 a ∧ acc.length ≤ a ∧ a ≤ b.size ∧ decF (b.size - a + 1) acc (b.data.toList.drop a) = dec b.data.toList ∧ Owns wr w.heap.size v acc ∧ Below w.heap.size w wr) (fun _ i _ => b.size - (intOf i).toNat)
  case atStart => exact ⟨[], 0, rfl, Nat.le_refl _, Nat.zero_le _, rfl, HO0.out, (Below.refl _ _).alloc (Nat.le_refl _) _⟩
  case round =>
    obtain ⟨acc, a, rfl, hla, ha, hd, ho, hbw⟩ := hrel
    by_cases h0 : a < b.size
    · have HD := Lib.hid hd
      have HO := Lib.hid ho
      have HW := Lib.hid hbw
      clear hd ho hbw HO0
      go_wp2
      obtain ⟨wo, rfl⟩ : ∃ wo : World, wo = wr := ⟨_, rfl⟩
      go_loop [5, 6, 7] (fun i t j => ∃ n k : Nat, i = .int .i64 ((a + k : Nat) : Int) ∧ t = .int .i64 n ∧ j = .int .i64 k ∧ a + k ≤ b.size ∧ k ≤ 9 ∧ n < 10 ^ k ∧ rdNum n k (b.data.toList.drop (a + k)) = rdNum 0 0 (b.data.toList.drop a)) (fun i _ _ => b.size - (intOf i).toNat)
      case atStart => exact ⟨0, 0, rfl, rfl, rfl, by omega, by omega, by omega, rfl⟩
      case round =>
        obtain ⟨n, k, rfl, rfl, rfl, hak, hk9, hn, hr⟩ := hrel
        have hn9 : n < 1000000000 := by
          have : 10 ^ k ≤ 10 ^ 9 := Nat.pow_le_pow_right (by decide) hk9
          omega
        have HN := Lib.hid hn
        clear hn
        by_cases hlt : a + k < b.size
        · have hdr := drop_at b (a + k) hlt
          rw [hdr] at hr
          have HR := Lib.hid hr
          clear hr hdr
          have hlt' : (a : Int) + k < b.size := by omega
          have hcb : b[a + k].toNat < 256 := b[a + k].toNat_lt
          have hne : b.data.toList.drop a ≠ [] := by
            intro e
            have := congrArg List.length e
            rw [List.length_drop, data_length] at this
            simp at this
            omega
          have HNE := Lib.hid hne
          clear hne
          have hdig := digit_any (b[a + k].toNat : Int)
          rw [← isD_int] at hdig
          cases hd : isD b[a + k]
          · -- no digit
            rw [hd] at hdig
            have HDG := Lib.hid hdig
            have HD1 := Lib.hid hd
            have hb1 : ((a : Int) + k == b.size) = false := by rw [beq_eq_false_iff_ne]; omega
            clear hdig hd
            by_cases hok : 0 < k ∧ b[a + k].toNat = 58
            · obtain ⟨hk0, h58⟩ := hok
              have he58 : b[a + k] = 58 := UInt8.toNat_inj.1 h58
              have hnum : rdNum 0 0 (b.data.toList.drop a) = .inr (n, k) := by
                rw [← HR.out, he58]; exact rdNum_colon _ _ _ hk0
              have hb2 : ((k : Int) == 0) = false := by rw [beq_eq_false_iff_ne]; omega
              have hb3 : ((b[a + k].toNat : Int) != 58) = false := by rw [bne_eq_false_iff_eq]; omega
              have HNUM := Lib.hid hnum
              have hsize : ((b.data.toList.drop a).drop (k + 1)).length = b.size - (a + k + 1) := by
                rw [List.drop_drop, List.length_drop, data_length]; omega
              have HSZ := Lib.hid hsize
              clear he58 hnum h58 hsize
              by_cases hsh : b.size - (a + k + 1) < n
              · have hsh' : (b.size : Int) - ((a : Int) + k + 1) < n := by omega
                have hdec : dec b.data.toList = (4, []) := by
                  rw [← HD.out]
                  exact decF_short _ _ _ HNE.out _ _ HNUM.out (by rw [HSZ.out]; exact hsh)
                have HDEC := Lib.hid hdec
                clear hdec
                go_wp2_with fail
                refine (HDG.out _).mono ?_
                rintro e w' ⟨rfl, rfl⟩
                go_wp2
                go_ret2
                refine ⟨.slice none 0 0, ?_, ?_, HW.out⟩
                · rw [HDEC.out]; rfl
                · rw [HDEC.out]; exact Owns.nil _ _
              · have hsh' : (n : Int) ≤ (b.size : Int) - ((a : Int) + k + 1) := by omega
                obtain ⟨x, hx⟩ : ∃ x, x = (b.extract (a + k + 1) (a + k + 1 + n)).data.toList := ⟨_, rfl⟩
                have hstep : decF (b.size - (a + k + 1 + n) + 1) (acc ++ [x]) (b.data.toList.drop (a + k + 1 + n)) = dec b.data.toList := by
                  have h1 := decF_step (b.size - a) acc _ HNE.out _ _ HNUM.out (by rw [HSZ.out]; exact hsh)
                  rw [← HD.out, h1, hx, ext_data, List.drop_drop, List.drop_drop]
                  rw [show a + k + 1 + n - (a + k + 1) = n by omega, show a + (k + 1) = a + k + 1 by omega]
                  refine decF_fuel _ _ _ _ ?_ ?_
                  · rw [List.length_drop, data_length]; omega
                  · rw [List.length_drop, data_length]; omega
                have hcut := cut_run b ((a : Int) + k + 1) ((a : Int) + k + 1 + n) (by omega) (by omega) (by omega)
                rw [show ((a : Int) + k + 1).toNat = a + k + 1 by omega, show ((a : Int) + k + 1 + n).toNat = a + k + 1 + n by omega] at hcut
                have HX := Lib.hid hx
                have HST := Lib.hid hstep
                clear hx hstep
                go_wp2_with fail
                refine (HDG.out _).mono ?_
                rintro e w' ⟨rfl, rfl⟩
                go_wp2_with (at_builtin; refine wpList_append_own _ rfl _ _ 22 rfl w.heap.size 9 i0 (.string ⟨#[]⟩) 1 16 Tryd.underlying22 hi hz0 hz1 hz2 rfl (by decide) _ _ _ rfl (HO.out.alloc _) ⟨wo.heap.size, 0, none⟩ 1 1 [SV x] rfl rfl ?c1 ?c2 ?c3 ?c4 ?c5 ?_)
                case c1 =>
                  rintro (_ | j) u hj
                  · simp only [List.getElem?_cons_zero, Option.some.injEq] at hj
                    subst hj
                    rw [HX.out, ← SV_str]
                    simp [Addr.add]
                  · simp at hj
                case c2 => intro u hu; obtain rfl := List.mem_singleton.1 hu; rfl
                case c3 => simp only [maxLen]; omega
                case c4 => omega
                case c5 => have := HW.out.size; simp; omega
                intro v' w2 hown' hgrow _
                go_wp2
                have hw2 : Below w.heap.size w w2 := (HW.out.alloc HW.out.size _).grown hgrow (by have := HW.out.size; simp; omega) (fun g hg => (HO.out.lt g hg).1)
                have ho2 : Owns w2 w.heap.size v' (acc ++ [x]) := by
                  unfold Owns
                  rw [List.length_append, List.map_append]
                  exact hown'
                go_roundw
                case rel => exact ⟨_, a + k + 1 + n, by go_num, by rw [List.length_append, List.length_singleton]; omega, by omega, HST.out, ho2, hw2⟩
                case measure => simp [intOf]; omega
            · have hnum : rdNum 0 0 (b.data.toList.drop a) = .inl 3 := by
                rw [← HR.out]
                exact rdNum_other _ _ _ _ HD1.out (fun h => hok ⟨h.2, by rw [h.1]; rfl⟩)
              have hdec : dec b.data.toList = (3, []) := by
                rw [← HD.out]
                exact decF_err _ _ _ HNE.out _ hnum
              have HDEC := Lib.hid hdec
              clear hdec hnum
              by_cases hk0 : k = 0
              · have hb2 : ((k : Int) == 0) = true := by rw [beq_iff_eq]; omega
                clear hok hk0
                go_wp2_with fail
                refine (HDG.out _).mono ?_
                rintro e w' ⟨rfl, rfl⟩
                go_wp2
                go_ret2
                refine ⟨.slice none 0 0, ?_, ?_, HW.out⟩
                · rw [HDEC.out]; rfl
                · rw [HDEC.out]; exact Owns.nil _ _
              · have hb2 : ((k : Int) == 0) = false := by rw [beq_eq_false_iff_ne]; omega
                have hb3 : ((b[a + k].toNat : Int) != 58) = true := by rw [bne_iff_ne]; omega
                clear hok hk0
                go_wp2_with fail
                refine (HDG.out _).mono ?_
                rintro e w' ⟨rfl, rfl⟩
                go_wp2
                go_ret2
                refine ⟨.slice none 0 0, ?_, ?_, HW.out⟩
                · rw [HDEC.out]; rfl
                · rw [HDEC.out]; exact Owns.nil _ _
          · -- a digit
            rw [hd] at hdig
            have HDG := Lib.hid hdig
            have hc : 48 ≤ b[a + k].toNat ∧ b[a + k].toNat ≤ 57 := by simpa [isD] using hd
            obtain ⟨hc1, hc2⟩ := hc
            clear hdig
            cases hb : bad n k
            · have hr1 := HR.out
              rw [rdNum_digit _ _ _ _ hd hb] at hr1
              have HR1 := Lib.hid hr1
              have hk8 := bad_lt hb
              have hb9 : ((k : Int) == 9) = false := by rw [beq_eq_false_iff_ne]; omega
              by_cases hk0 : 0 < k
              · have hn0 : ((n : Int) == 0) = false := by
                  rw [beq_eq_false_iff_ne]
                  rintro h
                  have : n = 0 := by omega
                  subst this
                  simp [bad, hk0] at hb
                clear hr1 hd hb
                go_wp2_with fail
                refine (HDG.out _).mono ?_
                rintro e w' ⟨rfl, rfl⟩
                go_wp2
                go_round
                case rel => exact ⟨n * 10 + (b[a + k].toNat - 48), k + 1, by rw [show ((a + (k + 1) : Nat) : Int) = (a : Int) + k + 1 by omega], by rw [show ((n * 10 + (b[a + k].toNat - 48) : Nat) : Int) = (n : Int) * 10 + b[a + k].toNat - 48 by omega], by go_num, by omega, by omega, by have := HN.out; rw [Nat.pow_succ]; omega, HR1.out⟩
                case measure => simp [intOf]; omega
              · clear hr1 hd hb
                go_wp2_with fail
                refine (HDG.out _).mono ?_
                rintro e w' ⟨rfl, rfl⟩
                go_wp2
                go_round
                case rel => exact ⟨n * 10 + (b[a + k].toNat - 48), k + 1, by rw [show ((a + (k + 1) : Nat) : Int) = (a : Int) + k + 1 by omega], by rw [show ((n * 10 + (b[a + k].toNat - 48) : Nat) : Int) = (n : Int) * 10 + b[a + k].toNat - 48 by omega], by go_num, by omega, by omega, by have := HN.out; rw [Nat.pow_succ]; omega, HR1.out⟩
                case measure => simp [intOf]; omega
            · have hnum : rdNum 0 0 (b.data.toList.drop a) = .inl 3 := by
                rw [← HR.out]
                exact rdNum_bad _ _ _ _ hd hb
              have hdec : dec b.data.toList = (3, []) := by
                rw [← HD.out]
                exact decF_err _ _ _ HNE.out _ hnum
              have HDEC := Lib.hid hdec
              have hbad : (0 < k ∧ n = 0) ∨ k = 9 := by
                simp [bad] at hb; omega
              clear hdec hnum hd hb
              by_cases hz : 0 < k ∧ n = 0
              · obtain ⟨hk0, hn0⟩ := hz
                have hn0b : ((n : Int) == 0) = true := by rw [beq_iff_eq]; omega
                clear hn0 hbad
                go_wp2_with fail
                refine (HDG.out _).mono ?_
                rintro e w' ⟨rfl, rfl⟩
                go_wp2
                go_ret2
                refine ⟨.slice none 0 0, ?_, ?_, HW.out⟩
                · rw [HDEC.out]; rfl
                · rw [HDEC.out]; exact Owns.nil _ _
              · have hk0 : 0 < k := by omega
                have hn0b : ((n : Int) == 0) = false := by rw [beq_eq_false_iff_ne]; omega
                have hb9 : ((k : Int) == 9) = true := by rw [beq_iff_eq]; omega
                clear hz hbad
                go_wp2_with fail
                refine (HDG.out _).mono ?_
                rintro e w' ⟨rfl, rfl⟩
                go_wp2
                go_ret2
                refine ⟨.slice none 0 0, ?_, ?_, HW.out⟩
                · rw [HDEC.out]; rfl
                · rw [HDEC.out]; exact Owns.nil _ _
        · have hnum : rdNum 0 0 (b.data.toList.drop a) = .inl 4 := by
            rw [← hr, List.drop_eq_nil_of_le (by rw [data_length]; omega)]; rfl
          have hdec : dec b.data.toList = (4, []) := by
            rw [← HD.out]
            refine decF_err _ _ _ ?_ _ hnum
            intro e
            have := congrArg List.length e
            rw [List.length_drop, data_length] at this
            simp at this
            omega
          have HDEC := Lib.hid hdec
          clear hdec hnum hr
          go_wp2
          go_ret2
          refine ⟨.slice none 0 0, ?_, ?_, HW.out⟩
          · rw [HDEC.out]; rfl
          · rw [HDEC.out]; exact Owns.nil _ _
    · have hdec : dec b.data.toList = (0, acc) := by
        rw [← hd, List.drop_eq_nil_of_le (by rw [data_length]; omega)]
        exact decF_nil _ _
      obtain ⟨A, cap, rfl⟩ := ho.form
      have HDEC := Lib.hid hdec
      have HO := Lib.hid ho
      have HW := Lib.hid hbw
      clear hdec hd ho hbw
      go_wp2
      go_ret2
      refine ⟨.slice A acc.length cap, ?_, ?_, HW.out⟩
      · rw [HDEC.out]; rfl
      · rw [HDEC.out]; exact HO.out
end Pk
end Go.Proofs.YthjnbjfcjjnkaaaDoor
