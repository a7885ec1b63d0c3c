/-
  Layer 9 (lex): the walk of the document's number.
-/
import Derived.Test.YtpiiklpehfkdaaaNB
namespace Go.Proofs.Ytpiiklpehfkdaaa
namespace Lx
open Go.RowKit Kr

abbrev lpc (c : Pc) : List Value := [.int .i64 (c.kind : Int), .string (ofB c.text), .int .i64 (c.size : Int), .int .i64 (c.err : Int)]
abbrev vpc (c : Pc) : Value := .agg (lpc c).toArray
abbrev zpc : List Value := [.int .i64 0, .string ⟨#[]⟩, .int .i64 0, .int .i64 0]
theorem pc_info (c : Pc) : (Try.prog.info? 47).map (·.size) = some (lpc c).toArray.size := by show _ = some 4; kernel_rfl
theorem natOf_snoc (l : Bs) (c : UInt8) : natOf (l ++ [c]) = 10 * natOf l + (c.toNat - 48) := by
  unfold natOf
  rw [List.foldl_append]; rfl
theorem take_snoc (s : Bs) {k : Nat} (h : k < s.length) : s.take (k + 1) = s.take k ++ [s.getD k 0] := by
  rw [List.take_succ_eq_append_getElem h, List.getD_eq_getElem?_getD, List.getElem?_eq_getElem h]; rfl
theorem tw_take (f : UInt8 → Bool) (s : Bs) : s.takeWhile f = s.take (s.takeWhile f).length := (List.prefix_iff_eq_take.1 (List.takeWhile_prefix f))
/-- A piece that a call hands back out of a block of its own. -/
theorem new_row (w : World) (c : Pc) : Row (w.alloc (.cells (lpc c).toArray 47)) w.heap.size 47 (lpc c) := Row.new_at _ _ _ _ rfl rfl
theorem new_below (w : World) (o : Obj) : Below w.heap.size w (w.alloc o) := (Below.refl _ _).alloc (Nat.le_refl _) _
theorem cut_front (s : ByteArray) (j : Int) (n : Nat) (hj : j = (n : Int)) (h2 : n ≤ s.size) (W : World) :
    (Instr.slice 9 (.string s) none (some (.int .i64 j)) none).run Try.prog W = .ok (.string (ofB ((toB s).take n))) W := by
  subst hj
  rw [run_slice_string_h W 9 s Try.underlying9 .i64 _ (by omega) (by omega)]
  congr 2
  refine ba_eq ?_
  rw [toB_ofB]
  show (s.extract 0 n).data.toList = s.data.toList.take n
  simp [ByteArray.data_extract, Array.toList_extract, List.extract_eq_take_drop]
theorem u64_bounds (x : Int) : 0 ≤ IntKind.u64.wrap x ∧ IntKind.u64.wrap x ≤ 18446744073709551615 := by
  have h := Int.emod_nonneg x (b := 18446744073709551616) (by decide)
  have h2 := Int.emod_lt_of_pos x (b := 18446744073709551616) (by decide)
  have e : IntKind.u64.wrap x = x % 18446744073709551616 := by rfl
  rw [e]
  omega
set_option maxRecDepth 100000 in
set_option maxHeartbeats 1500000 in
theorem refnumber_any (s : ByteArray) (w : World) (h0 : toB s ≠ []) (hs : s.size ≤ 1000000) :
    Calls Try.prog 29 #[.string s] w fun e w' => e = .returned (vpc (numP (toB s))) ∧ Below w.heap.size w w' := by
  obtain ⟨T, hT⟩ : ∃ T, toB s = T := ⟨_, rfl⟩
  have HT := Lib.hid hT
  have HTL : Hid (T.length = s.size) := by show _ = _; rw [← hT]; rfl
  obtain ⟨m, hm⟩ : ∃ m, (T.takeWhile isD).length = m := ⟨_, rfl⟩
  have HM := Lib.hid hm
  have hml : m ≤ s.size := by rw [← hm, ← HTL.out]; exact tw_le _ _
  have HNP : Hid (numP (toB s) = if 1 < m ∧ T.head? = some 48 then no 3 else if 9223372036854775807 < natOf (T.take m) then no 2 else ⟨2, T.take m, m, 0⟩) := by
    show _ = _
    unfold numP
    rw [hT, tw_take isD T, hm, List.length_take, Nat.min_eq_left (by rw [HTL.out]; exact hml)]
  rw [hT] at h0
  clear hT hm
  go_enter Try.func29, Try.ntmps29
  go_wp2
  go_loopw [3, 4, 5] (fun i v b wr => ∃ (k : Nat) (z : Int) (big : Bool), k ≤ m ∧ i = .int .i64 k ∧ v = .int .u64 z ∧ b = .bool big ∧ 0 ≤ z ∧ z ≤ 18446744073709551615 ∧ Hid (big = decide (9223372036854775807 < natOf (T.take k))) ∧ Hid (big = false → z = natOf (T.take k)) ∧ wr = w.alloc (.cells zpc.toArray 47)) (fun i _ _ _ => m - (intOf i).toNat)
  case atStart => exact ⟨0, 0, false, Nat.zero_le _, rfl, rfl, rfl, by omega, by omega, rfl, fun _ => rfl, rfl⟩
  case round =>
    obtain ⟨k, z, big, hk, rfl, rfl, rfl, hz0, hz1, HBG, HV, rfl⟩ := hrel
    by_cases hlt : k < m
    · have hki : (k : Int) < s.size := by omega
      have hx := str_index s k (k : Int) rfl (by omega)
      rw [HT.out] at hx
      have hd := tw_in_front (f := isD) (s := T) (k := k) (by rw [HM.out]; exact hlt)
      have hts := take_snoc T (k := k) (by rw [HTL.out]; omega)
      generalize T.getD k 0 = c at hx hd hts
      have HN : Hid (natOf (T.take (k + 1)) = 10 * natOf (T.take k) + (c.toNat - 48)) := by show _ = _; rw [hts, natOf_snoc]
      have HDG := Lib.hid (fun W => refdigit_any c W)
      rw [hd] at HDG
      have hc : 48 ≤ c.toNat ∧ c.toNat ≤ 57 := by
        unfold isD at hd
        simpa using hd
      generalize natOf (T.take k) = V at HBG HV HN
      generalize c.toNat = d at hx HN HDG hc
      obtain ⟨hc1, hc2⟩ := hc
      clear hd hts
      cases big with
      | true =>
        have hV : 9223372036854775807 < V := of_decide_eq_true HBG.out.symm
        have HBG2 : Hid (true = decide (9223372036854775807 < natOf (T.take (k + 1)))) := by
          show _ = _
          rw [HN.out, decide_eq_true (by omega)]
        clear HBG hV
        go_wp2_with (go_at_call 28; refine (HDG.out _).mono ?_; rintro e _ ⟨rfl, rfl⟩)
        all_goals
          refine ⟨⟨k + 1, _, true, by omega, by go_num, rfl, rfl, ?_, ?_, HBG2.out, fun h => by simp at h, by trivial⟩, by simp [intOf]; omega⟩
          · first | exact (u64_bounds _).1 | omega
          · first | exact (u64_bounds _).2 | omega
      | false =>
        obtain rfl : z = V := HV.out rfl
        have hV : ¬ 9223372036854775807 < V := of_decide_eq_false HBG.out.symm
        clear HBG HV
        go_wp2_with (go_at_call 28; refine (HDG.out _).mono ?_; rintro e _ ⟨rfl, rfl⟩)
        all_goals
          first
          | (refine ⟨⟨k + 1, _, true, by omega, by go_num, rfl, rfl, ?_, ?_, ?_, fun h => by simp at h, by trivial⟩, by simp [intOf]; omega⟩
             · first | exact (u64_bounds _).1 | omega
             · first | exact (u64_bounds _).2 | omega
             · show true = _
               rw [HN.out, decide_eq_true (by omega)])
          | (refine ⟨⟨k + 1, _, false, by omega, by go_num, rfl, rfl, ?_, ?_, ?_, fun _ => ?_, by trivial⟩, by simp [intOf]; omega⟩
             · omega
             · omega
             · show false = _
               rw [HN.out, decide_eq_false (by omega)]
             · rw [HN.out]; omega)
    · obtain rfl : k = m := by omega
      have hpos : 0 < s.size := by
        have := HTL.out
        cases T with
        | nil => exact absurd rfl h0
        | cons c r => rw [List.length_cons] at this; omega
      have hx0 := str_index s 0 0 rfl hpos
      rw [HT.out] at hx0
      have hhd : T.head? = some (T.getD 0 0) := by
        cases T with
        | nil => exact absurd rfl h0
        | cons c r => rfl
      have hcf := cut_front s (k : Int) k rfl hml
      rw [HT.out] at hcf
      have hcs : (ofB (T.take k)).size ≤ 1000000 := by rw [ofB_size, List.length_take]; omega
      rw [hhd] at HNP
      clear hhd h0 hlt HV
      generalize T.getD 0 0 = c0 at hx0 HNP
      have hsz : (k : Int) < s.size ∨ ¬ (k : Int) < s.size := Decidable.em _
      have HDG : Hid (k < s.size → (∀ W, (Instr.index 9 (.string s) (.int .i64 k)).run Try.prog W = .ok (.int .u8 ((T.getD k 0).toNat : Int)) W) ∧ ∀ W, Calls Try.prog 28 #[.int .u8 ((T.getD k 0).toNat : Int)] W fun e w' => e = .returned (.bool false) ∧ W = w') := by
        intro h
        have h1 := str_index s k (k : Int) rfl h
        rw [HT.out] at h1
        have h2 := tw_end (f := isD) (s := T) (by rw [HM.out, HTL.out]; exact h)
        rw [HM.out] at h2
        refine ⟨h1, fun W => ?_⟩
        rw [← h2]
        exact refdigit_any _ W
      generalize T.getD k 0 = dk at HDG
      by_cases hA : 1 < k ∧ c0 = 48
      · have HE : Hid (numP (toB s) = no 3) := by show _ = _; rw [HNP.out, if_pos ⟨hA.1, by rw [hA.2]⟩]
        obtain ⟨hA1, rfl⟩ := hA
        have hki : (1 : Int) < k := by omega
        clear HNP HBG
        rcases hsz with hsz | hsz
        · obtain ⟨hxk, HD⟩ := HDG.out (by omega)
          have HD := Lib.hid HD
          clear HDG
          go_wp2_with (go_at_call 28; refine (HD.out _).mono ?_; rintro e _ ⟨rfl, rfl⟩)
          refine bodyPost_ret (results_cell_row rfl _ _ w.heap.size 47 (lpc (no 3)).toArray (0, 0) _ rfl (new_row w (no 3)) Try.underlying47 rfl (pc_info _)) rfl ⟨by rw [HE.out], new_below _ _⟩
        · clear HDG
          go_wp2
          refine bodyPost_ret (results_cell_row rfl _ _ w.heap.size 47 (lpc (no 3)).toArray (0, 0) _ rfl (new_row w (no 3)) Try.underlying47 rfl (pc_info _)) rfl ⟨by rw [HE.out], new_below _ _⟩
      · have HNQ : Hid (numP (toB s) = if 9223372036854775807 < natOf (T.take k) then no 2 else ⟨2, T.take k, k, 0⟩) := by show _ = _; rw [HNP.out, if_neg (fun h => hA ⟨h.1, Option.some.inj h.2⟩)]
        have hcase : (k : Int) ≤ 1 ∨ (1 : Int) < k ∧ ((c0.toNat : Int) == 48) = false := by
          by_cases h1 : (k : Int) ≤ 1
          · exact .inl h1
          · refine .inr ⟨by omega, beq_eq_false_iff_ne.2 fun e => hA ⟨by omega, (u8_is c0 48 (by decide)).2 (by omega)⟩⟩
        clear HNP hA
        cases big with
        | true =>
          have HE : Hid (numP (toB s) = no 2) := by show _ = _; rw [HNQ.out, if_pos (of_decide_eq_true HBG.out.symm)]
          clear HNQ HBG
          rcases hcase with hk1 | ⟨hk1, hbq⟩
          all_goals
            rcases hsz with hsz | hsz
            · obtain ⟨hxk, HD⟩ := HDG.out (by omega)
              have HD := Lib.hid HD
              clear HDG
              go_wp2_with (go_at_call 28; refine (HD.out _).mono ?_; rintro e _ ⟨rfl, rfl⟩)
              refine bodyPost_ret (results_cell_row rfl _ _ w.heap.size 47 (lpc (no 2)).toArray (0, 0) _ rfl (new_row w (no 2)) Try.underlying47 rfl (pc_info _)) rfl ⟨by rw [HE.out], new_below _ _⟩
            · clear HDG
              go_wp2
              refine bodyPost_ret (results_cell_row rfl _ _ w.heap.size 47 (lpc (no 2)).toArray (0, 0) _ rfl (new_row w (no 2)) Try.underlying47 rfl (pc_info _)) rfl ⟨by rw [HE.out], new_below _ _⟩
        | false =>
          have HE : Hid (numP (toB s) = ⟨2, T.take k, k, 0⟩) := by show _ = _; rw [HNQ.out, if_neg (of_decide_eq_false HBG.out.symm)]
          clear HNQ HBG
          rcases hcase with hk1 | ⟨hk1, hbq⟩
          all_goals
            rcases hsz with hsz | hsz
            · obtain ⟨hxk, HD⟩ := HDG.out (by omega)
              have HD := Lib.hid HD
              clear HDG
              go_wp2_with (go_at_call 28; refine (HD.out _).mono ?_; rintro e _ ⟨rfl, rfl⟩)
              refine bodyPost_ret (results_cell_row rfl _ _ w.heap.size 47 (lpc (⟨2, T.take k, k, 0⟩)).toArray (0, 0) _ rfl (new_row w (⟨2, T.take k, k, 0⟩)) Try.underlying47 rfl (pc_info _)) rfl ⟨by rw [HE.out], new_below _ _⟩
            · clear HDG
              go_wp2
              refine bodyPost_ret (results_cell_row rfl _ _ w.heap.size 47 (lpc (⟨2, T.take k, k, 0⟩)).toArray (0, 0) _ rfl (new_row w (⟨2, T.take k, k, 0⟩)) Try.underlying47 rfl (pc_info _)) rfl ⟨by rw [HE.out], new_below _ _⟩
end Lx
end Go.Proofs.Ytpiiklpehfkdaaa
