/-
  Layer 9 (lex): the walk of the document's First.
-/
import Derived.Test.YtpiiklpehfkdaaaND
namespace Go.Proofs.Ytpiiklpehfkdaaa
namespace Lx
open Go.RowKit Kr

theorem first_gap {c : UInt8} {r : Bs} (h : 0 < gapV (c :: r)) : firstV (c :: r) = ⟨0, [], gapV (c :: r), 0⟩ := by
  rw [gap_cons] at h ⊢
  rw [first_cons]
  by_cases h1 : isG c = true
  · rw [if_pos h1, if_pos h1]
  · rw [if_neg h1] at h
    rw [if_neg h1, if_neg h1]
    by_cases h2 : c = 35
    · rw [if_pos h2, if_pos h2]
    · rw [if_neg h2] at h; exact absurd h (Nat.lt_irrefl _)
theorem first_no_gap {c : UInt8} {r : Bs} (h : ¬ 0 < gapV (c :: r)) : firstV (c :: r) = if isL c = true then ⟨1, (c :: r).takeWhile isW, ((c :: r).takeWhile isW).length, 0⟩ else if isD c = true then numP (c :: r) else if c = 34 then qt r [] 1 else signP c r := by
  rw [gap_cons] at h
  rw [first_cons]
  by_cases h1 : isG c = true
  · rw [if_pos h1] at h; exact absurd Nat.one_pos h
  · rw [if_neg h1] at h
    rw [if_neg h1]
    by_cases h2 : c = 35
    · rw [if_pos h2] at h
      subst h2
      rw [tw_pos (by decide)] at h
      omega
    · rw [if_neg h2]
theorem gap_le (c : UInt8) (r : Bs) : gapV (c :: r) ≤ r.length + 1 := by
  rw [gap_cons]
  split
  · omega
  · split
    · exact tw_le _ _
    · omega

theorem below_drawn {B : Nat} {a w : World} (h : Below B a w) (n : Nat) : Below B a (w.drewN n) := ⟨h.os, h.tape, h.output, h.size, h.block⟩
set_option maxRecDepth 100000 in
set_option maxHeartbeats 2000000 in
theorem reffirst_any (s : ByteArray) (w : World) (h0 : toB s ≠ []) (hs : s.size ≤ 1000000) :
    Calls Try.prog 20 #[.string s] w fun e w' => e = .returned (vpc (firstV (toB s))) ∧ Below w.heap.size w w' := by
  have HGP := Lib.hid (fun W => refgap_any s W h0 hs)
  have HNM := Lib.hid (fun W => refnumber_any s W h0 hs)
  have HQU := Lib.hid (fun W => refquoted_any s W h0 hs)
  obtain ⟨T, hT⟩ : ∃ T, toB s = T := ⟨_, rfl⟩
  have HT := Lib.hid hT
  have HTL : Hid (T.length = s.size) := by show _ = _; rw [← hT]; rfl
  rw [hT] at h0 HGP HNM HQU
  obtain ⟨R, hR⟩ : ∃ R, firstV T = R := ⟨_, rfl⟩
  have HR := Lib.hid hR
  rw [hT, hR]
  clear hT hR
  cases T with
  | nil => exact absurd rfl h0
  | cons c r =>
    have hpos : 0 < s.size := by have := HTL.out; rw [List.length_cons] at this; omega
    have hx0 := str_index s 0 0 rfl hpos
    rw [HT.out, List.getD_cons_zero] at hx0
    have hgl := gap_le c r
    have hgl2 : r.length + 1 = s.size := HTL.out
    have HB0 : Hid (Below w.heap.size w (w.alloc (.cells zpc.toArray 47))) := new_below _ _
    have HW0 : Hid (Row (w.alloc (.cells zpc.toArray 47)) w.heap.size 47 zpc) := Row.new_at _ _ _ _ rfl rfl
    by_cases hg : 0 < gapV (c :: r)
    · have HE : Hid (R = ⟨0, [], gapV (c :: r), 0⟩) := by show _ = _; rw [← HR.out, first_gap hg]
      generalize gapV (c :: r) = g at *
      have hgi : (0 : Int) < g := by omega
      go_enter Try.func20, Try.ntmps20
      go_wp2_with (go_at_call 26; refine (HGP.out _).mono ?_; rintro e _ ⟨rfl, rfl⟩)
      refine bodyPost_ret (results_cell_row rfl _ _ w.heap.size 47 (lpc ⟨0, [], g, 0⟩).toArray (0, 0) _ rfl (new_row w ⟨0, [], g, 0⟩) Try.underlying47 rfl (pc_info _)) rfl ⟨by rw [HE.out], new_below _ _⟩
    · have HF := Lib.hid (first_no_gap hg)
      have hgi : ¬ (0 : Int) < (gapV (c :: r) : Int) := by omega
      generalize gapV (c :: r) = g at HGP hgi
      have HLT := Lib.hid (fun W => refletter_any c W)
      have HDG := Lib.hid (fun W => refdigit_any c W)
      cases hl : isL c with
      | true =>
        rw [hl] at HLT HF
        have HE : Hid (R = ⟨1, (c :: r).takeWhile isW, ((c :: r).takeWhile isW).length, 0⟩) := by show _ = _; rw [← HR.out, HF.out, if_pos rfl]
        obtain ⟨m, hm⟩ : ∃ m, ((c :: r).takeWhile isW).length = m := ⟨_, rfl⟩
        have HM := Lib.hid hm
        have hml : m ≤ s.size := by rw [← hm, ← HTL.out]; exact tw_le _ _
        rw [hm, tw_take isW (c :: r), hm] at HE
        clear hm hl HF
        go_enter Try.func20, Try.ntmps20
        go_wp2_with (first
          | (go_at_call 26; refine (HGP.out _).mono ?_; rintro e _ ⟨rfl, rfl⟩)
          | (go_at_call 27; refine (HLT.out _).mono ?_; rintro e _ ⟨rfl, rfl⟩))
        go_loopw [4] (fun i wr => ∃ k : Nat, k ≤ m ∧ i = .int .i64 k ∧ wr = w.alloc (.cells zpc.toArray 47)) (fun i _ => m - (intOf i).toNat)
        case atStart => exact ⟨0, Nat.zero_le _, rfl, rfl⟩
        case round =>
          obtain ⟨k, hk, rfl, rfl⟩ := hrel
          have hcf := cut_front s (k : Int) k rfl (by omega)
          rw [HT.out] at hcf
          have hcs : (ofB ((c :: r).take k)).size ≤ 1000000 := by rw [ofB_size, List.length_take]; omega
          by_cases hsz : k < s.size
          · have hki : (k : Int) < s.size := by omega
            have hxk := str_index s k (k : Int) rfl hsz
            rw [HT.out] at hxk
            have HW : Hid (isW ((c :: r).getD k 0) = decide (k < m)) := by
              show _ = _
              by_cases hlt : k < m
              · rw [decide_eq_true hlt]; exact tw_in_front (by rw [HM.out]; exact hlt)
              · obtain rfl : k = m := by omega
                rw [decide_eq_false hlt]
                have := tw_end (f := isW) (s := c :: r) (by rw [HM.out, HTL.out]; exact hsz)
                rw [HM.out] at this
                exact this
            generalize (c :: r).getD k 0 = d at hxk HW
            have HL2 := Lib.hid (fun W => refletter_any d W)
            have HD2 := Lib.hid (fun W => refdigit_any d W)
            have HWD : Hid ((isL d || isD d) = decide (k < m)) := HW.out
            clear HLT HDG
            by_cases hlt : k < m
            · rw [decide_eq_true hlt] at HWD
              cases hld : isL d with
              | true =>
                rw [hld] at HL2
                go_wp2_with (first
                  | (go_at_call 27; refine (HL2.out _).mono ?_; rintro e _ ⟨rfl, rfl⟩)
                  | (go_at_call 28; refine (HD2.out _).mono ?_; rintro e _ ⟨rfl, rfl⟩))
                go_roundw
                case rel => exact ⟨k + 1, by omega, by go_num, by trivial⟩
                case measure => simp [intOf]; omega
              | false =>
                have hdd : isD d = true := by have := HWD.out; rw [hld] at this; simpa using this
                rw [hld] at HL2
                rw [hdd] at HD2
                go_wp2_with (first
                  | (go_at_call 27; refine (HL2.out _).mono ?_; rintro e _ ⟨rfl, rfl⟩)
                  | (go_at_call 28; refine (HD2.out _).mono ?_; rintro e _ ⟨rfl, rfl⟩))
                go_roundw
                case rel => exact ⟨k + 1, by omega, by go_num, by trivial⟩
                case measure => simp [intOf]; omega
            · obtain rfl : k = m := by omega
              rw [decide_eq_false hlt] at HWD
              have hboth : isL d = false ∧ isD d = false := by have := HWD.out; simpa using this
              rw [hboth.1] at HL2
              rw [hboth.2] at HD2
              go_wp2_with (first
                | (go_at_call 27; refine (HL2.out _).mono ?_; rintro e _ ⟨rfl, rfl⟩)
                | (go_at_call 28; refine (HD2.out _).mono ?_; rintro e _ ⟨rfl, rfl⟩))
              refine bodyPost_ret (results_cell_row rfl _ _ w.heap.size 47 (lpc ⟨1, (c :: r).take k, k, 0⟩).toArray (0, 0) _ rfl (new_row w ⟨1, (c :: r).take k, k, 0⟩) Try.underlying47 rfl (pc_info _)) rfl ⟨by rw [HE.out], new_below _ _⟩
          · obtain rfl : k = m := by omega
            have hki : ¬ (k : Int) < s.size := by omega
            go_wp2
            refine bodyPost_ret (results_cell_row rfl _ _ w.heap.size 47 (lpc ⟨1, (c :: r).take k, k, 0⟩).toArray (0, 0) _ rfl (new_row w ⟨1, (c :: r).take k, k, 0⟩) Try.underlying47 rfl (pc_info _)) rfl ⟨by rw [HE.out], new_below _ _⟩
      | false =>
        rw [hl] at HLT HF
        rw [if_neg (by simp)] at HF
        cases hd : isD c with
        | true =>
          rw [hd] at HDG HF
          rw [if_pos rfl] at HF
          obtain ⟨N, hN⟩ : ∃ N, numP (c :: r) = N := ⟨_, rfl⟩
          rw [hN] at HNM HF
          have HE : Hid (R = N) := by show _ = _; rw [← HR.out, HF.out]
          clear hN HF
          go_enter Try.func20, Try.ntmps20
          go_wp2_with (first
          | (go_at_call 26; refine (HGP.out _).mono ?_; rintro e _ ⟨rfl, rfl⟩)
          | (go_at_call 27; refine (HLT.out _).mono ?_; rintro e _ ⟨rfl, rfl⟩)
          | (go_at_call 28; refine (HDG.out _).mono ?_; rintro e _ ⟨rfl, rfl⟩))
          refine (HNM.out _).mono ?_
          rintro e w1 ⟨rfl, hb1⟩
          have HB1 : Hid (Below w.heap.size w w1) := HB0.out.trans (hb1.mono HB0.out.size)
          have HW1 : Hid (Row w1 w.heap.size 47 zpc) := HW0.out.below hb1 (by simp)
          have d0 := HW1.out.frozen 0
          have d1 := HW1.out.frozen 1
          have d2 := HW1.out.frozen 2
          have d3 := HW1.out.frozen 3
          have e0 := HW1.out.cell 0
          have e1 := HW1.out.cell 1
          have e2 := HW1.out.cell 2
          have e3 := HW1.out.cell 3
          clear hb1
          go_wp2
          refine bodyPost_ret (results_cell_row rfl _ _ w.heap.size 47 (lpc N).toArray (0, 0) _ rfl (pc_set HW1.out rfl _ _ _ _) Try.underlying47 rfl (pc_info _)) rfl ⟨by rw [HE.out], pc_below HB1.out _ _ _ _⟩
        | false =>
          rw [hd] at HDG HF
          rw [if_neg (by simp)] at HF
          by_cases h34 : c = 34
          · subst h34
            obtain ⟨N, hN⟩ : ∃ N, qt r [] 1 = N := ⟨_, rfl⟩
            have HQ2 : Hid (∀ W, Calls Try.prog 30 #[.string s] W fun e w' => e = .returned (vpc N) ∧ Below W.heap.size W w') := fun W => by rw [← hN]; exact HQU.out W
            have HE : Hid (R = N) := by show _ = _; rw [← HR.out, HF.out, if_pos rfl, hN]
            clear hN HF HQU
            go_enter Try.func20, Try.ntmps20
            go_wp2_with (first
          | (go_at_call 26; refine (HGP.out _).mono ?_; rintro e _ ⟨rfl, rfl⟩)
          | (go_at_call 27; refine (HLT.out _).mono ?_; rintro e _ ⟨rfl, rfl⟩)
          | (go_at_call 28; refine (HDG.out _).mono ?_; rintro e _ ⟨rfl, rfl⟩))
            refine (HQ2.out _).mono ?_
            rintro e w1 ⟨rfl, hb1⟩
            have HB1 : Hid (Below w.heap.size w w1) := HB0.out.trans (hb1.mono HB0.out.size)
            have HW1 : Hid (Row w1 w.heap.size 47 zpc) := HW0.out.below hb1 (by simp)
            have d0 := HW1.out.frozen 0
            have d1 := HW1.out.frozen 1
            have d2 := HW1.out.frozen 2
            have d3 := HW1.out.frozen 3
            have e0 := HW1.out.cell 0
            have e1 := HW1.out.cell 1
            have e2 := HW1.out.cell 2
            have e3 := HW1.out.cell 3
            clear hb1
            go_wp2
            refine bodyPost_ret (results_cell_row rfl _ _ w.heap.size 47 (lpc N).toArray (0, 0) _ rfl (pc_set HW1.out rfl _ _ _ _) Try.underlying47 rfl (pc_info _)) rfl ⟨by rw [HE.out], pc_below HB1.out _ _ _ _⟩
          · rw [if_neg h34] at HF
            have j34 : ((c.toNat : Int) == 34) = false := beq_eq_false_iff_ne.2 fun e => h34 ((u8_is c 34 (by decide)).2 (by have := c.toNat_lt; omega))
            by_cases hA : (c = 61 ∨ c = 33) ∧ r.head? = some 61
            · have HE : Hid (R = ⟨4, [c, 61], 2, 0⟩) := by
                show _ = _
                rw [← HR.out, HF.out]
                unfold signP
                rw [if_pos hA]
              obtain ⟨hc, hr⟩ := hA
              cases r with
              | nil => simp at hr
              | cons d r' =>
                obtain rfl : d = 61 := by simpa using hr
                have h2s : 2 ≤ s.size := by rw [← hgl2, List.length_cons]; omega
                have hki : (1 : Int) < s.size := by omega
                have hx1 : ∀ W, (Instr.index 9 (.string s) (.int .i64 1)).run Try.prog W = .ok (.int .u8 61) W := by
                  have := str_index s 1 1 rfl (by omega)
                  rw [HT.out] at this
                  exact this
                have hcf := cut_front s 2 2 rfl h2s
                rw [HT.out] at hcf
                have hcf2 : ∀ W, (Instr.slice 9 (.string s) none (some (.int .i64 2)) none).run Try.prog W = .ok (.string (ofB [c, 61])) W := hcf
                have hcs : (ofB [c, 61]).size ≤ 1000000 := by rw [ofB_size]; simp
                clear hcf hr HF
                rcases hc with rfl | rfl
                all_goals
                  go_enter Try.func20, Try.ntmps20
                  go_wp2_with (first
              | (go_at_call 26; refine (HGP.out _).mono ?_; rintro e _ ⟨rfl, rfl⟩)
              | (go_at_call 27; refine (HLT.out _).mono ?_; rintro e _ ⟨rfl, rfl⟩)
              | (go_at_call 28; refine (HDG.out _).mono ?_; rintro e _ ⟨rfl, rfl⟩))
                · refine bodyPost_ret (results_cell_row rfl _ _ w.heap.size 47 (lpc (⟨4, [61, 61], 2, 0⟩)).toArray (0, 0) _ rfl (new_row w (⟨4, [61, 61], 2, 0⟩)) Try.underlying47 rfl (pc_info _)) rfl ⟨by rw [HE.out], new_below _ _⟩
                · refine bodyPost_ret (results_cell_row rfl _ _ w.heap.size 47 (lpc (⟨4, [33, 61], 2, 0⟩)).toArray (0, 0) _ rfl (new_row w (⟨4, [33, 61], 2, 0⟩)) Try.underlying47 rfl (pc_info _)) rfl ⟨by rw [HE.out], new_below _ _⟩
            · have HF2 : Hid (R = if c ∈ signs then ⟨4, [c], 1, 0⟩ else no 3) := by
                show _ = _
                rw [← HR.out, HF.out]
                unfold signP
                rw [if_neg hA]
              have hcase : ¬ (1 : Int) < s.size ∨ (1 : Int) < s.size ∧ (∃ d : UInt8, (∀ W, (Instr.index 9 (.string s) (.int .i64 1)).run Try.prog W = .ok (.int .u8 (d.toNat : Int)) W) ∧ ((((d.toNat : Int) == 61) = false) ∨ (((d.toNat : Int) == 61) = true ∧ ((c.toNat : Int) == 61) = false ∧ ((c.toNat : Int) == 33) = false))) := by
                by_cases h1 : (1 : Int) < s.size
                · refine .inr ⟨h1, ?_⟩
                  cases r with
                  | nil => simp at hgl2; omega
                  | cons d r' =>
                    have := str_index s 1 1 rfl (by omega)
                    rw [HT.out] at this
                    refine ⟨d, this, ?_⟩
                    by_cases hd : d = 61
                    · refine .inr ⟨by rw [hd]; rfl, beq_eq_false_iff_ne.2 fun e => hA ⟨.inl ((u8_is c 61 (by decide)).2 (by have := c.toNat_lt; omega)), by rw [hd]; rfl⟩, beq_eq_false_iff_ne.2 fun e => hA ⟨.inr ((u8_is c 33 (by decide)).2 (by have := c.toNat_lt; omega)), by rw [hd]; rfl⟩⟩
                    · exact .inl (beq_eq_false_iff_ne.2 fun e => hd ((u8_is d 61 (by decide)).2 (by have := d.toNat_lt; omega)))
                · exact .inl h1
              have hcf := cut_front s 1 1 rfl hpos
              rw [HT.out] at hcf
              have hcf2 : ∀ W, (Instr.slice 9 (.string s) none (some (.int .i64 1)) none).run Try.prog W = .ok (.string (ofB [c])) W := hcf
              have hcs : (ofB [c]).size ≤ 1000000 := by rw [ofB_size]; simp
              clear hcf hA HF hgl hgl2
              go_enter Try.func20, Try.ntmps20
              rcases hcase with h1 | ⟨h1, d, hx1, h2 | ⟨h2, h3, h4⟩⟩
              all_goals
                go_wp2_with (first
              | (go_at_call 26; refine (HGP.out _).mono ?_; rintro e _ ⟨rfl, rfl⟩)
              | (go_at_call 27; refine (HLT.out _).mono ?_; rintro e _ ⟨rfl, rfl⟩)
              | (go_at_call 28; refine (HDG.out _).mono ?_; rintro e _ ⟨rfl, rfl⟩))
                go_loopw [6] (fun i wr => ∃ k : Nat, k ≤ 11 ∧ i = .int .i64 k ∧ Hid (c ∉ signs.take k) ∧ ∃ n, wr = (w.alloc (.cells zpc.toArray 47)).drewN n) (fun i _ => 11 - (intOf i).toNat)
                case atStart => exact ⟨0, Nat.zero_le _, rfl, (by show _ ∉ _; simp), 0, (World.drewN_zero _).symm⟩
                case round =>
                  obtain ⟨k, hk, rfl, HNI, n, rfl⟩ := hrel
                  by_cases hlt : k < 11
                  · have hki : (k : Int) < 11 := by omega
                    have hxk := str_index (⟨#[61, 43, 40, 41, 91, 93, 123, 125, 44, 58, 59]⟩ : ByteArray) k (k : Int) rfl hlt
                    have hsg : toB (⟨#[61, 43, 40, 41, 91, 93, 123, 125, 44, 58, 59]⟩ : ByteArray) = signs := rfl
                    have hts := take_snoc signs (k := k) hlt
                    have hmem : signs.getD k 0 ∈ signs := by
                      rw [List.getD_eq_getElem?_getD, List.getElem?_eq_getElem hlt]
                      exact List.getElem_mem _
                    rw [hsg] at hxk
                    generalize signs.getD k 0 = x at hxk hts hmem
                    have hx256 := x.toNat_lt
                    have hc256 := c.toNat_lt
                    by_cases hcx : c = x
                    · have HE : Hid (R = ⟨4, [c], 1, 0⟩) := by show _ = _; rw [HF2.out, if_pos (by rw [hcx]; exact hmem)]
                      have heq : ((x.toNat : Int) == (c.toNat : Int)) = true := by rw [hcx]; simp
                      clear hts hmem hcx HNI
                      go_wp2
                      go_quiet (fail)
                      go_wp2
                      refine bodyPost_ret (results_cell_row rfl _ _ w.heap.size 47 (lpc ⟨4, [c], 1, 0⟩).toArray (0, 0) _ rfl (pc_set (HW0.out.drewN _) rfl _ _ _ _) Try.underlying47 rfl (pc_info _)) rfl ⟨by rw [HE.out], pc_below (below_drawn HB0.out _) _ _ _ _⟩
                    · have heq : ((x.toNat : Int) == (c.toNat : Int)) = false := beq_eq_false_iff_ne.2 fun e => hcx (UInt8.toNat_inj.1 (by omega))
                      have HN2 : Hid (c ∉ signs.take (k + 1)) := by
                        show _ ∉ _
                        rw [hts]
                        intro h
                        rcases List.mem_append.1 h with h | h
                        · exact HNI.out h
                        · exact hcx (List.mem_singleton.1 h)
                      clear hts hmem hcx HNI
                      go_wp2
                      go_quiet (fail)
                      go_wp2
                      go_roundw
                      case rel => exact ⟨k + 1, by omega, by go_num, HN2.out, _, rfl⟩
                      case measure => simp [intOf]; omega
                  · obtain rfl : k = 11 := by omega
                    have HE : Hid (R = no 3) := by show _ = _; rw [HF2.out, if_neg (show c ∉ signs from HNI.out)]
                    go_wp2
                    refine bodyPost_ret (results_cell_row rfl _ _ w.heap.size 47 (lpc (no 3)).toArray (0, 0) _ rfl (pc_set (HW0.out.drewN _) rfl _ _ _ _) Try.underlying47 rfl (pc_info _)) rfl ⟨by rw [HE.out], pc_below (below_drawn HB0.out _) _ _ _ _⟩
end Lx
end Go.Proofs.Ytpiiklpehfkdaaa
