/-
  Layer 9 (lex): the reader: place, skip.
-/
import Derived.Test.YtpiiklpehfkdaaaPD
import Derived.Test.YtpiiklpehfkdaaaNQ
import Derived.BigRegion
namespace Go.Proofs.Ytpiiklpehfkdaaa
namespace Lx
open Go.RowKit Kr

abbrev T_R : TypeId := 40
/-- A reader's cells: the text, at, the line, its start. -/
abbrev lrd (s : ByteArray) (k l st : Int) : List Value := [.string s, .int .i64 k, .int .i64 l, .int .i64 st]
def atW (w : World) (g : Nat) : Nat := match w.cell? ⟨g, 1, none⟩ with | some v => (intOf v).toNat | none => 0
theorem at_is {w : World} {g k : Nat} {s : ByteArray} {l st : Int} (h : Row w g T_R (lrd s (k : Int) l st)) : atW w g = k := by
  have := h.cell 1
  unfold atW
  rw [this]
  simp [intOf]
/-- Block g alone may have turned. -/
abbrev Lone (g : Nat) (w w' : World) : Prop := Away (fun q => q = g) w w'
theorem lone_refl (g : Nat) (w : World) : Lone g w w := Away.of (Below.refl _ _)
theorem lone_set {g : Nat} {w w' : World} (h : Lone g w w') (j : Nat) (v : Value) : Lone g w (w'.setCell ⟨g, j, none⟩ v) :=
  ⟨h.os, h.tape, h.output, Nat.le_trans h.size (Nat.le_of_eq (by simp)), fun q hq hn => (Below.heap_setCell w' ⟨g, j, none⟩ v q hn).trans (h.block q hq hn)⟩
theorem lone_drewN {g : Nat} {w w' : World} (h : Lone g w w') (n : Nat) : Lone g w (w'.drewN n) := ⟨h.os, h.tape, h.output, h.size, h.block⟩
theorem lone_below {g : Nat} {w w1 w2 : World} (h : Lone g w w1) (h2 : Below w1.heap.size w1 w2) : Lone g w w2 :=
  ⟨h2.os.trans h.os, h2.tape.trans h.tape, h2.output.trans h.output, Nat.le_trans h.size h2.size, fun q hq hn => (h2.block q (Nat.lt_of_lt_of_le hq h.size)).trans (h.block q hq hn)⟩

set_option maxRecDepth 100000 in
set_option maxHeartbeats 1000000 in
theorem place_any (w : World) (g : Nat) (s : ByteArray) (k l st : Nat) (h : Row w g T_R (lrd s k l st)) (hk : k ≤ 1000000) (hst : st ≤ k) :
    Calls Try.prog 17 #[.pointer (some ⟨g, 0, none⟩)] w fun e w' => e = .returned (vpl (l, k - st + 1)) ∧ Below w.heap.size w w' := by
  have hg := h.lt
  have HR := Lib.hid h
  have c0 := HR.out.cell 0
  have c1 := HR.out.cell 1
  have c2 := HR.out.cell 2
  have c3 := HR.out.cell 3
  have e1 : ((k : Int) - (st : Int)) + 1 = ((k - st + 1 : Nat) : Int) := by omega
  have HE := Lib.hid e1
  clear e1
  go_enter Try.func17, Try.ntmps17
  go_wp2
  go_region
  all_goals
    go_wp2
    refine bodyPost_ret (results_cell_row rfl _ _ w.heap.size 26 (lpl (l, k - st + 1)).toArray (0, 0) _ rfl ?_ Try.underlying26 rfl (by kernel_rfl)) rfl ⟨rfl, ?_⟩
    · have : Row (w.alloc (.cells #[.int .i64 (l : Int), .int .i64 ((k : Int) - (st : Int) + 1)] 26)) w.heap.size 26 (lpl (l, k - st + 1)) := Row.new_at _ _ _ _ rfl (by rw [HE.out])
      exact this
    · exact ((Below.refl w.heap.size w).alloc (Nat.le_refl _) _).drew

/-- The reader stands at byte k. -/
def Rs (w : World) (g : Nat) (s : ByteArray) (T : Bs) (k : Nat) : Prop := Row w g T_R (lrd s k (plT T k).1 (stT T k))
theorem rd_cast {W : World} {g : Nat} {s : ByteArray} {x y l st : Int} (e : x = y) (h : Row W g T_R (lrd s x l st)) : Row W g T_R (lrd s y l st) := e ▸ h
theorem meas {n a b q q' : Nat} (h : a = q') (h0 : b = q) (hlt : q < q') (hn : q < n) : n - a < n - b := by omega
/-- What skip leaves. -/
def Skipped (g : Nat) (s : ByteArray) (T : Bs) (k : Nat) (w w' : World) : Prop :=
  ∃ k', k ≤ k' ∧ k' ≤ s.size ∧ Rs w' g s T k' ∧ Lone g w w' ∧ cut (plT T k) (T.drop k) = cut (plT T k') (T.drop k') ∧ (k' < s.size → isG (T.getD k' 0) = false ∧ T.getD k' 0 ≠ 35)
set_option maxRecDepth 100000 in
set_option maxHeartbeats 4000000 in
theorem skip_any (w : World) (g k : Nat) (s : ByteArray) (T : Bs) (hT : toB s = T) (h : Rs w g s T k) (hk : k ≤ s.size) (hs : s.size ≤ 100000) :
    Calls Try.prog 16 #[.pointer (some ⟨g, 0, none⟩)] w fun e w' => e = .returned (.tuple #[]) ∧ Skipped g s T k w w' := by
  have HT := Lib.hid hT
  have HTL : Hid (T.length = s.size) := by show _ = _; rw [← hT]; rfl
  have HR0 := Lib.hid h
  clear hT h
  go_enter Try.func16, Try.ntmps16
  go_wp2
  go_loopw [28] (fun _ wr => ∃ q : Nat, k ≤ q ∧ q ≤ s.size ∧ Hid (Rs wr g s T q) ∧ Hid (Lone g w wr) ∧ Hid (cut (plT T k) (T.drop k) = cut (plT T q) (T.drop q))) (fun _ wr => s.size - atW wr g)
  case atStart => exact ⟨k, Nat.le_refl _, hk, HR0.out, lone_refl _ _, rfl⟩
  case round =>
    obtain ⟨q, hkq, hq, HR, HA, HC⟩ := hrel
    have hgs := HR.out.lt
    have hpb := pl_bounds T q
    obtain ⟨l, hl⟩ : ∃ l, (plT T q).1 = l := ⟨_, rfl⟩
    obtain ⟨st, hst⟩ : ∃ st, stT T q = st := ⟨_, rfl⟩
    have HL := Lib.hid hl
    have HST := Lib.hid hst
    have HRR : Hid (Row wr g T_R (lrd s q l st)) := by show Row _ _ _ _; rw [← hl, ← hst]; exact HR.out
    have hstq : st ≤ q := by rw [← hst]; unfold stT; omega
    rw [hl] at hpb
    obtain ⟨_, _, hlq⟩ := hpb
    have hat := at_is HRR.out
    have HAT := Lib.hid hat
    have c0 := HRR.out.cell 0
    have c1 := HRR.out.cell 1
    have c2 := HRR.out.cell 2
    have c3 := HRR.out.cell 3
    have d1 := HRR.out.frozen 1
    have d2 := HRR.out.frozen 2
    have d3 := HRR.out.frozen 3
    clear hl hst hat
    by_cases hlt : q < s.size
    · have hki : (q : Int) < s.size := by omega
      have hx := str_index s q (q : Int) rfl hlt
      rw [HT.out] at hx
      have hdr := drop_getD T (k := q) (by rw [HTL.out]; exact hlt)
      have hnx := pl_next (T := T) (k := q) (by rw [HTL.out]; exact hlt)
      have HEND : Hid (isG (T.getD q 0) = false → T.getD q 0 ≠ 35 → Skipped g s T k w (wr.drewN 2)) := fun h1 h2 => ⟨q, hkq, hq, HR.out.drewN 2, lone_drewN HA.out 2, HC.out, fun _ => ⟨h1, h2⟩⟩
      generalize T.getD q 0 = c at *
      have hc256 := c.toNat_lt
      have HPL : Hid (c ≠ 10 → ∀ W, Row W g T_R (lrd s ((q + 1 : Nat) : Int) l st) → Rs W g s T (q + 1)) := fun h10 W h => by
        have e : plT T (q + 1) = ((plT T q).1, (plT T q).2 + 1) := by rw [hnx]; unfold step; rw [if_neg h10]
        unfold Rs stT
        rw [e]
        have h2 : (plT T q).1 = l := HL.out
        have h3 : q + 1 - (plT T q).2 = st := HST.out
        show Row W g T_R (lrd s ((q + 1 : Nat) : Int) ((plT T q).1 : Int) ((q + 1 + 1 - ((plT T q).2 + 1) : Nat) : Int))
        rw [h2, Nat.add_sub_add_right, h3]
        exact h
      have HLF : Hid (c = 10 → ∀ W, Row W g T_R (lrd s ((q + 1 : Nat) : Int) ((l + 1 : Nat) : Int) ((q + 1 : Nat) : Int)) → Rs W g s T (q + 1)) := fun h10 W h => by
        have e : plT T (q + 1) = ((plT T q).1 + 1, 1) := by rw [hnx]; unfold step; rw [if_pos h10]
        unfold Rs stT
        rw [e]
        have h2 : (plT T q).1 = l := HL.out
        show Row W g T_R (lrd s ((q + 1 : Nat) : Int) (((plT T q).1 + 1 : Nat) : Int) ((q + 1 + 1 - 1 : Nat) : Int))
        rw [h2]
        exact h
      have HGP : Hid (isG c = true → cut (plT T k) (T.drop k) = cut (plT T (q + 1)) (T.drop (q + 1))) := fun hg => HC.out.trans (cut_gap hdr hg)
      have HDR := Lib.hid hdr
      clear hdr hnx
      by_cases h10 : c = 10
      · subst h10
        have hx3 : ∀ W, (Instr.index 9 (.string s) (.int .i64 (q : Int))).run Try.prog W = .ok (.int .u8 10) W := hx
        have HC2 := Lib.hid (HGP.out rfl)
        have HW := HLF.out rfl
        have HX := Lib.hid (((HRR.out.drewN 2).set 2 (.int .i64 ((l : Int) + 1))).set 3 (.int .i64 ((q : Int) + 1)) |>.set 1 (.int .i64 ((q : Int) + 1)))
        have HA2 := Lib.hid (lone_set (lone_set (lone_set (lone_drewN HA.out 2) 2 (.int .i64 ((l : Int) + 1))) 3 (.int .i64 ((q : Int) + 1))) 1 (.int .i64 ((q : Int) + 1)))
        have HWH := Lib.hid HW
        clear hx HW HPL HLF HGP HEND HDR
        go_wp2
        go_region
        all_goals
          go_wp2
          go_region
          all_goals
            go_wp2
            go_roundw
            case rel => exact ⟨q + 1, by omega, by omega, HWH.out _ HX.out, HA2.out, HC2.out⟩
            case measure => exact meas (at_is (k := q + 1) HX.out) HAT.out (Nat.lt_succ_self _) hlt
      · have j10 : ((c.toNat : Int) == 10) = false := beq_eq_false_iff_ne.2 fun e => h10 ((u8_is c 10 (by decide)).2 (by omega))
        have HW := Lib.hid (HPL.out h10)
        clear HPL HLF
        by_cases hg : isG c = true
        · have HC2 := Lib.hid (HGP.out hg)
          have HX := Lib.hid ((HRR.out.drewN 2).set 1 (.int .i64 ((q : Int) + 1)))
          have HA2 := Lib.hid (lone_set (lone_drewN HA.out 2) 1 (.int .i64 ((q : Int) + 1)))
          rw [isG_eq] at hg
          simp only [Bool.or_eq_true, decide_eq_true_eq] at hg
          clear HGP HEND HDR h10
          generalize c.toNat = n at *
          rcases hg with rfl | rfl | rfl | rfl
          case inr.inr.inl => exact absurd j10 (by decide)
          all_goals
            go_wp2
            go_region
            all_goals
              go_wp2
              go_region
              all_goals
                go_wp2
                go_roundw
                case rel => exact ⟨q + 1, by omega, by omega, HW.out _ HX.out, HA2.out, HC2.out⟩
                case measure => exact meas (at_is (k := q + 1) HX.out) HAT.out (Nat.lt_succ_self _) hlt
        · have hgf : isG c = false := by simpa using hg
          have hg4 := hg
          rw [isG_eq] at hg4
          simp only [Bool.or_eq_true, decide_eq_true_eq, not_or] at hg4
          obtain ⟨g1, g2, _, g4⟩ := hg4
          have j32 : ((c.toNat : Int) == 32) = false := beq_eq_false_iff_ne.2 (by omega)
          have j9 : ((c.toNat : Int) == 9) = false := beq_eq_false_iff_ne.2 (by omega)
          have j13 : ((c.toNat : Int) == 13) = false := beq_eq_false_iff_ne.2 (by omega)
          by_cases h35 : c = 35
          · subst h35
            have hm1 := line_pos HDR.out
            have hm2 := line_le (T.drop q)
            rw [List.length_drop, HTL.out] at hm2
            have HC2 := Lib.hid (HC.out.trans (cut_note HDR.out))
            have hstm := st_more (T := T) (k := q) (n := lineV (T.drop q)) (by rw [HTL.out]; omega) (fun x hx => by
              unfold lineV at hx
              rw [take_tw] at hx
              exact tw_none10 _ x hx)
            have hsf := cut_from s (q : Int) q rfl (by omega)
            rw [HT.out] at hsf
            have hzf : (ofB (T.drop q)).size ≤ 1000000 := by rw [ofB_size, List.length_drop]; have := HTL.out; omega
            have hli := Lib.hid (fun W => line_any (ofB (T.drop q)) W hzf)
            rw [toB_ofB] at hli
            generalize lineV (T.drop q) = m at *
            have HSM : Hid (∀ W, Row W g T_R (lrd s ((q + m : Nat) : Int) l st) → Rs W g s T (q + m)) := fun W h => by
              unfold Rs
              rw [hstm.1, hstm.2]
              show Row W g T_R (lrd s ((q + m : Nat) : Int) ((plT T q).1 : Int) (stT T q : Int))
              rw [show (plT T q).1 = l from HL.out, show stT T q = st from HST.out]
              exact h
            generalize ofB (T.drop q) = sx at *
            have e1 : (q : Int) + ((m : Int) - 1) + 1 = ((q + m : Nat) : Int) := by omega
            have HX := Lib.hid (((HRR.out.drewN 3).set 1 (.int .i64 ((q : Int) + ((m : Int) - 1)))).set 1 (.int .i64 ((q : Int) + ((m : Int) - 1) + 1)))
            have HA2 := Lib.hid (lone_set (lone_set (lone_drewN HA.out 3) 1 (.int .i64 ((q : Int) + ((m : Int) - 1)))) 1 (.int .i64 ((q : Int) + ((m : Int) - 1) + 1)))
            have HE1 := Lib.hid e1
            have hw1 : IntKind.i64.wrap ((m : Int) - 1) = (m : Int) - 1 := IntWalk.i64_in _ (by omega)
            have hw2 : IntKind.i64.wrap ((q : Int) + ((m : Int) - 1)) = (q : Int) + ((m : Int) - 1) := IntWalk.i64_in _ (by omega)
            have hx3 : ∀ W, (Instr.index 9 (.string s) (.int .i64 (q : Int))).run Try.prog W = .ok (.int .u8 35) W := hx
            clear hx e1 hstm HGP HEND HDR hg g1 g2 g4 HW h10 j32 j9 j13 j10 hgf hc256
            go_wp2
            go_region
            all_goals
              go_wp2_with fail
              go_region
              all_goals
                go_wp2_with fail
                go_region_with (go_at_call 22; refine (hli.out _).mono ?_; rintro e _ ⟨rfl, rfl⟩)
                all_goals
                  go_wp2
                  go_roundw
                  case rel => exact ⟨q + m, by omega, by omega, HSM.out _ (rd_cast HE1.out HX.out), HA2.out, HC2.out⟩
                  case measure => exact meas (at_is (rd_cast HE1.out HX.out)) HAT.out (by omega) hlt
          · have j35 : ((c.toNat : Int) == 35) = false := beq_eq_false_iff_ne.2 fun e => h35 ((u8_is c 35 (by decide)).2 (by omega))
            have HE := Lib.hid (HEND.out hgf h35)
            clear HEND HGP HW hg hgf h35 h10 g1 g2 g4
            go_wp2
            go_region
            all_goals
              go_wp2
              go_region
              all_goals
                go_wp2
                go_returns
                exact ⟨rfl, HE.out⟩
    · have hki : ¬ (q : Int) < s.size := by omega
      have HE : Hid (Skipped g s T k w (wr.drewN 1)) := ⟨q, hkq, hq, HR.out.drewN 1, lone_drewN HA.out 1, HC.out, fun h => absurd h hlt⟩
      go_wp2
      go_region
      all_goals
        go_wp2
        go_returns
        exact ⟨rfl, HE.out⟩
end Lx
end Go.Proofs.Ytpiiklpehfkdaaa
