/-
  Layer 9 (lex): the landed All.
-/
import Derived.Test.YtpiiklpehfkdaaaPF
import Derived.Test.YtpiiklpehfkdaaaNG
namespace Go.Proofs.Ytpiiklpehfkdaaa
namespace Lx
open Go.RowKit Kr

theorem kind_le (c : UInt8) : kindV c ≤ 4 := by
  unfold kindV
  repeat' split
  all_goals decide
/-- What stands ready while All goes on: the place of the results, the tokens so far. -/
structure Mid (w : World) (v : Value) (acc : List Tk) (W : World) : Prop where
  res : Row W w.heap.size 26 (lpl (0, 0))
  below : Below w.heap.size w W
  own : OwnsT W (w.heap.size + 2) v acc
  two : w.heap.size + 2 ≤ W.heap.size
section
variable {w W W' : World} {v : Value} {acc : List Tk}
theorem Mid.next (h : Mid w v acc W) (hb : Below W.heap.size W W') : Mid w v acc W' :=
  ⟨h.res.below hb h.res.lt, h.below.trans (hb.mono h.below.size), h.own.keep hb, Nat.le_trans h.two hb.size⟩
theorem Mid.alloc (h : Mid w v acc W) (o : Obj) : Mid w v acc (W.alloc o) :=
  ⟨h.res.alloc o, h.below.alloc h.below.size o, h.own.alloc o, Nat.le_trans h.two (by simp)⟩
theorem Mid.drewN (h : Mid w v acc W) (n : Nat) : Mid w v acc (W.drewN n) := ⟨h.res, below_drawn h.below n, h.own, h.two⟩
theorem Mid.lone (h : Mid w v acc W) (hl : Lone (w.heap.size + 1) W W') : Mid w v acc W' :=
  ⟨(hl.block w.heap.size h.res.lt (Nat.ne_of_lt (Nat.lt_succ_self _))).trans h.res, h.below.trans (hl.below (fun q hq => by rw [hq]; exact Nat.le_succ _) h.below.size), owns_apart h.own (fun q hq hlt => hl.block q hlt (fun e => by rw [e] at hq; exact absurd hq (by omega))), Nat.le_trans h.two hl.size⟩
end
theorem raw_take (c : UInt8) (r : Bs) : (c :: r).take (rawV c r).length = rawV c r :=
  (List.prefix_iff_eq_take.1 (by unfold rawV; exact List.cons_prefix_cons.2 ⟨rfl, List.take_prefix _ _⟩)).symm
theorem lone_row {g q : Nat} {w w' : World} {t : TypeId} {l : List Value} (h : Row w q t l) (hl : Lone g w w') (hq : q ≠ g) : Row w' q t l := (hl.block q h.lt hq).trans h

set_option maxRecDepth 100000 in
set_option maxHeartbeats 4000000 in
theorem all_any (s : ByteArray) (w : World) : Calls Try.prog 9 #[.string s] w (AllAns (toB s) w) := by
  obtain ⟨i0, hi, hz0, hz1, hz2⟩ := info_parts tokInfo
  obtain ⟨T, hT⟩ : ∃ T, toB s = T := ⟨_, rfl⟩
  have HT := Lib.hid hT
  have HTL : Hid (T.length = s.size) := by show _ = _; rw [← hT]; rfl
  rw [hT]
  clear hT
  by_cases hbig : 65536 < s.size
  · have HE : Hid (ansV T = ([], 6, (1, 1))) := ans_long (by rw [HTL.out]; exact hbig)
    have hki : (65536 : Int) < s.size := by omega
    go_enter Try.func9, Try.ntmps9
    go_wp2
    refine bodyPost_ret (results_tmps_row rfl _ _ w.heap.size 26 (lpl (1, 1)) _ rfl (Row.new_at _ _ _ _ rfl rfl) Try.underlying26 rfl (by kernel_rfl)) rfl ?_
    refine ⟨none, 0, 0, by rw [HE.out]; rfl, by rw [HE.out]; rfl, by rw [HE.out]; exact KRow.none_ _ _ _, (Below.refl _ _).alloc (Nat.le_refl _) _⟩
  · have hki : ¬ (65536 : Int) < s.size := by omega
    have hkn : ¬ 65536 < T.length := by rw [HTL.out]; exact hbig
    have HKN := Lib.hid hkn
    clear hkn
    have HSK := Lib.hid (fun W k (h : Rs W (w.heap.size + 1) s T k) (hk : k ≤ s.size) => skip_any W (w.heap.size + 1) k s T HT.out h hk (by omega))
    go_enter Try.func9, Try.ntmps9
    go_wp2_with fail
    obtain ⟨w0, hw0⟩ : ∃ W, W = (w.alloc (.cells #[.int .i64 0, .int .i64 0] 26)).alloc (.cells #[.string s, .int .i64 0, .int .i64 1, .int .i64 0] T_R) := ⟨_, rfl⟩
    have HM0 : Hid (Mid w (.slice none 0 0) [] w0) := by
      rw [hw0]
      exact ⟨(Row.new_at _ _ _ _ rfl rfl).alloc _, ((Below.refl _ _).alloc (Nat.le_refl _) _).alloc (by simp) _, OwnsK.nil _ _, by simp⟩
    have HR0 : Hid (Rs w0 (w.heap.size + 1) s T 0) := by
      rw [hw0]
      exact Row.new_at _ _ _ _ (by simp) rfl
    rw [← hw0]
    clear hw0
    refine (HSK.out _ 0 HR0.out (Nat.zero_le _)).mono ?_
    rintro e w1 ⟨rfl, q1, _, hq1, hrs1, hlo1, hcu1, hgap1⟩
    have HM1 := Lib.hid (HM0.out.lone hlo1)
    have HRS1 := Lib.hid hrs1
    have HCU1 : Hid (cut (1, 1) T = appA [] (cut (plT T q1) (T.drop q1))) := by
      show cut (1, 1) T = _
      have h : cut (1, 1) T = cut (plT T q1) (T.drop q1) := hcu1
      rw [h]
      cases cut (plT T q1) (T.drop q1) <;> rfl
    have HGP1 := Lib.hid hgap1
    clear hlo1 hrs1 hcu1 hgap1 HM0 HR0
    go_wp2
    go_loopw [5] (fun o wr => ∃ (k cp : Nat) (A : Option Addr) (acc : List Tk), k ≤ s.size ∧ acc.length ≤ k ∧ o = .slice A acc.length cp ∧ Hid (Mid w (.slice A acc.length cp) acc wr) ∧ Hid (Rs wr (w.heap.size + 1) s T k) ∧ Hid (cut (1, 1) T = appA acc (cut (plT T k) (T.drop k))) ∧ Hid (k < s.size → isG (T.getD k 0) = false ∧ T.getD k 0 ≠ 35)) (fun _ wr => s.size - atW wr (w.heap.size + 1))
    case atStart => exact ⟨q1, 0, none, [], hq1, Nat.zero_le _, rfl, HM1.out, HRS1.out, HCU1.out, HGP1.out⟩
    case round =>
      obtain ⟨k, cp, A, acc, hk, hal, rfl, HM, HR, HC, HGP⟩ := hrel
      obtain ⟨l, hl⟩ : ∃ l, (plT T k).1 = l := ⟨_, rfl⟩
      obtain ⟨st, hst⟩ : ∃ st, stT T k = st := ⟨_, rfl⟩
      have HRR : Hid (Row wr (w.heap.size + 1) T_R (lrd s k l st)) := by show Row _ _ _ _; rw [← hl, ← hst]; exact HR.out
      have hpb := pl_bounds T k
      have hstk : st ≤ k := by rw [← hst]; unfold stT; omega
      have HPL : Hid (plT T k = (l, k - st + 1)) := by
        show _ = _
        rw [← hl, ← hst]
        unfold stT
        have : k - (k + 1 - (plT T k).2) + 1 = (plT T k).2 := by omega
        rw [this]
      have HL := Lib.hid hl
      have HST := Lib.hid hst
      have HAT := Lib.hid (at_is HRR.out)
      have c0 := HRR.out.cell 0
      have c1 := HRR.out.cell 1
      clear hl hst hpb HR
      by_cases hlt : k < s.size
      · have hki2 : (k : Int) < s.size := by omega
        obtain ⟨hg1, hg2⟩ := HGP.out hlt
        have hdr := drop_getD T (k := k) (by rw [HTL.out]; exact hlt)
        obtain ⟨c, hc⟩ : ∃ c, T.getD k 0 = c := ⟨_, rfl⟩
        rw [hc] at hg1 hg2 hdr
        have hft := first_take (r := T.drop (k + 1)) hg1 hg2
        rw [← hdr] at hft
        have hrl : (T.drop (k + 1)).length = s.size - (k + 1) := by rw [List.length_drop, HTL.out]
        have hraw : (rawV c (T.drop (k + 1))).length ≤ s.size - k := by
          unfold rawV
          rw [List.length_cons, List.length_take]
          omega
        have hraw0 : toB (ofB (rawV c (T.drop (k + 1)))) ≠ [] := by rw [toB_ofB]; unfold rawV; simp
        have hrawz : (ofB (rawV c (T.drop (k + 1)))).size ≤ 1000000 := by rw [ofB_size]; omega
        have HMN := Lib.hid (fun W => meaning_any (kindV c) (ofB (rawV c (T.drop (k + 1)))) W (kind_le c) hraw0 hrawz)
        rw [toB_ofB] at HMN
        have HTK := Lib.hid (fun W (h : Row W (w.heap.size + 1) T_R (lrd s k l st)) => take_any W (w.heap.size + 1) k l st s T c HT.out h hlt hc (by omega))
        unfold Took at HTK
        have HPLC := Lib.hid (place_any wr (w.heap.size + 1) s k l st HRR.out (by omega) hstk)
        obtain ⟨raw, hraweq⟩ : ∃ raw, rawV c (T.drop (k + 1)) = raw := ⟨_, rfl⟩
        obtain ⟨M, hM⟩ : ∃ M, meanV (kindV c) raw = M := ⟨_, rfl⟩
        obtain ⟨F, hF⟩ : ∃ F, firstV (T.drop k) = F := ⟨_, rfl⟩
        have HRAWE := Lib.hid hraweq
        rw [hraweq] at hft HMN HTK hraw
        rw [hM, hF] at hft
        rw [hM] at HMN
        have HFT := Lib.hid hft
        have HFE := Lib.hid hF
        have HCC := Lib.hid hc
        have HDR := Lib.hid hdr
        obtain ⟨mt, me⟩ := M
        obtain ⟨kd, hkd⟩ : ∃ kd, kindV c = kd := ⟨_, rfl⟩
        rw [hkd] at HFT HMN HTK
        clear hft hraweq hM hF hc hdr hg1 hg2 hraw0 hrawz hrl
        go_wp2_with fail
        refine HPLC.out.mono ?_
        rintro e w2 ⟨rfl, hb2⟩
        have HM2 := Lib.hid ((HM.out.next hb2).alloc (.cells #[.int .i64 (l : Int), .int .i64 ((k - st + 1 : Nat) : Int)] 26))
        have HR2 := Lib.hid ((HRR.out.below hb2 HRR.out.lt).alloc (.cells #[.int .i64 (l : Int), .int .i64 ((k - st + 1 : Nat) : Int)] 26))
        have HP2 : Hid (Row (w2.alloc (.cells #[.int .i64 (l : Int), .int .i64 ((k - st + 1 : Nat) : Int)] 26)) w2.heap.size 26 (lpl (l, k - st + 1))) := Row.new_at _ _ _ _ rfl rfl
        have hg2 : w.heap.size + 1 < w2.heap.size := Nat.lt_of_lt_of_le HRR.out.lt hb2.size
        have hpb1 : k - st + 1 ≤ 70000 ∧ l ≤ 70000 := by
          have h := pl_bounds T k
          rw [HPL.out] at h
          simp only at h
          omega
        obtain ⟨pc, hpc⟩ : ∃ pc, k - st + 1 = pc := ⟨_, rfl⟩
        rw [hpc] at HM2 HR2 HP2 HPL hpb1
        rw [hpc]
        clear hb2 HM HRR HPLC c0 c1 hpc
        go_wp2_with fail
        refine (HTK.out _ HR2.out).mono ?_
        rintro e w3 ⟨rfl, hr3, hl3⟩
        have HM3 := Lib.hid (HM2.out.lone hl3)
        have HP3 := Lib.hid (lone_row HP2.out hl3 (by omega))
        have HR3 := Lib.hid hr3
        clear hr3 hl3 HM2 HR2 HP2 HTK
        go_wp2_with fail
        refine (HMN.out _).mono ?_
        rintro e w4 ⟨rfl, hb4⟩
        have HM4 := Lib.hid (HM3.out.next hb4)
        have HP4 := Lib.hid (HP3.out.below hb4 HP3.out.lt)
        have HR4 := Lib.hid (HR3.out.below hb4 HR3.out.lt)
        clear hb4 HM3 HP3 HR3 HMN
        by_cases he : me = 0
        · subst he
          obtain ⟨hf1, hf2⟩ := HFT.out
          obtain ⟨hf3, hkd0, h10⟩ := hf2 hf1.symm
          have hE : (firstV (T.drop k)).err = 0 := by rw [HFE.out]; exact hf1.symm
          have hct := cut_take (T := T) (k := k) (by rw [HTL.out]; exact hlt) hE
          have hfit := first_fits (by rw [HTL.out]; exact hlt) hE
          rw [HFE.out, hf3, HPL.out] at hct
          rw [HFE.out, hf3] at hfit
          simp only at hct hfit
          rw [if_neg hkd0] at hct
          have HC2 : Hid (cut (1, 1) T = appA (acc ++ [Tk.mk kd mt l pc]) (cut (plT T (k + raw.length)) (T.drop (k + raw.length)))) := by
            show _ = _
            rw [HC.out, HPL.out, hct, app_app]
          rw [HTL.out] at hfit
          have hrt : (T.drop k).take raw.length = raw := by
            rw [HDR.out, ← HRAWE.out]
            exact raw_take c _
          have hsm := st_more (T := T) (k := k) (n := raw.length) (by rw [HTL.out]; exact hfit.2) (by rw [hrt]; exact h10)
          have HR5 : Hid (∀ W, Row W (w.heap.size + 1) T_R (lrd s ((k + raw.length : Nat) : Int) l st) → Rs W (w.heap.size + 1) s T (k + raw.length)) := fun W h => by
            unfold Rs
            rw [hsm.1, hsm.2]
            show Row W (w.heap.size + 1) T_R (lrd s ((k + raw.length : Nat) : Int) ((plT T k).1 : Int) (stT T k : Int))
            rw [show (plT T k).1 = l from HL.out, show stT T k = st from HST.out]
            exact h
          obtain ⟨hfit1, hfit2⟩ := hfit
          clear hf1 hf2 hf3 hkd0 h10 hE hct hrt hsm HC HFT HFE
          have y0 := HP4.out.cell 0
          have y1 := HP4.out.cell 1
          generalize raw.length = rl at *
          have hwb := HM4.out.below.size
          have hw2 := HM4.out.two
          go_wp2_with (at_builtin; refine wpList_append_own _ rfl _ _ 23 rfl (w.heap.size + 2) T_K i0 (.agg #[.int .i64 0, .string ⟨#[]⟩, .int .i64 0, .int .i64 0]) 4 40 Try.underlying23 hi hz0 hz1 hz2 rfl (by decide) _ acc.length (acc.flatMap encT) rfl ?d0a ⟨w4.heap.size, 0, none⟩ 1 1 (encT ⟨kd, mt, l, pc⟩) rfl rfl ?d1a (encT_one _) ?d3a ?d4a ?d5a ?_)
          case d0a => have := fun o1 => HM4.out.own.alloc o1; unfold OwnsK at this; exact this _
          case d3a => simp only [maxLen]; omega
          case d4a => omega
          case d5a => simp; omega
          · intro j u hj
            rw [Addr.add_lit, Nat.zero_add]
            exact new_cell w4 (encT ⟨kd, mt, l, pc⟩) _ hj
          intro v' w5 hown' hgrow _
          have hO5 := OwnsK.appended rfl hown'
          obtain ⟨A5, cap5, e⟩ := hO5.form
          subst e
          have hne0 : some w.heap.size ≠ (Value.slice A acc.length cp).ownBlock := fun e => by have := (World.ownsRow.lt HM4.out.own _ e.symm).1; omega
          have hne1 : some (w.heap.size + 1) ≠ (Value.slice A acc.length cp).ownBlock := fun e => by have := (World.ownsRow.lt HM4.out.own _ e.symm).1; omega
          have HM5 : Hid (Mid w (.slice A5 (acc ++ [Tk.mk kd mt l pc]).length cap5) (acc ++ [Tk.mk kd mt l pc]) w5) :=
            ⟨(HM4.out.res.alloc (.cells (encT ⟨kd, mt, l, pc⟩).toArray T_K)).grown hgrow hne0, (HM4.out.below.alloc hwb (.cells (encT ⟨kd, mt, l, pc⟩).toArray T_K)).grown hgrow (by rw [World.size_alloc]; omega) (fun q hq => by have := (World.ownsRow.lt HM4.out.own q hq).1; omega), hO5, Nat.le_trans (Nat.le_trans hw2 (by simp)) hgrow.size⟩
          have HR6 := HR5.out w5 ((HR4.out.alloc (.cells (encT ⟨kd, mt, l, pc⟩).toArray T_K)).grown hgrow hne1)
          have hla : (acc ++ [Tk.mk kd mt l pc]).length = acc.length + 1 := by rw [List.length_append, List.length_singleton]
          have HLA := Lib.hid hla
          have HSK5 := Lib.hid (HSK.out w5 (k + rl) HR6 hfit2)
          clear hown' hgrow hO5 hne0 hne1 HR6 hla HR5 HM4 HR4 HP4
          go_wp2_with fail
          refine HSK5.out.mono ?_
          rintro e w6 ⟨rfl, q6, hk6, hq6, hrs6, hlo6, hcu6, hgap6⟩
          have HM6 := Lib.hid (HM5.out.lone hlo6)
          have HRS6 := Lib.hid hrs6
          have HC6 : Hid (cut (1, 1) T = appA (acc ++ [Tk.mk kd mt l pc]) (cut (plT T q6) (T.drop q6))) := by
            show _ = _
            rw [HC2.out, hcu6]
          have HG6 := Lib.hid hgap6
          clear hlo6 hrs6 hcu6 hgap6 HM5 HC2 HSK5
          go_wp2
          go_roundw
          case rel => exact ⟨q6, cap5, A5, acc ++ [Tk.mk kd mt l pc], hq6, by rw [HLA.out]; omega, by rw [HLA.out], HM6.out, HRS6.out, HC6.out, HG6.out⟩
          case measure => exact meas (at_is HRS6.out) HAT.out (by omega) hlt
        · have hei : ¬ (me : Int) = 0 := by omega
          have HE : Hid (ansV T = ([], me, (l, pc))) := by
            refine ans_no HKN.out ?_
            have h1 : me = (firstV (T.drop k)).err := by rw [HFE.out]; exact HFT.out.1
            rw [HC.out, cut_bad (by rw [HTL.out]; exact hlt) (by rw [← h1]; exact he), ← h1, HPL.out]
            rfl
          have y0 := HP4.out.cell 0
          have y1 := HP4.out.cell 1
          have e0 := HM4.out.res.cell 0
          have e1 := HM4.out.res.cell 1
          have d0 := HM4.out.res.frozen 0
          have d1 := HM4.out.res.frozen 1
          have hne2 : w2.heap.size ≠ w.heap.size := by omega
          have HR5 := Lib.hid (((HM4.out.res.drewN 1).set 0 (.int .i64 (l : Int))).set 1 (.int .i64 (pc : Int)))
          have HB5 := Lib.hid (((HM4.out.below.drew).setCell (p := ⟨w.heap.size, 0, none⟩) (Nat.le_refl _) (.int .i64 (l : Int))).setCell (p := ⟨w.heap.size, 1, none⟩) (Nat.le_refl _) (.int .i64 (pc : Int)))
          clear he
          go_wp2
          go_region
          all_goals
            go_wp2
            refine bodyPost_ret (results_tmps_row rfl _ _ w.heap.size 26 (lpl (l, pc)) _ rfl HR5.out Try.underlying26 rfl (by kernel_rfl)) rfl ?_
            refine ⟨none, 0, 0, by rw [HE.out]; rfl, by rw [HE.out]; rfl, by rw [HE.out]; exact KRow.none_ _ _ _, HB5.out⟩
      · have hki2 : ¬ (k : Int) < s.size := by omega
        have HE : Hid (ansV T = (acc, 0, (0, 0))) := by
          refine ans_yes HKN.out ?_
          rw [HC.out, cut_end (by rw [HTL.out]; omega)]
          show Sum.inl (acc ++ []) = _
          rw [List.append_nil]
        have d0 := HM.out.res.frozen 0
        have d1 := HM.out.res.frozen 1
        have e0 := HM.out.res.cell 0
        have e1 := HM.out.res.cell 1
        have HR2 := Lib.hid ((HM.out.res.set 0 (.int .i64 0)).set 1 (.int .i64 0))
        have HB2 := Lib.hid ((HM.out.below.setCell (p := ⟨w.heap.size, 0, none⟩) (Nat.le_refl _) (.int .i64 0)).setCell (p := ⟨w.heap.size, 1, none⟩) (Nat.le_refl _) (.int .i64 0))
        have HK2 := Lib.hid (OwnsK.row (enc := encT) (fun _ => rfl) (owns_set (owns_set HM.out.own (p := ⟨w.heap.size, 0, none⟩) (by show w.heap.size < _; omega) (.int .i64 0)) (p := ⟨w.heap.size, 1, none⟩) (by show w.heap.size < _; omega) (.int .i64 0)))
        go_wp2
        refine bodyPost_ret (results_tmps_row rfl _ _ w.heap.size 26 (lpl (0, 0)) _ rfl HR2.out Try.underlying26 rfl (by kernel_rfl)) rfl ?_
        refine ⟨A, acc.length, cp, by rw [HE.out]; rfl, by rw [HE.out], ?_, HB2.out⟩
        rw [HE.out]
        exact HK2.out
end Lx
end Go.Proofs.Ytpiiklpehfkdaaa
