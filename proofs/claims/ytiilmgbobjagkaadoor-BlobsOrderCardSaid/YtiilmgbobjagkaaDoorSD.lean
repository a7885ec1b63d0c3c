/-
  Layer 2 (sha): the walk of mix: a block goes into the words.
-/
import Derived.Test.YtiilmgbobjagkaaDoorSC
namespace Go.Proofs.YtiilmgbobjagkaaDoor
namespace Sh
open Go.RowKit

set_option maxRecDepth 100000 in
set_option maxHeartbeats 2000000 in
theorem mix_any (b : Nat) (s : St) (n : Nat) (r : Bs) (w : World) (B : Nat) (hr : r.length = 64) (hrow : Row w b 71 (HC s.list n r)) (htab : Tab w) (hB : B ≤ b) (hB0 : 0 < B) :
    Calls Tryd.prog 31 #[.pointer (some ⟨b, 0, none⟩)] w fun e w' => e = .returned (.tuple #[]) ∧ Row w' b 71 (HC (compress s r).list n r) ∧ Below B w w' := by
  have HR := Lib.hid hrow
  have HL := Lib.hid hr
  have HT := Lib.hid htab
  have hbl := hrow.lt
  clear hrow hr htab
  go_enter Tryd.func31, Tryd.ntmps31
  go_wp2_with fail
  refine (expand_any b s.list n r w rfl HL.out HR.out).mono ?_
  rintro e w1 ⟨rfl, hb1⟩
  have HB1 := Lib.hid hb1
  have hs1 := hb1.size
  clear hb1
  go_wp2_with (refine wpList_store_all rfl 76 (.tmp 2) (.tmp 18) rfl w1.heap.size (vals (sch r 64)) rfl rfl 76 (vals (List.replicate 64 0)) (Row.new_at _ _ _ _ rfl rfl) ?s1 ?s2 (vals_one _) ?_)
  case s1 => rw [vals_length, sch_length]; kernel_rfl
  case s2 => rw [vals_length, vals_length, sch_length, List.length_replicate]
  intro w2 HS HU
  have hb2 : Below w.heap.size w w2 := below_turn (HB1.out.alloc hs1 _) HU.out hs1
  have HB2 := Lib.hid hb2
  have hrb := HR.out.below hb2 hbl
  have HRB := Lib.hid hrb
  have c0 : w2.cell? ⟨b, 0, none⟩ = some (.int .u32 (s.a.toNat : Int)) := hrb.cell 0
  have c1 : w2.cell? ⟨b, 1, none⟩ = some (.int .u32 (s.b.toNat : Int)) := hrb.cell 1
  have c2 : w2.cell? ⟨b, 2, none⟩ = some (.int .u32 (s.c.toNat : Int)) := hrb.cell 2
  have c3 : w2.cell? ⟨b, 3, none⟩ = some (.int .u32 (s.d.toNat : Int)) := hrb.cell 3
  have c4 : w2.cell? ⟨b, 4, none⟩ = some (.int .u32 (s.e.toNat : Int)) := hrb.cell 4
  have c5 : w2.cell? ⟨b, 5, none⟩ = some (.int .u32 (s.f.toNat : Int)) := hrb.cell 5
  have c6 : w2.cell? ⟨b, 6, none⟩ = some (.int .u32 (s.g.toNat : Int)) := hrb.cell 6
  have c7 : w2.cell? ⟨b, 7, none⟩ = some (.int .u32 (s.h.toNat : Int)) := hrb.cell 7
  clear hb2 hrb
  go_wp2
  go_quiet (fail)
  rename Nat => n1
  go_wp2
  go_quiet (fail)
  rename Nat => n2
  go_wp2_with (refine wpList_load_all rfl 76 (.tmp 2) rfl w1.heap.size rfl 76 (vals (sch r 64)) _ HS.out Tryd.underlying76 rfl ?l1 ?_)
  case l1 => rw [vals_length, sch_length]; kernel_rfl
  clear HU c0 c1 c2 c3 c4 c5 c6 c7
  go_loopw [3, 4, 5, 6, 7, 8, 9, 10, 60] (fun xa xb xc xd xe xf xg xh i wr => ∃ (k d : Nat) (t : St), k ≤ 64 ∧ i = .int .i64 k ∧ Hid (t = rounds (sch r 64) s k) ∧ xa = .int .u32 (t.a.toNat : Int) ∧ xb = .int .u32 (t.b.toNat : Int) ∧ xc = .int .u32 (t.c.toNat : Int) ∧ xd = .int .u32 (t.d.toNat : Int) ∧ xe = .int .u32 (t.e.toNat : Int) ∧ xf = .int .u32 (t.f.toNat : Int) ∧ xg = .int .u32 (t.g.toNat : Int) ∧ xh = .int .u32 (t.h.toNat : Int) ∧ wr = w2.drewN d) (fun _ _ _ _ _ _ _ _ i _ => 64 - (intOf i).toNat)
  case atStart => exact ⟨0, _, s, by omega, rfl, Lib.hid rfl, rfl, rfl, rfl, rfl, rfl, rfl, rfl, rfl, rfl⟩
  case round =>
    obtain ⟨k, d, t, hk, rfl, HTS, rfl, rfl, rfl, rfl, rfl, rfl, rfl, rfl, rfl⟩ := hrel
    by_cases hlt : k < 64
    · have hki : (k : Int) < 64 := by omega
      have hix := fun W : World => index_run (P := Tryd.prog) 76 66 64 (vals (sch r 64)) k _ Tryd.underlying76 (by rw [vals_length, sch_length]) (vals_get _ k (by rw [sch_length]; exact hlt)) _ Tryd.underlying66 rfl (by kernel_rfl) W
      have htab := HT.out.below (HB2.out.mono (Nat.le_of_lt (Nat.lt_of_le_of_lt hB hbl))) hB0 k hlt
      have hr1 := rounds_succ' (sch r 64) s k
      rw [← HTS.out] at hr1
      generalize K.getD k 0 = kk at htab hr1
      generalize (sch r 64).getD k 0 = ww at hix hr1
      have HR1 := Lib.hid hr1
      clear hr1
      go_wp2
      go_quiet ((go_at_call 38; exact quiet_s (rotated_e _ _) ⟨_, rfl⟩))
      rename Nat => n1
      go_wp2_with fail
      rw [t1_eq]
      refine (rotated_a _ _).mono ?_
      rintro e w' ⟨rfl, rfl⟩
      go_wp2
      go_roundw
      case rel =>
        refine ⟨k + 1, _, step t kk ww, by omega, by go_num, ?_, ?_, rfl, rfl, rfl, ?_, rfl, rfl, rfl, rfl⟩
        · exact HR1.out.symm
        · rw [band, band, band, bxor, bxor, badd, badd]; rfl
        · rw [badd]; rfl
      case measure => simp [intOf]; omega
    · have hk64 : k = 64 := by omega
      have htt : compress s r = addSt s t := by
        rw [HTS.out, hk64]; rfl
      have HCM := Lib.hid htt
      clear htt hk64 HTS
      go_wp2
      have hrb : Row (w2.drewN d) b 71 (HC (wadd s t 0) n r) := HRB.out
      have hbb : Below w.heap.size w (w2.drewN d) := below_drewN HB2.out d
      have HRB0 := Lib.hid hrb
      have HBB0 := Lib.hid hbb
      clear hrb hbb
      generalize w2.drewN d = w4 at HRB0 HBB0 ⊢
      go_loopw [119] (fun i wr => ∃ q : Nat, q ≤ 8 ∧ i = .int .i64 q ∧ Hid (Row wr b 71 (HC (wadd s t q) n r)) ∧ Hid (Below B w wr)) (fun i _ => 8 - (intOf i).toNat)
      case atStart => exact ⟨0, by omega, rfl, HRB0, HBB0.out.mono (Nat.le_of_lt (Nat.lt_of_le_of_lt hB hbl))⟩
      case round =>
        obtain ⟨q, hq, rfl, HR5, HB5⟩ := hrel
        by_cases hlq : q < 8
        · have hqi : (q : Int) < 8 := by omega
          have hix := fun W : World => index_run (P := Tryd.prog) 67 66 8 [.int .u32 (t.a.toNat : Int), .int .u32 (t.b.toNat : Int), .int .u32 (t.c.toNat : Int), .int .u32 (t.d.toNat : Int), .int .u32 (t.e.toNat : Int), .int .u32 (t.f.toNat : Int), .int .u32 (t.g.toNat : Int), .int .u32 (t.h.toNat : Int)] q _ Tryd.underlying67 rfl (vals_get t.list q (by rw [St.list_length]; exact hlq)) _ Tryd.underlying66 rfl (by kernel_rfl) W
          have hcq := HR5.out.cell q
          rw [HC_word _ _ _ (wadd_length s t q) q hlq] at hcq
          have hfq := HR5.out.frozen q
          have hws := wadd_succ s t q hlq
          have hg0 : (wadd s t q).getD q 0 = s.list.getD q 0 := by
            rw [List.getD_eq_getElem?_getD, wadd_get _ _ _ _ hlq, if_neg (by omega)]; rfl
          rw [hg0] at hcq
          generalize s.list.getD q 0 = x at hcq hws
          generalize t.list.getD q 0 = y at hix hws
          have HWS := Lib.hid hws
          clear hws hg0
          go_wp2
          go_region
          go_wp2
          go_roundw
          case rel =>
            refine ⟨q + 1, by omega, by go_num, ?_, ?_⟩
            · rw [badd, HWS.out, ← HC_set _ _ _ _ _ (by rw [wadd_length]; exact hlq)]
              exact HR5.out.set _ _
            · exact (HB5.out.setCell (by simpa using hB) _).drew
          case measure => simp [intOf]; omega
        · have hq8 : q = 8 := by omega
          subst hq8
          rw [wadd_end, ← HCM.out] at HR5
          go_wp2
          go_end0
          exact ⟨rfl, HR5.out, HB5.out⟩
end Sh
end Go.Proofs.YtiilmgbobjagkaaDoor
