/-
  Layer 9 (lex): the reader: take.
-/
import Derived.Test.YtpiiklpehfkdaaaPE
import Derived.BigQuiet
namespace Go.Proofs.Ytpiiklpehfkdaaa
namespace Lx
open Go.RowKit Kr

theorem tells_keep {B : Nat} {f : Fv} {go : Bool × Bool → UInt8 → Bool} {st : Bool × Bool → UInt8 → Bool × Bool} {I : World → Bool × Bool → Prop} (h : Tells B f go st I) {W : World} {s : Bool × Bool} (hI : I W s) (n : Nat) : I (W.drewN n) s := h.keep W _ s hI (Nat.le_refl _) (fun _ _ _ => rfl)
theorem tells_set {B : Nat} {f : Fv} {go : Bool × Bool → UInt8 → Bool} {st : Bool × Bool → UInt8 → Bool × Bool} {I : World → Bool × Bool → Prop} (h : Tells B f go st I) {W : World} {s : Bool × Bool} (hI : I W s) {p : Addr} (hp : p.block < B) (v : Value) : I (W.setCell p v) s :=
  h.keep W _ s hI (by simp) (fun q hq _ => Below.heap_setCell W p v q (by omega))
theorem cut_mid (s : ByteArray) (i j : Int) (a b : Nat) (hi : i = (a : Int)) (hj : j = (b : Int)) (hab : a ≤ b) (h : b ≤ s.size) (W : World) :
    (Instr.slice 9 (.string s) (some (.int .i64 i)) (some (.int .i64 j)) none).run Try.prog W = .ok (.string (ofB (((toB s).drop a).take (b - a)))) W := by
  subst hi hj
  rw [run_slice_string W 9 s .i64 .i64 _ _ Try.underlying9 (by omega) (by omega) (by omega)]
  congr 2
  refine ba_eq ?_
  rw [toB_ofB]
  show (s.extract a b).data.toList = _
  simp [ByteArray.data_extract, Array.toList_extract, List.extract_eq_take_drop]
theorem lone_next {g : Nat} {w w1 w2 : World} (h : Lone g w w1) (h2 : Below w.heap.size w1 w2) : Lone g w w2 :=
  ⟨h2.os.trans h.os, h2.tape.trans h.tape, h2.output.trans h.output, Nat.le_trans h.size h2.size, fun q hq hn => (h2.block q hq).trans (h.block q hq hn)⟩
/-- What take leaves. -/
def Took (g k : Nat) (s : ByteArray) (T : Bs) (c : UInt8) (l st : Nat) (w w' : World) : Prop :=
  Row w' g T_R (lrd s ((k + (rawV c (T.drop (k + 1))).length : Nat) : Int) l st) ∧ Lone g w w'
set_option maxRecDepth 100000 in
set_option maxHeartbeats 4000000 in
theorem take_any (w : World) (g k l st : Nat) (s : ByteArray) (T : Bs) (c : UInt8) (hT : toB s = T) (h : Row w g T_R (lrd s k l st)) (hk : k < s.size) (hc : T.getD k 0 = c) (hs : s.size ≤ 100000) :
    Calls Try.prog 18 #[.pointer (some ⟨g, 0, none⟩)] w fun e w' => e = .returned (.tuple #[.int .i64 (kindV c : Int), .string (ofB (rawV c (T.drop (k + 1))))]) ∧ Took g k s T c l st w w' := by
  have HT := Lib.hid hT
  have HTL : Hid (T.length = s.size) := by show _ = _; rw [← hT]; rfl
  have hg := h.lt
  have HR := Lib.hid h
  obtain ⟨r, hr⟩ : ∃ r, T.drop (k + 1) = r := ⟨_, rfl⟩
  have hrl : r.length = s.size - (k + 1) := by rw [← hr, List.length_drop, HTL.out]
  have HRG : Hid (∀ j, r.getD j 0 = T.getD (k + 1 + j) 0) := fun j => by rw [← hr, List.getD_eq_getElem?_getD, List.getD_eq_getElem?_getD, List.getElem?_drop]
  have hx := str_index s k (k : Int) rfl hk
  rw [HT.out, hc] at hx
  have HBG := Lib.hid (begin_any c w)
  obtain ⟨m, hm⟩ : ∃ m, lenV c r = m := ⟨_, rfl⟩
  have hml : m ≤ r.length := by rw [← hm]; exact goN_le _ _ _ _
  have HGO : Hid (∀ j, j ≤ m → j < r.length → goV c (stN (stV c) (false, false) (r.take j)) (r.getD j 0) = decide (j < m)) := by
    rw [← hm]
    exact fun j => goN_at (goV c) (stV c) r (false, false) j
  have HSN : Hid (∀ j, j < r.length → stN (stV c) (false, false) (r.take (j + 1)) = stV c (stN (stV c) (false, false) (r.take j)) (r.getD j 0)) := fun j hj => stN_snoc _ _ _ hj
  have hraw : rawV c r = (T.drop k).take (1 + m) := by
    have := drop_getD T (k := k) (by rw [HTL.out]; exact hk)
    rw [this, hc, hr, Nat.add_comm 1 m, List.take_succ_cons]
    unfold rawV
    rw [hm]
  have HRAW := Lib.hid hraw
  have HRL : Hid ((rawV c r).length = 1 + m) := by show _ = _; rw [hraw, List.length_take, List.length_drop, HTL.out]; omega
  have c0 := HR.out.cell 0
  have c1 := HR.out.cell 1
  unfold Took
  rw [hr]
  clear hT h hr hm hraw hc
  have hki : (k : Int) < s.size := by omega
  go_enter Try.func18, Try.ntmps18
  go_wp2_with (fail)
  refine HBG.out.mono ?_
  rintro e w1 ⟨f, I, rfl, hte, hI, hb1⟩
  obtain ⟨fg, ffa, fca⟩ := f
  unfold Fv.val
  have HTE := Lib.hid hte
  have hI1 := Lib.hid hI
  have HB1 := Lib.hid hb1
  have HR1 := Lib.hid (HR.out.below hb1 hg)
  have a0 := HR1.out.cell 0
  have a1 := HR1.out.cell 1
  have a2 := HR1.out.cell 2
  have a3 := HR1.out.cell 3
  have z1 := HR1.out.frozen 1
  have eg : ∀ args w, (callFunc fg args).run Try.prog w = .ok (.enter fg args) w := hte.enter
  clear hte hI hb1 c0 c1 HBG hx
  go_wp2
  go_loopw [50] (fun _ wr => ∃ j : Nat, j ≤ m ∧ Hid (Row wr g T_R (lrd s ((k + 1 + j : Nat) : Int) l st)) ∧ Hid (I wr (stN (stV c) (false, false) (r.take j))) ∧ Hid (Lone g w wr)) (fun _ wr => s.size - atW wr g)
  case atStart =>
    refine ⟨0, Nat.zero_le _, ?_, ?_, ?_⟩
    · exact rd_cast (by omega) (HR1.out.set 1 (.int .i64 ((k : Int) + 1)))
    · exact tells_set HTE.out hI1.out (p := ⟨g, 1, none⟩) hg _
    · exact lone_set (Away.of HB1.out) _ _
  case round =>
    obtain ⟨j, hj, HRW, HI, HA⟩ := hrel
    have hws := HA.out.size
    have HAT := Lib.hid (at_is HRW.out)
    obtain ⟨q, hq⟩ : ∃ q, k + 1 + j = q := ⟨_, rfl⟩
    rw [hq] at HRW HAT
    have b0 := HRW.out.cell 0
    have b1 := HRW.out.cell 1
    have z1' := HRW.out.frozen 1
    by_cases hlt : q < s.size
    · have hkq : (q : Int) < s.size := by omega
      have hjr : j < r.length := by omega
      have hxq := str_index s q (q : Int) rfl hlt
      have hb : T.getD q 0 = r.getD j 0 := by rw [HRG.out, hq]
      rw [HT.out, hb] at hxq
      have HG := HGO.out j hj hjr
      have HSJ := Lib.hid (HSN.out j hjr)
      generalize r.getD j 0 = b at *
      have HID := Lib.hid (tells_keep HTE.out HI.out 1)
      have HCL := Lib.hid (HTE.out.tells (wr.drewN 1) _ b HID.out)
      rw [HG] at HCL
      by_cases hjm : j < m
      · rw [decide_eq_true hjm] at HCL
        clear HG HGO
        go_wp2
        go_still_tail 21, (by kernel_rfl)
        go_wp2_with fail
        refine HCL.out.mono ?_
        rintro e w2 ⟨rfl, hi2, hb2, hs2⟩
        have HI2 := Lib.hid hi2
        have HR2 : Hid (Row w2 g T_R (lrd s q l st)) := (HRW.out.drewN 1).below hb2 hg
        have HA2 : Hid (Lone g w w2) := lone_next (lone_drewN HA.out 1) hb2
        have y0 := HR2.out.cell 0
        have y1 := HR2.out.cell 1
        have zz := HR2.out.frozen 1
        clear hi2 hb2 b0 b1 z1' HCL HID
        go_wp2
        go_roundw
        case rel => exact ⟨j + 1, by omega, rd_cast (by omega) (HR2.out.set 1 (.int .i64 ((q : Int) + 1))), by rw [HSJ.out]; exact tells_set HTE.out HI2.out (p := ⟨g, 1, none⟩) hg _, lone_set HA2.out 1 _⟩
        case measure => exact meas (at_is (k := q + 1) (HR2.out.set 1 (.int .i64 ((q : Int) + 1)))) HAT.out (Nat.lt_succ_self _) hlt
      · rw [decide_eq_false hjm] at HCL
        obtain rfl : j = m := by omega
        have hcm := cut_mid s (k : Int) (q : Int) k q rfl rfl (by omega) (by omega)
        rw [HT.out, show q - k = 1 + j by omega] at hcm
        have hcs : (ofB ((T.drop k).take (1 + j))).size ≤ 1000000 := by rw [ofB_size, List.length_take, List.length_drop]; have := HTL.out; omega
        have HRW2 := HRAW.out
        generalize (T.drop k).take (1 + j) = raw at *
        clear HG HGO HRW2
        go_wp2
        go_still_tail 21, (by kernel_rfl)
        go_wp2_with fail
        refine HCL.out.mono ?_
        rintro e w2 ⟨rfl, hi2, hb2, hs2⟩
        have HR2 : Hid (Row w2 g T_R (lrd s q l st)) := (HRW.out.drewN 1).below hb2 hg
        have HA2 : Hid (Lone g w w2) := lone_next (lone_drewN HA.out 1) hb2
        have y0 := HR2.out.cell 0
        have y1 := HR2.out.cell 1
        have hqe : (q : Int) = ((k + (1 + j) : Nat) : Int) := by omega
        have HQE := Lib.hid hqe
        clear hi2 hb2 b0 b1 z1' HCL HID hqe hq
        go_wp2
        go_region
        all_goals
          go_wp2
          go_ret2
          rw [HRL.out, HRAW.out]
          exact ⟨rfl, rd_cast HQE.out (HR2.out.drewN 1), lone_drewN HA2.out 1⟩
    · have hkq : decide ((q : Int) < s.size) = false := decide_eq_false (by omega)
      obtain rfl : j = m := by omega
      have hcm := cut_mid s (k : Int) (q : Int) k q rfl rfl (by omega) (by omega)
      rw [HT.out, show q - k = 1 + j by omega] at hcm
      have hcs : (ofB ((T.drop k).take (1 + j))).size ≤ 1000000 := by rw [ofB_size, List.length_take, List.length_drop]; have := HTL.out; omega
      have hqe : (q : Int) = ((k + (1 + j) : Nat) : Int) := by omega
      have HQE := Lib.hid hqe
      generalize (T.drop k).take (1 + j) = raw at *
      clear HGO hqe hq
      go_wp2
      go_big_quiet (fail)
      go_wp2_with fail
      go_region
      all_goals
        go_wp2
        go_ret2
        rw [HRL.out, HRAW.out]
        exact ⟨rfl, rd_cast HQE.out (HRW.out.drewN 2), lone_drewN HA.out _⟩
end Lx
end Go.Proofs.Ytpiiklpehfkdaaa
