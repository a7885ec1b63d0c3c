/-
  Layer 2 (sha): the walk of Add.
-/
import Derived.Test.YtogpigfepebibaaGreatDoorMSC
import Derived.Deep.RegionLaw
namespace Go.Proofs.YtogpigfepebibaaGreatDoor
namespace Sh
open Go.RowKit

section
variable {P : Program}
theorem bvals_append (a b : Bs) : bvals (a ++ b) = bvals a ++ bvals b := by simp [bvals]

/-- 'copy(dst, s)', s a string, dst in a block that is known whole. -/
theorem run_copy_text (w : World) (dT sT ty elem : TypeId) (g o dLen dCap : Nat) (s : ByteArray) (old : List Value) (t : TypeId) (n : Nat)
    (hu : P.underlying dT = some (.slice elem)) (hs : (P.info? elem).map (·.size) = some 1) (hg : Row w g t old) (hn : Nat.min s.size dLen = n) (hfit : o + n ≤ old.length) :
    (Builtin.copy_ #[dT, sT] ty #[.slice (some ⟨g, o, none⟩) dLen dCap, .string s]).run P w =
      .ok (goInt n) (w.setRow g (old.take o ++ (bvals (s.data.toList.take n) ++ old.drop (o + n))).toArray) := by
  have hns : n ≤ s.data.toList.length := by
    have : s.data.toList.length = s.size := by simp
    rw [this, ← hn]; exact Nat.min_le_left _ _
  have hlen : (bvals (s.data.toList.take n)).length = n := by rw [bvals_length, List.length_take]; omega
  have hst := run_storeCells_at P g o t (bvals (s.data.toList.take n)) 0 old.toArray w hg (by rw [hlen]; simpa using hfit) (by
    intro v hv
    obtain ⟨x, _, rfl⟩ := List.mem_map.1 hv
    rfl)
  rw [hlen] at hst
  simp only [Nat.add_zero, List.append_assoc] at hst
  have htk : bvals (s.data.toList.take n) = List.take n (List.map (fun b : UInt8 => Value.int .u8 (b.toNat : Int)) s.data.toList) := by
    simp [bvals, List.map_take]
  rw [htk] at hst ⊢
  cases hq : P.info? elem with
  | none => simp [hq] at hs
  | some i =>
    simp [Builtin.copy_, run_underlying hu, Builtin.lenOf, Builtin.firstCells, sizeOf, typeInfo, hq, hn]
    rw [hst]
    simp [Result.andThen]
/-- .. as a step of a region that draws its order. -/
theorem step_copy_text {ops : Array Oper} {o : Oper} {a : Act} {w : World} {K : Act → World → Prop} {Q : Exit → Act → World → Prop} {E : Prop} (hgd : o.guard = none) (d s : Operand) (dT sT : TypeId)
    (ho : o.op = .call { callee := .builtin .copy, args := #[d, s], argTypes := #[dT, sT] }) (elem : TypeId) (hu : P.underlying dT = some (.slice elem)) (hsz : (P.info? elem).map (·.size) = some 1)
    (g off dLen dCap : Nat) (S : ByteArray) (hd : a.eval d = .slice (some ⟨g, off, none⟩) dLen dCap) (hs : a.eval s = .string S)
    (old : List Value) (t : TypeId) (hg : Row w g t old) (n : Nat) (hn : Nat.min S.size dLen = n) (hfit : off + n ≤ old.length)
    (h : ∀ w', Hid (Row w' g t (old.take off ++ (bvals (S.data.toList.take n) ++ old.drop (off + n)))) → Hid (Turn g w w') → K (a.put o.dst (goInt n)) w') :
    if Region.wanted o (yielded ops a.tmps) = true then Oper.wp P o a w K Q else E := by
  have hw : Region.wanted o (yielded ops a.tmps) = true := by simp [Region.wanted, hgd]
  rw [if_pos hw]
  have hrun := run_copy_text (P := P) w dT sT o.type elem g off dLen dCap S old t n hu hsz hg hn hfit
  unfold Oper.wp
  simp only [execOp, ho, resolve, invoke, builtin]
  simp [hd, hs, hrun, Result.andThen]
  exact h _ (Row.laid hg _) ⟨rfl, rfl, rfl, by simp, fun k hk => setRow_other w g k _ hk⟩
end

theorem slice_rest (b M : Nat) (W : World) :
    (Instr.sliceAt 130 (.pointer (some ⟨b, 9, none⟩)) (some (.int .u64 ((M : Int).tmod 64))) none none).run Tryz.prog W = .ok (.slice (some ⟨b, 9 + M % 64, none⟩) (64 - M % 64) (64 - M % 64)) W := by
  have e : (M : Int).tmod 64 = ((M % 64 : Nat) : Int) := by rw [Int.tmod_eq_emod_of_nonneg (by omega)]; omega
  have hl : M % 64 < 64 := Nat.mod_lt _ (by decide)
  generalize M % 64 = m at e hl
  have e1 : Tryz.prog.arrayLen 130 = 64 := by kernel_rfl
  have e2 : Tryz.prog.elem 130 = 5 := by kernel_rfl
  have e3 : (sizeOf 5).run Tryz.prog W = .ok 1 W := by kernel_rfl
  rw [e, run_sliceAt_array_l (P := Tryz.prog) W 130 ⟨b, 9, none⟩ (by kernel_rfl) .u64 m (by omega) (by rw [e1]; omega), e1, e2, e3]
  simp only [Result.andThen, slicedAt, Int.toNat_natCast, Nat.mul_one]
  rw [if_neg (by omega)]
  unfold Addr.add
  split <;> simp_all

/-- Block b is a hash to which L was added. -/
def HashAt (w : World) (b : Nat) (L : Bs) : Prop := ∃ r, Has L r ∧ Row w b 132 (HC (st L).list L.length r)
def strLen : Value → Nat | .string s => s.size | _ => 0

set_option maxRecDepth 100000 in
set_option maxHeartbeats 2000000 in
theorem add_any (b : Nat) (L : Bs) (s : ByteArray) (w : World) (B : Nat) (hh : HashAt w b L) (htab : Tab w) (hB : B ≤ b) (hB0 : 0 < B) (hlen : L.length + s.size ≤ 1000000) :
    Calls Tryz.prog 72 #[.pointer (some ⟨b, 0, none⟩), .string s] w fun e w' => e = .returned (.tuple #[]) ∧ HashAt w' b (L ++ s.data.toList) ∧ Below B w w' := by
  have HH := Lib.hid hh
  have HT := Lib.hid htab
  clear hh htab
  go_enter Tryz.func72, Tryz.ntmps72
  go_wp2
  go_loopw [1] (fun v wr => ∃ (X : ByteArray) (D : Bs), v = .string X ∧ Hid (s.data.toList = D ++ X.data.toList) ∧ Hid (HashAt wr b (L ++ D)) ∧ Hid (Below B w wr)) (fun v _ => strLen v)
  case atStart => exact ⟨s, [], rfl, Lib.hid rfl, by rw [List.append_nil]; exact HH, Below.refl _ _⟩
  case round =>
    obtain ⟨X, D, rfl, HD, HH1, HB1⟩ := hrel
    by_cases h0 : X.size = 0
    · have hX : X.data.toList = [] := List.eq_nil_of_length_eq_zero (by simpa using h0)
      have he0 : X.toList = [] := by rw [ByteArray.toList_eq, hX]
      have hfin : HashAt wr b (L ++ s.data.toList) := by
        rw [HD.out, hX, List.append_nil]; exact HH1.out
      have HF := Lib.hid hfin
      clear hX hfin h0
      go_wp2
      go_end0
      exact ⟨rfl, HF.out, HB1.out⟩
    · have hpos : (0 : Int) < X.size := by omega
      have hne : X.toList ≠ [] := by
        rw [ByteArray.toList_eq]
        intro h
        have := congrArg List.length h
        simp at this
        exact h0 (by simpa using congrArg ByteArray.size this)
      have he1 : X.toList.isEmpty = false := by simpa using hne
      have he2 : (X.toList == []) = false := by simpa using hne
      clear hne
      obtain ⟨r, HR, hrow⟩ := HH1.out
      have HHR := Lib.hid HR
      have cs := hrow.cell 8
      rw [HC_size _ _ _ rfl] at cs
      obtain ⟨M, hM⟩ : ∃ M, M = (L ++ D).length := ⟨_, rfl⟩
      have hsz := congrArg List.length HD.out
      rw [List.length_append, show s.data.toList.length = s.size by simp, show X.data.toList.length = X.size by simp] at hsz
      have hMl : M + X.size ≤ 1000000 := by
        rw [hM, List.length_append]; omega
      rw [← hM] at cs hrow
      have HRW := Lib.hid hrow
      have HM := Lib.hid hM
      obtain ⟨n, hn⟩ : ∃ n, Nat.min X.size (64 - M % 64) = n := ⟨_, rfl⟩
      have hn' : min X.size (64 - M % 64) = n := hn
      have hn1 : 1 ≤ n := by omega
      have hn2 : n ≤ X.size := by omega
      have hn3 : n ≤ 64 - M % 64 := by omega
      have hfit : 9 + M % 64 + n ≤ (HC (st (L ++ D)).list M r).length := by
        rw [HC_length _ _ _ rfl HR.1]; omega
      have HN := Lib.hid hn
      have HF := Lib.hid hfit
      have hsl := slice_rest b M
      clear hrow HR hM h0 hsz hn hn' hfit
      go_wp2
      go_region_law (refine step_copy_text rfl (.tmp 17) (.tmp 18) 76 9 rfl 5 Tryz.underlying76 (by kernel_rfl) b (9 + M % 64) (64 - M % 64) (64 - M % 64) X rfl rfl (HC (st (L ++ D)).list M r) 132 HRW.out n HN.out HF.out ?_; intro w4 HG4 HT4)
      have hxl : (X.data.toList.take n).length = n := by rw [List.length_take, show X.data.toList.length = X.size by simp]; omega
      have hrow4 : Row w4 b 132 (HC (st (L ++ D)).list M (over r (M % 64) (X.data.toList.take n))) := by
        have h := HG4.out
        have e := HC_over (st (L ++ D)).list M r (M % 64) (X.data.toList.take n) rfl
        rw [hxl] at e
        rw [e] at h
        exact h
      have hb4 : Below B w w4 := below_turn HB1.out.drew HT4.out hB
      have hc8 := hrow4.cell 8
      rw [HC_size _ _ _ rfl] at hc8
      have hf8 := hrow4.frozen 8
      have HR4 := Lib.hid hrow4
      have HB4 := Lib.hid hb4
      have HXL := Lib.hid hxl
      clear hxl hrow4 hb4 HG4 HT4 cs hsl
      have hover : (over r (M % 64) (X.data.toList.take n)).length = 64 := by
        rw [over_length _ _ _ (by rw [HXL.out, HHR.out.1]; omega), HHR.out.1]
      have hr5 : Row (w4.setCell ⟨b, 8, none⟩ (.int .u64 ((M : Int) + n))) b 132 (HC (st (L ++ D)).list (M + n) (over r (M % 64) (X.data.toList.take n))) := by
        have h := HR4.out.set 8 (.int .u64 ((M : Int) + n))
        rw [show (M : Int) + n = ((M + n : Nat) : Int) by omega, HC_count _ _ _ _ rfl] at h
        rw [show (M : Int) + n = ((M + n : Nat) : Int) by omega]
        exact h
      have hb5 : Below B w (w4.setCell ⟨b, 8, none⟩ (.int .u64 ((M : Int) + n))) := HB4.out.setCell (by simpa using hB) _
      have hml : M + n = (L ++ (D ++ X.data.toList.take n)).length := by
        have e : ((L ++ D) ++ X.data.toList.take n).length = (L ++ D).length + (X.data.toList.take n).length := List.length_append
        rw [HM.out, ← List.append_assoc, e, HXL.out]
      have hsp : s.data.toList = (D ++ X.data.toList.take n) ++ (X.extract n X.size).data.toList := by
        rw [HD.out, List.append_assoc]
        congr 1
        rw [show (X.extract n X.size).data.toList = X.data.toList.drop n by simp [List.take_of_length_le]]
        exact (List.take_append_drop _ _).symm
      have HR5 := Lib.hid hr5
      have HB5 := Lib.hid hb5
      have HML := Lib.hid hml
      have HSP := Lib.hid hsp
      have HOV := Lib.hid hover
      clear hr5 hb5 hml hsp hover HR4 HB4
      by_cases hfull : M % 64 + n = 64
      · have hz : (((M : Int) + n) % 64 == 0) = true := by
          rw [beq_iff_eq]; omega
        have hfl := has_full HHR.out (X.data.toList.take n) (by rw [← HM.out, HXL.out]; exact hfull) (over r (M % 64) (X.data.toList.take n)) HOV.out
        rw [List.append_assoc, ← HM.out] at hfl
        have HFL := Lib.hid hfl
        clear hfull hfl
        go_wp2_with fail
        refine (mix_any b (st (L ++ D)) (M + n) _ _ B HOV.out HR5.out (HT.out.below HB5.out hB0) hB hB0).mono ?_
        rintro e w6 ⟨rfl, hr6, hb6⟩
        have hb7 := HB5.out.trans hb6
        have hh6 : HashAt w6 b (L ++ (D ++ X.data.toList.take n)) := by
          refine ⟨_, HFL.out.1, ?_⟩
          rw [HFL.out.2, ← HML.out]
          exact hr6
        have HH6 := Lib.hid hh6
        have HB7 := Lib.hid hb7
        clear hr6 hb6 hb7 hh6
        go_wp2
        go_roundw
        case rel => exact ⟨_, _, rfl, HSP, HH6, HB7⟩
        case measure => simp [strLen]; omega
      · have hz : (((M : Int) + n) % 64 == 0) = false := by
          rw [beq_eq_false_iff_ne]; omega
        have hpt := has_part HHR.out (X.data.toList.take n) (by rw [← HM.out, HXL.out]; omega)
        rw [List.append_assoc, ← HM.out] at hpt
        have hh6 : HashAt (w4.setCell ⟨b, 8, none⟩ (.int .u64 ((M : Int) + n))) b (L ++ (D ++ X.data.toList.take n)) := by
          refine ⟨_, hpt.1, ?_⟩
          rw [hpt.2, ← HML.out]
          exact HR5.out
        have HH6 := Lib.hid hh6
        clear hfull hpt hh6
        go_wp2
        go_roundw
        case rel => exact ⟨_, _, rfl, HSP, HH6, HB5⟩
        case measure => simp [strLen]; omega
end Sh
end Go.Proofs.YtogpigfepebibaaGreatDoor
