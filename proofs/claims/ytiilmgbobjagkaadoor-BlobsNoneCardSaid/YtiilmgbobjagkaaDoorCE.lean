/-
  Layer 6 (blobs): the program's Put, All and Size of a nil store; Check; Size.
-/
import Derived.Test.YtiilmgbobjagkaaDoorCD
namespace Go.Proofs.YtiilmgbobjagkaaDoor
namespace Bl
open Go.RowKit Kr Go.Maps

set_option maxRecDepth 100000 in
set_option maxHeartbeats 4000000 in
theorem prog_put_nil (w : World) (B : Nat) (X : ByteArray) (ho : Ok B w) (hX : X.size ≤ 1000) :
    Calls Tryd.prog 16 #[.pointer none, .string X] w fun e w' => e = .returned (dv (dig X)) ∧ Below w.heap.size w w' := by
  obtain ⟨D, hD⟩ : ∃ D, D = dig X := ⟨_, rfl⟩
  have HDL : Hid (D.length = 32) := by show _ = _; rw [hD]; exact dig_len _
  have HS := Lib.hid (fun (W : World) g (hc : W.cell? ⟨g, 0, none⟩ = some (.string X)) (hb : g < W.heap.size) (ho : Ok B W) => sum_one W B g X hX hc hb ho)
  rw [← hD] at HS ⊢
  have HO := Lib.hid ho
  have HBD : Hid ((Sh.bvals D).length = 32) := by show _ = _; rw [Sh.bvals_length, HDL.out]
  clear ho hD
  go_enter Tryd.func16, Tryd.ntmps16
  go_wp2_with fail
  refine (HS.out _ (w.heap.size + 1) (by simp) (by simp) ((HO.out.alloc _).alloc _)).mono ?_
  rintro e w1 ⟨rfl, hb1⟩
  have HW1 : Hid (w.heap.size < w1.heap.size) := by have := hb1.size; simp at this; show _ < _; omega
  have HB1 : Hid (Below w.heap.size w w1) := (((Below.refl _ _).alloc (Nat.le_refl _) _).alloc (by simp) _).trans (hb1.mono (by simp; omega))
  have HR1 : Hid (Sh.Row w1 w.heap.size 29 (Sh.bvals (List.replicate 32 0))) := (((zero_row w).alloc _).below hb1 (by simp; omega))
  clear hb1
  go_wp2_with (refine Sh.wpList_store_all rfl 29 (.tmp 5) (.tmp 8) rfl w1.heap.size (Sh.bvals D) rfl rfl 29 (Sh.bvals (List.replicate 32 0)) (zero_row w1) ?s1 ?s2 (Sh.bvals_one _) ?_)
  case s1 => rw [HBD.out]; kernel_rfl
  case s2 => rw [HBD.out, Sh.bvals_length, List.length_replicate]
  intro w2 HX2 HT2
  have HB2 : Hid (Below w.heap.size w w2) := Sh.below_turn (HB1.out.alloc HB1.out.size _) HT2.out HB1.out.size
  have HR2 : Hid (Sh.Row w2 w.heap.size 29 (Sh.bvals (List.replicate 32 0))) := (HR1.out.alloc _).turn HT2.out (Nat.ne_of_lt HW1.out)
  clear HT2 HB1 HR1
  go_wp2_with (first
    | (refine wpList_load_at rfl 29 (.tmp 5) rfl ⟨w1.heap.size, 0, none⟩ rfl (Sh.bvals D) 32 (digest_agg _) (digest_size _) HBD.out (row_cells HX2.out) ?_)
    | (refine Sh.wpList_store_all rfl 29 (.tmp 4) (.tmp 17) rfl w.heap.size (Sh.bvals D) rfl rfl 29 (Sh.bvals (List.replicate 32 0)) HR2.out ?s3 ?s4 (Sh.bvals_one _) ?_))
  case s3 => rw [HBD.out]; kernel_rfl
  case s4 => rw [HBD.out, Sh.bvals_length, List.length_replicate]
  intro w4 HR4 HT4
  go_wp2
  refine bodyPost_ret (results_cell_row rfl _ _ w.heap.size 29 (Sh.bvals D).toArray (0, 0) _ rfl HR4.out Tryd.underlying29 rfl ?r1) rfl ⟨rfl, Sh.below_turn HB2.out HT4.out (Nat.le_refl _)⟩
  case r1 => rw [List.size_toArray, HBD.out]; kernel_rfl

set_option maxRecDepth 100000 in
theorem prog_all_nil (w : World) : Calls Tryd.prog 21 #[.pointer none] w fun e w' => ∃ A cap, e = .returned (.slice A 0 cap) ∧ Below w.heap.size w w' := by
  go_enter Tryd.func21, Tryd.ntmps21
  go_wp2
  go_ret
  exact ⟨none, 0, rfl, Below.refl _ _⟩
set_option maxRecDepth 100000 in
theorem prog_size_nil (w : World) : Calls Tryd.prog 22 #[.pointer none] w fun e w' => e = .returned (.int .i64 0) ∧ Below w.heap.size w w' := by
  go_enter Tryd.func22, Tryd.ntmps22
  go_wp2
  go_ret
  exact ⟨rfl, Below.refl _ _⟩
theorem nils : Nils := ⟨prog_put_nil, fun w d _ => prog_get_nil w d, fun w d _ => prog_drop_nil w d, prog_all_nil, prog_size_nil⟩

set_option maxRecDepth 100000 in
set_option maxHeartbeats 4000000 in
theorem prog_check : PCheck := by
  intro w B d X ho hd hX
  obtain ⟨D, hD⟩ : ∃ D, D = dig X := ⟨_, rfl⟩
  obtain ⟨q, hq⟩ : ∃ q, decide (d = D) = q := ⟨_, rfl⟩
  have HDL : Hid (D.length = 32) := by show _ = _; rw [hD]; exact dig_len _
  have HBX : Hid ((Sh.bvals d).length = 32) := by show _ = _; rw [Sh.bvals_length, hd]
  have HSUM := Lib.hid (fun (W : World) b (hc : W.cell? ⟨b, 0, none⟩ = some (.string X)) (h1 : b < W.heap.size) (ho : Ok B W) => sum_one W B b X hX hc h1 ho)
  rw [← hD] at HSUM ⊢
  obtain ⟨w0, hw0⟩ : ∃ w0, w0 = w.alloc (.cells (Sh.bvals d).toArray 29) := ⟨_, rfl⟩
  have HX0 : Hid (Sh.Row w0 w.heap.size 29 (Sh.bvals d)) := by rw [hw0]; exact boxed w d
  have HB0 : Hid (Below w.heap.size w w0) := by rw [hw0]; exact (Below.refl _ _).alloc (Nat.le_refl _) _
  have HO0 : Hid (Ok B w0) := by rw [hw0]; exact Ok.alloc ho _
  have hq2 : decide (D = d) = q := by rw [← hq]; exact decide_eq_decide.2 ⟨Eq.symm, Eq.symm⟩
  have heq := bvals_inj HDL.out hd
  rw [hq2] at heq
  rw [hq]
  obtain ⟨T, hT⟩ : ∃ T : TypeId, T = 29 := ⟨_, rfl⟩
  have key : ∀ x, Op.load 29 x = Op.load T x := by intro x; rw [hT]
  obtain ⟨n, hn⟩ : ∃ n : Nat, n = 32 := ⟨_, rfl⟩
  have hagg : ∀ W, (isAgg T).run Tryd.prog W = .ok true W := fun W => by rw [hT]; kernel_rfl
  have hsize : ∀ W, (sizeOf T).run Tryd.prog W = .ok n W := fun W => by rw [hT, hn]; kernel_rfl
  have hq1 : ∀ W, Below w0.heap.size w0 W → (loadCellsFrom ⟨w.heap.size, 0, none⟩ 0 n #[]).run Tryd.prog W = .ok (Sh.bvals d).toArray W := fun W hb => row_load HX0.out hb (by rw [HBX.out, hn])
  have HDR := Lib.hid (Below.refl w0.heap.size w0).drew
  have HDD := HDR.out
  have HOB := Lib.hid (fun W (h : Below w0.heap.size w0 W) => HO0.out.below (h.mono HO0.out.2.2))
  clear hn hq hq2 hd ho hD
  go_enter Tryd.func20, Tryd.ntmps20
  go_wp2_with fail
  rw [← hw0]
  clear hw0
  simp only [key]
  clear key hT
  have HD1 := ((Below.refl w0.heap.size w0).alloc (Nat.le_refl _) (.cells #[.string X] 9)).drew
  have HOK : Hid (Ok B (w0.alloc (.cells #[.string X] 9)).drew) := HOB.out _ HD1
  first | (go_region_held3 (fun w' : World => Below w0.heap.size w0 w') (first | exact HDD | exact HD1 | assumption | exact below_step HD1 (by assumption)) ((first
        | (go_at_call 17; (refine Calls.mono (HSUM.out _ _ (by simp) (by simp) HOK.out) ?_); rintro e wa ⟨rfl, hba⟩)))) | fail
  all_goals
    go_wp2
    go_ret
    refine ⟨rfl, HB0.out.trans (Below.mono (?_ : Below w0.heap.size w0 _) HB0.out.size)⟩
    assumption
end Bl
end Go.Proofs.YtiilmgbobjagkaaDoor
