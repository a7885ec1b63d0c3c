/-
  Layer 6 (blobs): the program's Put.
-/
import Derived.Test.YtiilmgbobjagkaaDoorCB
namespace Go.Proofs.YtiilmgbobjagkaaDoor
namespace Bl
open Go.RowKit Kr Go.Maps

theorem zero_row (w : World) : Sh.Row (w.alloc (.cells (Sh.bvals (List.replicate 32 0)).toArray 29)) w.heap.size 29 (Sh.bvals (List.replicate 32 0)) := Sh.Row.new_at w _ _ _ rfl rfl

set_option maxRecDepth 100000 in
set_option maxHeartbeats 4000000 in
theorem prog_put (w : World) (B : Nat) (S : Nat → Prop) (b : Nat) (l : List Bb) (X : ByteArray) (h : Rs w S b l) (ho : Ok B w) (hf : Fits l) (hX : X.size ≤ 1000) (hy : ∀ y, Bl.get l (dig X) = some y → y = X.data.toList) :
    Calls Tryd.prog 16 #[ptr b, .string X] w fun e w' => ∃ S', e = .returned (dv (dig X)) ∧ Rs w' S' b (putV l (dig X, X.data.toList)) ∧ (∀ q, S' q → S q ∨ w.heap.size ≤ q) ∧ Away S w w' := by
  obtain ⟨m, h1, h2, h3⟩ := h
  obtain ⟨D, hD⟩ : ∃ D, D = dig X := ⟨_, rfl⟩
  have HDL : Hid (D.length = 32) := by show _ = _; rw [hD]; exact dig_len _
  have HS := Lib.hid (fun (W : World) g (hc : W.cell? ⟨g, 0, none⟩ = some (.string X)) (hb : g < W.heap.size) (ho : Ok B W) => sum_one W B g X hX hc hb ho)
  rw [← hD] at HS hy ⊢
  have HY := Lib.hid hy
  have HF := Lib.hid hf
  have HO := Lib.hid ho
  have HC := Lib.hid h2
  have HM := Lib.hid h3
  have HH1 := Lib.hid h1
  have HBL := Lib.hid (Array.getElem?_eq_some_iff.1 h2).1
  have HML := Lib.hid h3.lt
  have HXS : Hid (X.size ≤ maxLen) := Nat.le_trans hX (by decide)
  have HBD : Hid ((Sh.bvals D).length = 32) := by show _ = _; rw [Sh.bvals_length, HDL.out]
  have hblt := HBL.out
  clear h1 h2 h3 ho hf hy hD
  go_enter Tryd.func16, Tryd.ntmps16
  go_wp2_with fail
  refine (HS.out _ (w.heap.size + 1) (by simp) (by simp) ((HO.out.alloc _).alloc _)).mono ?_
  rintro e w1 ⟨rfl, hb1⟩
  have HB1 : Hid (Below w.heap.size w w1) := (((Below.refl _ _).alloc (Nat.le_refl _) _).alloc (by simp) _).trans (hb1.mono (by simp; omega))
  have HR1 : Hid (Sh.Row w1 w.heap.size 29 (Sh.bvals (List.replicate 32 0))) := (((zero_row w).alloc _).below hb1 (by simp; omega))
  have HW1 : Hid (w.heap.size < w1.heap.size) := by have := hb1.size; simp at this; show _ < _; omega
  clear hb1
  go_wp2_with (refine Sh.wpList_store_all rfl 29 (.tmp 5) (.tmp 8) rfl w1.heap.size (Sh.bvals D) rfl rfl 29 (Sh.bvals (List.replicate 32 0)) (zero_row w1) ?s1 ?s2 (Sh.bvals_one _) ?_)
  case s1 => rw [HBD.out]; kernel_rfl
  case s2 => rw [HBD.out, Sh.bvals_length, List.length_replicate]
  intro w2 HX2 HT2
  have HB2 : Hid (Below w.heap.size w w2) := Sh.below_turn (HB1.out.alloc HB1.out.size _) HT2.out HB1.out.size
  have HR2 : Hid (Sh.Row w2 w.heap.size 29 (Sh.bvals (List.replicate 32 0))) := (HR1.out.alloc _).turn HT2.out (Nat.ne_of_lt (Nat.lt_of_lt_of_le (Nat.lt_succ_self _) (by have := HR1.out.lt; omega)))
  clear HT2 HB1 HR1
  obtain ⟨wd, hwd⟩ : ∃ wd : World, wd = { w2 with drawn := w2.drawn + 1 } := ⟨_, rfl⟩
  have HBD2 : Hid (Below w.heap.size w wd) := by rw [hwd]; exact HB2.out.drew
  have HXD : Hid (Sh.Row wd w1.heap.size 29 (Sh.bvals D)) := by rw [hwd]; exact HX2.out.drewN 1
  have HRD : Hid (Sh.Row wd w.heap.size 29 (Sh.bvals (List.replicate 32 0))) := by rw [hwd]; exact HR2.out.drewN 1
  have HCD : Hid (wd.heap[b]? = some (.cells #[.map (some m)] 55 (0, 0))) := (HBD2.out.block b HBL.out).trans HC.out
  have hcd := cell_of HCD.out
  have HMD : Hid (SMap wd m l) := HM.out.same (HBD2.out.block m HML.out)
  go_wp2
  refine wp_region_still_tail 6 (by kernel_rfl) (by kernel_rfl) ?_
  rw [← hwd]
  clear hwd HB2 HX2 HR2
  simp only [List.take_succ_cons, List.take_zero, List.drop_succ_cons, List.drop_zero]
  repeat (first
    | (refine wpStill_load_at rfl 29 (.tmp 5) rfl ⟨w1.heap.size, 0, none⟩ rfl (Sh.bvals D) 32 (digest_agg _) (digest_size _) HBD.out (row_cells HXD.out) ?_)
    | still_step)
  refine wpStill_nil ?_
  refine wpList_put_s _ rfl _ _ _ rfl m l D X.data.toList X rfl HMD.out rfl rfl HF.out.1 HY.out HDL.out (by have := HF.out.2.2.1; unfold maxLen; omega) rfl HXS.out ?_
  intro w3 HM3 HG
  have hnb : (some b : Option Nat) ≠ some m := fun e => by
    injection e with e
    have h1 := HCD.out
    obtain ⟨_, ⟨es, clock, h2, _⟩, _⟩ := HMD.out
    rw [e, h2] at h1
    cases h1
  have HC3 : Hid (w3.heap[b]? = some (.cells #[.map (some m)] 55 (0, 0))) := (HG.out.block b (Nat.lt_of_lt_of_le HBL.out HBD2.out.size) hnb).trans HCD.out
  have HX3 : Hid (Sh.Row w3 w1.heap.size 29 (Sh.bvals D)) := HXD.out.grown HG.out (fun e => by injection e with e; have := HML.out; have := HW1.out; omega)
  have HR3 : Hid (Sh.Row w3 w.heap.size 29 (Sh.bvals (List.replicate 32 0))) := HRD.out.grown HG.out (fun e => by injection e with e; have := HML.out; omega)
  have HA3 : Hid (Away S w w3) := by
    have h1 := HBD2.out
    exact ⟨HG.out.os.trans h1.os, HG.out.tape.trans h1.tape, HG.out.output.trans h1.output, Nat.le_trans h1.size HG.out.size, fun q hq hn => (HG.out.block q (Nat.lt_of_lt_of_le hq h1.size) (fun e => hn ((HH1.out q).2 (.inr (by injection e))))).trans (h1.block q hq)⟩
  clear hnb hcd HG HXD HRD HCD HMD
  go_wp2_with (first
    | (refine wpList_load_at rfl 29 (.tmp 5) rfl ⟨w1.heap.size, 0, none⟩ rfl (Sh.bvals D) 32 (digest_agg _) (digest_size _) HBD.out (row_cells HX3.out) ?_)
    | (refine Sh.wpList_store_all rfl 29 (.tmp 4) (.tmp 17) rfl w.heap.size (Sh.bvals D) rfl rfl 29 (Sh.bvals (List.replicate 32 0)) HR3.out ?s3 ?s4 (Sh.bvals_one _) ?_))
  case s3 => rw [HBD.out]; kernel_rfl
  case s4 => rw [HBD.out, Sh.bvals_length, List.length_replicate]
  intro w4 HR4 HT4
  go_wp2
  refine bodyPost_ret (results_cell_row rfl _ _ w.heap.size 29 (Sh.bvals D).toArray (0, 0) _ rfl HR4.out Tryd.underlying29 rfl ?r1) rfl ?_
  case r1 => rw [List.size_toArray, HBD.out]; kernel_rfl
  have hne : ∀ q, q < w.heap.size → w4.heap[q]? = w3.heap[q]? := fun q hq => HT4.out.2.2.2.2 q (Nat.ne_of_lt hq)
  refine ⟨fun q => q = b ∨ q = m, rfl, ⟨m, fun q => Iff.rfl, (hne b HBL.out).trans HC3.out, HM3.out.same (hne m HML.out)⟩, fun q hq => .inl ((HH1.out q).2 hq), ?_⟩
  have h3 := HA3.out
  have ht := HT4.out
  exact ⟨ht.1.trans h3.os, ht.2.1.trans h3.tape, ht.2.2.1.trans h3.output, by rw [ht.2.2.2.1]; exact h3.size, fun q hq hn => (hne q hq).trans (h3.block q hq hn)⟩
end Bl
end Go.Proofs.YtiilmgbobjagkaaDoor
