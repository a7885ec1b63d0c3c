/-
  Layer 6 (blobs): the program's New, Get, Drop.
-/
import Derived.Test.YtiilmgbobjagkaaDoorCA
import Derived.StillTailTactics
import Derived.Carry
namespace Go.Proofs.YtiilmgbobjagkaaDoor
namespace Bl
open Go.RowKit Kr Go.Maps

/-- A store: its cell, and its map. -/
def Rs (w : World) (S : Nat → Prop) (b : Nat) (l : List Bb) : Prop := ∃ m, (∀ q, S q ↔ (q = b ∨ q = m)) ∧ w.heap[b]? = some (.cells #[.map (some m)] 55 (0, 0)) ∧ SMap w m l
theorem rs_keep {w w' : World} {S : Nat → Prop} {b : Nat} {l : List Bb} (h : Rs w S b l) (hs : ∀ q, S q → w'.heap[q]? = w.heap[q]?) : Rs w' S b l := by
  obtain ⟨m, h1, h2, h3⟩ := h
  exact ⟨m, h1, (hs b ((h1 b).2 (.inl rfl))).trans h2, h3.same (hs m ((h1 m).2 (.inr rfl)))⟩
theorem rs_inside {w : World} {S : Nat → Prop} {b : Nat} {l : List Bb} (h : Rs w S b l) : ∀ q, S q → q < w.heap.size := by
  obtain ⟨m, h1, h2, h3⟩ := h
  intro q hq
  rcases (h1 q).1 hq with rfl | rfl
  · exact (Array.getElem?_eq_some_iff.1 h2).1
  · exact h3.lt
theorem cell_of {w : World} {b : Nat} {v : Value} {t : TypeId} (h : w.heap[b]? = some (.cells #[v] t (0, 0))) : w.cell? ⟨b, 0, none⟩ = some v := by simp [World.cell?, h]
theorem SMap.drewN {w : World} {b : Nat} {l : List Bb} (h : SMap w b l) (n : Nat) : SMap (w.drewN n) b l := h.same rfl

set_option maxRecDepth 100000 in
set_option maxHeartbeats 4000000 in
theorem prog_new (w : World) : Calls Tryd.prog 10 #[] w fun e w' => ∃ b S, e = .returned (ptr b) ∧ Rs w' S b [] ∧ (∀ q, S q → w.heap.size ≤ q) ∧ Below w.heap.size w w' := by
  have hmm := @run_makeMap Tryd.prog
  go_enter Tryd.func10, Tryd.ntmps10
  go_wp2
  go_ret
  refine ⟨w.heap.size + 1, fun q => q = w.heap.size + 1 ∨ q = w.heap.size, ?_, ⟨w.heap.size, fun q => Iff.rfl, ?_, ?_⟩, ?_, ?_⟩
  · rfl
  · have h := (MapKept.heap_alloc (w.alloc (.map #[] 0)) (.cells #[.map (some w.heap.size)] 55)).1
    rw [World.size_alloc] at h
    exact h
  · exact (SMap.made w).same (Below.heap_alloc _ _ _ (by rw [World.size_alloc]; omega))
  · rintro q (rfl | rfl) <;> omega
  · exact ((Below.refl _ _).alloc (Nat.le_refl _) _).alloc (by simp) _

set_option maxRecDepth 100000 in
set_option maxHeartbeats 4000000 in
theorem prog_get (w : World) (S : Nat → Prop) (b : Nat) (l : List Bb) (d : Bs) (Y : ByteArray) (t : Bool) (h : Rs w S b l) (hd : d.length = 32) (hY : Y.data.toList = (Bl.get l d).getD []) (ht : (Bl.get l d).isSome = t) :
    Calls Tryd.prog 13 #[ptr b, dv d] w fun e w' => e = .returned (.tuple #[.string Y, .bool t]) ∧ Below w.heap.size w w' := by
  obtain ⟨m, _, h2, h3⟩ := h
  obtain ⟨w0, hw0⟩ : ∃ w0, w0 = w.alloc (.cells (Sh.bvals d).toArray 29) := ⟨_, rfl⟩
  have HX0 : Hid (Sh.Row w0 w.heap.size 29 (Sh.bvals d)) := by rw [hw0]; exact boxed w d
  have HB0 : Hid (Below w.heap.size w w0) := by rw [hw0]; exact (Below.refl _ _).alloc (Nat.le_refl _) _
  have hblt := (Array.getElem?_eq_some_iff.1 h2).1
  have hcb : w0.cell? ⟨b, 0, none⟩ = some (.map (some m)) := cell_of ((HB0.out.block b hblt).trans h2)
  have H3 : Hid (SMap w0 m l) := h3.same (HB0.out.block m h3.lt)
  have HBX : Hid ((Sh.bvals d).length = 32) := by show _ = _; rw [Sh.bvals_length, hd]
  obtain ⟨T, hT⟩ : ∃ T, T = 29 := ⟨_, rfl⟩
  obtain ⟨N, hNN⟩ : ∃ q, q = 32 := ⟨_, rfl⟩
  have key : ∀ x, Op.load 29 x = Op.load T x := by intro x; rw [hT]
  have hagg : ∀ W, (isAgg T).run Tryd.prog W = .ok true W := fun W => by rw [hT]; kernel_rfl
  have hsize : ∀ W, (sizeOf T).run Tryd.prog W = .ok N W := fun W => by rw [hT, hNN]; kernel_rfl
  have hl1 : ∀ m, (loadCellsFrom ⟨w.heap.size, 0, none⟩ 0 N #[]).run Tryd.prog (w0.drewN m) = .ok (Sh.bvals d).toArray (w0.drewN m) := fun m =>
    load_part (by rw [HBX.out, hNN]) (fun i v hv => by rw [Nat.zero_add]; exact ((HX0.out.below (Sh.below_drewN (Below.refl _ _) m) HX0.out.lt).cell i).trans hv)
  have hlk : ∀ q, (Instr.lookup 53 (.map (some m)) (.agg (Sh.bvals d).toArray) true).run Tryd.prog (w0.drewN q) = .ok (.tuple #[.string Y, .bool t]) (w0.drewN q) := fun q => (H3.out.drewN q).look hd Y t hY ht
  clear hT hNN h2 h3 hblt
  go_enter Tryd.func13, Tryd.ntmps13
  go_wp2
  rw [← hw0]
  clear hw0
  simp only [key]
  clear key
  go_big_quiet (fail)
  go_wp2
  go_ret2
  exact ⟨rfl, Sh.below_drewN HB0.out _⟩

set_option maxRecDepth 100000 in
set_option maxHeartbeats 4000000 in
theorem prog_get_nil (w : World) (d : Bs) : Calls Tryd.prog 13 #[.pointer none, dv d] w fun e w' => e = .returned (.tuple #[.string ⟨#[]⟩, .bool false]) ∧ Below w.heap.size w w' := by
  go_enter Tryd.func13, Tryd.ntmps13
  go_wp2
  go_ret2
  exact ⟨rfl, (Below.refl _ _).alloc (Nat.le_refl _) _⟩

set_option maxRecDepth 100000 in
set_option maxHeartbeats 4000000 in
theorem prog_drop (w : World) (S : Nat → Prop) (b : Nat) (l : List Bb) (d : Bs) (t : Bool) (h : Rs w S b l) (hr : Rise l) (hd : d.length = 32) (ht : (Bl.get l d).isSome = t) :
    Calls Tryd.prog 14 #[ptr b, dv d] w fun e w' => ∃ S', e = .returned (.bool t) ∧ Rs w' S' b (dropV l d) ∧ (∀ q, S' q → S q ∨ w.heap.size ≤ q) ∧ Away S w w' := by
  obtain ⟨m, h1, h2, h3⟩ := h
  obtain ⟨Y, hY⟩ : ∃ Y : ByteArray, Y.data.toList = (Bl.get l d).getD [] := ⟨⟨((Bl.get l d).getD []).toArray⟩, by simp⟩
  obtain ⟨w0, hw0⟩ : ∃ w0, w0 = w.alloc (.cells (Sh.bvals d).toArray 29) := ⟨_, rfl⟩
  have HX0 : Hid (Sh.Row w0 w.heap.size 29 (Sh.bvals d)) := by rw [hw0]; exact boxed w d
  have HB0 : Hid (Below w.heap.size w w0) := by rw [hw0]; exact (Below.refl _ _).alloc (Nat.le_refl _) _
  have hblt := (Array.getElem?_eq_some_iff.1 h2).1
  have HC0 : Hid (w0.heap[b]? = some (.cells #[.map (some m)] 55 (0, 0))) := (HB0.out.block b hblt).trans h2
  have hcb : w0.cell? ⟨b, 0, none⟩ = some (.map (some m)) := cell_of HC0.out
  have H3 : Hid (SMap w0 m l) := h3.same (HB0.out.block m h3.lt)
  have HBX : Hid ((Sh.bvals d).length = 32) := by show _ = _; rw [Sh.bvals_length, hd]
  obtain ⟨T, hT⟩ : ∃ T, T = 29 := ⟨_, rfl⟩
  obtain ⟨N, hNN⟩ : ∃ q, q = 32 := ⟨_, rfl⟩
  have key : ∀ x, Op.load 29 x = Op.load T x := by intro x; rw [hT]
  have hagg : ∀ W, (isAgg T).run Tryd.prog W = .ok true W := fun W => by rw [hT]; kernel_rfl
  have hsize : ∀ W, (sizeOf T).run Tryd.prog W = .ok N W := fun W => by rw [hT, hNN]; kernel_rfl
  have hl1 : ∀ m, (loadCellsFrom ⟨w.heap.size, 0, none⟩ 0 N #[]).run Tryd.prog (w0.drewN m) = .ok (Sh.bvals d).toArray (w0.drewN m) := fun m =>
    load_part (by rw [HBX.out, hNN]) (fun i v hv => by rw [Nat.zero_add]; exact ((HX0.out.below (Sh.below_drewN (Below.refl _ _) m) HX0.out.lt).cell i).trans hv)
  have hlk : ∀ q, (Instr.lookup 53 (.map (some m)) (.agg (Sh.bvals d).toArray) true).run Tryd.prog (w0.drewN q) = .ok (.tuple #[.string Y, .bool t]) (w0.drewN q) := fun q => (H3.out.drewN q).look hd Y t hY ht
  have HHD := Lib.hid hd
  have HHR := Lib.hid hr
  have HH1 := Lib.hid h1
  have HMB : Hid (m ≠ w.heap.size ∧ m < w.heap.size) := ⟨Nat.ne_of_lt h3.lt, h3.lt⟩
  have HBLT := Lib.hid hblt
  have HTT := Lib.hid hT
  clear hNN h2 h3 hblt hd hr h1 hT
  go_enter Tryd.func14, Tryd.ntmps14
  go_wp2
  rw [← hw0]
  clear hw0
  simp only [key]
  clear key
  go_big_quiet (fail)
  rename_i nq
  have hT := HTT.out
  subst hT
  generalize hwq : w0.drewN nq = wq
  have HBQ : Hid (Below w.heap.size w wq) := by rw [← hwq]; exact Sh.below_drewN HB0.out _
  obtain ⟨wd, hwd⟩ : ∃ wd : World, wd = { wq with drawn := wq.drawn + 1 } := ⟨_, rfl⟩
  have HBD : Hid (Below w.heap.size w wd) := by rw [hwd]; exact HBQ.out.drew
  have HXD : Hid (∀ j v, (Sh.bvals d)[j]? = some v → wd.cell? ((⟨w.heap.size, 0, none⟩ : Addr).add j) = some v) := by
    rw [hwd, ← hwq]
    exact row_cells (HX0.out.below (Sh.below_drewN (Below.refl _ _) (nq + 1)) HX0.out.lt)
  have HCD : Hid (wd.heap[b]? = some (.cells #[.map (some m)] 55 (0, 0))) := by rw [hwd, ← hwq]; exact HC0.out
  have hcd := cell_of HCD.out
  have HMD : Hid (SMap wd m l) := by rw [hwd, ← hwq]; exact H3.out.same rfl
  clear hcb
  go_wp2
  refine wp_region_still_tail 5 (by kernel_rfl) (by kernel_rfl) ?_
  rw [← hwd]
  clear hwd hwq
  simp only [List.take_succ_cons, List.take_zero, List.drop_succ_cons, List.drop_zero]
  repeat (first
    | (refine wpStill_load_at rfl 29 (.tmp 3) rfl ⟨w.heap.size, 0, none⟩ rfl (Sh.bvals d) 32 (digest_agg _) (digest_size _) HBX.out HXD.out ?_)
    | still_step)
  refine wpStill_nil ?_
  refine wpList_del_s _ rfl _ _ rfl m l d rfl HMD.out rfl HHR.out HHD.out ?_
  intro w2 HM2 HG
  go_wp2
  go_ret
  refine ⟨fun q => q = b ∨ q = m, rfl, ⟨m, fun q => Iff.rfl, ?_, HM2.out⟩, fun q hq => .inl ((HH1.out q).2 hq), ?_⟩
  · have hne : (some b : Option Nat) ≠ some m := fun e => by
      injection e with e
      have h1 := HCD.out
      obtain ⟨_, ⟨es, clock, h2, _⟩, _⟩ := HMD.out
      rw [e, h2] at h1
      cases h1
    exact (HG.out.block b (Nat.lt_of_lt_of_le HBLT.out HBD.out.size) hne).trans HCD.out
  · have h1 := HBD.out
    exact ⟨HG.out.os.trans h1.os, HG.out.tape.trans h1.tape, HG.out.output.trans h1.output, Nat.le_trans h1.size HG.out.size, fun q hq hn => (HG.out.block q (Nat.lt_of_lt_of_le hq h1.size) (fun e => hn ((HH1.out q).2 (.inr (by injection e))))).trans (h1.block q hq)⟩

set_option maxRecDepth 100000 in
set_option maxHeartbeats 4000000 in
theorem prog_drop_nil (w : World) (d : Bs) : Calls Tryd.prog 14 #[.pointer none, dv d] w fun e w' => e = .returned (.bool false) ∧ Below w.heap.size w w' := by
  go_enter Tryd.func14, Tryd.ntmps14
  go_wp2
  go_ret
  exact ⟨rfl, (Below.refl _ _).alloc (Nat.le_refl _) _⟩
end Bl
end Go.Proofs.YtiilmgbobjagkaaDoor
