/-
  Layer 6 (blobs): the walk of the laws' same.
-/
import Derived.Test.YtiilmgbobjagkaaDoorBH
namespace Go.Proofs.YtiilmgbobjagkaaDoor
namespace Bl
open Go.RowKit Kr

theorem sizeV_le {l : List Bb} (h : ∀ f ∈ l, f.2.length ≤ 1000) : sizeV l ≤ 1000 * l.length := by
  induction l with
  | nil => exact Nat.zero_le _
  | cons f l ih =>
    have h1 := ih (fun g hg => h g (List.mem_cons_of_mem _ hg))
    have h2 := h f List.mem_cons_self
    have e : sizeV (f :: l) = f.2.length + sizeV l := by simp [sizeV]
    rw [e, List.length_cons]
    omega
theorem get_here {l : List Bb} (h : Rise l) {k : Nat} {x : Bb} (hx : l[k]? = some x) : Bl.get l x.1 = some x.2 := (get_some h).2 (List.mem_of_getElem? hx)

set_option maxRecDepth 100000 in
set_option maxHeartbeats 8000000 in
theorem same_any {R : World → (Nat → Prop) → Nat → List Bb → Prop} (hK : Keeps R) (S : Nat → Prop) (b : Nat) (A : Option Addr) (cap n : Nat) (l : List Bb) (w : World) (hr : R w S b l) (hf : Fits l) (hn : l.length = n) (hx : BRow w w.heap.size A l) :
    Calls Tryd.prog 19 #[ptr b, .slice A n cap] w fun e w' => e = .returned (.bool true) ∧ Below w.heap.size w w' := by
  obtain ⟨z, hz⟩ : ∃ z, sizeV l = z := ⟨_, rfl⟩
  have hn100 : n ≤ 100 := by rw [← hn]; exact hf.2.2.1
  have hzb : z ≤ 1000000000 := by have := sizeV_le hf.2.2.2; omega
  have HALL := Lib.hid (hK.all w S b l hr hf)
  have HSZ := Lib.hid (fun W (h : R W S b l) => hK.size W S b l z h hf hz)
  have HRS := Lib.hid (fun W (h : BRow W w.heap.size A l) => size_any A cap w.heap.size n z l hz hzb W hn (by omega) h)
  have HF := Lib.hid hf
  have HN := Lib.hid hn
  have HR := Lib.hid hr
  have HX := Lib.hid hx
  have hng := Sh.no_guard
  clear hz hf hn hr hx
  go_enter Tryd.func19, Tryd.ntmps19
  go_wp2_with fail
  refine HALL.out.mono ?_
  rintro e w1 ⟨A1, m, cp1, rfl, hm, hd1, hb1⟩
  have hm : n = m := HN.out.symm.trans hm
  subst hm
  have HB1 := Lib.hid hb1
  have HR1 := Lib.hid (hK.later HR.out hb1)
  have HX1 : Hid (BRow w1 w.heap.size A l) := HX.out.below hb1 (Nat.le_refl _)
  have HD1 := Lib.hid hd1
  clear hb1 hd1
  go_wp2_with fail
  refine (HSZ.out _ HR1.out).mono ?_
  rintro e w2 ⟨rfl, hb2⟩
  have HB2 := Lib.hid (HB1.out.trans (hb2.mono HB1.out.size))
  have HR2 := Lib.hid (hK.later HR1.out hb2)
  have HX2 : Hid (BRow w2 w.heap.size A l) := HX1.out.below hb2 HB1.out.size
  have HD2 : Hid (DRow w2 w1.heap.size A1 (l.map (·.1))) := HD1.out.below hb2 (Nat.le_refl _)
  have hs2 := hb2.size
  clear hb2
  go_wp2_with fail
  refine (HRS.out _ HX2.out).mono ?_
  rintro e w3 ⟨rfl, rfl⟩
  go_wp2
  go_loopw [6] (fun i wr => ∃ k : Nat, k ≤ n ∧ i = .int .i64 k ∧ Hid (Below w3.heap.size w3 wr)) (fun i _ => n - (intOf i).toNat)
  case atStart => exact ⟨0, Nat.zero_le _, rfl, Below.refl _ _⟩
  case round =>
    obtain ⟨k, hk, rfl, HB⟩ := hrel
    by_cases hlt : k < n
    · have hki : (k : Int) < n := by omega
      have hxk : l[k]? = some (l[k]'(by rw [HN.out]; exact hlt)) := List.getElem?_eq_getElem _
      generalize l[k]'(by rw [HN.out]; exact hlt) = x at hxk
      have hw23 := HB.out.size
      have hw13 := HB2.out.size
      have hw1 := HB1.out.size
      have HXR : Hid (BRow wr w.heap.size A l) := HX2.out.below HB.out (by omega)
      have HDR : Hid (DRow wr w1.heap.size A1 (l.map (·.1))) := HD2.out.below HB.out (by omega)
      have HRR := Lib.hid (hK.later HR2.out HB.out)
      obtain ⟨b1, o1, rfl, hb1, _⟩ := HXR.out k x hxk
      have hdk : (l.map (·.1))[k]? = some x.1 := by rw [List.getElem?_map, hxk]; rfl
      obtain ⟨b2, o2, rfl, hb2, _⟩ := HDR.out k x.1 hdk
      have hx32 := HF.out.2.1 x (List.mem_of_getElem? hxk)
      obtain ⟨X, hX⟩ : ∃ X : ByteArray, X.data.toList = x.2 := ⟨⟨x.2.toArray⟩, by simp⟩
      have hgx := get_here HF.out.1 hxk
      have HGET := Lib.hid (fun W (h : R W S b l) => hK.get W S b l x.1 X true h HF.out hx32 (by rw [hgx]; exact hX) (by rw [hgx]; rfl))
      have HBX : Hid ((Sh.bvals x.1).length = 32) := by show _ = _; rw [Sh.bvals_length, hx32]
      have HC0 : Hid (∀ j v, (Sh.bvals x.1)[j]? = some v → wr.cell? ((⟨b1, o1 + k * 33, none⟩ : Addr).add j) = some v) := fun j v hv => by
        have := KRow.part (i := 0) (m := 32) HXR.out hxk (sum_part hx32) j v hv
        rw [Addr.add_lit]
        rwa [Nat.add_zero] at this
      have HXK := Lib.hid hxk
      have HDK := Lib.hid hdk
      have HX32 := Lib.hid hx32
      have HXX := Lib.hid hX
      clear hxk hdk hx32 hX hgx
      go_wp2_with (refine wpList_load_at rfl 29 (.tmp 34) rfl ⟨b1, o1 + k * 33, none⟩ rfl (Sh.bvals x.1) 32 (digest_agg _) (digest_size _) HBX.out HC0.out ?_)
      refine (HGET.out _ HRR.out).mono ?_
      rintro e w4 ⟨rfl, hb4⟩
      have HB4 : Hid (Below w3.heap.size w3 w4) := HB.out.trans (hb4.mono hw23)
      have HX4 : Hid (BRow w4 w.heap.size (some ⟨b1, o1, none⟩) l) := HX2.out.below HB4.out (by omega)
      have HD4 : Hid (DRow w4 w1.heap.size (some ⟨b2, o2, none⟩) (l.map (·.1))) := HD2.out.below HB4.out (by omega)
      clear hb4
      obtain ⟨T, hT⟩ : ∃ T, T = 29 := ⟨_, rfl⟩
      obtain ⟨N, hNN⟩ : ∃ q, q = 32 := ⟨_, rfl⟩
      have key : ∀ x, Op.load 29 x = Op.load T x := by intro x; rw [hT]
      have hagg : ∀ W, (isAgg T).run Tryd.prog W = .ok true W := fun W => by rw [hT]; kernel_rfl
      have hsize : ∀ W, (sizeOf T).run Tryd.prog W = .ok N W := fun W => by rw [hT, hNN]; kernel_rfl
      have hl1 : ∀ m, (loadCellsFrom ⟨b1, o1 + k * 33, none⟩ 0 N #[]).run Tryd.prog (w4.drewN m) = .ok (Sh.bvals x.1).toArray (w4.drewN m) := fun m =>
        load_part (by rw [HBX.out, hNN]) (fun i v hv => by
          have := KRow.part (i := 0) (m := 32) (HX4.out.drewN m) HXK.out (sum_part HX32.out) i v hv
          rwa [Nat.add_zero] at this)
      have hl2 : ∀ m, (loadCellsFrom ⟨b2, o2 + k * 32, none⟩ 0 N #[]).run Tryd.prog (w4.drewN m) = .ok (Sh.bvals x.1).toArray (w4.drewN m) := fun m =>
        load_part (by rw [HBX.out, hNN]) (fun i v hv => by
          have := KRow.part (i := 0) (m := 32) (HD4.out.drewN m) HDK.out (by rw [List.drop_zero, fix32_id HX32.out]; exact List.take_of_length_le (by rw [HBX.out]; exact Nat.le_refl _)) i v hv
          rwa [Nat.add_zero] at this)
      have heq := bvals_eqi HX32.out HX32.out
      rw [decide_eq_true rfl] at heq
      have cD : w4.cell? ⟨b1, o1 + k * 33 + 32, none⟩ = some (.string X) := by
        obtain ⟨b', o', e, _, h3⟩ := HX4.out k x HXK.out
        injection e with e
        injection e with e1 e2
        subst e1 e2
        rw [h3 32 _ (data_at x), ← HXX.out, ← SV_str]
      have hxx : (X.toList == X.toList) = true := beq_self_eq_true _
      clear hT hNN
      go_wp2
      simp only [key]
      clear key
      go_big_quiet (fail)
      go_wp2
      go_roundw
      case rel => exact ⟨k + 1, by omega, by go_num, Sh.below_drewN HB4.out _⟩
      case measure => simp [intOf]; omega
    · obtain rfl : k = n := by omega
      have HBE := Lib.hid (HB2.out.trans (HB.out.mono HB2.out.size))
      go_wp2
      go_ret
      exact ⟨rfl, HBE.out⟩
end Bl
end Go.Proofs.YtiilmgbobjagkaaDoor
