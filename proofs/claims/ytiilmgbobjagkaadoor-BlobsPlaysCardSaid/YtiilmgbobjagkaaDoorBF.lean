/-
  Layer 6 (blobs): law None.
-/
import Derived.Test.YtiilmgbobjagkaaDoorBE
namespace Go.Proofs.YtiilmgbobjagkaaDoor
namespace Bl
open Go.RowKit Kr

theorem boxed (w : World) (d : Bs) : Sh.Row (w.alloc (.cells (Sh.bvals d).toArray 29)) w.heap.size 29 (Sh.bvals d) := Sh.Row.new_at w _ _ _ rfl rfl

set_option maxRecDepth 100000 in
set_option maxHeartbeats 4000000 in
theorem none_law {R : World → (Nat → Prop) → Nat → List Bb → Prop} (hK : Keeps R) (hN : Nils) (B : Nat) (s : ByteArray) (d : Bs) (hd : d.length = 32) (hs : s.size ≤ 9223372036854775807) (w : World) (hok : Ok B w) :
    Calls Tryd.prog 6 #[.string s, dv d] w fun e w' => e = .returned (.bool true) ∧ Below w.heap.size w w' := by
  obtain ⟨D, hD⟩ : ∃ D, D = dig s := ⟨_, rfl⟩
  have HDL : Hid (D.length = 32) := by show _ = _; rw [hD]; exact dig_len _
  have heq := Sh.eq_same D HDL.out
  have HBL : Hid ((Sh.bvals d).length = 32) := by show _ = _; rw [Sh.bvals_length, hd]
  have HD := Lib.hid hd
  obtain ⟨w0, hw0⟩ : ∃ w0, w0 = w.alloc (.cells (Sh.bvals d).toArray 29) := ⟨_, rfl⟩
  have HX0 : Hid (Sh.Row w0 w.heap.size 29 (Sh.bvals d)) := by rw [hw0]; exact boxed w d
  have HB0 : Hid (Below w.heap.size w w0) := by rw [hw0]; exact (Below.refl _ _).alloc (Nat.le_refl _) _
  have HO0 : Hid (Ok B w0) := by rw [hw0]; exact Ok.alloc hok _
  have HBW := Lib.hid hok.2.2
  have HAL := Lib.hid (fun W (h : Ok B W) => alive_any hK B W h)
  clear hd hok
  by_cases hb : s.size ≤ 1000
  · have HPUT := Lib.hid (fun W (h : Ok B W) => hN.put W B s h hb)
    have HSUM := Lib.hid (fun (W : World) b (hc : W.cell? ⟨b, 0, none⟩ = some (.string s)) (h1 : b < W.heap.size) (ho : Ok B W) => sum_one W B b s hb hc h1 ho)
    rw [← hD] at HPUT HSUM
    have hlt : ¬ (1000 : Int) < s.size := by omega
    clear hD hs
    go_enter Tryd.func6, Tryd.ntmps6
    go_wp2_with fail
    rw [← hw0]
    clear hw0
    refine (HAL.out _ HO0.out).mono ?_
    rintro e w1 ⟨rfl, hb1⟩
    have HB1 := Lib.hid (HB0.out.trans (hb1.mono HB0.out.size))
    have HO1 := Lib.hid (HO0.out.below (hb1.mono HO0.out.2.2))
    have HX1 := Lib.hid (HX0.out.below hb1 HX0.out.lt)
    clear hb1
    go_wp2_with (refine wpList_load_at rfl 29 (.tmp 3) rfl ⟨w.heap.size, 0, none⟩ rfl (Sh.bvals d) 32 (digest_agg _) (digest_size _) HBL.out (row_cells HX1.out) ?_)
    refine (hN.get _ d HD.out).mono ?_
    rintro e w2 ⟨rfl, hb2⟩
    have HB2 := Lib.hid (HB1.out.trans (hb2.mono HB1.out.size))
    have HO2 := Lib.hid (HO1.out.below (hb2.mono HO1.out.2.2))
    have HX2 := Lib.hid (HX1.out.below hb2 HX1.out.lt)
    clear hb2
    go_wp2_with fail
    refine (HPUT.out _ HO2.out).mono ?_
    rintro e w3 ⟨rfl, hb3⟩
    have HB3 := Lib.hid (HB2.out.trans (hb3.mono HB2.out.size))
    have HO3 := Lib.hid (HO2.out.below (hb3.mono HO2.out.2.2))
    have HX3 := Lib.hid (HX2.out.below hb3 HX2.out.lt)
    clear hb3
    go_wp2_with fail
    refine (HSUM.out _ w3.heap.size (by simp) (by simp) (HO3.out.alloc _)).mono ?_
    rintro e w4 ⟨rfl, hb4⟩
    have HB4 := Lib.hid ((HB3.out.alloc HB3.out.size (.cells #[.string s] 9)).trans (hb4.mono (by have := HB3.out.size; simp; omega)))
    have HX4 := Lib.hid ((HX3.out.alloc (.cells #[.string s] 9)).below hb4 (by have := HX3.out.lt; simp; omega))
    clear hb4
    go_wp2_with (refine wpList_load_want rfl 29 (.tmp 3) rfl ⟨w.heap.size, 0, none⟩ rfl (Sh.bvals d) 32 (digest_agg _) (digest_size _) HBL.out (row_cells HX4.out) ?_)
    refine (hN.drop _ d HD.out).mono ?_
    rintro e w5 ⟨rfl, hb5⟩
    have HB5 := Lib.hid (HB4.out.trans (hb5.mono HB4.out.size))
    clear hb5
    go_wp2_with fail
    refine (hN.all _).mono ?_
    rintro e w6 ⟨A, cp, rfl, hb6⟩
    have HB6 := Lib.hid (HB5.out.trans (hb6.mono HB5.out.size))
    clear hb6
    go_wp2_with fail
    refine (hN.size _).mono ?_
    rintro e w7 ⟨rfl, hb7⟩
    have HB7 := Lib.hid (HB6.out.trans (hb7.mono HB6.out.size))
    clear hb7
    go_wp2_with fail
    go_ret
    exact ⟨rfl, HB7.out⟩
  · have hlt : (1000 : Int) < s.size := by omega
    clear hD
    go_enter Tryd.func6, Tryd.ntmps6
    go_wp2_with fail
    rw [← hw0]
    clear hw0
    refine (HAL.out _ HO0.out).mono ?_
    rintro e w1 ⟨rfl, hb1⟩
    have HB1 := Lib.hid (HB0.out.trans (hb1.mono HB0.out.size))
    clear hb1
    go_wp2_with fail
    go_ret
    exact ⟨rfl, HB1.out⟩
end Bl
end Go.Proofs.YtiilmgbobjagkaaDoor
