/-
  Layer 2 (sha): the walk of the law ShaTexts.
-/
import Derived.Test.YtkdnkcdjmcimbaaDoorR
import Derived.Deep.MidRow
namespace Go.Proofs.YtkdnkcdjmcimbaaDoor
namespace Sh
open Go.RowKit

theorem Row.range {w : World} {b : Nat} {t : TypeId} {L : List Value} (h : Row w b t L) : w.rangeAt b 0 L := fun j v hv => by
  rw [Nat.zero_add]; exact (h.cell j).trans hv
theorem range_below {w w' : World} {B b o : Nat} {L : List Value} (h : w.rangeAt b o L) (hb : Below B w w') (hB : b < B) : w'.rangeAt b o L := fun j v hv => (hb.cell (p := ⟨b, o + j, none⟩) hB).trans (h j v hv)
theorem below_step {w0 W w1 : World} (h : Below w0.heap.size w0 W) (hb : Below W.heap.size W w1) : Below w0.heap.size w0 w1 := h.trans (hb.mono h.size)
theorem str_toArray (s : ByteArray) : (⟨s.data.toList.toArray⟩ : ByteArray) = s := by simp

/-- An operation as it is: a name that hides its kind from the walk, where it is not wanted. -/
def asIs (o : Op) : Op := o

theorem cells_run {b n : Nat} {L : List Value} {W : World} (h : W.rangeAt b 0 L) (hl : L.length = n) : (loadCellsFrom ⟨b, 0, none⟩ 0 n #[]).run Tryd.prog W = .ok L.toArray W := by
  subst hl
  exact run_loadCells_list (P := Tryd.prog) W ⟨b, 0, none⟩ L (fun j v hv => by rw [Addr.add_mid]; exact h j v hv)

set_option maxRecDepth 100000 in
set_option maxHeartbeats 20000000 in
theorem texts_law (l : Bs) (s : ByteArray) (w : World) (hl : l.length = 32) (hs : s.size ≤ 140737488355328) (htab : Tab w) (hb0 : 0 < w.heap.size) :
    Calls Tryd.prog 6 #[.agg (bvals l).toArray, .string s] w fun e w' => e = .returned (.bool true) ∧ Below w.heap.size w w' := by
  have HT := Lib.hid htab
  have HL := Lib.hid hl
  have hr0 : Row (w.alloc (.cells (bvals l).toArray 27)) w.heap.size 27 (bvals l) := Row.new_at w _ _ _ rfl rfl
  have HR0 := Lib.hid hr0
  have HBA := Lib.hid (((Below.refl _ _).alloc (Nat.le_refl _) _ : Below w.heap.size w (w.alloc (.cells (bvals l).toArray 27))))
  clear htab hl hr0
  by_cases h200 : 200 < s.size
  · have h2 : (200 : Int) < s.size := by omega
    clear h200
    go_enter Tryd.func6, Tryd.ntmps6
    go_wp2_with fail
    refine (fixed_any _ (HT.out.below HBA.out hb0) (by simp)).mono ?_
    rintro e w1 ⟨rfl, hb1⟩
    have HB := Lib.hid (HBA.out.trans (hb1.mono (by simp)))
    clear hb1
    go_wp2
    go_ret
    exact ⟨rfl, HB.out⟩
  · have h2 : (s.size : Int) ≤ 200 := by omega
    have hs200 : s.size ≤ 100000 := by omega
    have hng := no_guard
    obtain ⟨D, hD⟩ : ∃ D, D = dOf s.data.toList := ⟨_, rfl⟩
    obtain ⟨ok, hok⟩ : ∃ ok, ok = okOf s.data.toList := ⟨_, rfl⟩
    have hDl : D.length = 32 := by rw [hD, dOf_length]
    have hof := fun W : World => of_any s W hs200
    have hrof := fun W : World => refof_any s W hs200
    rw [← hD, ← hok] at hof hrof
    have hback := fun W : World => of_any ⟨(hexs l).toArray⟩ W (by show (hexs l).length ≤ 100000; rw [hexs_length, HL.out]; decide)
    rw [show (⟨(hexs l).toArray⟩ : ByteArray).data.toList = hexs l from rfl, (of_hex l HL.out).1, (of_hex l HL.out).2] at hback
    have hhx : ok = true → ∀ W, Calls Tryd.prog 17 #[.agg (bvals D).toArray] W fun e w' => e = .returned (.string s) ∧ Below W.heap.size W w' := fun h W => by
      have h1 := hex_any D W hDl
      rw [hD, hex_of _ (by rw [← hok]; exact h), str_toArray] at h1
      rw [hD]; exact h1
    have HOF := Lib.hid hof
    have HROF := Lib.hid hrof
    have HBK := Lib.hid hback
    have HHX := Lib.hid hhx
    have HDL := Lib.hid hDl
    clear hof hrof hback hhx hDl hD hok h200
    go_enter Tryd.func6, Tryd.ntmps6
    go_wp2_with fail
    refine (HOF.out _).mono ?_
    rintro e w1 ⟨rfl, hb1⟩
    simp only [World.size_alloc] at hb1
    have hs1 := hb1.size
    simp only [World.size_alloc] at hs1
    have HR1 := Lib.hid (HR0.out.below hb1 (by omega))
    have HB1 := Lib.hid (HBA.out.trans (hb1.mono (by omega)))
    clear hb1
    go_wp2_with (refine wpList_store_all rfl 27 (.tmp 5) (.tmp 18) rfl w1.heap.size (bvals D) rfl rfl 27 (bvals (List.replicate 32 0)) (Row.new_at _ _ _ _ rfl rfl) ?s1 ?s2 (bvals_one _) ?_)
    case s1 => rw [bvals_length, HDL.out]; kernel_rfl
    case s2 => rw [bvals_length, bvals_length, HDL.out, List.length_replicate]
    intro w2 HX2 HT2
    have hs2 : w1.heap.size + 1 = w2.heap.size := by have := HT2.out.2.2.2.1; simp at this; omega
    have HR2 := Lib.hid ((HR1.out.alloc _).turn HT2.out (by omega))
    have HB2 := Lib.hid (below_turn (HB1.out.alloc (by omega) _) HT2.out (by omega))
    clear HT2
    go_wp2_with fail
    refine (HROF.out _).mono ?_
    rintro e w3 ⟨rfl, hb3⟩
    have hs3 := hb3.size
    have HR3 := Lib.hid (HR2.out.below hb3 (by omega))
    have HX3 := Lib.hid (HX2.out.below hb3 (by omega))
    have HB3 := Lib.hid (HB2.out.trans (hb3.mono (by omega)))
    clear hb3
    go_wp2_with (refine wpList_store_all rfl 27 (.tmp 7) (.tmp 23) rfl w3.heap.size (bvals D) rfl rfl 27 (bvals (List.replicate 32 0)) (Row.new_at _ _ _ _ rfl rfl) ?s3 ?s4 (bvals_one _) ?_)
    case s3 => rw [bvals_length, HDL.out]; kernel_rfl
    case s4 => rw [bvals_length, bvals_length, HDL.out, List.length_replicate]
    intro w4 HY4 HT4
    have hs4 : w3.heap.size + 1 = w4.heap.size := by have := HT4.out.2.2.2.1; simp at this; omega
    have HR4 := Lib.hid ((HR3.out.alloc _).turn HT4.out (by omega))
    have HX4 := Lib.hid ((HX3.out.alloc _).turn HT4.out (by omega))
    have HB4 := Lib.hid (below_turn (HB3.out.alloc (by omega) _) HT4.out (by omega))
    clear HT4
    go_wp2_with (refine wpList_load_all rfl 27 (.tmp 2) rfl w.heap.size rfl 27 (bvals l) _ HR4.out Tryd.underlying27 rfl ?l1 ?_)
    case l1 => rw [bvals_length, HL.out]; kernel_rfl
    go_wp2_with fail
    refine (hex_any l _ HL.out).mono ?_
    rintro e w5 ⟨rfl, hb5⟩
    have hs5 := hb5.size
    have HR5 := Lib.hid (HR4.out.below hb5 (by omega))
    have HX5 := Lib.hid (HX4.out.below hb5 (by omega))
    have HY5 := Lib.hid (HY4.out.below hb5 (by omega))
    have HB5 := Lib.hid (HB4.out.trans (hb5.mono (by omega)))
    clear hb5
    go_wp2_with fail
    refine (HBK.out _).mono ?_
    rintro e w6 ⟨rfl, hb6⟩
    have hs6 := hb6.size
    have HR6 := Lib.hid (HR5.out.below hb6 (by omega))
    have HX6 := Lib.hid (HX5.out.below hb6 (by omega))
    have HY6 := Lib.hid (HY5.out.below hb6 (by omega))
    have HB6 := Lib.hid (HB5.out.trans (hb6.mono (by omega)))
    clear hb6
    go_wp2_with (refine wpList_store_all rfl 27 (.tmp 9) (.tmp 29) rfl w6.heap.size (bvals l) rfl rfl 27 (bvals (List.replicate 32 0)) (Row.new_at _ _ _ _ rfl rfl) ?s5 ?s6 (bvals_one _) ?_)
    case s5 => rw [bvals_length, HL.out]; kernel_rfl
    case s6 => rw [bvals_length, bvals_length, HL.out, List.length_replicate]
    intro w7 HZ7 HT7
    have hs7 : w6.heap.size + 1 = w7.heap.size := by have := HT7.out.2.2.2.1; simp at this; omega
    have HR7 := Lib.hid ((HR6.out.alloc _).turn HT7.out (by omega))
    have HX7 := Lib.hid ((HX6.out.alloc _).turn HT7.out (by omega))
    have HY7 := Lib.hid ((HY6.out.alloc _).turn HT7.out (by omega))
    have HB7 := Lib.hid (below_turn (HB6.out.alloc (by omega) _) HT7.out (by omega))
    clear HT7 HR0 HR1 HR2 HR3 HR4 HR5 HR6 HX2 HX3 HX4 HX5 HX6 HY4 HY5 HY6 HB1 HB2 HB3 HB4 HB5 HB6 HBA HOF HROF HBK
    have HDR := Lib.hid (Below.refl w7.heap.size w7).drew
    have heq1 := eq_same l HL.out
    have heq2 := eq_same D HDL.out
    have HB7F := Lib.hid HB7.out
    have hsz7 := HB7.out.size
    clear HB7
    have HHL := Lib.hid (fun W => hex_any l W HL.out)
    have HRH := Lib.hid (fun W => refhex_any l W HL.out)
    obtain ⟨T, hT⟩ : ∃ T : TypeId, T = 27 := ⟨_, rfl⟩
    have key : ∀ x, Op.load 27 x = Op.load T x := by intro x; rw [hT]
    obtain ⟨n, hn⟩ : ∃ n : Nat, n = 32 := ⟨_, rfl⟩
    have hagg : ∀ W, (isAgg T).run Tryd.prog W = .ok true W := fun W => by rw [hT]; kernel_rfl
    have hsize : ∀ W, (sizeOf T).run Tryd.prog W = .ok n W := fun W => by rw [hT, hn]; kernel_rfl
    have hq1 : ∀ W, Below w7.heap.size w7 W → (loadCellsFrom ⟨w.heap.size, 0, none⟩ 0 n #[]).run Tryd.prog W = .ok (bvals l).toArray W := fun W hb => cells_run (range_below HR7.out.range hb (by omega)) (by rw [bvals_length, HL.out, hn])
    have hq2 : ∀ W, Below w7.heap.size w7 W → (loadCellsFrom ⟨w1.heap.size, 0, none⟩ 0 n #[]).run Tryd.prog W = .ok (bvals D).toArray W := fun W hb => cells_run (range_below HX7.out.range hb (by omega)) (by rw [bvals_length, HDL.out, hn])
    have hq3 : ∀ W, Below w7.heap.size w7 W → (loadCellsFrom ⟨w3.heap.size, 0, none⟩ 0 n #[]).run Tryd.prog W = .ok (bvals D).toArray W := fun W hb => cells_run (range_below HY7.out.range hb (by omega)) (by rw [bvals_length, HDL.out, hn])
    have hq4 : ∀ W, Below w7.heap.size w7 W → (loadCellsFrom ⟨w6.heap.size, 0, none⟩ 0 n #[]).run Tryd.prog W = .ok (bvals l).toArray W := fun W hb => cells_run (range_below HZ7.out.range hb (by omega)) (by rw [bvals_length, HL.out, hn])
    clear hn HR7 HX7 HY7 HZ7
    have HDD := HDR.out
    cases ok
    · go_wp2_with fail
      try simp only [key]
      have k27 : ∀ x ty pos af g, Oper.mk (some 58) (Op.load T x) ty pos af g = Oper.mk (some 58) (asIs (Op.load T x)) ty pos af g := fun _ _ _ _ _ => rfl
      have k29 : ∀ x ty pos af g, Oper.mk (some 60) (Op.move x) ty pos af g = Oper.mk (some 60) (asIs (Op.move x)) ty pos af g := fun _ _ _ _ _ => rfl
      have k30 : ∀ x y z u v ty pos af g, Oper.mk (some 61) (Op.binOp x y z u v) ty pos af g = Oper.mk (some 61) (asIs (Op.binOp x y z u v)) ty pos af g := fun _ _ _ _ _ _ _ _ _ => rfl
      simp only [k27, k29, k30]
      clear k27 k29 k30
      clear key hT
      first | (go_region_held3 (fun w' : World => Below w7.heap.size w7 w') (first | exact HDD | assumption | exact below_step (by assumption) (by assumption)) ((first
          | (go_at_call 17; (with_reducible refine (HHL.out _).mono ?_); rintro e wa ⟨rfl, hba⟩)
          | (go_at_call 18; (with_reducible refine (HRH.out _).mono ?_); rintro e wa ⟨rfl, hba⟩)
          | (go_at_call 9; (refine (fixed_any _ (HT.out.below (HB7F.out.trans ((by assumption : Below w7.heap.size w7 _).mono hsz7)) hb0) (by have := (by assumption : Below w7.heap.size w7 _).size; omega)).mono ?_); rintro e wa ⟨rfl, hba⟩)))) | fail
      all_goals
        go_wp2
        go_ret
        refine ⟨rfl, HB7F.out.trans (Below.mono (?_ : Below w7.heap.size w7 _) hsz7)⟩
        assumption
    · have HXX := Lib.hid (HHX.out rfl)
      go_wp2_with fail

      try simp only [key]
      clear key hT
      first | (go_region_held3 (fun w' : World => Below w7.heap.size w7 w') (first | exact HDD | assumption | exact below_step (by assumption) (by assumption)) ((first
          | (go_at_call 17; (with_reducible refine (HHL.out _).mono ?_); rintro e wa ⟨rfl, hba⟩)
          | (go_at_call 18; (with_reducible refine (HRH.out _).mono ?_); rintro e wa ⟨rfl, hba⟩)
          | (go_at_call 17; (with_reducible refine (HXX.out _).mono ?_); rintro e wa ⟨rfl, hba⟩)
          | (go_at_call 9; (refine (fixed_any _ (HT.out.below (HB7F.out.trans ((by assumption : Below w7.heap.size w7 _).mono hsz7)) hb0) (by have := (by assumption : Below w7.heap.size w7 _).size; omega)).mono ?_); rintro e wa ⟨rfl, hba⟩)))) | fail
      all_goals
        go_wp2
        go_ret
        refine ⟨rfl, HB7F.out.trans (Below.mono (?_ : Below w7.heap.size w7 _) hsz7)⟩
        assumption
end Sh
end Go.Proofs.YtkdnkcdjmcimbaaDoor
