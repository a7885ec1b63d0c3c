/-
  Layer 7 (disk): the walk of the document's Remove. Layer 7 (disk): the walk of the document's Rename.
-/
import Derived.Test.YtogpigfepebibaaGreatDoorMDG
namespace Go.Proofs.YtogpigfepebibaaGreatDoor
namespace Dk
open Go.RowKit Go.ChangeShapes Kr

theorem SitD.laid {x b n cap : Nat} {A : Option Addr} {left : Int} {W : World} (h : W.cell? ⟨x, 0, none⟩ = some (.slice A n cap) ∧ W.cell? ⟨x, 1, none⟩ = some (.int .i64 left)) (hx : b ≠ x) (u v : Value) :
    ((W.setCell ⟨b, 0, none⟩ u).setCell ⟨b, 1, none⟩ v).cell? ⟨x, 0, none⟩ = some (.slice A n cap) ∧ ((W.setCell ⟨b, 0, none⟩ u).setCell ⟨b, 1, none⟩ v).cell? ⟨x, 1, none⟩ = some (.int .i64 left) :=
  ⟨(far2 _ _ _ _ ⟨x, 0, none⟩ hx).trans h.1, (far2 _ _ _ _ ⟨x, 1, none⟩ hx).trans h.2⟩

set_option maxRecDepth 100000 in
set_option maxHeartbeats 4000000 in
theorem refremove_any (A : Option Addr) (cap n : Nat) (l : List FF) (left : Int) (p : ByteArray) (w : World) (hn : l.length = n) (hnm : n ≤ 100000) (hl : -1 ≤ left) (hh : left ≤ 9223372036854775807) (hx : FRow w w.heap.size A l) :
    Calls Tryz.prog 54 #[dval A n cap left, .string p] w (RefAns w A (removeV ⟨l, left⟩ p)) := by
  have HX := Lib.hid hx
  have HN := Lib.hid hn
  clear hx hn
  obtain ⟨z, hz⟩ : ∃ z, idx l p = z := ⟨_, rfl⟩
  have HAT := Lib.hid (fun W (h : FRow W w.heap.size A l) (hW : w.heap.size ≤ W.heap.size) => at_any A cap w.heap.size n l left p z hz W HN.out (by omega) h hW)
  obtain ⟨w0, hw0⟩ : ∃ w0, w0 = (w.alloc (.cells #[.slice A n cap, .int .i64 left] 30)).alloc (.cells #[.slice none 0 0, .int .i64 0] 30) := ⟨_, rfl⟩
  have HX0 : Hid (FRow w0 w.heap.size A l) := by rw [hw0]; exact (HX.out.alloc (Nat.le_refl _) _).alloc (by simp) _
  have HB0 : Hid (Below w.heap.size w w0) := by rw [hw0]; exact ((Below.refl _ _).alloc (Nat.le_refl _) _).alloc (by simp) _
  have HC0 : Hid (w0.cell? ⟨w.heap.size, 0, none⟩ = some (.slice A n cap)) := by show _ = _; rw [hw0]; simp
  have HC1 : Hid (w0.cell? ⟨w.heap.size, 1, none⟩ = some (.int .i64 left)) := by show _ = _; rw [hw0]; simp
  have hs0 : w0.heap.size = w.heap.size + 2 := by rw [hw0]; simp
  have HZ0 : Hid (Row w0 (w.heap.size + 1) 30 zdisk) := by rw [hw0]; exact Row.new_at _ _ _ _ (by simp) rfl
  by_cases hp : p = nul
  · have HR : Hid (removeV ⟨l, left⟩ p = (⟨l, left⟩, 1)) := by show _ = _; unfold removeV; rw [if_pos hp]
    have he : p.toList.isEmpty = true := by rw [emptyB]; exact decide_eq_true hp
    clear hp hz HAT
    go_enter Tryz.func54, Tryz.ntmps54
    go_wp2_with fail
    go_returns
    rw [HR.out]
    exact ans_same HN.out HX.out (((Below.refl _ _).alloc (Nat.le_refl _) _).alloc (by simp) _)
  · have he : p.toList.isEmpty = false := by rw [emptyB]; exact decide_eq_false hp
    rcases idx_at (l := l) (p := p) with ⟨h1, h2⟩ | ⟨k, f, h1, h2, h3⟩
    · obtain rfl : z = -1 := hz.symm.trans h2
      have HR : Hid (removeV ⟨l, left⟩ p = (⟨l, left⟩, 10)) := by show _ = _; unfold removeV; rw [if_neg hp, h1]
      clear hp hz h1 h2
      go_enter Tryz.func54, Tryz.ntmps54
      go_wp2_with fail
      rw [← hw0]
      clear hw0
      refine (HAT.out _ HX0.out (by omega)).mono ?_
      rintro e w1 ⟨rfl, hb1⟩
      have HB1 := Lib.hid (HB0.out.trans (hb1.mono (by omega)))
      have d0 := (hb1.cell (p := ⟨w.heap.size, 0, none⟩) (by show w.heap.size < _; omega)).trans HC0.out
      have d1 := (hb1.cell (p := ⟨w.heap.size, 1, none⟩) (by show w.heap.size < _; omega)).trans HC1.out
      have HZ1 := Lib.hid (HZ0.out.below hb1 (by omega))
      clear hb1
      go_wp2_with (refine wpList_store_all rfl 30 (.tmp 4) (.tmp 13) rfl (w.heap.size + 1) (ldisk A n cap left) rfl rfl 30 zdisk HZ1.out (disk_info _ _ _ _) rfl (disk_one _ _ _ _) ?_)
      intro w2 HR2 HT2
      go_wp2
      have hb2 := below_turn HB1.out HT2.out (by omega)
      refine bodyPost_ret (results_row_tmp rfl _ _ (w.heap.size + 1) 30 (ldisk A n cap left) _ rfl HR2.out Tryz.underlying30 rfl (disk_info _ _ _ _)) rfl ?_
      rw [HR.out]
      exact ans_same HN.out HX.out hb2
    · obtain rfl : z = k := hz.symm.trans h2
      have HR : Hid (removeV ⟨l, left⟩ p = passV ⟨l, left⟩ (dropF l p)) := by show _ = _; unfold removeV; rw [if_neg hp, h1]
      have hk0 : decide ((k : Int) < 0) = false := by simp
      clear hp hz h1 h2 h3
      go_enter Tryz.func54, Tryz.ntmps54
      go_wp2_with fail
      rw [← hw0]
      clear hw0
      refine (HAT.out _ HX0.out (by omega)).mono ?_
      rintro e w1 ⟨rfl, hb1⟩
      have HB1 := Lib.hid (HB0.out.trans (hb1.mono (by omega)))
      have HX1 : Hid (FRow w1 w.heap.size A l) := HX0.out.below hb1 (by omega)
      have d0 := (hb1.cell (p := ⟨w.heap.size, 0, none⟩) (by show w.heap.size < _; omega)).trans HC0.out
      have d1 := (hb1.cell (p := ⟨w.heap.size, 1, none⟩) (by show w.heap.size < _; omega)).trans HC1.out
      have HZ1 := Lib.hid (HZ0.out.below hb1 (by omega))
      have hs1 : w.heap.size + 2 ≤ w1.heap.size := by have := hb1.size; omega
      clear hb1
      go_wp2_with fail
      have HCE : Hid (∀ W, Below w1.heap.size w1 W → W.cell? ⟨w.heap.size, 0, none⟩ = some (.slice A n cap) ∧ W.cell? ⟨w.heap.size, 1, none⟩ = some (.int .i64 left)) := fun W hW =>
        ⟨(hW.cell (p := ⟨w.heap.size, 0, none⟩) (by show w.heap.size < _; omega)).trans d0, (hW.cell (p := ⟨w.heap.size, 1, none⟩) (by show w.heap.size < _; omega)).trans d1⟩
      clear d0 d1
      have HW : Hid (∀ W, Below w1.heap.size w1 W → Calls Tryz.prog 65 #[dval A n cap left, .string p] W fun e w' => ∃ A1 m1 cp1, e = .returned (.slice A1 m1 cp1) ∧ ((dropF l p).length = m1 ∧ OwnsF w' w1.heap.size (.slice A1 m1 cp1) (dropF l p)) ∧ Below w1.heap.size w1 w') := fun W hW =>
        (without_any A cap w.heap.size n l left p W HN.out hnm (HX1.out.below hW (by omega)) (by have := hW.size; omega)).mono fun e w' ⟨A1, m1, cp1, h1, h2, h3, h4⟩ => ⟨A1, m1, cp1, h1, ⟨h2, h3.less hW.size⟩, hW.trans (h4.mono hW.size)⟩
      have HP : Hid (∀ W A1 m1 cp1, Below w1.heap.size w1 W → ((dropF l p).length = m1 ∧ OwnsF W w1.heap.size (.slice A1 m1 cp1) (dropF l p)) → Calls Tryz.prog 46 #[dval A n cap left, .slice A1 m1 cp1] W fun e w' => RefAt w.heap.size w1.heap.size A (passV ⟨l, left⟩ (dropF l p)) e w' ∧ Below w1.heap.size w1 w') := fun W A1 m1 cp1 hW ho =>
        (pass_ans _ _ w.heap.size w1.heap.size n cap m1 cp1 l (dropF l p) left W hl hh HN.out ho.1 (by have := hW.size; omega) (HX1.out.below hW (by omega)) ho.2).mono fun e w' ⟨h1, h2⟩ => ⟨h1, hW.trans (h2.mono hW.size)⟩
      have HZE : Hid (∀ W, Below w1.heap.size w1 W → W.cell? ⟨w.heap.size + 1, 0, none⟩ = some (.slice none 0 0) ∧ W.cell? ⟨w.heap.size + 1, 1, none⟩ = some (.int .i64 0) ∧ W.frozen? ⟨w.heap.size + 1, 0, none⟩ = false ∧ W.frozen? ⟨w.heap.size + 1, 1, none⟩ = false) := fun W hW => by
        have h := HZ1.out.below hW (by omega)
        exact ⟨h.cell 0, h.cell 1, h.frozen 0, h.frozen 1⟩
      have H0 := Lib.hid (Below.refl w1.heap.size w1).drew
      have hS0 := HCE.out _ H0.out
      have hn1 : w.heap.size + 1 ≠ w.heap.size := by omega
      go_region_held3 (fun w' : World => w'.cell? ⟨w.heap.size, 0, none⟩ = some (.slice A n cap) ∧ w'.cell? ⟨w.heap.size, 1, none⟩ = some (.int .i64 left))
        (first | exact hS0 | assumption | exact SitD.laid (by assumption) hn1 _ _)
        ((first
          | (go_at_call 65; (refine Calls.mono (HW.out _ H0.out) ?_); rintro e wa ⟨A1, m1, cp1, rfl, hoa, hba⟩; have hSa := HCE.out _ hba)
          | (go_at_call 46; (refine Calls.mono (HP.out _ _ _ _ hba hoa) ?_); rintro e wp ⟨⟨A3, m3, cp3, rfl, hr3⟩, hbp⟩; have hSp := HCE.out _ hbp; obtain ⟨hz0, hz1, hz2, hz3⟩ := HZE.out _ hbp)))
      have HRA := Lib.hid (RefAt.laid ⟨A3, m3, cp3, rfl, hr3⟩ (Nat.le_succ _) (by omega : w.heap.size + 1 < w1.heap.size) (.slice A3 m3 cp3) (.int .i64 (passV ⟨l, left⟩ (dropF l p)).1.left))
      have HRW : Hid (Row ((wp.setCell ⟨w.heap.size + 1, 0, none⟩ (.slice A3 m3 cp3)).setCell ⟨w.heap.size + 1, 1, none⟩ (.int .i64 (passV ⟨l, left⟩ (dropF l p)).1.left)) (w.heap.size + 1) 30 (ldisk A3 m3 cp3 (passV ⟨l, left⟩ (dropF l p)).1.left)) := ((HZ1.out.below hbp (by omega)).set 0 _).set 1 _
      have HBE : Hid (Below w.heap.size w ((wp.setCell ⟨w.heap.size + 1, 0, none⟩ (.slice A3 m3 cp3)).setCell ⟨w.heap.size + 1, 1, none⟩ (.int .i64 (passV ⟨l, left⟩ (dropF l p)).1.left))) := ((HB1.out.trans (hbp.mono (by omega))).setCell (by simp) _).setCell (by simp) _
      clear hr3 hba hbp hoa hSa hSp hz0 hz1 hz2 hz3 hS0
      go_wp2
      refine bodyPost_ret (results_row_tmp rfl _ _ (w.heap.size + 1) 30 (ldisk A3 m3 cp3 (passV ⟨l, left⟩ (dropF l p)).1.left) _ rfl HRW.out Tryz.underlying30 rfl (disk_info _ _ _ _)) rfl ?_
      rw [HR.out]
      exact ⟨HRA.out, HBE.out⟩
end Dk
end Go.Proofs.YtogpigfepebibaaGreatDoor

namespace Go.Proofs.YtogpigfepebibaaGreatDoor
namespace Dk
open Go.RowKit Go.ChangeShapes Kr

set_option maxRecDepth 100000 in
set_option maxHeartbeats 4000000 in
theorem refrename_any (A : Option Addr) (cap n : Nat) (l : List FF) (left : Int) (p q : ByteArray) (w : World) (hn : l.length = n) (hnm : n ≤ 100000) (hl : -1 ≤ left) (hh : left ≤ 9223372036854775807) (hx : FRow w w.heap.size A l) :
    Calls Tryz.prog 56 #[dval A n cap left, .string p, .string q] w (RefAns w A (renameV ⟨l, left⟩ p q)) := by
  have HX := Lib.hid hx
  have HN := Lib.hid hn
  clear hx hn
  obtain ⟨z, hz⟩ : ∃ z, idx l p = z := ⟨_, rfl⟩
  have HAT := Lib.hid (fun W (h : FRow W w.heap.size A l) (hW : w.heap.size ≤ W.heap.size) => at_any A cap w.heap.size n l left p z hz W HN.out (by omega) h hW)
  obtain ⟨w0, hw0⟩ : ∃ w0, w0 = (w.alloc (.cells #[.slice A n cap, .int .i64 left] 30)).alloc (.cells #[.slice none 0 0, .int .i64 0] 30) := ⟨_, rfl⟩
  have HX0 : Hid (FRow w0 w.heap.size A l) := by rw [hw0]; exact (HX.out.alloc (Nat.le_refl _) _).alloc (by simp) _
  have HB0 : Hid (Below w.heap.size w w0) := by rw [hw0]; exact ((Below.refl _ _).alloc (Nat.le_refl _) _).alloc (by simp) _
  have HC0 : Hid (w0.cell? ⟨w.heap.size, 0, none⟩ = some (.slice A n cap)) := by show _ = _; rw [hw0]; simp
  have HC1 : Hid (w0.cell? ⟨w.heap.size, 1, none⟩ = some (.int .i64 left)) := by show _ = _; rw [hw0]; simp
  have hs0 : w0.heap.size = w.heap.size + 2 := by rw [hw0]; simp
  have HZ0 : Hid (Row w0 (w.heap.size + 1) 30 zdisk) := by rw [hw0]; exact Row.new_at _ _ _ _ (by simp) rfl
  by_cases hpq : p = nul ∨ q = nul
  · have HR : Hid (renameV ⟨l, left⟩ p q = (⟨l, left⟩, 1)) := by show _ = _; unfold renameV; rw [if_pos hpq]
    by_cases hp : p = nul
    · have he : p.toList.isEmpty = true := by rw [emptyB]; exact decide_eq_true hp
      clear hp hpq hz HAT
      go_enter Tryz.func56, Tryz.ntmps56
      go_wp2_with fail
      go_returns
      rw [HR.out]
      exact ans_same HN.out HX.out (((Below.refl _ _).alloc (Nat.le_refl _) _).alloc (by simp) _)
    · have he : p.toList.isEmpty = false := by rw [emptyB]; exact decide_eq_false hp
      have he2 : q.toList.isEmpty = true := by rw [emptyB]; exact decide_eq_true (hpq.elim (fun h => absurd h hp) id)
      clear hp hpq hz HAT
      go_enter Tryz.func56, Tryz.ntmps56
      go_wp2_with fail
      go_returns
      rw [HR.out]
      exact ans_same HN.out HX.out (((Below.refl _ _).alloc (Nat.le_refl _) _).alloc (by simp) _)
  · have hp : p ≠ nul := fun h => hpq (.inl h)
    have hq : q ≠ nul := fun h => hpq (.inr h)
    have he : p.toList.isEmpty = false := by rw [emptyB]; exact decide_eq_false hp
    have he2 : q.toList.isEmpty = false := by rw [emptyB]; exact decide_eq_false hq
    rcases idx_at (l := l) (p := p) with ⟨h1, h2⟩ | ⟨k, f, h1, h2, h3⟩
    · obtain rfl : z = -1 := hz.symm.trans h2
      have HR : Hid (renameV ⟨l, left⟩ p q = (⟨l, left⟩, 10)) := by show _ = _; unfold renameV; rw [if_neg hpq, h1]
      clear hp hq hpq hz h1 h2
      go_enter Tryz.func56, Tryz.ntmps56
      go_wp2_with fail
      rw [← hw0]
      clear hw0
      refine (HAT.out _ HX0.out (by omega)).mono ?_
      rintro e w1 ⟨rfl, hb1⟩
      have HB1 := Lib.hid (HB0.out.trans (hb1.mono (by omega)))
      have HX1 : Hid (FRow w1 w.heap.size A l) := HX0.out.below hb1 (by omega)
      have d0 := (hb1.cell (p := ⟨w.heap.size, 0, none⟩) (by show w.heap.size < _; omega)).trans HC0.out
      have d1 := (hb1.cell (p := ⟨w.heap.size, 1, none⟩) (by show w.heap.size < _; omega)).trans HC1.out
      have HZ1 := Lib.hid (HZ0.out.below hb1 (by omega))
      clear hb1
      go_wp2_with (refine wpList_store_all rfl 30 (.tmp 6) (.tmp 22) rfl (w.heap.size + 1) (ldisk A n cap left) rfl rfl 30 zdisk HZ1.out (disk_info _ _ _ _) rfl (disk_one _ _ _ _) ?_)
      intro w2 HR2 HT2
      go_wp2
      have hb2 := below_turn HB1.out HT2.out (by omega)
      refine bodyPost_ret (results_row_tmp rfl _ _ (w.heap.size + 1) 30 (ldisk A n cap left) _ rfl HR2.out Tryz.underlying30 rfl (disk_info _ _ _ _)) rfl ?_
      rw [HR.out]
      exact ans_same HN.out HX.out hb2
    · obtain rfl : z = k := hz.symm.trans h2
      obtain ⟨f2, hf2⟩ : ∃ f2 : FF, f2 = ⟨q, f.data, f.sure⟩ := ⟨_, rfl⟩
      have HR : Hid (renameV ⟨l, left⟩ p q = passV ⟨l, left⟩ (withF (dropF l p) f2)) := by show _ = _; unfold renameV; rw [if_neg hpq, h1, hf2]
      have hkn : k < n := by have := (List.getElem?_eq_some_iff.1 h3).1; have := HN.out; omega
      have hki : (k : Int) < n := by omega
      have H3 := Lib.hid h3
      clear hp hq hpq hz h1 h2 h3
      go_enter Tryz.func56, Tryz.ntmps56
      go_wp2_with fail
      rw [← hw0]
      clear hw0
      refine (HAT.out _ HX0.out (by omega)).mono ?_
      rintro e w1 ⟨rfl, hb1⟩
      have HB1 := Lib.hid (HB0.out.trans (hb1.mono (by omega)))
      have HX1 : Hid (FRow w1 w.heap.size A l) := HX0.out.below hb1 (by omega)
      have d0 := (hb1.cell (p := ⟨w.heap.size, 0, none⟩) (by show w.heap.size < _; omega)).trans HC0.out
      have d1 := (hb1.cell (p := ⟨w.heap.size, 1, none⟩) (by show w.heap.size < _; omega)).trans HC1.out
      have HZ1 := Lib.hid (HZ0.out.below hb1 (by omega))
      have hs1 : w.heap.size + 2 ≤ w1.heap.size := by have := hb1.size; omega
      clear hb1
      obtain ⟨b1, o1, rfl, hbl, hcs⟩ := HX1.out k f H3.out
      have e0 := hcs 0 _ (f_name f)
      rw [Nat.add_zero] at e0
      have e1 := hcs 1 _ (f_data f)
      have e2 := hcs 2 _ (f_sure f)
      clear hcs
      go_wp2_with fail
      obtain ⟨w2, hw2⟩ : ∃ w2, w2 = w1.alloc (.cells #[.string q, .string f.data, .int .i64 (f.sure : Int)] 91) := ⟨_, rfl⟩
      rw [← hw2]
      have hs2 : w2.heap.size = w1.heap.size + 1 := by rw [hw2]; simp
      have HB2 : Hid (Below w.heap.size w w2) := by rw [hw2]; exact HB1.out.alloc (by omega) _
      have HX2 : Hid (FRow w2 w.heap.size (some ⟨b1, o1, none⟩) l) := by rw [hw2]; exact HX1.out.alloc (by omega) _
      have HZ2 : Hid (Row w2 (w.heap.size + 1) 30 zdisk) := by rw [hw2]; exact HZ1.out.alloc _
      have HCE : Hid (∀ W, Below w2.heap.size w2 W → SitC w.heap.size w1.heap.size (some ⟨b1, o1, none⟩) n cap left ⟨q, f.data, f.sure⟩ W) := fun W hW => by
        refine SitC.below (W := w2) ?_ hW (by omega) (by omega)
        rw [hw2]
        exact SitC.made ⟨q, f.data, f.sure⟩ d0 d1 (by omega)
      clear hw2 d0 d1 e0 e1 e2
      have HW0 : Hid (∀ W, Below w2.heap.size w2 W → Calls Tryz.prog 65 #[dval (some ⟨b1, o1, none⟩) n cap left, .string p] W fun e w' => ∃ A1 m1 cp1, e = .returned (.slice A1 m1 cp1) ∧ ((dropF l p).length = m1 ∧ OwnsF w' w2.heap.size (.slice A1 m1 cp1) (dropF l p)) ∧ Below w2.heap.size w2 w') := fun W hW =>
        (without_any (some ⟨b1, o1, none⟩) cap w.heap.size n l left p W HN.out hnm (HX2.out.below hW (by omega)) (by have := hW.size; omega)).mono fun e w' ⟨A1, m1, cp1, h1, h2, h3, h4⟩ => ⟨A1, m1, cp1, h1, ⟨h2, h3.less hW.size⟩, hW.trans (h4.mono hW.size)⟩
      have HW : Hid (∀ W A1 m1 cp1, Below w2.heap.size w2 W → ((dropF l p).length = m1 ∧ OwnsF W w2.heap.size (.slice A1 m1 cp1) (dropF l p)) → Calls Tryz.prog 47 #[dval A1 m1 cp1 0, .agg #[.string q, .string f.data, .int .i64 (f.sure : Int)]] W fun e w' => ∃ A2 m2 cp2, e = .returned (.slice A2 m2 cp2) ∧ ((withF (dropF l p) f2).length = m2 ∧ OwnsF w' w2.heap.size (.slice A2 m2 cp2) (withF (dropF l p) f2)) ∧ Below w2.heap.size w2 w') := fun W A1 m1 cp1 hW ho => by
        have h := with_any A1 cp1 W.heap.size m1 (dropF l p) 0 f2 W ho.1 (by have := dropF_len l p; have := HN.out; omega) (OwnsK.row encF_length ho.2) (Nat.le_refl _)
        rw [hf2] at h ⊢
        exact h.mono fun e w' ⟨A1, m1, cp1, h1, h2, h3, h4⟩ => ⟨A1, m1, cp1, h1, ⟨h2, h3.less hW.size⟩, hW.trans (h4.mono hW.size)⟩
      clear hf2
      have HP : Hid (∀ W A1 m1 cp1, Below w2.heap.size w2 W → ((withF (dropF l p) f2).length = m1 ∧ OwnsF W w2.heap.size (.slice A1 m1 cp1) (withF (dropF l p) f2)) → Calls Tryz.prog 46 #[dval (some ⟨b1, o1, none⟩) n cap left, .slice A1 m1 cp1] W fun e w' => RefAt w.heap.size w2.heap.size (some ⟨b1, o1, none⟩) (passV ⟨l, left⟩ (withF (dropF l p) f2)) e w' ∧ Below w2.heap.size w2 w') := fun W A1 m1 cp1 hW ho =>
        (pass_ans _ _ w.heap.size w2.heap.size n cap m1 cp1 l (withF (dropF l p) f2) left W hl hh HN.out ho.1 (by have := hW.size; omega) (HX2.out.below hW (by omega)) ho.2).mono fun e w' ⟨h1, h2⟩ => ⟨h1, hW.trans (h2.mono hW.size)⟩
      have HZE : Hid (∀ W, Below w2.heap.size w2 W → W.cell? ⟨w.heap.size + 1, 0, none⟩ = some (.slice none 0 0) ∧ W.cell? ⟨w.heap.size + 1, 1, none⟩ = some (.int .i64 0) ∧ W.frozen? ⟨w.heap.size + 1, 0, none⟩ = false ∧ W.frozen? ⟨w.heap.size + 1, 1, none⟩ = false) := fun W hW => by
        have h := HZ2.out.below hW (by omega)
        exact ⟨h.cell 0, h.cell 1, h.frozen 0, h.frozen 1⟩
      have H0 := Lib.hid (Below.refl w2.heap.size w2).drew
      have hS0 := HCE.out _ H0.out
      have hn1 : w.heap.size + 1 ≠ w.heap.size := by omega
      have hn2 : w.heap.size + 1 ≠ w1.heap.size := by omega
      go_region_held3 (fun w' : World => w'.cell? ⟨w.heap.size, 0, none⟩ = some (.slice (some ⟨b1, o1, none⟩) n cap) ∧ w'.cell? ⟨w.heap.size, 1, none⟩ = some (.int .i64 left) ∧ w'.cell? ⟨w1.heap.size, 0, none⟩ = some (.string q) ∧ w'.cell? ⟨w1.heap.size, 1, none⟩ = some (.string f.data) ∧ w'.cell? ⟨w1.heap.size, 2, none⟩ = some (.int .i64 (f.sure : Int)))
        (first | exact hS0 | assumption | exact SitC.laid (by assumption) hn1 hn2 _ _)
        ((first
          | (go_at_call 65; (refine Calls.mono (HW0.out _ H0.out) ?_); rintro e wa ⟨A1, m1, cp1, rfl, hoa, hba⟩; have hSa := HCE.out _ hba)
          | (go_at_call 47; (refine Calls.mono (HW.out _ _ _ _ hba hoa) ?_); rintro e wc ⟨A2, m2, cp2, rfl, hoc, hbc⟩; have hSc := HCE.out _ hbc)
          | (go_at_call 46; (refine Calls.mono (HP.out _ _ _ _ hbc hoc) ?_); rintro e wp ⟨⟨A3, m3, cp3, rfl, hr3⟩, hbp⟩; have hSp := HCE.out _ hbp; obtain ⟨hz0, hz1, hz2, hz3⟩ := HZE.out _ hbp)))
      have HRA := Lib.hid (RefAt.laid ⟨A3, m3, cp3, rfl, hr3⟩ (Nat.le_succ _) (by omega : w.heap.size + 1 < w2.heap.size) (.slice A3 m3 cp3) (.int .i64 (passV ⟨l, left⟩ (withF (dropF l p) f2)).1.left))
      have HRW : Hid (Row ((wp.setCell ⟨w.heap.size + 1, 0, none⟩ (.slice A3 m3 cp3)).setCell ⟨w.heap.size + 1, 1, none⟩ (.int .i64 (passV ⟨l, left⟩ (withF (dropF l p) f2)).1.left)) (w.heap.size + 1) 30 (ldisk A3 m3 cp3 (passV ⟨l, left⟩ (withF (dropF l p) f2)).1.left)) := ((HZ2.out.below hbp (by omega)).set 0 _).set 1 _
      have HBE : Hid (Below w.heap.size w ((wp.setCell ⟨w.heap.size + 1, 0, none⟩ (.slice A3 m3 cp3)).setCell ⟨w.heap.size + 1, 1, none⟩ (.int .i64 (passV ⟨l, left⟩ (withF (dropF l p) f2)).1.left))) := ((HB2.out.trans (hbp.mono (by omega))).setCell (by simp) _).setCell (by simp) _
      clear hr3 hba hbc hbp hoa hoc hSa hSc hSp hz0 hz1 hz2 hz3 hS0
      go_wp2
      refine bodyPost_ret (results_row_tmp rfl _ _ (w.heap.size + 1) 30 (ldisk A3 m3 cp3 (passV ⟨l, left⟩ (withF (dropF l p) f2)).1.left) _ rfl HRW.out Tryz.underlying30 rfl (disk_info _ _ _ _)) rfl ?_
      rw [HR.out]
      exact ⟨HRA.out, HBE.out⟩
end Dk
end Go.Proofs.YtogpigfepebibaaGreatDoor
