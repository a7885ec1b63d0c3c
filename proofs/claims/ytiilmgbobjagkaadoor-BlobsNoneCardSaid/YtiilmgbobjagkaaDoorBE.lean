/-
  Layer 6 (blobs): the walk of the laws' alive.
-/
import Derived.Test.YtiilmgbobjagkaaDoorBD
namespace Go.Proofs.YtiilmgbobjagkaaDoor
namespace Bl
open Go.RowKit Kr

theorem digest_agg (W : World) : (isAgg 29).run Tryd.prog W = .ok true W := by kernel_rfl
theorem digest_size (W : World) : (sizeOf 29).run Tryd.prog W = .ok 32 W := by kernel_rfl
theorem row_cells {w : World} {g : Nat} {t : TypeId} {l : List Value} (h : Sh.Row w g t l) : ∀ j v, l[j]? = some v → w.cell? ((⟨g, 0, none⟩ : Addr).add j) = some v := fun j v hv => by
  rw [Addr.add_lit, Nat.zero_add]
  exact (h.cell j).trans hv
theorem Row.away {S : Nat → Prop} {w w' : World} {g : Nat} {t : TypeId} {l : List Value} (h : Sh.Row w g t l) (ha : Away S w w') (hn : ¬ S g) : Sh.Row w' g t l := (ha.block g h.lt hn).trans h
theorem get_one (d x : Bs) : Bl.get [(d, x)] d = some x := by rw [get_cons, if_pos rfl]
theorem put_one (d x : Bs) : putV [] (d, x) = [(d, x)] := rfl
theorem put_two (d x : Bs) : putV [(d, x)] (d, x) = [(d, x)] := by
  unfold putV
  rw [get_one]
  rfl
theorem drop_one (d x : Bs) : dropV [(d, x)] d = [] := by unfold dropV; simp

theorem Ok.alloc {B : Nat} {w : World} (h : Ok B w) (o : Obj) : Ok B (w.alloc o) := h.below ((Below.refl _ _).alloc h.2.2 _)
/-- A store that a call has made, and all that it has done since. -/
structure St (R : World → (Nat → Prop) → Nat → List Bb → Prop) (B : Nat) (w0 w : World) (S : Nat → Prop) (b : Nat) (l : List Bb) : Prop where
  low : B ≤ w0.heap.size
  below : Below w0.heap.size w0 w
  ok : Ok B w
  own : ∀ q, S q → w0.heap.size ≤ q
  has : R w S b l
section
variable {R : World → (Nat → Prop) → Nat → List Bb → Prop} {B b : Nat} {w0 w w' : World} {S S' : Nat → Prop} {l l' : List Bb}
theorem St.base (h : St R B w0 w S b l) : ∀ q, S q → B ≤ q := fun q hq => Nat.le_trans h.low (h.own q hq)
theorem St.later (hK : Keeps R) (h : St R B w0 w S b l) (hb : Below w.heap.size w w') : St R B w0 w' S b l :=
  ⟨h.low, h.below.trans (hb.mono h.below.size), h.ok.below (hb.mono h.ok.2.2), h.own, hK.later h.has hb⟩
theorem St.alloc (hK : Keeps R) (h : St R B w0 w S b l) (o : Obj) : St R B w0 (w.alloc o) S b l := h.later hK ((Below.refl _ _).alloc (Nat.le_refl _) _)
theorem St.acted (h : St R B w0 w S b l) (hr : R w' S' b l') (hq : ∀ q, S' q → S q ∨ w.heap.size ≤ q) (ha : Away S w w') : St R B w0 w' S' b l' :=
  ⟨h.low, h.below.trans (ha.below (fun q hq => h.own q hq) h.below.size), h.ok.below (ha.below h.base h.ok.2.2), fun q hs => (hq q hs).elim (h.own q) (fun h2 => Nat.le_trans h.below.size h2), hr⟩
theorem St.turn (hK : Keeps R) (h : St R B w0 w S b l) {g : Nat} (ht : Sh.Turn g w w') (hg : w0.heap.size ≤ g) (hn : ¬ S g) : St R B w0 w' S b l := by
  have h1 := Sh.below_turn (Below.refl w0.heap.size w) ht hg
  exact ⟨h.low, h.below.trans h1, h.ok.below (h1.mono h.low), h.own, hK.keep h.has fun q hq => ht.2.2.2.2 q (fun e => hn (e ▸ hq))⟩
end

set_option maxRecDepth 100000 in
set_option maxHeartbeats 4000000 in
theorem alive_any {R : World → (Nat → Prop) → Nat → List Bb → Prop} (hK : Keeps R) (B : Nat) (w : World) (hok : Ok B w) :
    Calls Tryd.prog 7 #[] w fun e w' => e = .returned (.bool true) ∧ Below w.heap.size w w' := by
  obtain ⟨X, hX⟩ : ∃ X : ByteArray, X = ⟨#[97]⟩ := ⟨_, rfl⟩
  obtain ⟨D, hD⟩ : ∃ D, D = dig ⟨#[97]⟩ := ⟨_, rfl⟩
  obtain ⟨D2, hD2⟩ : ∃ D, D = dig ⟨#[98]⟩ := ⟨_, rfl⟩
  obtain ⟨xs, hxs⟩ : ∃ xs : Bs, xs = X.data.toList := ⟨_, rfl⟩
  have HS1 := Lib.hid (fun (W : World) b (hc : W.cell? ⟨b, 0, none⟩ = some (.string ⟨#[97]⟩)) (hb : b < W.heap.size) (ho : Ok B W) => sum_one W B b ⟨#[97]⟩ (by decide) hc hb ho)
  have HS2 := Lib.hid (fun (W : World) b (hc : W.cell? ⟨b, 0, none⟩ = some (.string ⟨#[98]⟩)) (hb : b < W.heap.size) (ho : Ok B W) => sum_one W B b ⟨#[98]⟩ (by decide) hc hb ho)
  have HDL : Hid (D.length = 32) := by show _ = _; rw [hD]; exact dig_len _
  have HDL2 : Hid (D2.length = 32) := by show _ = _; rw [hD2]; exact dig_len _
  have heq := bvals_inj HDL.out HDL2.out
  have hne : decide (D = D2) = false := by rw [hD, hD2]; exact dig_ab
  rw [hne] at heq
  rw [← hD] at HS1
  rw [← hD2] at HS2
  have HPUT := Lib.hid (fun (W : World) S b l (h1 : R W S b l) (h2 : Ok B W) (h3 : ∀ q, S q → B ≤ q) (h4 : Fits l) (h5 : ∀ y, Bl.get l D = some y → y = xs) =>
    hK.put W B S b l ⟨#[97]⟩ h1 h2 h3 h4 (by decide) (by rw [← hD, ← hX, ← hxs]; exact h5))
  rw [← hD, ← hX, ← hxs] at HPUT
  rw [hX] at HPUT
  have HXQ : Hid ((ByteArray.mk #[97]).data.toList = xs) := by show _ = _; rw [hxs, hX]
  have HDQ : Hid (D = dig ⟨#[97]⟩) := hD
  have HOK := Lib.hid hok
  clear hX hD hD2 hxs hne hok
  go_enter Tryd.func7, Tryd.ntmps7
  go_wp2_with fail
  refine (hK.new _).mono ?_
  rintro e w1 ⟨b, S, rfl, hr1, hS1, hb1⟩
  have hT1 : St R B w w1 S b [] := ⟨HOK.out.2.2, hb1, HOK.out.below (hb1.mono HOK.out.2.2), hS1, hr1⟩
  have HT1 := Lib.hid hT1
  clear hr1 hS1 hb1 hT1
  go_wp2_with fail
  refine (HS1.out _ w1.heap.size (by simp) (by simp) (HT1.out.alloc hK _).ok).mono ?_
  rintro e w2 ⟨rfl, hb2⟩
  have HT2 := Lib.hid ((HT1.out.alloc hK (.cells #[.string ⟨#[97]⟩] 9)).later hK hb2)
  clear hb2
  go_wp2_with fail
  refine (HS2.out _ w2.heap.size (by simp) (by simp) (HT2.out.alloc hK _).ok).mono ?_
  rintro e w3 ⟨rfl, hb3⟩
  have HT3 := Lib.hid ((HT2.out.alloc hK (.cells #[.string ⟨#[98]⟩] 9)).later hK hb3)
  clear hb3
  go_wp2_with fail
  refine (HPUT.out _ S b [] HT3.out.has HT3.out.ok HT3.out.base fits_nil (by intro y hy; cases hy)).mono ?_
  rintro e w4 ⟨S4, rfl, hr4, hq4, ha4⟩
  rw [put_one] at hr4
  have HT4 := Lib.hid (HT3.out.acted hr4 hq4 ha4)
  clear hr4 hq4 ha4
  have HF : Hid (Fits [(D, xs)]) := by
    have := put_fits (X := ⟨#[97]⟩) fits_nil (by simp) (by decide)
    rw [show dig ⟨#[97]⟩ = D from HDQ.out.symm, show (ByteArray.mk #[97]).data.toList = xs from HXQ.out] at this
    exact this
  go_wp2_with (refine Sh.wpList_store_all rfl 29 (.tmp 2) (.tmp 16) rfl w4.heap.size (Sh.bvals D) rfl rfl 29 (Sh.bvals (List.replicate 32 0)) (Sh.Row.new_at _ _ _ _ rfl rfl) ?s1 ?s2 (Sh.bvals_one _) ?_)
  case s1 => rw [Sh.bvals_length, HDL.out]; kernel_rfl
  case s2 => rw [Sh.bvals_length, Sh.bvals_length, HDL.out, List.length_replicate]
  intro w5 HX5 HT
  have HN5 : Hid (¬ S4 w4.heap.size) := fun h => Nat.lt_irrefl _ (hK.inside HT4.out.has _ h)
  have HT5 := Lib.hid ((HT4.out.alloc hK _).turn hK HT.out HT4.out.below.size HN5.out)
  have hs5 : w5.heap.size = w4.heap.size + 1 := by have := HT.out.2.2.2.1; simp at this; omega
  clear HT
  go_wp2_with fail
  refine (HPUT.out _ S4 b _ HT5.out.has HT5.out.ok HT5.out.base HF.out (by intro y hy; rw [get_one] at hy; cases hy; rfl)).mono ?_
  rintro e w6 ⟨S6, rfl, hr6, hq6, ha6⟩
  rw [put_two] at hr6
  have HT6 := Lib.hid (HT5.out.acted hr6 hq6 ha6)
  have HX6 := Lib.hid (Row.away HX5.out ha6 HN5.out)
  have HN6 : Hid (¬ S6 w4.heap.size) := fun h => (hq6 _ h).elim HN5.out (fun h2 => by omega)
  clear hr6 hq6 ha6
  have hbl : (Sh.bvals D).length = 32 := by rw [Sh.bvals_length, HDL.out]
  have HBL := Lib.hid hbl
  clear hbl
  go_wp2_with (refine wpList_load_at rfl 29 (.tmp 2) rfl ⟨w4.heap.size, 0, none⟩ rfl (Sh.bvals D) 32 (digest_agg _) (digest_size _) HBL.out (row_cells HX6.out) ?_)
  refine (hK.get _ S6 b _ D ⟨#[97]⟩ true HT6.out.has HF.out HDL.out (by rw [get_one]; exact HXQ.out) (by rw [get_one]; rfl)).mono ?_
  rintro e w7 ⟨rfl, hb7⟩
  have HT7 := Lib.hid (HT6.out.later hK hb7)
  have HX7 := Lib.hid (HX6.out.below hb7 HX6.out.lt)
  clear hb7
  go_wp2_with fail
  refine (hK.all _ S6 b _ HT7.out.has HF.out).mono ?_
  rintro e w8 ⟨A, m, cp, rfl, hm, _, hb8⟩
  obtain rfl : m = 1 := hm.symm
  have HT8 := Lib.hid (HT7.out.later hK hb8)
  have HX8 := Lib.hid (HX7.out.below hb8 HX7.out.lt)
  clear hb8 hm
  go_wp2_with fail
  refine (hK.size _ S6 b _ 1 HT8.out.has HF.out ?sz).mono ?_
  case sz => rw [← HXQ.out]; rfl
  rintro e w9 ⟨rfl, hb9⟩
  have HT9 := Lib.hid (HT8.out.later hK hb9)
  have HX9 := Lib.hid (HX8.out.below hb9 HX8.out.lt)
  clear hb9
  go_wp2_with (refine wpList_load_want rfl 29 (.tmp 2) rfl ⟨w4.heap.size, 0, none⟩ rfl (Sh.bvals D) 32 (digest_agg _) (digest_size _) HBL.out (row_cells HX9.out) ?_)
  refine (hK.drop _ S6 b _ D true HT9.out.has HF.out HDL.out (by rw [get_one]; rfl)).mono ?_
  rintro e w10 ⟨S10, rfl, hr10, hq10, ha10⟩
  rw [drop_one] at hr10
  have HT10 := Lib.hid (HT9.out.acted hr10 hq10 ha10)
  have HX10 := Lib.hid (Row.away HX9.out ha10 HN6.out)
  clear hr10 hq10 ha10
  go_wp2_with (refine wpList_load_want rfl 29 (.tmp 2) rfl ⟨w4.heap.size, 0, none⟩ rfl (Sh.bvals D) 32 (digest_agg _) (digest_size _) HBL.out (row_cells HX10.out) ?_)
  refine (hK.drop _ S10 b _ D false HT10.out.has fits_nil HDL.out rfl).mono ?_
  rintro e w11 ⟨S11, rfl, hr11, hq11, ha11⟩
  have HT11 := Lib.hid (HT10.out.acted hr11 hq11 ha11)
  clear hr11 hq11 ha11
  go_wp2_with fail
  go_ret
  exact ⟨rfl, HT11.out.below⟩
end Bl
end Go.Proofs.YtiilmgbobjagkaaDoor
