/-
  Layer 8 (journal): the document's disks from call to call; the walk of its clear. Layer 8 (journal): the walk of the document's anew. Layer 8 (journal): the walk of the document's Open.
-/
import Derived.Test.YtogpigfepebibaaGreatDoorMJD
import Derived.Test.YtogpigfepebibaaGreatDoorMDI
import Derived.Test.YtogpigfepebibaaGreatDoorMDG
import Derived.Test.YtogpigfepebibaaGreatDoorMDO
import Derived.Laws.ResultCell
namespace Go.Proofs.YtogpigfepebibaaGreatDoor
namespace Jl
open Go.RowKit Go.ChangeShapes Kr Dk

/-- Files in hand: they lie where they did, below B0, or in blocks from base on. -/
def RefTo (B0 base : Nat) (A : Option Addr) (l : List FF) (A' : Option Addr) (m : Nat) (W : World) : Prop :=
  l.length = m ∧ ((A' = A ∧ FRow W B0 A' l) ∨ ((∀ q, A' = some q → base ≤ q.block ∧ q.block < W.heap.size) ∧ FRow W W.heap.size A' l))
section
variable {B0 base x m : Nat} {A A' : Option Addr} {l : List FF} {W W' : World}
theorem RefTo.start (hx : FRow W B0 A l) (hn : l.length = m) : RefTo B0 base A l A m W := ⟨hn, .inl ⟨rfl, hx⟩⟩
theorem RefTo.row (h : RefTo B0 base A l A' m W) (hB : B0 ≤ W.heap.size) : FRow W W.heap.size A' l := h.2.elim (fun h => h.2.more hB) (fun h => h.2)
theorem RefTo.below (h : RefTo B0 base A l A' m W) (hb : Below W.heap.size W W') (hB : B0 ≤ W.heap.size) : RefTo B0 base A l A' m W' :=
  ⟨h.1, h.2.imp (fun h => ⟨h.1, h.2.below hb hB⟩) (fun h => ⟨fun q hq => ⟨(h.1 q hq).1, Nat.lt_of_lt_of_le (h.1 q hq).2 hb.size⟩, h.2.later hb⟩)⟩
theorem turn_cell (ht : Turn x W W') (p : Addr) (h : p.block ≠ x) : W'.cell? p = W.cell? p := by
  unfold World.cell?
  rw [ht.2.2.2.2 _ h]
theorem RefTo.turn (h : RefTo B0 base A l A' m W) (ht : Turn x W W') (h0 : B0 ≤ x) (h1 : x < base) : RefTo B0 base A l A' m W' := by
  refine ⟨h.1, h.2.imp (fun h => ⟨h.1, h.2.keep fun p hp => turn_cell ht p (by omega)⟩) (fun h => ⟨fun q hq => by have := ht.2.2.2.1; have := h.1 q hq; omega, fun j y hy => ?_⟩)⟩
  obtain ⟨b', o', h2, h3, h4⟩ := h.2 j y hy
  have h5 : base ≤ b' := (h.1 _ h2).1
  exact ⟨b', o', h2, by rw [ht.2.2.2.1]; exact h3, fun i v hv => (turn_cell ht ⟨b', _, none⟩ (by show b' ≠ x; omega)).trans (h4 i v hv)⟩
theorem row_low {w : World} {B B' : Nat} (h : FRow w B A l) (hA : ∀ q, A = some q → q.block < B') : FRow w B' A l := fun j y hy => by
  obtain ⟨b, o, h1, _, h3⟩ := h j y hy
  exact ⟨b, o, h1, hA _ h1, h3⟩
theorem RefTo.next {D : DD × Nat} {e : Ending} (h : RefTo B0 base A l A' m W) (hA : ∀ q, A = some q → q.block < B0) (hb : base ≤ W.heap.size) (hr : RefAns W A' D e W') :
    ∃ A2 m2 cap2, e = .returned (.tuple #[dval A2 m2 cap2 D.1.left, .int .i64 (D.2 : Int)]) ∧ RefTo B0 base A D.1.files A2 m2 W' ∧ Below W.heap.size W W' := by
  obtain ⟨⟨A2, m2, cap2, he, hl, h3⟩, hbl⟩ := hr
  refine ⟨A2, m2, cap2, he, ⟨hl, ?_⟩, hbl⟩
  rcases h3 with ⟨rfl, hx⟩ | ⟨hf, hx⟩
  · rcases h.2 with ⟨rfl, _⟩ | ⟨hf, _⟩
    · exact .inl ⟨rfl, row_low hx hA⟩
    · exact .inr ⟨fun q hq => ⟨(hf q hq).1, Nat.lt_of_lt_of_le (hf q hq).2 hbl.size⟩, hx.more hbl.size⟩
  · exact .inr ⟨fun q hq => ⟨Nat.le_trans hb (hf q hq).1, (hf q hq).2⟩, hx⟩
theorem RefTo.ans {D : DD × Nat} {w : World} {cap : Nat} (h : RefTo w.heap.size base A D.1.files A' m W) (hB : w.heap.size ≤ base) (hb : Below w.heap.size w W) : RefAns w A D (.returned (.tuple #[dval A' m cap D.1.left, .int .i64 (D.2 : Int)])) W :=
  ⟨⟨A', m, cap, rfl, h.1, h.2.imp id (fun h => ⟨fun q hq => ⟨Nat.le_trans hB (h.1 q hq).1, (h.1 q hq).2⟩, h.2⟩)⟩, hb⟩
end

set_option maxRecDepth 100000 in
set_option maxHeartbeats 4000000 in
theorem refclear_any (A : Option Addr) (cap n : Nat) (l : List FF) (left : Int) (p : ByteArray) (w : World) (hn : l.length = n) (hnm : n ≤ 100000) (hl : -1 ≤ left) (hh : left ≤ 9223372036854775807) (hA : ∀ q, A = some q → q.block < w.heap.size) (hps : p.size ≤ 1000000) (hx : FRow w w.heap.size A l) :
    Calls Tryz.prog 29 #[dval A n cap left, .string p] w (RefAns w A (clearV ⟨l, left⟩ p)) := by
  have HX := Lib.hid hx
  have HN := Lib.hid hn
  have HAA := Lib.hid hA
  clear hx hn hA
  obtain ⟨z, hz⟩ : ∃ z, idx l (nw p) = z := ⟨_, rfl⟩
  have HAT := Lib.hid (fun W (h : FRow W w.heap.size A l) (hW : w.heap.size ≤ W.heap.size) => at_any A cap w.heap.size n l left (nw p) z hz W HN.out (by omega) h hW)
  obtain ⟨w0, hw0⟩ : ∃ w0, w0 = (w.alloc (.cells #[.slice A n cap, .int .i64 left] 30)).alloc (.cells #[.slice none 0 0, .int .i64 0] 30) := ⟨_, rfl⟩
  have HX0 : Hid (FRow w0 w.heap.size A l) := by rw [hw0]; exact (HX.out.alloc (Nat.le_refl _) _).alloc (by simp) _
  have HB0 : Hid (Below w.heap.size w w0) := by rw [hw0]; exact ((Below.refl _ _).alloc (Nat.le_refl _) _).alloc (by simp) _
  have HD0 : Hid (Row w0 w.heap.size 30 (ldisk A n cap left)) := by rw [hw0]; exact (Row.new_at _ _ _ _ rfl rfl).alloc _
  have hs0 : w0.heap.size = w.heap.size + 2 := by rw [hw0]; simp
  have HZ0 : Hid (Row w0 (w.heap.size + 1) 30 zdisk) := by rw [hw0]; exact Row.new_at _ _ _ _ (by simp) rfl
  have c0 := HD0.out.cell 0
  have c1 := HD0.out.cell 1
  rcases idx_at (l := l) (p := nw p) with ⟨h1, h2⟩ | ⟨k, f, h1, h2, h3⟩
  · obtain rfl : z = -1 := hz.symm.trans h2
    have HR : Hid (clearV ⟨l, left⟩ p = (⟨l, left⟩, 0)) := by show _ = _; unfold clearV; rw [if_pos h1]
    clear hz h1 h2
    go_enter Tryz.func29, Tryz.ntmps29
    go_wp2_with fail
    rw [← hw0]
    clear hw0
    go_wp2_with fail
    refine (HAT.out _ HX0.out (by omega)).mono ?_
    rintro e w1 ⟨rfl, hb1⟩
    have HB1 := Lib.hid (HB0.out.trans (hb1.mono (by omega)))
    have HX1 : Hid (FRow w1 w.heap.size A l) := HX0.out.below hb1 (by omega)
    have HD1 := Lib.hid (HD0.out.below hb1 (by omega))
    have HZ1 := Lib.hid (HZ0.out.below hb1 (by omega))
    clear hb1 c0 c1
    have c0 := HD1.out.cell 0
    have c1 := HD1.out.cell 1
    go_wp2_with (refine wpList_store_all rfl 30 (.tmp 4) (.tmp 11) rfl (w.heap.size + 1) (ldisk A n cap left) rfl rfl 30 zdisk HZ1.out (disk_info _ _ _ _) rfl (disk_one _ _ _ _) ?_)
    intro w2 HR2 HT2
    go_wp2
    have hb2 := below_turn HB1.out HT2.out (by omega)
    refine bodyPost_ret (results_row_tmp rfl _ _ (w.heap.size + 1) 30 (ldisk A n cap left) _ rfl HR2.out Tryz.underlying30 rfl (disk_info _ _ _ _)) rfl ?_
    rw [HR.out]
    exact ans_same HN.out HX.out hb2
  · obtain rfl : z = k := hz.symm.trans h2
    have HR : Hid (clearV ⟨l, left⟩ p = removeV ⟨l, left⟩ (nw p)) := by show _ = _; unfold clearV; rw [if_neg (by rw [h1]; simp)]
    have HRM := Lib.hid (fun W (h : FRow W W.heap.size A l) => refremove_any A cap n l left (nw p) W HN.out hnm hl hh h)
    have hki : ¬ (k : Int) < 0 := by omega
    clear hz h1 h2 h3
    go_enter Tryz.func29, Tryz.ntmps29
    go_wp2_with fail
    rw [← hw0]
    clear hw0
    go_wp2_with fail
    refine (HAT.out _ HX0.out (by omega)).mono ?_
    rintro e w1 ⟨rfl, hb1⟩
    have hs1 := hb1.size
    have HB1 := Lib.hid (HB0.out.trans (hb1.mono (by omega)))
    have HX1 : Hid (FRow w1 w.heap.size A l) := HX0.out.below hb1 (by omega)
    have HD1 := Lib.hid (HD0.out.below hb1 (by omega))
    have HZ1 := Lib.hid (HZ0.out.below hb1 (by omega))
    clear hb1 c0 c1
    have c0 := HD1.out.cell 0
    have c1 := HD1.out.cell 1
    go_wp2_with fail
    refine (HRM.out _ (HX1.out.more (by omega))).mono ?_
    intro e w2 hr
    obtain ⟨A2, m2, cap2, rfl, ht2, hb2⟩ := (RefTo.start (base := w.heap.size + 2) HX1.out HN.out).next HAA.out (by omega) hr
    have HB2 := Lib.hid (HB1.out.trans (hb2.mono (by omega)))
    have HZ2 := Lib.hid (HZ1.out.below hb2 (by omega))
    have HTO2 := Lib.hid ht2
    clear hr hb2 ht2 c0 c1
    go_wp2_with (refine wpList_store_all rfl 30 (.tmp 4) (.tmp 16) rfl (w.heap.size + 1) (ldisk A2 m2 cap2 _) rfl rfl 30 zdisk HZ2.out (disk_info _ _ _ _) rfl (disk_one _ _ _ _) ?_)
    intro w3 HR3 HT3
    go_wp2
    have hb3 := below_turn HB2.out HT3.out (by omega)
    refine bodyPost_ret (results_row_tmp rfl _ _ (w.heap.size + 1) 30 (ldisk A2 m2 cap2 _) _ rfl HR3.out Tryz.underlying30 rfl (disk_info _ _ _ _)) rfl ?_
    rw [HR.out]
    exact RefTo.ans (HTO2.out.turn HT3.out (by omega) (by omega)) (by omega) hb3
end Jl
end Go.Proofs.YtogpigfepebibaaGreatDoor

namespace Go.Proofs.YtogpigfepebibaaGreatDoor
namespace Jl
open Go.RowKit Go.ChangeShapes Kr Dk

theorem ne_zero {k : Nat} (h : k ≠ 0) : ((k : Int) != 0) = true := by simp; omega
theorem is_zero {k : Nat} (h : k = 0) : ((k : Int) != 0) = false := by subst h; rfl

set_option maxRecDepth 100000 in
set_option maxHeartbeats 8000000 in
theorem refanew_any (M : Nat) (A : Option Addr) (cap n : Nat) (l : List FF) (left : Int) (p x : ByteArray) (w : World) (hn : l.length = n) (hf : Fit M ⟨l, left⟩) (hM : M + x.size + 1 ≤ 100000) (hA : ∀ q, A = some q → q.block < w.heap.size) (hps : p.size ≤ 1000000) (hx : FRow w w.heap.size A l) :
    Calls Tryz.prog 32 #[dval A n cap left, .string p, .string x] w (RefAns w A (anewV ⟨l, left⟩ p x)) := by
  have HX := Lib.hid hx
  have HN := Lib.hid hn
  have HAA := Lib.hid hA
  have hf1 := fit_append hf (nw p) x
  have hf2 := fit_sync hf1 (nw p)
  have hlen := hf.len
  have hlen1 := hf1.len
  have hlen2 := hf2.len
  have hlow := hf.low
  have hhigh := hf.high
  have hlow1 := hf1.low
  have hhigh1 := hf1.high
  have hlow2 := hf2.low
  have hhigh2 := hf2.high
  have HSZ : Hid (∀ f ∈ l, f.data.size ≤ 1000000) := fun f hq => by have := hf.size f hq; omega
  have HNL : n ≤ M := by rw [← hn]; exact hf.len
  have HE : Hid (anewV ⟨l, left⟩ p x = if (appendV ⟨l, left⟩ (nw p) x).2 ≠ 0 then appendV ⟨l, left⟩ (nw p) x else if (syncV (appendV ⟨l, left⟩ (nw p) x).1 (nw p)).2 ≠ 0 then syncV (appendV ⟨l, left⟩ (nw p) x).1 (nw p) else renameV (syncV (appendV ⟨l, left⟩ (nw p) x).1 (nw p)).1 (nw p) p) := rfl
  have HA1 := Lib.hid (fun W (h : FRow W W.heap.size A l) => refappend_any A cap n l left (nw p) x W HN.out (by omega) hlow hhigh (by omega) HSZ.out h)
  clear hx hn hA hf hf1 hf2
  generalize appendV ⟨l, left⟩ (nw p) x = R1 at *
  have HA2 := Lib.hid (fun W A1 m1 cap1 (hm : R1.1.files.length = m1) (h : FRow W W.heap.size A1 R1.1.files) => refsync_any A1 cap1 m1 R1.1.files R1.1.left (nw p) W hm (by omega) hlow1 hhigh1 h)
  generalize syncV R1.1 (nw p) = R2 at *
  have HA3 := Lib.hid (fun W A2 m2 cap2 (hm : R2.1.files.length = m2) (h : FRow W W.heap.size A2 R2.1.files) => refrename_any A2 cap2 m2 R2.1.files R2.1.left (nw p) p W hm (by omega) hlow2 hhigh2 h)
  generalize renameV R2.1 (nw p) p = R3 at *
  obtain ⟨w0, hw0⟩ : ∃ w0, w0 = (w.alloc (.cells #[.slice A n cap, .int .i64 left] 30)).alloc (.cells #[.slice none 0 0, .int .i64 0] 30) := ⟨_, rfl⟩
  have HX0 : Hid (FRow w0 w.heap.size A l) := by rw [hw0]; exact (HX.out.alloc (Nat.le_refl _) _).alloc (by simp) _
  have HB0 : Hid (Below w.heap.size w w0) := by rw [hw0]; exact ((Below.refl _ _).alloc (Nat.le_refl _) _).alloc (by simp) _
  have HD0 : Hid (Row w0 w.heap.size 30 (ldisk A n cap left)) := by rw [hw0]; exact (Row.new_at _ _ _ _ rfl rfl).alloc _
  have hs0 : w0.heap.size = w.heap.size + 2 := by rw [hw0]; simp
  have HZ0 : Hid (Row w0 (w.heap.size + 1) 30 zdisk) := by rw [hw0]; exact Row.new_at _ _ _ _ (by simp) rfl
  have c0 := HD0.out.cell 0
  have c1 := HD0.out.cell 1
  go_enter Tryz.func32, Tryz.ntmps32
  go_wp2_with fail
  rw [← hw0]
  clear hw0
  go_wp2_with fail
  refine (HA1.out _ (HX0.out.more (by omega))).mono ?_
  intro e w1 hr
  obtain ⟨A1, m1, cap1, rfl, ht1, hb1⟩ := (RefTo.start (base := w.heap.size + 2) HX0.out HN.out).next HAA.out (by omega) hr
  have hs1 := hb1.size
  have HB1 := Lib.hid (HB0.out.trans (hb1.mono (by omega)))
  have HD1 := Lib.hid (HD0.out.below hb1 (by omega))
  have HZ1 := Lib.hid (HZ0.out.below hb1 (by omega))
  have HTO1 := Lib.hid ht1
  clear hr hb1 ht1 c0 c1 HX0 HB0 HD0 HZ0
  go_wp2_with (refine wpList_store_all rfl 30 (.tmp 3) (.tmp 15) rfl w.heap.size (ldisk A1 m1 cap1 R1.1.left) rfl rfl 30 (ldisk A n cap left) HD1.out (disk_info _ _ _ _) rfl (disk_one _ _ _ _) ?_)
  intro w2 HR2 HT2
  have hs2 := HT2.out.2.2.2.1
  have HB2 := Lib.hid (below_turn HB1.out HT2.out (Nat.le_refl _))
  have HZ2 := Lib.hid (HZ1.out.turn HT2.out (by omega))
  have HTO2 := Lib.hid (HTO1.out.turn HT2.out (Nat.le_refl _) (by omega))
  have c0 := HR2.out.cell 0
  have c1 := HR2.out.cell 1
  clear HB1 HD1 HZ1 HTO1 HT2
  by_cases h1 : R1.2 = 0
  · have hk := is_zero h1
    have HE1 : Hid (anewV ⟨l, left⟩ p x = if R2.2 ≠ 0 then R2 else R3) := by show _ = _; rw [HE.out, if_neg (fun h => h h1)]
    clear h1
    go_wp2_with fail
    refine (HA2.out _ _ _ _ HTO2.out.1 (HTO2.out.row (by omega))).mono ?_
    intro e w3 hr
    obtain ⟨A2, m2, cap2, rfl, ht3, hb3⟩ := HTO2.out.next HAA.out (by omega) hr
    have hs3 := hb3.size
    have HB3 := Lib.hid (HB2.out.trans (hb3.mono (by omega)))
    have HD3 := Lib.hid (HR2.out.below hb3 (by omega))
    have HZ3 := Lib.hid (HZ2.out.below hb3 (by omega))
    have HTO3 := Lib.hid ht3
    clear hr hb3 ht3 c0 c1 HB2 HR2 HZ2 HTO2
    go_wp2_with (refine wpList_store_all rfl 30 (.tmp 3) (.tmp 26) rfl w.heap.size (ldisk A2 m2 cap2 R2.1.left) rfl rfl 30 (ldisk A1 m1 cap1 R1.1.left) HD3.out (disk_info _ _ _ _) rfl (disk_one _ _ _ _) ?_)
    intro w4 HR4 HT4
    have hs4 := HT4.out.2.2.2.1
    have HB4 := Lib.hid (below_turn HB3.out HT4.out (Nat.le_refl _))
    have HZ4 := Lib.hid (HZ3.out.turn HT4.out (by omega))
    have HTO4 := Lib.hid (HTO3.out.turn HT4.out (Nat.le_refl _) (by omega))
    have c0 := HR4.out.cell 0
    have c1 := HR4.out.cell 1
    clear HB3 HD3 HZ3 HTO3 HT4
    by_cases h2 : R2.2 = 0
    · have hk2 := is_zero h2
      have HE2 : Hid (anewV ⟨l, left⟩ p x = R3) := by show _ = _; rw [HE1.out, if_neg (fun h => h h2)]
      clear h2
      go_wp2_with fail
      refine (HA3.out _ _ _ _ HTO4.out.1 (HTO4.out.row (by omega))).mono ?_
      intro e w5 hr
      obtain ⟨A3, m3, cap3, rfl, ht5, hb5⟩ := HTO4.out.next HAA.out (by omega) hr
      have hs5 := hb5.size
      have HB5 := Lib.hid (HB4.out.trans (hb5.mono (by omega)))
      have HZ5 := Lib.hid (HZ4.out.below hb5 (by omega))
      have HTO5 := Lib.hid ht5
      clear hr hb5 ht5 c0 c1 HB4 HR4 HZ4 HTO4
      go_wp2_with (refine wpList_store_all rfl 30 (.tmp 6) (.tmp 37) rfl (w.heap.size + 1) (ldisk A3 m3 cap3 R3.1.left) rfl rfl 30 zdisk HZ5.out (disk_info _ _ _ _) rfl (disk_one _ _ _ _) ?_)
      intro w6 HR6 HT6
      go_wp2
      have hb6 := below_turn HB5.out HT6.out (by omega)
      refine bodyPost_ret (results_row_tmp rfl _ _ (w.heap.size + 1) 30 (ldisk A3 m3 cap3 R3.1.left) _ rfl HR6.out Tryz.underlying30 rfl (disk_info _ _ _ _)) rfl ?_
      rw [HE2.out]
      exact RefTo.ans (HTO5.out.turn HT6.out (by omega) (by omega)) (by omega) hb6
    · have hk2 := ne_zero h2
      have HE2 : Hid (anewV ⟨l, left⟩ p x = R2) := by show _ = _; rw [HE1.out, if_pos h2]
      clear h2
      go_wp2_with (refine wpList_store_all rfl 30 (.tmp 6) (.tmp 30) rfl (w.heap.size + 1) (ldisk A2 m2 cap2 R2.1.left) rfl rfl 30 zdisk HZ4.out (disk_info _ _ _ _) rfl (disk_one _ _ _ _) ?_)
      intro w6 HR6 HT6
      go_wp2
      have hb6 := below_turn HB4.out HT6.out (by omega)
      refine bodyPost_ret (results_row_tmp rfl _ _ (w.heap.size + 1) 30 (ldisk A2 m2 cap2 R2.1.left) _ rfl HR6.out Tryz.underlying30 rfl (disk_info _ _ _ _)) rfl ?_
      rw [HE2.out]
      exact RefTo.ans (HTO4.out.turn HT6.out (by omega) (by omega)) (by omega) hb6
  · have hk := ne_zero h1
    have HE1 : Hid (anewV ⟨l, left⟩ p x = R1) := by show _ = _; rw [HE.out, if_pos h1]
    clear h1
    go_wp2_with (refine wpList_store_all rfl 30 (.tmp 6) (.tmp 19) rfl (w.heap.size + 1) (ldisk A1 m1 cap1 R1.1.left) rfl rfl 30 zdisk HZ2.out (disk_info _ _ _ _) rfl (disk_one _ _ _ _) ?_)
    intro w6 HR6 HT6
    go_wp2
    have hb6 := below_turn HB2.out HT6.out (by omega)
    refine bodyPost_ret (results_row_tmp rfl _ _ (w.heap.size + 1) 30 (ldisk A1 m1 cap1 R1.1.left) _ rfl HR6.out Tryz.underlying30 rfl (disk_info _ _ _ _)) rfl ?_
    rw [HE1.out]
    exact RefTo.ans (HTO2.out.turn HT6.out (by omega) (by omega)) (by omega) hb6
end Jl
end Go.Proofs.YtogpigfepebibaaGreatDoor

namespace Go.Proofs.YtogpigfepebibaaGreatDoor
namespace Jl
open Go.RowKit Go.ChangeShapes Kr Dk

/-- A journal of the document's: five cells. -/
abbrev lj (A : Option Addr) (n cap : Nat) (left : Int) (nm : ByteArray) (is br : Bool) : List Value := [.slice A n cap, .int .i64 left, .string nm, .bool is, .bool br]
abbrev jval (A : Option Addr) (n cap : Nat) (left : Int) (nm : ByteArray) (is br : Bool) : Value := .agg (lj A n cap left nm is br).toArray
abbrev zj : List Value := lj none 0 0 0 nul false false
theorem j_info (A : Option Addr) (n cap : Nat) (left : Int) (nm : ByteArray) (is br : Bool) : (Tryz.prog.info? 33).map (·.size) = some (lj A n cap left nm is br).length := by show _ = some 5; kernel_rfl
theorem j_one (A : Option Addr) (n cap : Nat) (left : Int) (nm : ByteArray) (is br : Bool) : (lj A n cap left nm is br).toArray.all (·.oneCell') = true := by simp [lj, Value.oneCell']
theorem built_disk (A : Option Addr) (n cap : Nat) (left : Int) : Tryz.prog.built 33 [(0, dval A n cap left)] = some (lj A n cap left nul false false).toArray := by kernel_rfl
theorem built_all (A : Option Addr) (n cap : Nat) (left : Int) (nm : ByteArray) : Tryz.prog.built 33 [(0, dval A n cap left), (1, .string nm), (2, .bool true)] = some (lj A n cap left nm true false).toArray := by kernel_rfl
theorem results_cell_tmp2a {fn : Func} {p u v : Tmp} {ty : TypeId} (h : fn.results = #[.cell p ty, .tmp u, .tmp v]) (tmps : Array Value) (P : Program) (w : World) :
    (results fn tmps).run P w =
      ((asAddr (tmps.getD p undef)).run P w).andThen fun a w₁ => ((loadVar ty a).run P w₁).andThen fun x w₂ => .ok (.tuple #[x, tmps.getD u undef, tmps.getD v undef]) w₂ := by
  simp only [results, h]
  simp [Sem.run_bind, Result.andThen]
/-- A struct that lies in a cell, and two results beside it. -/
theorem results_cell_tmp2 {P : Program} {fn : Func} {p u v : Tmp} {ty : TypeId} (h : fn.results = #[.cell p ty, .tmp u, .tmp v]) (tmps : Array Value) (w : World) (g : Nat) (t : TypeId) (L : List Value) (d : TypeDesc)
    (hp : tmps.getD p undef = .pointer (some ⟨g, 0, none⟩)) (hg : Row w g t L) (hu : P.underlying ty = some d) (hd : (match d with | .struct _ | .array _ _ => true | _ => false) = true) (hi : (P.info? ty).map (·.size) = some L.length) :
    (results fn tmps).run P w = .ok (.tuple #[.agg L.toArray, tmps.getD u undef, tmps.getD v undef]) w := by
  have hl := run_loadVar_row (P := P) w g t ty L.toArray (0, 0) d hg hu hd (by simpa using hi)
  rw [results_cell_tmp2a h, hp]
  simp [asAddr, Result.andThen, hl]
/-- A row that lies from block B on. -/
def From (A : Option Addr) (B : Nat) : Prop := ∀ q, A = some q → B ≤ q.block
theorem from_at {B g o : Nat} (h : B ≤ g) : From (some ⟨g, o, none⟩) B := fun q hq => by
  injection hq with hq
  subst hq
  exact h
theorem From.less {A : Option Addr} {B B' : Nat} (h : From A B) (hB : B' ≤ B) : From A B' := fun q hq => Nat.le_trans hB (h q hq)
theorem owns_from {α : Type} {enc : α → List Value} {k : Nat} {T : TypeId} {w : World} {base n cap : Nat} {A : Option Addr} {t : List α} (h : OwnsK enc k T w base (.slice A n cap) t) : From A base := fun q hq => by
  rcases h.2 with ⟨hv, _⟩ | ⟨g, c, cur, hv, hg, _⟩
  · injection hv with hv; rw [hq] at hv; cases hv
  · injection hv with hv
    rw [hq] at hv
    injection hv with hv
    rw [hv]
    exact hg
/-- What Open answers. -/
def OpenAns (w : World) (A : Option Addr) (p : ByteArray) (O : Op) (e : Ending) (w' : World) : Prop :=
  ∃ A' m cap' Ar capr, e = .returned (.tuple #[jval A' m cap' O.disk.left (if O.is = true then p else nul) O.is false, .slice Ar O.recs.length capr, .int .i64 (O.err : Int)]) ∧ RefTo w.heap.size w.heap.size A O.disk.files A' m w' ∧ NRow w' w'.heap.size Ar O.recs ∧ From Ar w.heap.size ∧ Below w.heap.size w w'
theorem RefTo.lies {B0 base m : Nat} {A A' : Option Addr} {l : List FF} {W : World} (h : RefTo B0 base A l A' m W) (hA : ∀ q, A = some q → q.block < B0) (hB : B0 ≤ W.heap.size) : ∀ q, A' = some q → q.block < W.heap.size := fun q hq => by
  rcases h.2 with ⟨h1, _⟩ | ⟨h1, _⟩
  · rw [h1] at hq; exact Nat.lt_of_lt_of_le (hA q hq) hB
  · exact (h1 q hq).2
theorem read_le {M : Nat} {D : DD} (h : Fit M D) (p : ByteArray) : (readV D p).1.size ≤ M := by
  unfold readV
  split
  · exact Nat.zero_le _
  · rename_i f hf
    exact h.size f (at_mem hf)
theorem fit_clear {M : Nat} {D : DD} (h : Fit M D) (p : ByteArray) : Fit M (clearV D p).1 := by
  unfold clearV
  split
  · exact h
  · exact fit_remove h _
theorem turn_set2 (w : World) (g : Nat) (u v : Value) : Turn g w ((w.setCell ⟨g, 0, none⟩ u).setCell ⟨g, 1, none⟩ v) := by
  have hb := ((Below.refl 0 w).setCell (p := ⟨g, 0, none⟩) (Nat.zero_le _) u).setCell (p := ⟨g, 1, none⟩) (Nat.zero_le _) v
  refine ⟨hb.os, hb.tape, hb.output, by simp, fun k hk => ?_⟩
  exact (Below.heap_setCell _ ⟨g, 1, none⟩ v k hk).trans (Below.heap_setCell _ ⟨g, 0, none⟩ u k hk)
theorem fit_anew {M : Nat} {D : DD} (h : Fit M D) (p x : ByteArray) : Fit (M + x.size + 1) (anewV D p x).1 := by
  have h1 := fit_append h (nw p) x
  unfold anewV
  split
  · exact h1
  · split
    · exact fit_sync h1 _
    · exact fit_rename (fit_sync h1 _) _ _

set_option maxRecDepth 100000 in
set_option maxHeartbeats 8000000 in
theorem refopen_any (M : Nat) (A : Option Addr) (cap n : Nat) (l : List FF) (left : Int) (p : ByteArray) (w : World) (hn : l.length = n) (hf : Fit M ⟨l, left⟩) (hM : M ≤ 40000) (hA : ∀ q, A = some q → q.block < w.heap.size) (hps : p.size ≤ 1000000) (hx : FRow w w.heap.size A l) :
    Calls Tryz.prog 9 #[dval A n cap left, .string p] w (OpenAns w A p (openV Sh.dig ⟨l, left⟩ p)) := by
  have HX := Lib.hid hx
  have HN := Lib.hid hn
  have HAA := Lib.hid hA
  have hnb : n ≤ 40000 := by rw [← hn]; exact Nat.le_trans hf.len hM
  have hlow := hf.low
  have hhigh := hf.high
  have hfc := fit_clear hf p
  have HFC := Lib.hid hfc
  have hrd := read_le hfc p
  have HC := Lib.hid (fun W (hs : w.heap.size ≤ W.heap.size) (h : FRow W W.heap.size A l) => refclear_any A cap n l left p W HN.out (by omega) hlow hhigh (fun q hq => Nat.lt_of_lt_of_le (HAA.out q hq) hs) hps h)
  have HE : Hid (p ≠ nul → openV Sh.dig ⟨l, left⟩ p = if (clearV ⟨l, left⟩ p).2 ≠ 0 then ⟨(clearV ⟨l, left⟩ p).1, false, [], (clearV ⟨l, left⟩ p).2⟩ else if lenV Sh.dig (readV (clearV ⟨l, left⟩ p).1 p).1 < (readV (clearV ⟨l, left⟩ p).1 p).1.size then
      if (anewV (clearV ⟨l, left⟩ p).1 p ((readV (clearV ⟨l, left⟩ p).1 p).1.extract 0 (lenV Sh.dig (readV (clearV ⟨l, left⟩ p).1 p).1))).2 ≠ 0 then ⟨(anewV (clearV ⟨l, left⟩ p).1 p ((readV (clearV ⟨l, left⟩ p).1 p).1.extract 0 (lenV Sh.dig (readV (clearV ⟨l, left⟩ p).1 p).1))).1, false, [], (anewV (clearV ⟨l, left⟩ p).1 p ((readV (clearV ⟨l, left⟩ p).1 p).1.extract 0 (lenV Sh.dig (readV (clearV ⟨l, left⟩ p).1 p).1))).2⟩
      else ⟨(anewV (clearV ⟨l, left⟩ p).1 p ((readV (clearV ⟨l, left⟩ p).1 p).1.extract 0 (lenV Sh.dig (readV (clearV ⟨l, left⟩ p).1 p).1))).1, true, recsV Sh.dig (readV (clearV ⟨l, left⟩ p).1 p).1, 0⟩
    else ⟨(clearV ⟨l, left⟩ p).1, true, recsV Sh.dig (readV (clearV ⟨l, left⟩ p).1 p).1, 0⟩) := fun h => by unfold openV; rw [if_neg h]
  have HE0 : Hid (p = nul → openV Sh.dig ⟨l, left⟩ p = ⟨⟨l, left⟩, false, [], 1⟩) := fun h => by unfold openV; rw [if_pos h]
  obtain ⟨w0, hw0⟩ : ∃ w0, w0 = ((w.alloc (.cells #[.slice A n cap, .int .i64 left] 30)).alloc (.cells #[.slice none 0 0, .int .i64 0, .string ⟨#[]⟩, .bool false, .bool false] 33)).alloc (.cells #[] 9) := ⟨_, rfl⟩
  have HX0 : Hid (FRow w0 w.heap.size A l) := by rw [hw0]; exact ((HX.out.alloc (Nat.le_refl _) _).alloc (by simp) _).alloc (by simp; omega) _
  have HB0 : Hid (Below w.heap.size w w0) := by rw [hw0]; exact (((Below.refl _ _).alloc (Nat.le_refl _) _).alloc (by simp) _).alloc (by simp; omega) _
  have HD0 : Hid (Row w0 w.heap.size 30 (ldisk A n cap left)) := by rw [hw0]; exact ((Row.new_at _ _ _ _ rfl rfl).alloc _).alloc _
  have hs0 : w0.heap.size = w.heap.size + 3 := by rw [hw0]; simp
  have HZ0 : Hid (Row w0 (w.heap.size + 1) 33 zj) := by rw [hw0]; exact (Row.new_at _ _ _ _ (by simp) rfl).alloc _
  have c0 := HD0.out.cell 0
  have c1 := HD0.out.cell 1
  clear hx hn hA hf hfc
  by_cases hp : p = nul
  · have he : p.toList.isEmpty = true := by rw [emptyB]; exact decide_eq_true hp
    have HR := Lib.hid (HE0.out hp)
    have hq : p.size = 0 := by rw [hp]; rfl
    clear HE hp
    go_enter Tryz.func9, Tryz.ntmps9
    go_wp2_with (at_builtin; fail)
    refine bodyPost_ret (results_cell_tmp2 rfl _ _ (w.heap.size + 1) 33 (lj A n cap left nul false false) _ rfl ((Row.new_at _ _ _ _ (by simp) rfl).alloc _) Tryz.underlying33 rfl (j_info _ _ _ _ _ _ _)) rfl ?_
    rw [HR.out]
    have hb : Below w.heap.size w (((w.alloc (.cells #[.slice A n cap, .int .i64 left] 30)).alloc (.cells (lj A n cap left nul false false).toArray 33)).alloc (.cells #[] 9)) := (((Below.refl _ _).alloc (Nat.le_refl _) _).alloc (by simp) _).alloc (by simp; omega) _
    exact ⟨A, n, cap, _, _, rfl, RefTo.start (HX.out.below hb (Nat.le_refl _)) HN.out, KRow.none_ _ _ _, from_at (by omega), hb⟩
  · have he : p.toList.isEmpty = false := by rw [emptyB]; exact decide_eq_false hp
    have HR := Lib.hid (HE.out hp)
    clear HE HE0 hp HX
    generalize clearV ⟨l, left⟩ p = R1 at *
    have hfc := HFC.out
    have hlow1 := hfc.low
    have hhigh1 := hfc.high
    have hlen1 := hfc.len
    clear hfc
    have HRD := Lib.hid (fun W A1 m1 cap1 (hm : R1.1.files.length = m1) (h : FRow W W.heap.size A1 R1.1.files) => refread_any A1 cap1 W.heap.size m1 R1.1.files R1.1.left p W hm (by omega) h (Nat.le_refl _))
    generalize (readV R1.1 p).1 = b at *
    generalize (readV R1.1 p).2 = kr at *
    have HSC := Lib.hid (fun W => refscan_any b W (by omega))
    have hll := lenV_le Sh.dig b
    have HOK : Hid (OwnsN w0 (w.heap.size + 2) (.slice (some ⟨w.heap.size + 1 + 1, 0, none⟩) 0 0) []) := by rw [hw0]; exact made_at _ _ (by simp) (by simp)
    go_enter Tryz.func9, Tryz.ntmps9
    go_wp2_with (at_builtin; fail)
    rw [← hw0]
    clear hw0
    go_wp2_with fail
    refine (HC.out _ (by omega) (HX0.out.more (by omega))).mono ?_
    intro e w1 hr
    obtain ⟨A1, m1, cap1, rfl, ht1, hb1⟩ := (RefTo.start (base := w.heap.size + 2) HX0.out HN.out).next HAA.out (by omega) hr
    have hs1 := hb1.size
    have HB1 := Lib.hid (HB0.out.trans (hb1.mono (by omega)))
    have HD1 := Lib.hid (HD0.out.below hb1 (by omega))
    have HZ1 := Lib.hid (HZ0.out.below hb1 (by omega))
    have HTO1 := Lib.hid ht1
    clear hr hb1 ht1 c0 c1 HX0 HB0 HD0 HZ0 HC HOK
    go_wp2_with (refine wpList_store_all rfl 30 (.tmp 2) (.tmp 23) rfl w.heap.size (ldisk A1 m1 cap1 R1.1.left) rfl rfl 30 (ldisk A n cap left) HD1.out (disk_info _ _ _ _) rfl (disk_one _ _ _ _) ?_)
    intro w2 HR2 HT2
    have hs2 := HT2.out.2.2.2.1
    have HB2 := Lib.hid (below_turn HB1.out HT2.out (Nat.le_refl _))
    have HZ2 := Lib.hid (HZ1.out.turn HT2.out (by omega))
    have HTO2 := Lib.hid (HTO1.out.turn HT2.out (Nat.le_refl _) (by omega))
    have c0 := HR2.out.cell 0
    have c1 := HR2.out.cell 1
    clear HB1 HD1 HZ1 HTO1 HT2
    by_cases h1 : R1.2 = 0
    · have hk := is_zero h1
      rw [if_neg (fun h => h h1)] at HR
      clear h1
      go_wp2_with fail
      refine (HRD.out _ _ _ _ HTO2.out.1 (HTO2.out.row (by omega))).mono ?_
      rintro e w3 ⟨rfl, hb3⟩
      have hs3 := hb3.size
      have HB3 := Lib.hid (HB2.out.trans (hb3.mono (by omega)))
      have HD3 := Lib.hid (HR2.out.below hb3 (by omega))
      have HZ3 := Lib.hid (HZ2.out.below hb3 (by omega))
      have HTO3 := Lib.hid (HTO2.out.below hb3 (by omega))
      clear hb3 c0 c1 HB2 HR2 HZ2 HTO2 HRD
      go_wp2_with fail
      refine (HSC.out _).mono ?_
      rintro e w4 ⟨A4, cap4, rfl, ho4, hb4⟩
      have hs4 := hb4.size
      have HB4 := Lib.hid (HB3.out.trans (hb4.mono (by omega)))
      have HD4 := Lib.hid (HD3.out.below hb4 (by omega))
      have HZ4 := Lib.hid (HZ3.out.below hb4 (by omega))
      have HTO4 := Lib.hid (HTO3.out.below hb4 (by omega))
      have HO4 : Hid (OwnsN w4 (w.heap.size + 2) (.slice A4 (recsV Sh.dig b).length cap4) (recsV Sh.dig b)) := ho4.less (by omega)
      clear hb4 ho4 HB3 HD3 HZ3 HTO3 HSC
      have c0 := HD4.out.cell 0
      have c1 := HD4.out.cell 1
      generalize recsV Sh.dig b = L at *
      generalize lenV Sh.dig b = k at *
      by_cases hkb : k < b.size
      · have hkbi : (k : Int) < b.size := by omega
        rw [if_pos hkb] at HR
        have hcut := cut_front b k hll
        have hxs : (b.extract 0 k).size ≤ 40000 := by rw [ByteArray.size_extract]; omega
        have hfa := fit_anew HFC.out p (b.extract 0 k)
        generalize b.extract 0 k = x at *
        have HAN := Lib.hid (fun W A1 m1 cap1 (hA : ∀ q, A1 = some q → q.block < W.heap.size) (hm : R1.1.files.length = m1) (h : FRow W W.heap.size A1 R1.1.files) => refanew_any M A1 cap1 m1 R1.1.files R1.1.left p x W hm HFC.out (by omega) hA hps h)
        generalize anewV R1.1 p x = R2 at *
        have HZE : Hid (∀ W, Below w4.drew.heap.size w4.drew W → Row W w.heap.size 30 (ldisk A1 m1 cap1 R1.1.left)) := fun W hW => HD4.out.below (B := w.heap.size + 1) ((Below.refl _ _).drew.trans (hW.mono (by show w.heap.size + 1 ≤ w4.heap.size; omega))) (Nat.lt_succ_self _)
        have HTD : Hid (RefTo w.heap.size (w.heap.size + 2) A R1.1.files A1 m1 w4.drew) := HTO4.out
        have hsd : w4.drew.heap.size = w4.heap.size := rfl
        go_wp2_with fail
        go_region_with (go_at_call 32; refine (HAN.out _ _ _ _ ?_ HTD.out.1 (HTD.out.row (by omega))).mono ?_; exact fun q hq => HTD.out.lies HAA.out (by omega) q hq; intro e w5 hr; obtain ⟨A2, m2, cap2, rfl, ht5, hb5⟩ := HTD.out.next HAA.out (by omega) hr; have hr5 := HZE.out _ hb5; have d0 := hr5.cell 0; have d1 := hr5.cell 1; have d2 := hr5.frozen 0; have d3 := hr5.frozen 1)
        have HT6 := Lib.hid (turn_set2 w5 w.heap.size (.slice A2 m2 cap2) (.int .i64 R2.1.left))
        have HD6 : Hid (Row ((w5.setCell ⟨w.heap.size, 0, none⟩ (.slice A2 m2 cap2)).setCell ⟨w.heap.size, 1, none⟩ (.int .i64 R2.1.left)) w.heap.size 30 (ldisk A2 m2 cap2 R2.1.left)) := (hr5.set 0 _).set 1 _
        generalize (w5.setCell ⟨w.heap.size, 0, none⟩ (.slice A2 m2 cap2)).setCell ⟨w.heap.size, 1, none⟩ (.int .i64 R2.1.left) = w6 at HT6 HD6 ⊢
        have hs5 := hb5.size
        have hs6 := HT6.out.2.2.2.1
        have hb4 : Below w4.heap.size w4 w5 := (Below.refl _ _).drew.trans (hb5.mono (Nat.le_refl _))
        have HB6 := Lib.hid (below_turn (HB4.out.trans (hb4.mono (by omega))) HT6.out (Nat.le_refl _))
        have HZ6 := Lib.hid ((HZ4.out.below hb4 (by omega)).turn HT6.out (by omega))
        have HTO6 := Lib.hid (ht5.turn HT6.out (Nat.le_refl _) (by omega))
        have HO6 : Hid (OwnsN w6 (w.heap.size + 2) (.slice A4 L.length cap4) L) := owns_turn (HO4.out.keep hb4) HT6.out (by omega)
        have c0 := HD6.out.cell 0
        have c1 := HD6.out.cell 1
        clear hr ht5 hb5 hr5 d0 d1 d2 d3 hb4 HB4 HD4 HZ4 HTO4 HO4 HAN HZE HTD hcut HT6
        by_cases h2 : R2.2 = 0
        · have hk2 := is_zero h2
          rw [if_neg (fun h => h h2)] at HR
          clear h2
          go_wp2_with (first
            | (refine wpList_buildTo rfl 33 _ rfl (some 63) rfl (lj A2 m2 cap2 R2.1.left p true false).toArray (built_all _ _ _ _) ?_)
            | (refine wpList_store_all rfl 33 (.tmp 4) (.tmp 63) rfl (w.heap.size + 1) (lj A2 m2 cap2 R2.1.left p true false) rfl rfl 33 zj HZ6.out (j_info _ _ _ _ _ _ _) rfl (j_one _ _ _ _ _ _ _) ?_))
          intro w7 HR7 HT7
          go_wp2
          have hb7 := below_turn HB6.out HT7.out (by omega)
          refine bodyPost_ret (results_cell_tmp2 rfl _ _ (w.heap.size + 1) 33 (lj A2 m2 cap2 R2.1.left p true false) _ rfl HR7.out Tryz.underlying33 rfl (j_info _ _ _ _ _ _ _)) rfl ?_
          rw [HR.out]
          have ht7 := HTO6.out.turn HT7.out (by omega) (by omega)
          exact ⟨A2, m2, cap2, A4, cap4, rfl, ⟨ht7.1, ht7.2.imp id (fun h => ⟨fun q hq => ⟨by have := h.1 q hq; omega, (h.1 q hq).2⟩, h.2⟩)⟩, OwnsK.row encN_length (owns_turn HO6.out HT7.out (by omega)), (owns_from HO6.out).less (by omega), hb7⟩
        · have hk2 := ne_zero h2
          rw [if_pos h2] at HR
          clear h2
          go_wp2_with (first
            | (refine wpList_buildTo rfl 33 _ rfl (some 58) rfl (lj A2 m2 cap2 R2.1.left nul false false).toArray (built_disk _ _ _ _) ?_)
            | (refine wpList_store_all rfl 33 (.tmp 4) (.tmp 58) rfl (w.heap.size + 1) (lj A2 m2 cap2 R2.1.left nul false false) rfl rfl 33 zj HZ6.out (j_info _ _ _ _ _ _ _) rfl (j_one _ _ _ _ _ _ _) ?_))
          intro w7 HR7 HT7
          go_wp2
          have hb7 := below_turn HB6.out HT7.out (by omega)
          refine bodyPost_ret (results_cell_tmp2 rfl _ _ (w.heap.size + 1) 33 (lj A2 m2 cap2 R2.1.left nul false false) _ rfl HR7.out Tryz.underlying33 rfl (j_info _ _ _ _ _ _ _)) rfl ?_
          rw [HR.out]
          have ht7 := HTO6.out.turn HT7.out (by omega) (by omega)
          exact ⟨A2, m2, cap2, _, _, rfl, ⟨ht7.1, ht7.2.imp id (fun h => ⟨fun q hq => ⟨by have := h.1 q hq; omega, (h.1 q hq).2⟩, h.2⟩)⟩, KRow.none_ _ _ _, from_at (by omega), hb7⟩
      · have hkbi : ¬ (k : Int) < b.size := by omega
        rw [if_neg hkb] at HR
        go_wp2_with (first
          | (refine wpList_buildTo rfl 33 _ rfl (some 63) rfl (lj A1 m1 cap1 R1.1.left p true false).toArray (built_all _ _ _ _) ?_)
          | (refine wpList_store_all rfl 33 (.tmp 4) (.tmp 63) rfl (w.heap.size + 1) (lj A1 m1 cap1 R1.1.left p true false) rfl rfl 33 zj HZ4.out (j_info _ _ _ _ _ _ _) rfl (j_one _ _ _ _ _ _ _) ?_))
        intro w6 HR6 HT6
        go_wp2
        have hb6 := below_turn HB4.out HT6.out (by omega)
        refine bodyPost_ret (results_cell_tmp2 rfl _ _ (w.heap.size + 1) 33 (lj A1 m1 cap1 R1.1.left p true false) _ rfl HR6.out Tryz.underlying33 rfl (j_info _ _ _ _ _ _ _)) rfl ?_
        rw [HR.out]
        have ht6 := HTO4.out.turn HT6.out (by omega) (by omega)
        exact ⟨A1, m1, cap1, A4, cap4, rfl, ⟨ht6.1, ht6.2.imp id (fun h => ⟨fun q hq => ⟨by have := h.1 q hq; omega, (h.1 q hq).2⟩, h.2⟩)⟩, OwnsK.row encN_length (owns_turn HO4.out HT6.out (by omega)), (owns_from HO4.out).less (by omega), hb6⟩
    · have hk := ne_zero h1
      rw [if_pos h1] at HR
      clear h1
      go_wp2_with (first
        | (refine wpList_buildTo rfl 33 _ rfl (some 28) rfl (lj A1 m1 cap1 R1.1.left nul false false).toArray (built_disk _ _ _ _) ?_)
        | (refine wpList_store_all rfl 33 (.tmp 4) (.tmp 28) rfl (w.heap.size + 1) (lj A1 m1 cap1 R1.1.left nul false false) rfl rfl 33 zj HZ2.out (j_info _ _ _ _ _ _ _) rfl (j_one _ _ _ _ _ _ _) ?_))
      intro w6 HR6 HT6
      go_wp2
      have hb6 := below_turn HB2.out HT6.out (by omega)
      refine bodyPost_ret (results_cell_tmp2 rfl _ _ (w.heap.size + 1) 33 (lj A1 m1 cap1 R1.1.left nul false false) _ rfl HR6.out Tryz.underlying33 rfl (j_info _ _ _ _ _ _ _)) rfl ?_
      rw [HR.out]
      have ht6 := HTO2.out.turn HT6.out (by omega) (by omega)
      exact ⟨A1, m1, cap1, _, _, rfl, ⟨ht6.1, ht6.2.imp id (fun h => ⟨fun q hq => ⟨by have := h.1 q hq; omega, (h.1 q hq).2⟩, h.2⟩)⟩, KRow.none_ _ _ _, from_at (by omega), hb6⟩
end Jl
end Go.Proofs.YtogpigfepebibaaGreatDoor
