/-
  Layer 8 (journal): the walk of the document's Add. Layer 8 (journal): the walk of the document's Swap.
-/
import Derived.Test.YtogpigfepebibaaGreatDoorMJE
namespace Go.Proofs.YtogpigfepebibaaGreatDoor
namespace Jl
open Go.RowKit Go.ChangeShapes Kr Dk

/-- What Add and Swap answer: the disk, whether the journal is broken, the error's number. -/
def RefJ (w : World) (A : Option Addr) (nm : ByteArray) (is : Bool) (R : DD × Bool × Nat) (e : Ending) (w' : World) : Prop :=
  ∃ A' m cap', e = .returned (.tuple #[jval A' m cap' R.1.left nm is R.2.1, .int .i64 (R.2.2 : Int)]) ∧ RefTo w.heap.size w.heap.size A R.1.files A' m w' ∧ Below w.heap.size w w'
/-- Nothing is done. -/
def Idle (is br : Bool) : Prop := is = false ∨ br = true
instance (is br : Bool) : Decidable (Idle is br) := by unfold Idle; infer_instance
def brokeV (R : DD × Nat) : DD × Bool × Nat := (R.1, R.2 != 0, R.2)
def addJ (H : Bs → Bs) (is br : Bool) (D : DD) (p r : ByteArray) : DD × Bool × Nat := if Idle is br then (D, br, 19) else if (frameV H r).2 ≠ 0 then (D, br, (frameV H r).2) else brokeV (putV D p (frameV H r).1)
def swapJ (H : Bs → Bs) (is br : Bool) (D : DD) (p : ByteArray) (l : List ByteArray) : DD × Bool × Nat := if Idle is br then (D, br, 19) else if (framesV H l).2 ≠ 0 then (D, br, (framesV H l).2) else brokeV (restV D p (framesV H l).1)
theorem RefTo.back {B0 base m : Nat} {A A' : Option Addr} {l : List FF} {W : World} (h : RefTo B0 base A l A' m W) (hB : B0 ≤ base) : RefTo B0 B0 A l A' m W := ⟨h.1, h.2.imp id (fun h => ⟨fun q hq => ⟨Nat.le_trans hB (h.1 q hq).1, (h.1 q hq).2⟩, h.2⟩)⟩
theorem turn_set1 (w : World) (g o : Nat) (u : Value) : Turn g w (w.setCell ⟨g, o, none⟩ u) := by
  have hb := (Below.refl 0 w).setCell (p := ⟨g, o, none⟩) (Nat.zero_le _) u
  exact ⟨hb.os, hb.tape, hb.output, by simp, fun k hk => Below.heap_setCell _ ⟨g, o, none⟩ u k hk⟩
theorem turn_trans {g : Nat} {w w' w2 : World} (h : Turn g w w') (h2 : Turn g w' w2) : Turn g w w2 :=
  ⟨h2.1.trans h.1, h2.2.1.trans h.2.1, h2.2.2.1.trans h.2.2.1, h2.2.2.2.1.trans h.2.2.2.1, fun k hk => (h2.2.2.2.2 k hk).trans (h.2.2.2.2 k hk)⟩
theorem turn_set3 (w : World) (g : Nat) (u v x : Value) : Turn g w (((w.setCell ⟨g, 0, none⟩ u).setCell ⟨g, 1, none⟩ v).setCell ⟨g, 4, none⟩ x) := turn_trans (turn_set2 w g u v) (turn_set1 _ g 4 x)
theorem ne_cast (k : Nat) : ((k : Int) != 0) = (k != 0) := by
  by_cases h : k = 0
  · subst h; rfl
  · rw [ne_zero h]; simp [h]

theorem two_below (w : World) (x y : List Value) : Below w.heap.size w ((w.alloc (.cells x.toArray 33)).alloc (.cells y.toArray 33)) := ((Below.refl _ _).alloc (Nat.le_refl _) _).alloc (by simp) _

set_option maxRecDepth 100000 in
set_option maxHeartbeats 8000000 in
theorem refadd_any (M : Nat) (A : Option Addr) (cap n : Nat) (l : List FF) (left : Int) (p r : ByteArray) (is br : Bool) (w : World) (hn : l.length = n) (hf : Fit M ⟨l, left⟩) (hM : M ≤ 40000) (hA : ∀ q, A = some q → q.block < w.heap.size) (hrs : r.size ≤ 10000) (hx : FRow w w.heap.size A l) :
    Calls Tryz.prog 11 #[jval A n cap left p is br, .string r] w (RefJ w A p is (addJ Sh.dig is br ⟨l, left⟩ p r)) := by
  have HX := Lib.hid hx
  have HN := Lib.hid hn
  have HAA := Lib.hid hA
  obtain ⟨w0, hw0⟩ : ∃ w0, w0 = (w.alloc (.cells (lj A n cap left p is br).toArray 33)).alloc (.cells #[.slice none 0 0, .int .i64 0, .string ⟨#[]⟩, .bool false, .bool false] 33) := ⟨_, rfl⟩
  have HX0 : Hid (FRow w0 w.heap.size A l) := by rw [hw0]; exact (HX.out.alloc (Nat.le_refl _) _).alloc (by simp) _
  have HB0 : Hid (Below w.heap.size w w0) := by rw [hw0]; exact ((Below.refl _ _).alloc (Nat.le_refl _) _).alloc (by simp) _
  have HD0 : Hid (Row w0 w.heap.size 33 (lj A n cap left p is br)) := by rw [hw0]; exact (Row.new_at _ _ _ _ rfl rfl).alloc _
  have hs0 : w0.heap.size = w.heap.size + 2 := by rw [hw0]; simp
  have HZ0 : Hid (Row w0 (w.heap.size + 1) 33 zj) := by rw [hw0]; exact Row.new_at _ _ _ _ (by simp) rfl
  have c0 := HD0.out.cell 0
  have c1 := HD0.out.cell 1
  have c2 := HD0.out.cell 2
  have c3 := HD0.out.cell 3
  have c4 := HD0.out.cell 4
  clear hx hA
  by_cases hid : Idle is br
  · have HR : Hid (addJ Sh.dig is br ⟨l, left⟩ p r = (⟨l, left⟩, br, 19)) := by show _ = _; unfold addJ; rw [if_pos hid]
    have hcase : is = false ∨ is = true ∧ br = true := by
      rcases hid with h | h
      · exact .inl h
      · cases is
        · exact .inl rfl
        · exact .inr ⟨rfl, h⟩
    clear hid
    rcases hcase with rfl | ⟨rfl, rfl⟩
    · go_enter Tryz.func11, Tryz.ntmps11
      go_wp2_with fail
      refine bodyPost_ret (results_row_tmp rfl _ _ (w.heap.size + 1) 33 (lj A n cap left p false br) _ rfl (Row.new_at _ _ _ _ (by simp) rfl) Tryz.underlying33 rfl (j_info _ _ _ _ _ _ _)) rfl ?_
      rw [HR.out]
      have hb := two_below w (lj A n cap left p false br) (lj A n cap left p false br)
      exact ⟨A, n, cap, rfl, RefTo.start (HX.out.below hb (Nat.le_refl _)) HN.out, hb⟩
    · go_enter Tryz.func11, Tryz.ntmps11
      go_wp2_with fail
      refine bodyPost_ret (results_row_tmp rfl _ _ (w.heap.size + 1) 33 (lj A n cap left p true true) _ rfl (Row.new_at _ _ _ _ (by simp) rfl) Tryz.underlying33 rfl (j_info _ _ _ _ _ _ _)) rfl ?_
      rw [HR.out]
      have hb := two_below w (lj A n cap left p true true) (lj A n cap left p true true)
      exact ⟨A, n, cap, rfl, RefTo.start (HX.out.below hb (Nat.le_refl _)) HN.out, hb⟩
  · obtain ⟨rfl, rfl⟩ : is = true ∧ br = false := by
      unfold Idle at hid
      cases is <;> cases br <;> simp_all
    have HFV := Lib.hid (frameV_ok (x := r) (by omega))
    have hfs : (ofB (frame Sh.dig (toB r))).size = 12 + r.size := by rw [ofB_size, frame_length H_len]; rfl
    have HR : Hid (addJ Sh.dig true false ⟨l, left⟩ p r = brokeV (putV ⟨l, left⟩ p (ofB (frame Sh.dig (toB r))))) := by
      show _ = _
      unfold addJ
      rw [if_neg hid, HFV.out]
      rfl
    have HFR := Lib.hid (fun W => refframe_any r W (by omega))
    rw [HFV.out] at HFR
    generalize ofB (frame Sh.dig (toB r)) = f at HFR HR hfs
    have hlen := hf.len
    have hlow := hf.low
    have hhigh := hf.high
    have hf1 := fit_append hf p f
    have hlen1 := hf1.len
    have hlow1 := hf1.low
    have hhigh1 := hf1.high
    have hnb : n ≤ 40000 := by rw [← hn]; exact Nat.le_trans hf.len hM
    have HSZ : Hid (∀ f ∈ l, f.data.size ≤ 1000000) := fun f hq => by have := hf.size f hq; omega
    have HA1 := Lib.hid (fun W (h : FRow W W.heap.size A l) => refappend_any A cap n l left p f W HN.out (by omega) hlow hhigh (by omega) HSZ.out h)
    have HE : Hid (putV ⟨l, left⟩ p f = if (appendV ⟨l, left⟩ p f).2 = 0 then syncV (appendV ⟨l, left⟩ p f).1 p else appendV ⟨l, left⟩ p f) := rfl
    clear hf hf1 hn hid HFV
    generalize putV ⟨l, left⟩ p f = R0 at HE HR
    generalize appendV ⟨l, left⟩ p f = R1 at *
    have HA2 := Lib.hid (fun W A1 m1 cap1 (hm : R1.1.files.length = m1) (h : FRow W W.heap.size A1 R1.1.files) => refsync_any A1 cap1 m1 R1.1.files R1.1.left p W hm (by omega) hlow1 hhigh1 h)
    generalize syncV R1.1 p = R2 at *
    go_enter Tryz.func11, Tryz.ntmps11
    go_wp2_with fail
    rw [← hw0]
    clear hw0
    refine (HFR.out _).mono ?_
    rintro e w1 ⟨rfl, hb1⟩
    have hs1 := hb1.size
    have HB1 := Lib.hid (HB0.out.trans (hb1.mono (by omega)))
    have HD1 := Lib.hid (HD0.out.below hb1 (by omega))
    have HZ1 := Lib.hid (HZ0.out.below hb1 (by omega))
    have HX1 : Hid (FRow w1 w.heap.size A l) := HX0.out.below hb1 (by omega)
    clear hb1 c0 c1 c2 c3 c4 HX0 HB0 HD0 HZ0 HFR
    have c0 := HD1.out.cell 0
    have c1 := HD1.out.cell 1
    have c2 := HD1.out.cell 2
    go_wp2_with fail
    refine (HA1.out _ (HX1.out.more (by omega))).mono ?_
    intro e w2 hr
    obtain ⟨A1, m1, cap1, rfl, ht2, hb2⟩ := (RefTo.start (base := w.heap.size + 2) HX1.out HN.out).next HAA.out (by omega) hr
    have hs2 := hb2.size
    have HB2 := Lib.hid (HB1.out.trans (hb2.mono (by omega)))
    have HD2 := Lib.hid (HD1.out.below hb2 (by omega))
    have HZ2 := Lib.hid (HZ1.out.below hb2 (by omega))
    have HTO2 := Lib.hid ht2
    clear hr hb2 ht2 c0 c1 c2 HX1 HB1 HD1 HZ1 HA1
    have c0 := HD2.out.cell 0
    have c1 := HD2.out.cell 1
    have c2 := HD2.out.cell 2
    have c3 := HD2.out.cell 3
    have c4 := HD2.out.cell 4
    have d0 := HD2.out.frozen 0
    have d1 := HD2.out.frozen 1
    have d4 := HD2.out.frozen 4
    by_cases h1 : R1.2 = 0
    · have hk := is_zero h1
      have HE1 : Hid (R0 = R2) := by show _ = _; rw [HE.out, if_pos h1]
      clear h1
      obtain ⟨w3, hw3⟩ : ∃ w3, w3 = (w2.setCell ⟨w.heap.size, 0, none⟩ (.slice A1 m1 cap1)).setCell ⟨w.heap.size, 1, none⟩ (.int .i64 R1.1.left) := ⟨_, rfl⟩
      have HT3 : Hid (Turn w.heap.size w2 w3) := by rw [hw3]; exact turn_set2 _ _ _ _
      have HD3 : Hid (Row w3 w.heap.size 33 (lj A1 m1 cap1 R1.1.left p true false)) := by rw [hw3]; exact (HD2.out.set 0 _).set 1 _
      have hs3 := HT3.out.2.2.2.1
      have HB3 := Lib.hid (below_turn HB2.out HT3.out (Nat.le_refl _))
      have HZ3 := Lib.hid (HZ2.out.turn HT3.out (by omega))
      have HTO3 := Lib.hid (HTO2.out.turn HT3.out (Nat.le_refl _) (by omega))
      go_wp2_with fail
      rw [← hw3]
      clear hw3 c0 c1 c2 c3 c4 d0 d1 d4 HT3 HB2 HD2 HZ2 HTO2
      refine (HA2.out _ _ _ _ HTO3.out.1 (HTO3.out.row (by omega))).mono ?_
      intro e w4 hr
      obtain ⟨A2, m2, cap2, rfl, ht4, hb4⟩ := HTO3.out.next HAA.out (by omega) hr
      have hs4 := hb4.size
      have HB4 := Lib.hid (HB3.out.trans (hb4.mono (by omega)))
      have HD4 := Lib.hid (HD3.out.below hb4 (by omega))
      have HZ4 := Lib.hid (HZ3.out.below hb4 (by omega))
      have HTO4 := Lib.hid ht4
      clear hr hb4 ht4 HB3 HD3 HZ3 HTO3 HA2
      have c0 := HD4.out.cell 0
      have c1 := HD4.out.cell 1
      have c2 := HD4.out.cell 2
      have c3 := HD4.out.cell 3
      have c4 := HD4.out.cell 4
      have d0 := HD4.out.frozen 0
      have d1 := HD4.out.frozen 1
      have d4 := HD4.out.frozen 4
      have HTT := Lib.hid (turn_set3 w4 w.heap.size (.slice A2 m2 cap2) (.int .i64 R2.1.left) (.bool ((R2.2 : Int) != 0)))
      have HZT := Lib.hid (HZ4.out.turn HTT.out (by omega))
      go_wp2_with (refine wpList_store_all rfl 33 (.tmp 4) (.tmp 49) rfl (w.heap.size + 1) (lj A2 m2 cap2 R2.1.left p true ((R2.2 : Int) != 0)) rfl rfl 33 zj HZT.out (j_info _ _ _ _ _ _ _) rfl (j_one _ _ _ _ _ _ _) ?_)
      intro w6 HR6 HT6
      go_wp2
      have hb6 := below_turn (below_turn HB4.out HTT.out (Nat.le_refl _)) HT6.out (by omega)
      refine bodyPost_ret (results_row_tmp rfl _ _ (w.heap.size + 1) 33 (lj A2 m2 cap2 R2.1.left p true ((R2.2 : Int) != 0)) _ rfl HR6.out Tryz.underlying33 rfl (j_info _ _ _ _ _ _ _)) rfl ?_
      rw [HR.out, HE1.out]
      exact ⟨A2, m2, cap2, by rw [ne_cast]; rfl, ((HTO4.out.turn HTT.out (Nat.le_refl _) (by omega)).turn HT6.out (by omega) (by omega)).back (by omega), hb6⟩
    · have hk := ne_zero h1
      have HE1 : Hid (R0 = R1) := by show _ = _; rw [HE.out, if_neg h1]
      clear h1
      have HTT := Lib.hid (turn_set3 w2 w.heap.size (.slice A1 m1 cap1) (.int .i64 R1.1.left) (.bool true))
      have HZT := Lib.hid (HZ2.out.turn HTT.out (by omega))
      go_wp2_with (refine wpList_store_all rfl 33 (.tmp 4) (.tmp 49) rfl (w.heap.size + 1) (lj A1 m1 cap1 R1.1.left p true true) rfl rfl 33 zj HZT.out (j_info _ _ _ _ _ _ _) rfl (j_one _ _ _ _ _ _ _) ?_)
      intro w6 HR6 HT6
      go_wp2
      have hb6 := below_turn (below_turn HB2.out HTT.out (Nat.le_refl _)) HT6.out (by omega)
      refine bodyPost_ret (results_row_tmp rfl _ _ (w.heap.size + 1) 33 (lj A1 m1 cap1 R1.1.left p true true) _ rfl HR6.out Tryz.underlying33 rfl (j_info _ _ _ _ _ _ _)) rfl ?_
      rw [HR.out, HE1.out]
      rw [ne_cast] at hk
      exact ⟨A1, m1, cap1, by unfold brokeV; rw [hk]; rfl, ((HTO2.out.turn HTT.out (Nat.le_refl _) (by omega)).turn HT6.out (by omega) (by omega)).back (by omega), hb6⟩
end Jl
end Go.Proofs.YtogpigfepebibaaGreatDoor

namespace Go.Proofs.YtogpigfepebibaaGreatDoor
namespace Jl
open Go.RowKit Go.ChangeShapes Kr Dk

set_option maxRecDepth 100000 in
set_option maxHeartbeats 8000000 in
theorem refswap_any (M : Nat) (A : Option Addr) (cap n : Nat) (l : List FF) (left : Int) (p : ByteArray) (Ar : Option Addr) (nr capr : Nat) (rs : List ByteArray) (is br : Bool) (w : World) (hn : l.length = n) (hf : Fit M ⟨l, left⟩) (hM : M ≤ 40000) (hA : ∀ q, A = some q → q.block < w.heap.size) (hps : p.size ≤ 1000000) (hnr : rs.length = nr) (hnrb : nr ≤ 1000) (hrs : ∀ r ∈ rs, r.size ≤ 10000) (hfz : (ofB (frames Sh.dig (rs.map toB))).size ≤ 40000) (hrx : NRow w w.heap.size Ar rs) (hx : FRow w w.heap.size A l) :
    Calls Tryz.prog 13 #[jval A n cap left p is br, .slice Ar nr capr] w (RefJ w A p is (swapJ Sh.dig is br ⟨l, left⟩ p rs)) := by
  have HX := Lib.hid hx
  have HN := Lib.hid hn
  have HAA := Lib.hid hA
  have HRX := Lib.hid hrx
  have HNR := Lib.hid hnr
  obtain ⟨w0, hw0⟩ : ∃ w0, w0 = (w.alloc (.cells (lj A n cap left p is br).toArray 33)).alloc (.cells #[.slice none 0 0, .int .i64 0, .string ⟨#[]⟩, .bool false, .bool false] 33) := ⟨_, rfl⟩
  have HX0 : Hid (FRow w0 w.heap.size A l) := by rw [hw0]; exact (HX.out.alloc (Nat.le_refl _) _).alloc (by simp) _
  have HB0 : Hid (Below w.heap.size w w0) := by rw [hw0]; exact ((Below.refl _ _).alloc (Nat.le_refl _) _).alloc (by simp) _
  have HD0 : Hid (Row w0 w.heap.size 33 (lj A n cap left p is br)) := by rw [hw0]; exact (Row.new_at _ _ _ _ rfl rfl).alloc _
  have hs0 : w0.heap.size = w.heap.size + 2 := by rw [hw0]; simp
  have HZ0 : Hid (Row w0 (w.heap.size + 1) 33 zj) := by rw [hw0]; exact Row.new_at _ _ _ _ (by simp) rfl
  have c0 := HD0.out.cell 0
  have c1 := HD0.out.cell 1
  have c2 := HD0.out.cell 2
  have c3 := HD0.out.cell 3
  have c4 := HD0.out.cell 4
  clear hx hA hrx hnr
  by_cases hid : Idle is br
  · have HR : Hid (swapJ Sh.dig is br ⟨l, left⟩ p rs = (⟨l, left⟩, br, 19)) := by show _ = _; unfold swapJ; rw [if_pos hid]
    have hcase : is = false ∨ is = true ∧ br = true := by
      rcases hid with h | h
      · exact .inl h
      · cases is
        · exact .inl rfl
        · exact .inr ⟨rfl, h⟩
    clear hid
    rcases hcase with rfl | ⟨rfl, rfl⟩
    · go_enter Tryz.func13, Tryz.ntmps13
      go_wp2_with fail
      refine bodyPost_ret (results_row_tmp rfl _ _ (w.heap.size + 1) 33 (lj A n cap left p false br) _ rfl (Row.new_at _ _ _ _ (by simp) rfl) Tryz.underlying33 rfl (j_info _ _ _ _ _ _ _)) rfl ?_
      rw [HR.out]
      have hb := two_below w (lj A n cap left p false br) (lj A n cap left p false br)
      exact ⟨A, n, cap, rfl, RefTo.start (HX.out.below hb (Nat.le_refl _)) HN.out, hb⟩
    · go_enter Tryz.func13, Tryz.ntmps13
      go_wp2_with fail
      refine bodyPost_ret (results_row_tmp rfl _ _ (w.heap.size + 1) 33 (lj A n cap left p true true) _ rfl (Row.new_at _ _ _ _ (by simp) rfl) Tryz.underlying33 rfl (j_info _ _ _ _ _ _ _)) rfl ?_
      rw [HR.out]
      have hb := two_below w (lj A n cap left p true true) (lj A n cap left p true true)
      exact ⟨A, n, cap, rfl, RefTo.start (HX.out.below hb (Nat.le_refl _)) HN.out, hb⟩
  · obtain ⟨rfl, rfl⟩ : is = true ∧ br = false := by
      unfold Idle at hid
      cases is <;> cases br <;> simp_all
    have HFV := Lib.hid (framesV_ok (l := rs) (fun r hr => by have := hrs r hr; omega))
    have HR : Hid (swapJ Sh.dig true false ⟨l, left⟩ p rs = brokeV (restV ⟨l, left⟩ p (ofB (frames Sh.dig (rs.map toB))))) := by
      show _ = _
      unfold swapJ
      rw [if_neg hid, HFV.out]
      rfl
    have HFR := Lib.hid (fun W (hb : w.heap.size ≤ W.heap.size) (h : NRow W w.heap.size Ar rs) => refframes_any Ar capr w.heap.size nr rs W HNR.out hnrb (fun r hr => by have := hrs r hr; omega) h hb)
    rw [HFV.out] at HFR
    have HRX0 : Hid (NRow w0 w.heap.size Ar rs) := by rw [hw0]; exact (HRX.out.alloc (Nat.le_refl _) _).alloc (by simp) _
    generalize ofB (frames Sh.dig (rs.map toB)) = f at HFR HR hfz
    have hlen := hf.len
    have hlow := hf.low
    have hhigh := hf.high
    have hf1 := fit_clear hf p
    have HF1 := Lib.hid hf1
    have hlen1 := hf1.len
    have hlow1 := hf1.low
    have hhigh1 := hf1.high
    have hnb : n ≤ 40000 := by rw [← hn]; exact Nat.le_trans hf.len hM
    have HA1 := Lib.hid (fun W (h : FRow W W.heap.size A l) (hs : w.heap.size ≤ W.heap.size) => refclear_any A cap n l left p W HN.out (by omega) hlow hhigh (fun q hq => Nat.lt_of_lt_of_le (HAA.out q hq) hs) hps h)
    have HE : Hid (restV ⟨l, left⟩ p f = if (clearV ⟨l, left⟩ p).2 = 0 then anewV (clearV ⟨l, left⟩ p).1 p f else clearV ⟨l, left⟩ p) := rfl
    clear hf hf1 hn hid HFV
    generalize restV ⟨l, left⟩ p f = R0 at HE HR
    generalize clearV ⟨l, left⟩ p = R1 at *
    have HA2 := Lib.hid (fun W A1 m1 cap1 (hA : ∀ q, A1 = some q → q.block < W.heap.size) (hm : R1.1.files.length = m1) (h : FRow W W.heap.size A1 R1.1.files) => refanew_any M A1 cap1 m1 R1.1.files R1.1.left p f W hm HF1.out (by omega) hA hps h)
    generalize anewV R1.1 p f = R2 at *
    go_enter Tryz.func13, Tryz.ntmps13
    go_wp2_with fail
    rw [← hw0]
    clear hw0
    refine (HFR.out _ (by omega) HRX0.out).mono ?_
    rintro e w1 ⟨rfl, hb1⟩
    have hs1 := hb1.size
    have HB1 := Lib.hid (HB0.out.trans (hb1.mono (by omega)))
    have HD1 := Lib.hid (HD0.out.below hb1 (by omega))
    have HZ1 := Lib.hid (HZ0.out.below hb1 (by omega))
    have HX1 : Hid (FRow w1 w.heap.size A l) := HX0.out.below hb1 (by omega)
    clear hb1 c0 c1 c2 c3 c4 HX0 HB0 HD0 HZ0 HFR HRX0 HRX
    have c0 := HD1.out.cell 0
    have c1 := HD1.out.cell 1
    have c2 := HD1.out.cell 2
    go_wp2_with fail
    refine (HA1.out _ (HX1.out.more (by omega)) (by omega)).mono ?_
    intro e w2 hr
    obtain ⟨A1, m1, cap1, rfl, ht2, hb2⟩ := (RefTo.start (base := w.heap.size + 2) HX1.out HN.out).next HAA.out (by omega) hr
    have hs2 := hb2.size
    have HB2 := Lib.hid (HB1.out.trans (hb2.mono (by omega)))
    have HD2 := Lib.hid (HD1.out.below hb2 (by omega))
    have HZ2 := Lib.hid (HZ1.out.below hb2 (by omega))
    have HTO2 := Lib.hid ht2
    clear hr hb2 ht2 c0 c1 c2 HX1 HB1 HD1 HZ1 HA1
    have c0 := HD2.out.cell 0
    have c1 := HD2.out.cell 1
    have c2 := HD2.out.cell 2
    have c3 := HD2.out.cell 3
    have c4 := HD2.out.cell 4
    have d0 := HD2.out.frozen 0
    have d1 := HD2.out.frozen 1
    have d4 := HD2.out.frozen 4
    by_cases h1 : R1.2 = 0
    · have hk := is_zero h1
      have HE1 : Hid (R0 = R2) := by show _ = _; rw [HE.out, if_pos h1]
      clear h1
      obtain ⟨w3, hw3⟩ : ∃ w3, w3 = (w2.setCell ⟨w.heap.size, 0, none⟩ (.slice A1 m1 cap1)).setCell ⟨w.heap.size, 1, none⟩ (.int .i64 R1.1.left) := ⟨_, rfl⟩
      have HT3 : Hid (Turn w.heap.size w2 w3) := by rw [hw3]; exact turn_set2 _ _ _ _
      have HD3 : Hid (Row w3 w.heap.size 33 (lj A1 m1 cap1 R1.1.left p true false)) := by rw [hw3]; exact (HD2.out.set 0 _).set 1 _
      have hs3 := HT3.out.2.2.2.1
      have HB3 := Lib.hid (below_turn HB2.out HT3.out (Nat.le_refl _))
      have HZ3 := Lib.hid (HZ2.out.turn HT3.out (by omega))
      have HTO3 := Lib.hid (HTO2.out.turn HT3.out (Nat.le_refl _) (by omega))
      go_wp2_with fail
      rw [← hw3]
      clear hw3 c0 c1 c2 c3 c4 d0 d1 d4 HT3 HB2 HD2 HZ2 HTO2
      refine (HA2.out _ _ _ _ (HTO3.out.lies HAA.out (by omega)) HTO3.out.1 (HTO3.out.row (by omega))).mono ?_
      intro e w4 hr
      obtain ⟨A2, m2, cap2, rfl, ht4, hb4⟩ := HTO3.out.next HAA.out (by omega) hr
      have hs4 := hb4.size
      have HB4 := Lib.hid (HB3.out.trans (hb4.mono (by omega)))
      have HD4 := Lib.hid (HD3.out.below hb4 (by omega))
      have HZ4 := Lib.hid (HZ3.out.below hb4 (by omega))
      have HTO4 := Lib.hid ht4
      clear hr hb4 ht4 HB3 HD3 HZ3 HTO3 HA2
      have c0 := HD4.out.cell 0
      have c1 := HD4.out.cell 1
      have c2 := HD4.out.cell 2
      have c3 := HD4.out.cell 3
      have c4 := HD4.out.cell 4
      have d0 := HD4.out.frozen 0
      have d1 := HD4.out.frozen 1
      have d4 := HD4.out.frozen 4
      have HTT := Lib.hid (turn_set3 w4 w.heap.size (.slice A2 m2 cap2) (.int .i64 R2.1.left) (.bool ((R2.2 : Int) != 0)))
      have HZT := Lib.hid (HZ4.out.turn HTT.out (by omega))
      go_wp2_with (refine wpList_store_all rfl 33 (.tmp 4) (.tmp 49) rfl (w.heap.size + 1) (lj A2 m2 cap2 R2.1.left p true ((R2.2 : Int) != 0)) rfl rfl 33 zj HZT.out (j_info _ _ _ _ _ _ _) rfl (j_one _ _ _ _ _ _ _) ?_)
      intro w6 HR6 HT6
      go_wp2
      have hb6 := below_turn (below_turn HB4.out HTT.out (Nat.le_refl _)) HT6.out (by omega)
      refine bodyPost_ret (results_row_tmp rfl _ _ (w.heap.size + 1) 33 (lj A2 m2 cap2 R2.1.left p true ((R2.2 : Int) != 0)) _ rfl HR6.out Tryz.underlying33 rfl (j_info _ _ _ _ _ _ _)) rfl ?_
      rw [HR.out, HE1.out]
      exact ⟨A2, m2, cap2, by rw [ne_cast]; rfl, ((HTO4.out.turn HTT.out (Nat.le_refl _) (by omega)).turn HT6.out (by omega) (by omega)).back (by omega), hb6⟩
    · have hk := ne_zero h1
      have HE1 : Hid (R0 = R1) := by show _ = _; rw [HE.out, if_neg h1]
      clear h1
      have HTT := Lib.hid (turn_set3 w2 w.heap.size (.slice A1 m1 cap1) (.int .i64 R1.1.left) (.bool true))
      have HZT := Lib.hid (HZ2.out.turn HTT.out (by omega))
      go_wp2_with (refine wpList_store_all rfl 33 (.tmp 4) (.tmp 49) rfl (w.heap.size + 1) (lj A1 m1 cap1 R1.1.left p true true) rfl rfl 33 zj HZT.out (j_info _ _ _ _ _ _ _) rfl (j_one _ _ _ _ _ _ _) ?_)
      intro w6 HR6 HT6
      go_wp2
      have hb6 := below_turn (below_turn HB2.out HTT.out (Nat.le_refl _)) HT6.out (by omega)
      refine bodyPost_ret (results_row_tmp rfl _ _ (w.heap.size + 1) 33 (lj A1 m1 cap1 R1.1.left p true true) _ rfl HR6.out Tryz.underlying33 rfl (j_info _ _ _ _ _ _ _)) rfl ?_
      rw [HR.out, HE1.out]
      rw [ne_cast] at hk
      exact ⟨A1, m1, cap1, by unfold brokeV; rw [hk]; rfl, ((HTO2.out.turn HTT.out (Nat.le_refl _) (by omega)).turn HT6.out (by omega) (by omega)).back (by omega), hb6⟩
end Jl
end Go.Proofs.YtogpigfepebibaaGreatDoor
