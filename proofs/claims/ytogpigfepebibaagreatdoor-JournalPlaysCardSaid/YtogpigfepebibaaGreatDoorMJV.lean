/-
  Layer 8 (journal): the walk of the laws' same. Layer 8 (journal): what law Plays keeps from act to act.
-/
import Derived.Test.YtogpigfepebibaaGreatDoorMJR
namespace Go.Proofs.YtogpigfepebibaaGreatDoor
namespace Jl
open Go.RowKit Go.ChangeShapes Kr Dk

/-- All files read as they are. -/
theorem read_file {D : DD} {n : Nat} (hf : Fit n D) {k : Nat} {f : FF} (h : D.files[k]? = some f) : readV D f.name = (f.data, 0) := by
  unfold readV
  rw [(at_some hf.rise).2 ⟨List.mem_of_getElem? h, rfl⟩]

set_option maxRecDepth 100000 in
set_option maxHeartbeats 4000000 in
theorem lawsame_any {Q : World → (Nat → Prop) → Nat → DD → Jn → Prop} (hK : JKeeps Q) (U : Nat → Prop) (b : Nat) (D : DD) (j : Jn) (A : Option Addr) (cap n : Nat) (w : World) (hQ : Q w U b D j) (hf : Fits D) (hn : D.files.length = n) (hx : FRow w w.heap.size A D.files) :
    Calls Tryz.prog 21 #[ptr b, dval A n cap D.left] w fun e w' => e = .returned (.bool true) ∧ Below w.heap.size w w' := by
  obtain ⟨l, hl⟩ : ∃ l, D.files = l := ⟨_, rfl⟩
  have HX : Hid (FRow w w.heap.size A l) := by show FRow _ _ _ _; rw [← hl]; exact hx
  have HN : Hid (l.length = n) := by show _ = _; rw [← hl]; exact hn
  have hnb : n ≤ 40000 := by rw [← hn]; exact hf.len
  obtain ⟨left, hleft⟩ : ∃ left, D.left = left := ⟨_, rfl⟩
  have HF := Lib.hid hf
  have HDL := Lib.hid hl
  have HQ := Lib.hid hQ
  have hlow := hf.low
  have hhigh := hf.high
  rw [hleft] at hlow hhigh
  have HLE : Hid (∀ p, readV ⟨l, left⟩ p = readV D p) := fun p => by rw [← HDL.out, ← hleft]
  obtain ⟨w0, hw0⟩ : ∃ w0, w0 = w.alloc (.cells #[.slice A n cap, .int .i64 left] 30) := ⟨_, rfl⟩
  have HB0 : Hid (Below w.heap.size w w0) := by rw [hw0]; exact (Below.refl _ _).alloc (Nat.le_refl _) _
  have hs0 : w0.heap.size = w.heap.size + 1 := by rw [hw0]; simp
  have HD0 : Hid (Row w0 w.heap.size 30 (ldisk A n cap left)) := by rw [hw0]; exact Row.new_at _ _ _ _ rfl rfl
  have HX0 : Hid (FRow w0 w.heap.size A l) := HX.out.below HB0.out (Nat.le_refl _)
  have hln : (l.map (·.name)).length = n := by rw [List.length_map]; exact HN.out
  have HLN := Lib.hid hln
  have HNM := Lib.hid (hK.names w0 U b D j (hK.later hQ HB0.out) hf)
  rw [hl, HN.out] at HNM
  rw [hleft]
  clear hx hn hl hleft hQ hf hln
  go_enter Tryz.func21, Tryz.ntmps21
  go_wp2_with fail
  rw [← hw0]
  clear hw0
  refine HNM.out.mono ?_
  rintro e w1 ⟨A1, m1, cap1, rfl, hm1, hx1, hb1⟩
  obtain rfl : n = m1 := hm1
  have hs1 := hb1.size
  have HB1 := Lib.hid (HB0.out.trans (hb1.mono (by omega)))
  have HX1 : Hid (FRow w1 w.heap.size A l) := HX0.out.below hb1 (by omega)
  have HD1 := Lib.hid (HD0.out.below hb1 (by omega))
  have HY1 := Lib.hid hx1
  clear hb1 hx1 HNM HX0 HB0 HD0
  have c0 := HD1.out.cell 0
  have c1 := HD1.out.cell 1
  go_wp2_with fail
  refine (refnames_any A cap w.heap.size n l left w1 HN.out (by omega) HX1.out (by omega)).mono ?_
  rintro e w2 ⟨A2, cap2, rfl, hx2, hb2⟩
  have hs2 := hb2.size
  have HB2 := Lib.hid (HB1.out.trans (hb2.mono (by omega)))
  have HX2 : Hid (FRow w2 w.heap.size A l) := HX1.out.below hb2 (by omega)
  have HD2 := Lib.hid (HD1.out.below hb2 (by omega))
  have HY2 := Lib.hid (HY1.out.later hb2)
  have HS := Lib.hid (same_yes A1 A2 cap1 cap2 w2.heap.size n n _ w2 HLN.out HLN.out (by omega) HY2.out hx2)
  clear hb2 hx2 c0 c1 HB1 HX1 HD1 HY1
  go_wp2_with fail
  refine HS.out.mono ?_
  rintro e w3 ⟨rfl, hb3⟩
  have hs3 := hb3.size
  have HB3 := Lib.hid (HB2.out.trans (hb3.mono (by omega)))
  have HD3 := Lib.hid (HD2.out.below hb3 (by omega))
  have HX3 : Hid (FRow w3 w.heap.size A l) := HX2.out.below hb3 (by omega)
  have HY3 := Lib.hid (HY2.out.later hb3)
  clear hb3 HB2 HX2 HD2 HY2 HS
  go_wp2_with fail
  go_loopw [6] (fun i wr => ∃ k : Nat, k ≤ n ∧ i = .int .i64 k ∧ Hid (Below w3.heap.size w3 wr)) (fun i _ => n - (intOf i).toNat)
  case atStart => exact ⟨0, Nat.zero_le _, rfl, Below.refl _ _⟩
  case round =>
    obtain ⟨k, hk, rfl, HB⟩ := hrel
    have hwr := HB.out.size
    have HBW : Hid (Below w.heap.size w wr) := HB3.out.trans (HB.out.mono (by omega))
    by_cases hlt : k < n
    · have hki : (k : Int) < n := by omega
      have hxk : l[k]? = some (l[k]'(by rw [HN.out]; exact hlt)) := List.getElem?_eq_getElem _
      generalize l[k]'(by rw [HN.out]; exact hlt) = x at hxk
      have hnk : (l.map (·.name))[k]? = some x.name := by rw [List.getElem?_map, hxk]; rfl
      have HXR : Hid (FRow wr w.heap.size A l) := HX3.out.below HB.out (by omega)
      have HYR := Lib.hid (HY3.out.below HB.out (Nat.le_refl _))
      have HDR := Lib.hid (HD3.out.below HB.out (by omega))
      obtain ⟨b1, o1, rfl, hb1, hce⟩ := one_cell HYR.out hnk rfl
      have hrd : readV D x.name = (x.data, 0) := read_file HF.out (by rw [HDL.out]; exact hxk)
      have HRD := Lib.hid (hK.read wr U b D j x.name (hK.later HQ.out (HBW.out)) HF.out (hK.bound HQ.out x (by rw [HDL.out]; exact List.mem_of_getElem? hxk)))
      rw [hrd] at HRD
      have HRR := Lib.hid (fun W (h : FRow W w.heap.size A l) (hW : w.heap.size ≤ W.heap.size) => refread_any A cap w.heap.size n l left x.name W HN.out (by omega) h hW)
      rw [HLE.out, hrd] at HRR
      have hee : (x.data.toList == x.data.toList) = true := beq_self_eq_true _
      clear hxk hnk hrd
      go_wp2_with fail
      refine HRD.out.mono ?_
      rintro e w4 ⟨rfl, hb4⟩
      have HB4 := Lib.hid (HB.out.trans (hb4.mono hwr))
      have hs4 := hb4.size
      have hce4 := (hb4.cell (p := ⟨b1, o1 + k, none⟩) (by show b1 < _; omega)).trans hce
      have HD4 := Lib.hid (HDR.out.below hb4 (by omega))
      have c0 := HD4.out.cell 0
      have c1 := HD4.out.cell 1
      have HX4 : Hid (FRow w4.drew w.heap.size A l) := HXR.out.below (B' := w.heap.size) ((hb4.mono (by omega)).drew) (Nat.le_refl _)
      have hsd : w4.drew.heap.size = w4.heap.size := rfl
      clear hb4 hce HRD HXR HYR HDR
      go_wp2_with fail
      go_region_with (go_at_call 30; refine (HRR.out _ HX4.out (by omega)).mono ?_; rintro e w5 ⟨rfl, hb5⟩)
      all_goals
        have HB5 := Lib.hid (HB4.out.drew.trans (hb5.mono (by omega)))
        clear hb5
        go_wp2
        go_roundw
        case rel => exact ⟨k + 1, by omega, by go_num, HB5.out⟩
        case measure => simp [intOf]; omega
    · obtain rfl : k = n := by omega
      go_wp2_with fail
      go_ret
      exact ⟨rfl, HBW.out⟩
end Jl
end Go.Proofs.YtogpigfepebibaaGreatDoor

namespace Go.Proofs.YtogpigfepebibaaGreatDoor
namespace Jl
open Go.RowKit Go.ChangeShapes Kr Dk

theorem row_away {S : Nat → Prop} {W W' : World} {g : Nat} {t : TypeId} {l : List Value} (h : Row W g t l) (ha : Away S W W') (hg : ¬ S g) : Row W' g t l := (ha.block g h.lt hg).trans h
/-- A disk and a journal of the program's, and the document's in the block cw: the same. -/
structure Ply (Q : World → (Nat → Prop) → Nat → DD → Jn → Prop) (w2 : World) (cw b : Nat) (U : Nat → Prop) (D : DD) (jn : Jn) (A : Option Addr) (m cp : Nat) (nm : ByteArray) (is br : Bool) (W : World) : Prop where
  st : Sj Q w2 W U b D jn
  row : Row W cw 33 (lj A m cp D.left nm is br)
  len : D.files.length = m
  files : FRow W W.heap.size A D.files
  lies : ∀ p, A = some p → p.block < W.heap.size ∧ ¬ U p.block ∧ p.block ≠ cw
  away : ¬ U cw
  base : w2.heap.size ≤ cw
  js : (is = true ∧ ∃ g, jn = some (g, nm, br)) ∨ (is = false ∧ jn = none)
section
variable {Q : World → (Nat → Prop) → Nat → DD → Jn → Prop} {w2 W W' W1 W3 : World} {cw b m cp : Nat} {U U1 : Nat → Prop} {D D1 : DD} {jn jn1 : Jn} {A A1 : Option Addr} {nm nm1 : ByteArray} {is br is1 br1 : Bool}
theorem Ply.later (hK : JKeeps Q) (h : Ply Q w2 cw b U D jn A m cp nm is br W) (hb : Below W.heap.size W W') : Ply Q w2 cw b U D jn A m cp nm is br W' :=
  ⟨h.st.later hK hb, h.row.below hb h.row.lt, h.len, h.files.later hb, fun p hp => ⟨Nat.lt_of_lt_of_le (h.lies p hp).1 hb.size, (h.lies p hp).2⟩, h.away, h.base, h.js⟩
theorem Ply.files1 (h : Ply Q w2 cw b U D jn A m cp nm is br W) (ha : Away U W W1) : FRow W1 W1.heap.size A D.files := fun j x hj => by
  obtain ⟨b', o', h1, h2, h3⟩ := h.files j x hj
  have h4 := (h.lies _ h1).2.1
  exact ⟨b', o', h1, Nat.lt_of_lt_of_le h2 ha.size, fun i v hv => (World.cell?_of_block (a := ⟨b', _, none⟩) (ha.block b' h2 h4)).trans (h3 i v hv)⟩
theorem Ply.lies1 (h : Ply Q w2 cw b U D jn A m cp nm is br W) (ha : Away U W W1) : ∀ p, A = some p → p.block < W1.heap.size := fun p hp => Nat.lt_of_lt_of_le (h.lies p hp).1 ha.size
/-- The program's call, the document's call, its answer stored. -/
theorem Ply.did (hK : JKeeps Q) {b1 m1 cp1 : Nat} (h : Ply Q w2 cw b U D jn A m cp nm is br W) (hq : Q W1 U1 b1 D1 jn1) (hU : ∀ q, U1 q → U q ∨ W.heap.size ≤ q) (ha : Away U W W1) (ht : RefTo W1.heap.size W1.heap.size A D1.files A1 m1 W') (hb : Below W1.heap.size W1 W')
    (htu : Turn cw W' W3) (hrow : Row W3 cw 33 (lj A1 m1 cp1 D1.left nm1 is1 br1)) (hjs : (is1 = true ∧ ∃ g, jn1 = some (g, nm1, br1)) ∨ (is1 = false ∧ jn1 = none)) : Ply Q w2 cw b1 U1 D1 jn1 A1 m1 cp1 nm1 is1 br1 W3 := by
  have hcw := h.row.lt
  have hs1 := ha.size
  have hs2 := hb.size
  have hs3 : W3.heap.size = W'.heap.size := htu.2.2.2.1
  have hne : ∀ q, U1 q → q ≠ cw := fun q hs => (hU q hs).elim (fun h2 e => h.away (e ▸ h2)) (fun h2 => by omega)
  have hA2 : ∀ p, A1 = some p → ¬ U1 p.block ∧ p.block < W'.heap.size ∧ p.block ≠ cw := fun p hp => by
    rcases ht.2 with ⟨e, _⟩ | ⟨e, _⟩
    · have h1 := h.lies p (e ▸ hp)
      exact ⟨fun hs => (hU _ hs).elim h1.2.1 (fun h2 => by have := h1.1; omega), by have := h1.1; omega, h1.2.2⟩
    · have h1 := e p hp
      exact ⟨fun hs => by have := hK.inside hq _ hs; omega, h1.2, by omega⟩
  have hbel : Below w2.heap.size w2 W1 := h.st.below.trans (ha.below (fun q hq => h.st.own q hq) h.st.below.size)
  refine ⟨⟨below_turn (hbel.trans (hb.mono hbel.size)) htu h.base, fun q hs => (hU q hs).elim (h.st.own q) (fun h2 => Nat.le_trans h.st.below.size h2), hK.keep hq fun q hs => (htu.2.2.2.2 q (hne q hs)).trans (hb.block q (hK.inside hq q hs))⟩, hrow, ht.1, ?_, fun p hp => ⟨by have := (hA2 p hp).2.1; omega, (hA2 p hp).1, (hA2 p hp).2.2⟩, fun hs => hne cw hs rfl, h.base, hjs⟩
  intro j x hj
  obtain ⟨b', o', h1, h2, h3⟩ := (ht.row hs2) j x hj
  have h4 := (hA2 _ h1).2.2
  exact ⟨b', o', h1, by omega, fun i v hv => (turn_cell htu ⟨b', o' + j * 3 + i, none⟩ h4).trans (h3 i v hv)⟩
end
/-- A file that is new: no longer than it was asked. -/
theorem fit_append_new {n : Nat} {D : DD} (h : Fit n D) {p x : ByteArray} (ha : at? D.files p = none) (hx : x.size ≤ n) : Fit (n + 1) (appendV D p x).1 := by
  have hm := h.more (show n ≤ n + 1 by omega)
  unfold appendV
  split
  · exact hm
  · refine fit_pass hm (withF_rise h.rise _) (fun f hf => ?_) (by have := withF_len D.files (addF D.files p x); have := h.len; omega)
    rcases (withF_mem _ _ f).1 hf with rfl | ⟨h1, _⟩
    · unfold addF
      rw [ha]
      refine ⟨Nat.zero_le _, ?_⟩
      show (nul ++ x).size ≤ _
      rw [ba_size_append]
      show 0 + x.size ≤ _
      omega
    · exact ⟨h.sure f h1, hm.size f h1⟩
theorem fit_anew_new {n : Nat} {D : DD} (h : Fit n D) {p x : ByteArray} (ha : at? D.files (nw p) = none) (hx : x.size ≤ n) : Fit (n + 1) (anewV D p x).1 := by
  have h1 := fit_append_new h ha hx
  unfold anewV
  split
  · exact h1
  · split
    · exact fit_sync h1 _
    · exact fit_rename (fit_sync h1 _) _ _
theorem clear_gone {n : Nat} {D : DD} (h : Fit n D) {p : ByteArray} (hc : (clearV D p).2 = 0) : at? (clearV D p).1.files (nw p) = none := by
  unfold clearV at hc ⊢
  split at hc
  · rename_i h1
    rw [if_pos h1]
    exact h1
  · rename_i h1
    rw [if_neg h1]
    unfold removeV at hc ⊢
    rw [if_neg (nw_ne p)] at hc ⊢
    cases ha : at? D.files (nw p) with
    | none => exact absurd ha h1
    | some f =>
      rw [ha] at hc
      show at? (passV D (dropF D.files (nw p))).1.files (nw p) = none
      have hc2 : (passV D (dropF D.files (nw p))).2 = 0 := hc
      unfold passV at hc2 ⊢
      split at hc2
      · cases hc2
      · rename_i h3
        rw [if_neg h3]
        refine at_none.2 fun x hx e => ?_
        unfold dropF at hx
        simp only [List.mem_filter] at hx
        have := hx.2
        simp [e] at this
theorem fit_openV {n : Nat} {D : DD} (h : Fit n D) (p : ByteArray) : Fit (n + 1) (openV Sh.dig D p).disk := by
  have h1 := fit_clear h p
  unfold openV
  split
  · exact h.more (Nat.le_succ _)
  · split
    · exact h1.more (Nat.le_succ _)
    · rename_i _ h2
      have h3 := clear_gone h (Classical.not_not.1 h2)
      have h4 := read_le h1 p
      have h5 : ((readV (clearV D p).1 p).1.extract 0 (lenV Sh.dig (readV (clearV D p).1 p).1)).size ≤ n := by rw [ByteArray.size_extract]; omega
      have h6 := fit_anew_new h1 h3 h5
      split
      · split
        · exact h6
        · exact h6
      · exact h1.more (Nat.le_succ _)
theorem fit_restV {n : Nat} {D : DD} (h : Fit n D) (p : ByteArray) {f : ByteArray} (hf : f.size ≤ n) : Fit (n + 1) (restV D p f).1 := by
  have h1 := fit_clear h p
  unfold restV
  split
  · rename_i h2
    exact fit_anew_new h1 (clear_gone h h2) hf
  · exact h1.more (Nat.le_succ _)
theorem fit_addJ {n : Nat} {D : DD} (h : Fit n D) (is br : Bool) (p : ByteArray) {r : ByteArray} (hr : r.size ≤ 100) : Fit (n + 113) (addJ Sh.dig is br D p r).1 := by
  have e : most = 1048576 := rfl
  unfold addJ
  split
  · exact h.more (by omega)
  · rw [frame_ok (by omega), if_neg (by simp)]
    have h1 := fit_append h p (FR Sh.dig r)
    have hs := FR_size H_len r
    show Fit _ (putV D p (FR Sh.dig r)).1
    unfold putV
    split
    · exact (fit_sync h1 _).more (by omega)
    · exact h1.more (by omega)
theorem fit_swapJ {n : Nat} {D : DD} (h : Fit n D) (hn : 1344 ≤ n) (is br : Bool) (p : ByteArray) {l : List ByteArray} (hl : ¬ Too l) : Fit (n + 1) (swapJ Sh.dig is br D p l).1 := by
  have hs : ∀ r ∈ l, r.size ≤ 100 := fun x hx => Nat.le_of_not_lt fun h => hl (.inl ⟨x, hx, h⟩)
  have hlen : l.length ≤ 12 := Nat.le_of_not_lt fun h => hl (.inr h)
  have hfl := all_fl hs rfl
  unfold swapJ
  split
  · exact h.more (by omega)
  · rw [frames_ok (small_of hs), if_neg (by simp)]
    exact fit_restV h p (show (FL Sh.dig l).size ≤ n by omega)
end Jl
end Go.Proofs.YtogpigfepebibaaGreatDoor
