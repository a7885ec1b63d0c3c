/-
  Layer 4 (globs): the walk of the document's Match.
-/
import Derived.Test.YtffmnobcdhgfdaaDoorGF
import Derived.Test.YtffmnobcdhgfdaaDoorGE
namespace Go.Proofs.YtffmnobcdhgfdaaDoor
namespace Gl
open Go.RowKit Pt

theorem srow_at {w : World} {B g k : Nat} {xs : List Bs} {x : Bs} (h : SRow w B (some ⟨g, 0, none⟩) xs) (hx : xs[k]? = some x) : ∃ s : ByteArray, s.data.toList = x ∧ w.cell? ⟨g, k, none⟩ = some (.string s) := by
  obtain ⟨b, o, s, h1, _, h3, h4⟩ := h k x hx
  injection h1 with h1
  injection h1 with e1 e2
  subst e1 e2
  exact ⟨s, h3, by rw [Nat.zero_add] at h4; exact h4⟩

theorem nxA_n0 {x : Bs} (l : Bool) (m : List Bs) (L : List Bool) (h : x ≠ star) : nxA x l m L 0 = false := by
  show (if x ≠ star then false else _) = false
  rw [if_pos h]
theorem nxA_nS {x : Bs} (l : Bool) (m : List Bs) (L : List Bool) (k : Nat) (h : x ≠ star) : nxA x l m L (k + 1) = (L.getD k false && one x (m.getD k [])) := by
  show (if x ≠ star then _ else _) = _
  rw [if_pos h]
theorem nxA_l0 (m : List Bs) (L : List Bool) : nxA star true m L 0 = false := by
  show (if star ≠ star then false else if true = true then false else L.getD 0 false) = _
  rw [if_neg (by simp), if_pos rfl]
theorem nxA_lS (m : List Bs) (L : List Bool) (k : Nat) : nxA star true m L (k + 1) = (L.getD k false || nxA star true m L k) := by
  show (if star ≠ star then _ else if true = true then _ else _) = _
  rw [if_neg (by simp), if_pos rfl]
theorem nxA_s0 (m : List Bs) (L : List Bool) : nxA star false m L 0 = L.getD 0 false := by
  show (if star ≠ star then false else if false = true then false else L.getD 0 false) = _
  rw [if_neg (by simp), if_neg (by simp)]
theorem nxA_sS (m : List Bs) (L : List Bool) (k : Nat) : nxA star false m L (k + 1) = (L.getD (k + 1) false || nxA star false m L k) := by
  show (if star ≠ star then _ else if false = true then _ else _) = _
  rw [if_neg (by simp), if_neg (by simp)]

/-- What stands in memory within the inner loop. -/
def In (w0 w : World) (B g N g1 g2 : Nat) (L : List Bool) (F : Nat → Bool) (m j : Nat) (ps cs : List Bs) : Prop :=
  Bl w g L ∧ Bl w N (prt F (m + 1) j) ∧ SRow w B (some ⟨g1, 0, none⟩) ps ∧ SRow w B (some ⟨g2, 0, none⟩) cs ∧ Below w0.heap.size w0 w ∧ N < w.heap.size
theorem In.later {w0 w w' : World} {B g N g1 g2 : Nat} {L : List Bool} {F : Nat → Bool} {m j : Nat} {ps cs : List Bs} (h : In w0 w B g N g1 g2 L F m j ps cs) (hb : Below w.heap.size w w') : In w0 w' B g N g1 g2 L F m j ps cs :=
  ⟨h.1.later hb, h.2.1.later hb, srow_later h.2.2.1 hb, srow_later h.2.2.2.1 hb, h.2.2.2.2.1.trans (hb.mono h.2.2.2.2.1.size), Nat.lt_of_lt_of_le h.2.2.2.2.2 hb.size⟩
theorem In.store {w0 w : World} {B g N g1 g2 : Nat} {L : List Bool} {F : Nat → Bool} {m j : Nat} {ps cs : List Bs} {v : Bool} (h : In w0 w B g N g1 g2 L F m j ps cs) (hj : j < m + 1) (hv : F j = v) (hg : g < N) (hB : B < N) (h0 : w0.heap.size ≤ N) :
    In w0 (w.setCell ⟨N, j, none⟩ (.bool v)) B g N g1 g2 L F m (j + 1) ps cs :=
  ⟨h.1.other _ _ (by show N ≠ g; omega), by rw [← prt_set F hj, hv]; exact h.2.1.set j v (by rw [prt_len]; exact hj), srow_set h.2.2.1 _ _ (Nat.le_of_lt hB), srow_set h.2.2.2.1 _ _ (Nat.le_of_lt hB), h.2.2.2.2.1.setCell (p := ⟨N, j, none⟩) h0 _, by simpa using h.2.2.2.2.2⟩
theorem In.cells {w0 w : World} {B g N g1 g2 : Nat} {L : List Bool} {F : Nat → Bool} {m j : Nat} {ps cs : List Bs} (h : In w0 w B g N g1 g2 L F m j ps cs) (hj : j < m + 1) : w.cell? ⟨N, j, none⟩ = some (.bool ((prt F (m + 1) j).getD j false)) ∧ w.frozen? ⟨N, j, none⟩ = false :=
  ⟨h.2.1.at j (by rw [prt_len]; exact hj), h.2.1.fr j (by rw [prt_len]; exact hj)⟩

set_option maxHeartbeats 8000000 in
set_option maxRecDepth 100000 in
theorem refmatch_any (p s : ByteArray) (b : Bool) (hb : mtch p.data.toList s.data.toList = b) (w : World) (hp : p.size ≤ 100000) (hs : s.size ≤ 100000) :
    Calls Tryd.prog 12 #[.string p, .string s] w fun e w' => e = .returned (.bool b) ∧ Below w.heap.size w w' := by
  obtain ⟨i0, hi, hz0, hz1, hz2⟩ := info_parts boolInfo
  cases hpm : pmay p.data.toList
  · have hb' : b = false := by rw [← hb]; unfold mtch; rw [hpm]; rfl
    subst hb'
    have HM := Lib.hid (fun W => refpmay_any p false hpm W hp)
    clear hb hpm
    go_enter Tryd.func12, Tryd.ntmps12
    go_wp2_with fail
    refine (HM.out _).mono ?_
    rintro e w1 ⟨rfl, hb1⟩
    have HB1 := Lib.hid hb1
    clear hb1
    go_wp2
    go_ret
    exact ⟨rfl, HB1.out⟩
  · have HM := Lib.hid (fun W => refpmay_any p true hpm W hp)
    cases hsm : may s.data.toList
    · have hb' : b = false := by rw [← hb]; unfold mtch; rw [hsm, Bool.and_false]; rfl
      subst hb'
      have HS := Lib.hid (fun W => refmay_any s false hsm W hs)
      clear hb hpm hsm
      go_enter Tryd.func12, Tryd.ntmps12
      go_wp2_with fail
      refine (HM.out _).mono ?_
      rintro e w1 ⟨rfl, hb1⟩
      have HB1 := Lib.hid hb1
      clear hb1
      go_wp2_with fail
      refine (HS.out _).mono ?_
      rintro e w2 ⟨rfl, hb2⟩
      have HB2 := Lib.hid (HB1.out.trans (hb2.mono HB1.out.size))
      clear hb2
      go_wp2
      go_ret
      exact ⟨rfl, HB2.out⟩
    · have HS := Lib.hid (fun W => refmay_any s true hsm W hs)
      have hb' : ass (parts p.data.toList) (parts s.data.toList) = b := by rw [← hb]; unfold mtch; rw [hpm, hsm]; rfl
      have HE := Lib.hid hb'
      have HPL := Lib.hid (parts_le p.data.toList)
      have HSL := Lib.hid (parts_le s.data.toList)
      have hn1 := pmay_len hpm
      have hm1 := may_len hsm
      have hn2 := parts_pos p.data.toList
      have HP1 := Lib.hid (fun W => parts_any p W hp)
      have HP2 := Lib.hid (fun W => parts_any s W hs)
      clear hb hpm hsm hb'
      obtain ⟨n, hn⟩ : ∃ n, (parts p.data.toList).length = n := ⟨_, rfl⟩
      obtain ⟨m, hm⟩ : ∃ m, (parts s.data.toList).length = m := ⟨_, rfl⟩
      rw [hn] at hn1 hn2
      rw [hm] at hm1
      have HN := Lib.hid hn
      have HMM := Lib.hid hm
      clear hn hm
      go_enter Tryd.func12, Tryd.ntmps12
      go_wp2_with fail
      refine (HM.out _).mono ?_
      rintro e w1 ⟨rfl, hb1⟩
      have HB1 := Lib.hid hb1
      clear hb1
      go_wp2_with fail
      refine (HS.out _).mono ?_
      rintro e w2 ⟨rfl, hb2⟩
      have HB2 := Lib.hid (HB1.out.trans (hb2.mono HB1.out.size))
      clear hb2
      go_wp2_with fail
      refine (HP1.out _).mono ?_
      rintro e w3 ⟨g1, cap1, rfl, ho1, hb3⟩
      have HO1 := Lib.hid ho1
      have HB3 := Lib.hid (HB2.out.trans (hb3.mono HB2.out.size))
      clear ho1 hb3
      rw [HN.out] at HO1 ⊢
      go_wp2_with fail
      refine (HP2.out _).mono ?_
      rintro e w4 ⟨g2, cap2, rfl, ho2, hb4⟩
      have HR1 := Lib.hid (srow_later (HO1.out.row) hb4)
      have HB4 := Lib.hid (HB3.out.trans (hb4.mono HB3.out.size))
      have HR2 := Lib.hid ho2.row
      have hw34 := hb4.size
      clear ho2 hb4
      rw [HMM.out]
      go_wp2_with (at_make; refine wpList_make_bl _ rfl (.tmp 26) (.tmp 26) 42 rfl 4 i0 Tryd.underlying42 hi hz0 hz1 (by rw [hz2]; decide) .i64 .i64 _ _ (m + 1) rfl rfl ?m1 ?m2 (by omega) ?_)
      case m1 => go_num
      case m2 => go_num
      intro w5 HL5 HW5 HZ5
      have c0 : w5.cell? ⟨w4.heap.size, 0, none⟩ = some (.bool false) := HL5.out.at 0 (by simp)
      have f0 := HL5.out.fr 0 (by simp)
      have HL6 := Lib.hid (HL5.out.set 0 true (by simp))
      have hb4s := HB4.out.size
      have HB6 := Lib.hid ((HB4.out.trans (HW5.out.mono HB4.out.size)).setCell (p := ⟨w4.heap.size, 0, none⟩) (show w.heap.size ≤ w4.heap.size from hb4s) (.bool true))
      have HR1' := Lib.hid (srow_set (srow_later (HR1.out.more hw34) HW5.out) ⟨w4.heap.size, 0, none⟩ (.bool true) (Nat.le_refl _))
      have HR2' := Lib.hid (srow_set (srow_later HR2.out HW5.out) ⟨w4.heap.size, 0, none⟩ (.bool true) (Nat.le_refl _))
      have HZ6 : Hid (w4.heap.size < (w5.setCell ⟨w4.heap.size, 0, none⟩ (.bool true)).heap.size) := by have := HZ5.out; show _ < _; simp; omega
      clear HR1 HR2 HW5 HB1 HB2 HB3 HB4 HO1 HZ5 hw34
      generalize hB : w4.heap.size = B at *
      clear hB
      go_wp2
      go_loopw [7, 32] (fun a i wr => ∃ k g : Nat, k ≤ n ∧ i = .int .i64 k ∧ a = .slice (some ⟨g, 0, none⟩) (m + 1) (m + 1) ∧ Hid (Bl wr g (runA (parts p.data.toList) (parts s.data.toList) k)) ∧ Hid (SRow wr B (some ⟨g1, 0, none⟩) (parts p.data.toList)) ∧ Hid (SRow wr B (some ⟨g2, 0, none⟩) (parts s.data.toList)) ∧ Hid (Below w.heap.size w wr) ∧ Hid (B < wr.heap.size)) (fun _ i _ => n - (intOf i).toNat)
      case atStart =>
        refine ⟨0, B, Nat.zero_le _, rfl, rfl, ?_, HR1'.out, HR2'.out, HB6.out, HZ6.out⟩
        show Bl _ _ (true :: List.replicate (parts s.data.toList).length false)
        rw [HMM.out]
        exact HL6.out
      case round =>
        obtain ⟨k, g, hk, rfl, rfl, HL, HR1, HR2, HB, HZ⟩ := hrel
        clear HR1' HR2' HL6 HB6 HZ6 HL5 c0 f0
        by_cases hlt : k < n
        · have hki : (k : Int) < n := by omega
          have hxk : (parts p.data.toList)[k]? = some ((parts p.data.toList)[k]'(by rw [HN.out]; exact hlt)) := List.getElem?_eq_getElem _
          generalize (parts p.data.toList)[k]'(by rw [HN.out]; exact hlt) = x at hxk
          obtain ⟨sx, hsx, cX⟩ := srow_at HR1.out hxk
          have hsxs : sx.size ≤ 100000 := by
            have := HPL.out x (List.mem_of_getElem? hxk)
            rw [← hsx, data_length, data_length] at this
            omega
          have hgd : (parts p.data.toList).getD k [] = x := by rw [List.getD_eq_getElem?_getD, hxk]; rfl
          have hrun : runA (parts p.data.toList) (parts s.data.toList) (k + 1) = nextA x (decide (k + 1 = n)) (parts s.data.toList) (runA (parts p.data.toList) (parts s.data.toList) k) := by rw [← hgd, ← HN.out]; rfl
          have hlen := runA_len (parts p.data.toList) (parts s.data.toList) k
          rw [HMM.out] at hlen
          have HR := Lib.hid hrun
          obtain ⟨L, hL⟩ : ∃ L, runA (parts p.data.toList) (parts s.data.toList) k = L := ⟨_, rfl⟩
          rw [hL] at HL HR hlen
          have HLE := Lib.hid hlen
          have HSX := Lib.hid hsx
          obtain ⟨F, hF⟩ : ∃ F, nxA x (decide (k + 1 = n)) (parts s.data.toList) L = F := ⟨_, rfl⟩
          have HFE := Lib.hid hF
          have hst := star_beq hsx
          clear hrun hlen hL hF hsx hgd hxk
          go_wp2_with (at_make; refine wpList_make_bl _ rfl (.tmp 39) (.tmp 39) 42 rfl 4 i0 Tryd.underlying42 hi hz0 hz1 (by rw [hz2]; decide) .i64 .i64 _ _ (m + 1) rfl rfl ?n1 ?n2 (by omega) ?_)
          case n1 => go_num
          case n2 => go_num
          intro w6 HL6 HW6 HZ6
          have HK0 := Lib.hid (HL.out.later HW6.out)
          have HB0 := Lib.hid (HB.out.trans (HW6.out.mono HB.out.size))
          have HR10 := Lib.hid (srow_later HR1.out HW6.out)
          have HR20 := Lib.hid (srow_later HR2.out HW6.out)
          have HGG := Lib.hid HL.out.lt
          have HGS := Lib.hid HB.out.size
          have HZ0 : Hid (B < wr.heap.size) := HZ
          have HZ1 : Hid (wr.heap.size < w6.heap.size) := by have := HZ6.out; show _ < _; omega
          clear HW6 HZ6 HL HB HR1 HR2 HZ cX
          generalize hN : wr.heap.size = N at HL6 HGG HGS HZ0 HZ1 ⊢
          clear hN
          go_wp2
          go_loopw [11] (fun i wr2 => ∃ j : Nat, j ≤ m + 1 ∧ i = .int .i64 j ∧ Hid (In w wr2 B g N g1 g2 L F m j (parts p.data.toList) (parts s.data.toList))) (fun i _ => m + 1 - (intOf i).toNat)
          case atStart => exact ⟨0, Nat.zero_le _, rfl, HK0.out, by have := HL6.out; rw [← prt_zero F] at this; exact this, HR10.out, HR20.out, HB0.out, HZ1.out⟩
          case round =>
            obtain ⟨j, hj, rfl, HI⟩ := hrel
            clear HK0 HL6 HR10 HR20 HB0 HZ1
            by_cases hlt2 : j ≤ m
            · have hji : (j : Int) ≤ m := by omega
              have hLj : j < L.length := by rw [HLE.out]; omega
              obtain ⟨c2, f2⟩ := HI.out.cells (by omega)
              have hmi : (m : Int) ≤ 16 := by omega
              by_cases hxs : x = star
              · rw [decide_eq_true hxs] at hst
                have c1 := HI.out.1.at j hLj
                by_cases hlast : k + 1 = n
                · have hF := HFE.out
                  rw [hxs, decide_eq_true hlast] at hF
                  have hli : ((k : Int) == (n : Int) - 1) = true := by rw [beq_iff_eq]; omega
                  have e0 : IntKind.i64.wrap ((n : Int) - 1) = (n : Int) - 1 := IntWalk.i64_in _ (by omega)
                  cases j with
                  | zero =>
                    have HS2 := Lib.hid (HI.out.store (v := false) (by omega) (by rw [← hF]; exact nxA_l0 _ _) HGG.out HZ0.out HGS.out)
                    clear hF hxs c1 HFE HI
                    go_wp2
                    go_roundw
                    case rel => exact ⟨1, by omega, rfl, HS2.out⟩
                    case measure => simp [intOf]
                  | succ j =>
                    have hv : F (j + 1) = (L.getD j false || F j) := by rw [← hF]; exact nxA_lS _ _ _
                    have c3 := HI.out.1.at j (by omega)
                    have c4 := HI.out.2.1.at j (by rw [prt_len]; omega)
                    rw [prt_getD _ (by omega) (by omega)] at c4
                    have e1 : IntKind.i64.wrap (((j + 1 : Nat) : Int) - 1) = (j : Int) := by rw [IntWalk.i64_in _ (by omega)]; omega
                    have hj0 : (0 : Int) < ((j + 1 : Nat) : Int) := by omega
                    have HS2 := Lib.hid (HI.out.store (by omega) hv HGG.out HZ0.out HGS.out)
                    generalize L.getD j false = y at c3 hv HS2
                    generalize F j = z at c4 hv HS2
                    clear hF hxs hv c1 HFE HI
                    cases y
                    · go_wp2
                      go_roundw
                      case rel => exact ⟨j + 2, by omega, by go_num, HS2.out⟩
                      case measure => simp [intOf]; omega
                    · go_wp2
                      go_roundw
                      case rel => exact ⟨j + 2, by omega, by go_num, HS2.out⟩
                      case measure => simp [intOf]; omega
                · have hF := HFE.out
                  rw [hxs, decide_eq_false hlast] at hF
                  have hli : ((k : Int) == (n : Int) - 1) = false := by rw [beq_eq_false_iff_ne]; omega
                  have e0 : IntKind.i64.wrap ((n : Int) - 1) = (n : Int) - 1 := IntWalk.i64_in _ (by omega)
                  cases j with
                  | zero =>
                    have hv : F 0 = L.getD 0 false := by rw [← hF]; exact nxA_s0 _ _
                    have HS2 := Lib.hid (HI.out.store (by omega) hv HGG.out HZ0.out HGS.out)
                    generalize L.getD 0 false = y at c1 hv HS2
                    clear hF hxs hv HFE HI
                    cases y
                    · go_wp2
                      go_roundw
                      case rel => exact ⟨1, by omega, rfl, HS2.out⟩
                      case measure => simp [intOf]
                    · go_wp2
                      go_roundw
                      case rel => exact ⟨1, by omega, rfl, HS2.out⟩
                      case measure => simp [intOf]
                  | succ j =>
                    have hv : F (j + 1) = (L.getD (j + 1) false || F j) := by rw [← hF]; exact nxA_sS _ _ _
                    have c4 := HI.out.2.1.at j (by rw [prt_len]; omega)
                    rw [prt_getD _ (by omega) (by omega)] at c4
                    have e1 : IntKind.i64.wrap (((j + 1 : Nat) : Int) - 1) = (j : Int) := by rw [IntWalk.i64_in _ (by omega)]; omega
                    have hj0 : (0 : Int) < ((j + 1 : Nat) : Int) := by omega
                    have HS2 := Lib.hid (HI.out.store (by omega) hv HGG.out HZ0.out HGS.out)
                    generalize L.getD (j + 1) false = y at c1 hv HS2
                    generalize F j = z at c4 hv HS2
                    clear hF hxs hv HFE HI
                    cases y
                    · go_wp2
                      go_roundw
                      case rel => exact ⟨j + 2, by omega, by go_num, HS2.out⟩
                      case measure => simp [intOf]; omega
                    · go_wp2
                      go_roundw
                      case rel => exact ⟨j + 2, by omega, by go_num, HS2.out⟩
                      case measure => simp [intOf]; omega
              · rw [decide_eq_false hxs] at hst
                cases j with
                | zero =>
                  have hv : F 0 = false := by rw [← HFE.out]; exact nxA_n0 _ _ _ hxs
                  have HS2 := Lib.hid (HI.out.store (by omega) hv HGG.out HZ0.out HGS.out)
                  clear hxs hv HFE HI
                  go_wp2
                  go_roundw
                  case rel => exact ⟨1, by omega, rfl, HS2.out⟩
                  case measure => simp [intOf]
                | succ j =>
                  have hmj : (parts s.data.toList)[j]? = some ((parts s.data.toList)[j]'(by rw [HMM.out]; omega)) := List.getElem?_eq_getElem _
                  generalize (parts s.data.toList)[j]'(by rw [HMM.out]; omega) = y at hmj
                  have hmd : (parts s.data.toList).getD j [] = y := by rw [List.getD_eq_getElem?_getD, hmj]; rfl
                  obtain ⟨sy, hsy, cY⟩ := srow_at HI.out.2.2.2.1 hmj
                  have hsys : sy.size ≤ 100000 := by
                    have := HSL.out y (List.mem_of_getElem? hmj)
                    rw [← hsy, data_length, data_length] at this
                    omega
                  have hv : F (j + 1) = (L.getD j false && one x y) := by rw [← HFE.out, nxA_nS _ _ _ _ hxs, hmd]
                  have c3 := HI.out.1.at j (by omega)
                  have e1 : IntKind.i64.wrap (((j + 1 : Nat) : Int) - 1) = (j : Int) := by rw [IntWalk.i64_in _ (by omega)]; omega
                  have hj0 : (0 : Int) < ((j + 1 : Nat) : Int) := by omega
                  have hj1 : (j : Int) < m := by omega
                  obtain ⟨r, hr⟩ : ∃ r, one x y = r := ⟨_, rfl⟩
                  have HON := Lib.hid (fun W => refone_any sx sy r (by rw [HSX.out, hsy]; exact hr) W hsxs hsys)
                  rw [hr] at hv
                  generalize L.getD j false = q at c3 hv
                  cases q
                  · rw [Bool.false_and] at hv
                    have HS2 := Lib.hid (HI.out.store (by omega) hv HGG.out HZ0.out HGS.out)
                    clear hxs hv HFE HI hmj hmd hsy hr HON cY
                    go_wp2
                    go_roundw
                    case rel => exact ⟨j + 2, by omega, by go_num, HS2.out⟩
                    case measure => simp [intOf]; omega
                  · rw [Bool.true_and] at hv
                    clear hxs HFE hmj hmd hsy hr
                    have HV := Lib.hid hv
                    clear hv
                    go_wp2_with fail
                    refine (HON.out _).mono ?_
                    rintro e w7 ⟨rfl, hb7⟩
                    have HI7 := Lib.hid (HI.out.later hb7)
                    obtain ⟨c7, f7⟩ := HI7.out.cells (by omega)
                    have HS2 := Lib.hid (HI7.out.store (by omega) HV.out HGG.out HZ0.out HGS.out)
                    clear hb7 HI HON HI7 cY c2 f2 c3
                    go_wp2
                    go_roundw
                    case rel => exact ⟨j + 2, by omega, by go_num, HS2.out⟩
                    case measure => simp [intOf]; omega
            · obtain rfl : j = m + 1 := by omega
              have hn : Bl wr N (runA (parts p.data.toList) (parts s.data.toList) (k + 1)) := by
                have := HI.out.2.1
                rw [prt_all] at this
                rw [HR.out]
                unfold nextA
                rw [HMM.out, HFE.out]
                exact this
              have HN2 := Lib.hid hn
              have HI2 := Lib.hid HI.out.2.2
              clear hn HI
              have hji : ¬ (((m + 1 : Nat) : Int) ≤ m) := by omega
              go_wp2
              go_roundw
              case rel => exact ⟨k + 1, N, by omega, by go_num, rfl, HN2.out, HI2.out.1, HI2.out.2.1, HI2.out.2.2.1, Nat.lt_trans HZ0.out HI2.out.2.2.2⟩
              case measure => simp [intOf]; omega
        · obtain rfl : k = n := by omega
          have hend := runA_end (parts p.data.toList) (parts s.data.toList)
          have hlen := runA_len (parts p.data.toList) (parts s.data.toList) k
          rw [HMM.out] at hend hlen
          rw [HN.out, HE.out] at hend
          have c1 := HL.out.at m (by omega)
          rw [hend] at c1
          clear hend hlen HL
          go_wp2
          go_ret
          exact ⟨rfl, HB.out⟩
end Gl
end Go.Proofs.YtffmnobcdhgfdaaDoor
