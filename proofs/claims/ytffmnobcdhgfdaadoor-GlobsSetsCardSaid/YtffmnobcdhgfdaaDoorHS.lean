/-
  Layer 4 (globs): the walk of the law GlobsSets.
-/
import Derived.Test.YtffmnobcdhgfdaaDoorHM
import Derived.Test.YtffmnobcdhgfdaaDoorGX
namespace Go.Proofs.YtffmnobcdhgfdaaDoor
namespace Gl
open Go.RowKit Pt

theorem lit_row (w : World) (ss : List ByteArray) (e : TypeId) : SRow (w.alloc (.cells (ss.map Value.string).toArray e)) (w.heap.size + 1) (some ⟨w.heap.size, 0, none⟩) (ss.map fun x => x.data.toList) := by
  intro j x hx
  rw [List.getElem?_map] at hx
  obtain ⟨s, hs, rfl⟩ := Option.map_eq_some_iff.1 hx
  refine ⟨w.heap.size, 0, s, rfl, by omega, rfl, ?_⟩
  rw [Nat.zero_add, (cell_made w _ _ j).1, List.getElem?_toArray, List.getElem?_map, hs]; rfl

theorem BMap.isMap {w : World} {b n : Nat} {S : List Bs} (h : BMap w b n S) : ∃ es clock, w.heap[b]? = some (.map es clock) := by
  obtain ⟨D, ⟨es, clock, hb, _⟩, _⟩ := h
  exact ⟨es, clock, hb⟩
theorem cell_not_map {w : World} {b : Nat} {es : Array MapEntry} {clock : Nat} (hb : w.heap[b]? = some (.map es clock)) {a : Addr} {v : Value} (h : w.cell? a = some v) : a.block ≠ b := by
  intro e
  subst e
  simp [World.cell?, hb] at h
theorem cell_map {w w' : World} {b n : Nat} {S : List Bs} (h : BMap w b n S) (hg : w.grownBy w' (some b)) {a : Addr} {v : Value} (hc : w.cell? a = some v) : w'.cell? a = some v := by
  obtain ⟨es, clock, hb⟩ := h.isMap
  exact grown_cell hc hg (cell_not_map hb hc)
theorem srow_map {w w' : World} {b n B : Nat} {S : List Bs} {A : Option Addr} {xs : List Bs} (h : BMap w b n S) (hg : w.grownBy w' (some b)) (hr : SRow w B A xs) : SRow w' B A xs := fun j x hx => by
  obtain ⟨b1, o, s, h1, h2, h3, h4⟩ := hr j x hx
  exact ⟨b1, o, s, h1, h2, h3, cell_map h hg h4⟩

theorem srow_get {w : World} {B b o k : Nat} {xs : List Bs} {x : Bs} (h : SRow w B (some ⟨b, o, none⟩) xs) (hx : xs[k]? = some x) : ∃ s : ByteArray, s.data.toList = x ∧ w.cell? ⟨b, o + k, none⟩ = some (.string s) := by
  obtain ⟨b1, o1, s, h1, _, h3, h4⟩ := h k x hx
  injection h1 with h1
  injection h1 with e1 e2
  subst e1 e2
  exact ⟨s, h3, h4⟩

/-- What one pattern picks, the pattern in a slice of its own. -/
theorem pick1 (A1 : Option Addr) (c1 n1 : Nat) (paths : List Bs) (w W : World) (hn : paths.length = n1) (b1 : n1 ≤ 40) (l1 : ∀ x ∈ paths, x.length ≤ 100000) (r1 : SRow w w.heap.size A1 paths) (hb : Below w.heap.size w W) (hx : Mx W) (sx : ByteArray) (hs : sx.size ≤ 200) :
    Calls Tryd.prog 16 #[.slice A1 n1 c1, .slice (some ⟨W.heap.size, 0, none⟩) 1 1, .slice none 0 0] (W.alloc (.cells #[.string sx] 9)) fun e w' => ∃ A m cap', e = .returned (.slice A m cap') ∧ (pickL paths [sx.data.toList] []).length = m ∧ SRow w' w'.heap.size A (pickL paths [sx.data.toList] []) ∧ Below W.heap.size W w' := by
  have hbw : Below W.heap.size W (W.alloc (.cells #[.string sx] 9)) := (Below.refl _ _).alloc (Nat.le_refl _) _
  have hr := lit_row W [sx] 9
  refine (gpick_any A1 (some ⟨W.heap.size, 0, none⟩) none c1 1 0 n1 1 0 paths [sx.data.toList] [] (W.alloc (.cells #[.string sx] 9)) (hx.later hbw) hn rfl rfl (by omega) (by omega) (by omega) l1 ?_ (by simp)
    (((r1.below hb (Nat.le_refl _)).below (hbw.mono hb.size) (Nat.le_refl _)).more (Nat.le_trans hb.size hbw.size)) (hr.more (by simp)) (SRow.none_ _ _ _)).mono ?_
  · intro x hxm
    rw [List.mem_singleton] at hxm
    rw [hxm, data_length]; omega
  · rintro e w' ⟨A, m, cap, h1, h2, h3, h4⟩
    exact ⟨A, m, cap, h1, h2, h3, hbw.trans (h4.mono hbw.size)⟩

/-- The set behind so many of the two patterns. -/
def Sf (paths : List Bs) (p q : ByteArray) : Nat → List Bs
  | 0 => []
  | 1 => addAll [] (pickL paths [p.data.toList] [])
  | _ => addAll (addAll [] (pickL paths [p.data.toList] [])) (pickL paths [q.data.toList] [])
theorem Sf_step (paths : List Bs) (p q : ByteArray) (hp : p.size ≤ 200) (hq : q.size ≤ 200) {w : World} {N j : Nat} (hj : j < 2) (h0 : w.cell? ⟨N, 0, none⟩ = some (.string p)) (h1 : w.cell? ⟨N, 1, none⟩ = some (.string q)) :
    ∃ sx : ByteArray, w.cell? ⟨N, j, none⟩ = some (.string sx) ∧ sx.size ≤ 200 ∧ Sf paths p q (j + 1) = addAll (Sf paths p q j) (pickL paths [sx.data.toList] []) := by
  match j, hj with
  | 0, _ => exact ⟨p, h0, hp, rfl⟩
  | 1, _ => exact ⟨q, h1, hq, rfl⟩

set_option maxRecDepth 100000 in
set_option maxHeartbeats 16000000 in
theorem sets_law (A1 : Option Addr) (c1 n1 : Nat) (paths : List Bs) (p q t : ByteArray) (w : World) (hmx : Mx w) (h1 : paths.length = n1) (d1 : n1 ≤ 140737488355328) (l1 : ∀ x ∈ paths, x.length ≤ 140737488355328) (r1 : SRow w w.heap.size A1 paths)
    (hp : p.size ≤ 9223372036854775807) (hq : q.size ≤ 9223372036854775807) (ht : t.size ≤ 9223372036854775807) :
    Calls Tryd.prog 7 #[.slice A1 n1 c1, .agg #[.string p, .string q, .string t]] w fun e w' => e = .returned (.bool true) ∧ Below w.heap.size w w' := by
  have H1 := Lib.hid h1
  have L1 := Lib.hid l1
  have R1 := Lib.hid r1
  have HX0 := Lib.hid hmx
  have HA := Lib.hid alive_any
  clear h1 l1 r1 hmx
  have hmm := @run_makeMap Tryd.prog
  go_enter Tryd.func7, Tryd.ntmps7
  go_wp2_with fail
  refine (HA.out _ (HX0.out.alloc _)).mono ?_
  rintro e w1 ⟨rfl, hb1⟩
  have k0 : w1.cell? ⟨w.heap.size, 0, none⟩ = some (.string p) := later_cell (cell_made w #[.string p, .string q, .string t] 33 0).1 hb1
  have k1 : w1.cell? ⟨w.heap.size, 1, none⟩ = some (.string q) := later_cell (cell_made w #[.string p, .string q, .string t] 33 1).1 hb1
  have k2 : w1.cell? ⟨w.heap.size, 2, none⟩ = some (.string t) := later_cell (cell_made w #[.string p, .string q, .string t] 33 2).1 hb1
  have hbb : Below w.heap.size w w1 := ((Below.refl _ w).alloc (Nat.le_refl _) _).trans (hb1.mono (by simp))
  have HB1 := Lib.hid hbb
  have HX1 := Lib.hid (HX0.out.later hbb)
  clear hb1 hbb HA
  go_wp2
  go_quiet (fail)
  by_cases s1 : 40 < n1
  · have s1' : (40 : Int) < n1 := by omega
    go_wp2
    go_ret
    exact ⟨rfl, below_drewN HB1.out _⟩
  · have s1' : decide ((40 : Int) < n1) = false := by rw [decide_eq_false_iff_not]; omega
    by_cases s2 : 200 < p.size
    · have s2' : (200 : Int) < p.size := by omega
      go_wp2
      go_ret
      exact ⟨rfl, below_drewN HB1.out _⟩
    · have s2' : decide ((200 : Int) < p.size) = false := by rw [decide_eq_false_iff_not]; omega
      by_cases s3 : 200 < q.size
      · have s3' : (200 : Int) < q.size := by omega
        go_wp2
        go_ret
        exact ⟨rfl, below_drewN HB1.out _⟩
      · have s3' : decide ((200 : Int) < q.size) = false := by rw [decide_eq_false_iff_not]; omega
        by_cases s4 : 200 < t.size
        · have s4' : (200 : Int) < t.size := by omega
          go_wp2
          go_ret
          exact ⟨rfl, below_drewN HB1.out _⟩
        · have s4' : decide ((200 : Int) < t.size) = false := by rw [decide_eq_false_iff_not]; omega
          go_wp2
          have hn1 : n1 ≤ 40 := by omega
          have hb2 := below_drewN HB1.out nq
          have hx2 := HX1.out.drewN nq
          generalize w1.drewN nq = W1 at hb2 hx2 ⊢
          have HB2 := Lib.hid hb2
          have HX2 := Lib.hid hx2
          have hps : p.size ≤ 200 := by omega
          have hqs : q.size ≤ 200 := by omega
          have hts : t.size ≤ 200 := by omega
          clear hb2 hx2 HB1 HX1 k0 k1 k2 s1 s2 s3 s4
          go_loopw [48] (fun i wr => ∃ k : Nat, k ≤ n1 ∧ i = .int .i64 k ∧ wr = W1 ∧ Hid (∀ (j : Nat) x, j < k → paths[j]? = some x → x.length ≤ 200)) (fun i _ => n1 - (intOf i).toNat)
          case atStart => exact ⟨0, Nat.zero_le _, rfl, rfl, fun j x hj => absurd hj (Nat.not_lt_zero _)⟩
          case round =>
            obtain ⟨k, hk, rfl, rfl, HK⟩ := hrel
            by_cases hlk : k < n1
            · have hki : (k : Int) < n1 := by omega
              have hxk : paths[k]? = some (paths[k]'(by rw [H1.out]; exact hlk)) := List.getElem?_eq_getElem _
              generalize paths[k]'(by rw [H1.out]; exact hlk) = x at hxk
              obtain ⟨b1, o1, sx, rfl, _, hsx, cX⟩ := (R1.out.below HB2.out (Nat.le_refl _)) k x hxk
              have hxl : sx.size ≤ 140737488355328 := by
                have := L1.out x (List.mem_of_getElem? hxk)
                rw [← hsx, data_length] at this
                exact this
              by_cases h200 : 200 < sx.size
              · have h2i : (200 : Int) < sx.size := by omega
                clear hxk hsx h200
                go_wp2
                go_ret
                exact ⟨rfl, HB2.out⟩
              · have h2i : decide ((200 : Int) < sx.size) = false := by rw [decide_eq_false_iff_not]; omega
                have HK2 : Hid (∀ (j : Nat) x, j < k + 1 → paths[j]? = some x → x.length ≤ 200) := fun j y hj hy => by
                  by_cases he : j = k
                  · subst he
                    rw [hxk] at hy
                    cases hy
                    rw [← hsx, data_length]; omega
                  · exact HK.out j y (by omega) hy
                clear hxk hsx h200
                go_wp2
                go_roundw
                case rel => exact ⟨k + 1, by omega, by go_num, by first | rfl | trivial, HK2.out⟩
                case measure => simp [intOf]; omega
            · obtain rfl : k = n1 := by omega
              have hsm : ∀ x ∈ paths, x.length ≤ 100000 := by
                intro x hx
                obtain ⟨i, hi⟩ := List.getElem?_of_mem hx
                have hil := (List.getElem?_eq_some_iff.1 hi).1
                have := HK.out i x (by rw [H1.out] at hil; exact hil) hi
                omega
              have HSM := Lib.hid hsm
              clear hsm HK
              -- what both pick
              have hr1 := lit_row wr [p, q] 9
              have hb3 : Below wr.heap.size wr (wr.alloc (.cells #[.string p, .string q] 9)) := (Below.refl _ _).alloc (Nat.le_refl _) _
              have hr2 := lit_row (wr.alloc (.cells #[.string p, .string q] 9)) [t] 9
              have hb4 : Below (wr.alloc (.cells #[.string p, .string q] 9)).heap.size (wr.alloc (.cells #[.string p, .string q] 9)) ((wr.alloc (.cells #[.string p, .string q] 9)).alloc (.cells #[.string t] 9)) := (Below.refl _ _).alloc (Nat.le_refl _) _
              go_wp2_with fail
              have hb34 := hb3.trans (hb4.mono hb3.size)
              have HBL := Lib.hid (HB2.out.trans (hb34.mono HB2.out.size))
              have hG := gpick_any A1 (some ⟨wr.heap.size, 0, none⟩) (some ⟨wr.heap.size + 1, 0, none⟩) c1 2 1 k 2 1 paths [p.data.toList, q.data.toList] [t.data.toList] ((wr.alloc (.cells #[.string p, .string q] 9)).alloc (.cells #[.string t] 9)) (HX2.out.later hb34) H1.out rfl rfl (by omega) (by omega) (by omega) HSM.out
                (by intro x hx; simp only [List.mem_cons, List.not_mem_nil, or_false] at hx; rcases hx with h | h <;> (rw [h, data_length]; omega)) (by intro x hx; rw [List.mem_singleton] at hx; rw [hx, data_length]; omega)
                ((R1.out.below HBL.out (Nat.le_refl _)).more HBL.out.size) ((srow_later hr1 hb4).more (by simp)) (by have := hr2; rw [World.size_alloc] at this; exact this.more (by simp))
              have HG := Lib.hid hG
              clear hG hr1 hr2 hb3 hb4
              refine HG.out.mono ?_
              rintro e w3 ⟨A, m, cap, rfl, hm, hr3, hb3⟩
              have hm40 : m ≤ 40 := by have := pickL_len paths [p.data.toList, q.data.toList] [t.data.toList]; rw [hm, H1.out] at this; omega
              obtain ⟨PB, hPB⟩ : ∃ PB, pickL paths [p.data.toList, q.data.toList] [t.data.toList] = PB := ⟨_, rfl⟩
              rw [hPB] at hm hr3
              have HPB := Lib.hid hPB
              clear hPB
              have HM := Lib.hid hm
              have HR3 := Lib.hid hr3
              have HB3 := Lib.hid (HBL.out.trans (hb3.mono HBL.out.size))
              have HX3 := Lib.hid (HX2.out.later (hb34.trans (hb3.mono hb34.size)))
              clear hm hr3 hb3 hb34 HG HBL
              -- the set, and the slice of the two patterns
              have hbm := BMap.made w3
              have hbw : Below w3.heap.size w3 (w3.alloc (.map #[] 0)) := (Below.refl _ _).alloc (Nat.le_refl _) _
              have hbw2 : Below (w3.alloc (.map #[] 0)).heap.size (w3.alloc (.map #[] 0)) ((w3.alloc (.map #[] 0)).alloc (.cells #[.string p, .string q] 9)) := (Below.refl _ _).alloc (Nat.le_refl _) _
              have hbw3 := hbw.trans (hbw2.mono hbw.size)
              have hbm2 := hbm.later hbw2
              have hc0 := (cell_made (w3.alloc (.map #[] 0)) #[.string p, .string q] 9 0).1
              have hc1 := (cell_made (w3.alloc (.map #[] 0)) #[.string p, .string q] 9 1).1
              rw [World.size_alloc] at hc0 hc1
              have hb4 := HB3.out.trans (hbw3.mono HB3.out.size)
              have hr4 := (srow_later HR3.out hbw3).more hbw3.size
              have hx4 := HX3.out.later hbw3
              have hz4 : w.heap.size ≤ w3.heap.size := HB3.out.size
              clear hbm hbw hbw2 hbw3
              go_wp2
              obtain ⟨W4, hW4⟩ : ∃ W4, (w3.alloc (.map #[] 0)).alloc (.cells #[.string p, .string q] 9) = W4 := ⟨_, rfl⟩
              rw [hW4] at hbm2 hc0 hc1 hb4 hr4 hx4 ⊢
              generalize w3.heap.size = Nm at hbm2 hc0 hc1 hz4 ⊢
              have HBM := Lib.hid hbm2
              have HC0 := Lib.hid (show W4.cell? ⟨Nm + 1, 0, none⟩ = some (.string p) from hc0)
              have HC1 := Lib.hid (show W4.cell? ⟨Nm + 1, 1, none⟩ = some (.string q) from hc1)
              have HB4 := Lib.hid hb4
              have HR4 := Lib.hid hr4
              clear hbm2 hc0 hc1 hb4 hr4 hx4 hW4 HB3 HR3 HX3
              go_loopw [68] (fun i wv => ∃ (j n : Nat), j ≤ 2 ∧ n ≤ 40 * j ∧ i = .int .i64 j ∧ Hid (BMap wv Nm n (Sf paths p q j)) ∧ Hid (wv.cell? ⟨Nm + 1, 0, none⟩ = some (.string p)) ∧ Hid (wv.cell? ⟨Nm + 1, 1, none⟩ = some (.string q)) ∧ Hid (SRow wv wv.heap.size A PB) ∧ Hid (Below w.heap.size w wv)) (fun i _ => 2 - (intOf i).toNat)
              case atStart => exact ⟨0, 0, by omega, by omega, rfl, HBM.out, HC0.out, HC1.out, HR4.out, HB4.out⟩
              case round =>
                obtain ⟨j, n, hj, hn, rfl, HBM, HC0, HC1, HRB, HBW⟩ := hrel
                by_cases hlj : j < 2
                · have hji : (j : Int) < 2 := by omega
                  obtain ⟨sx, hcx, hsx, hstep⟩ := Sf_step paths p q hps hqs hlj HC0.out HC1.out
                  have HP := Lib.hid (pick1 A1 c1 k paths w wr H1.out hn1 HSM.out R1.out HBW.out (HX0.out.later HBW.out) sx hsx)
                  have hpl := pickL_len paths [sx.data.toList] []
                  have hpz := pickL_size [sx.data.toList] [] HSM.out
                  obtain ⟨P, hP⟩ : ∃ P, pickL paths [sx.data.toList] [] = P := ⟨_, rfl⟩
                  rw [hP] at HP hstep hpl hpz
                  rw [H1.out] at hpl
                  have HST := Lib.hid hstep
                  have HPZ := Lib.hid hpz
                  obtain ⟨S, hS⟩ : ∃ S, Sf paths p q j = S := ⟨_, rfl⟩
                  rw [hS] at HST HBM
                  clear hstep hP hpz hS hsx
                  go_wp2_with fail
                  refine HP.out.mono ?_
                  rintro e w5 ⟨A5, m5, cap5, rfl, hm5, hr5, hb5⟩
                  have hm540 : m5 ≤ 40 := by omega
                  have HM5 := Lib.hid hm5
                  have HR5 := Lib.hid hr5
                  have HB5 := Lib.hid (HBW.out.trans (hb5.mono HBW.out.size))
                  have HBM5 := Lib.hid (HBM.out.later hb5)
                  have HC05 := Lib.hid (later_cell HC0.out hb5)
                  have HC15 := Lib.hid (later_cell HC1.out hb5)
                  have HRB5 := Lib.hid ((srow_later HRB.out hb5).more hb5.size)
                  clear hm5 hr5 hb5 HP hpl hcx
                  go_wp2
                  go_loopw [77] (fun i wv => ∃ k5 : Nat, k5 ≤ m5 ∧ i = .int .i64 k5 ∧ Hid (BMap wv Nm (n + k5) (addAll S (P.take k5))) ∧ Hid (wv.cell? ⟨Nm + 1, 0, none⟩ = some (.string p)) ∧ Hid (wv.cell? ⟨Nm + 1, 1, none⟩ = some (.string q)) ∧ Hid (SRow wv w5.heap.size A5 P) ∧ Hid (SRow wv w5.heap.size A PB) ∧ Hid (Below w.heap.size w wv) ∧ Hid (w5.heap.size ≤ wv.heap.size)) (fun i _ => m5 - (intOf i).toNat)
                  case atStart => exact ⟨0, Nat.zero_le _, rfl, HBM5.out, HC05.out, HC15.out, HR5.out, HRB5.out, HB5.out, Nat.le_refl _⟩
                  case round =>
                    obtain ⟨k5, hk5, rfl, HBM6, HC06, HC16, HR6, HRB6, HB6, HZ6⟩ := hrel
                    by_cases hl5 : k5 < m5
                    · have hk5i : (k5 : Int) < m5 := by omega
                      have hxk : P[k5]? = some (P[k5]'(by rw [HM5.out]; exact hl5)) := List.getElem?_eq_getElem _
                      generalize P[k5]'(by rw [HM5.out]; exact hl5) = x at hxk
                      obtain ⟨b5, o5, s5, rfl, _, hs5, cX5⟩ := HR6.out k5 x hxk
                      have hs5z : s5.size ≤ 100000 := by
                        have := HPZ.out x (List.mem_of_getElem? hxk)
                        rw [← hs5, data_length] at this
                        exact this
                      have hsn := addAll_snoc S P k5 x hxk
                      rw [← hs5] at hsn
                      have HSN := Lib.hid hsn
                      clear hsn hxk hs5
                      go_wp2_with (at_mapUpdate; refine wpList_put_b _ rfl _ _ _ rfl Nm (n + k5) _ rfl HBM6.out (by unfold maxLen; omega) s5 rfl rfl (by unfold maxLen; omega) ?_)
                      intro w7 HM7 HG7
                      have HC07 := Lib.hid (cell_map HBM6.out HG7.out HC06.out)
                      have HC17 := Lib.hid (cell_map HBM6.out HG7.out HC16.out)
                      have HR7 := Lib.hid (srow_map HBM6.out HG7.out HR6.out)
                      have HRB7 := Lib.hid (srow_map HBM6.out HG7.out HRB6.out)
                      have HB7 := Lib.hid (HB6.out.grown HG7.out HB6.out.size (fun y hy => by cases hy; exact hz4))
                      have HZ7 : Hid (w5.heap.size ≤ w7.heap.size) := Nat.le_trans HZ6.out HG7.out.size
                      have HBM7 : Hid (BMap w7 Nm (n + (k5 + 1)) (addAll S (P.take (k5 + 1)))) := by show BMap _ _ _ _; rw [HSN.out]; exact HM7.out
                      clear HG7 HM7
                      go_wp2
                      go_roundw
                      case rel => exact ⟨k5 + 1, by omega, by go_num, HBM7.out, HC07.out, HC17.out, HR7.out, HRB7.out, HB7.out, HZ7.out⟩
                      case measure => simp [intOf]; omega
                    · obtain rfl : k5 = m5 := by omega
                      have HBM8 : Hid (BMap wr Nm (n + k5) (Sf paths p q (j + 1))) := by
                        have := HBM6.out
                        rw [List.take_of_length_le (by rw [HM5.out]; exact Nat.le_refl _)] at this
                        show BMap _ _ _ _
                        rw [HST.out]; exact this
                      go_wp2
                      go_roundw
                      case rel => exact ⟨j + 1, n + k5, by omega, by omega, by go_num, HBM8.out, HC06.out, HC16.out, HRB6.out.more HZ6.out, HB6.out⟩
                      case measure => simp [intOf]; omega
                · obtain rfl : j = 2 := by omega
                  -- what the third one picks is struck
                  have HP := Lib.hid (pick1 A1 c1 k paths w wr H1.out hn1 HSM.out R1.out HBW.out (HX0.out.later HBW.out) t hts)
                  have hpl := pickL_len paths [t.data.toList] []
                  have hpz := pickL_size [t.data.toList] [] HSM.out
                  obtain ⟨P, hP⟩ : ∃ P, pickL paths [t.data.toList] [] = P := ⟨_, rfl⟩
                  have hfin : ∀ x, x ∈ delAll (Sf paths p q 2) P ↔ x ∈ PB := fun x => by rw [← hP, ← HPB.out]; exact sets_mem paths p.data.toList q.data.toList t.data.toList x
                  rw [hP] at HP hpl hpz
                  rw [H1.out] at hpl
                  have HFIN := Lib.hid hfin
                  have HPZ := Lib.hid hpz
                  generalize Sf paths p q 2 = S at HFIN HBM
                  clear hP hpz hfin
                  go_wp2_with fail
                  refine HP.out.mono ?_
                  rintro e w5 ⟨A5, m5, cap5, rfl, hm5, hr5, hb5⟩
                  have hm540 : m5 ≤ 40 := by omega
                  have HM5 := Lib.hid hm5
                  have HR5 := Lib.hid hr5
                  have HB5 := Lib.hid (HBW.out.trans (hb5.mono HBW.out.size))
                  have HBM5 := Lib.hid (HBM.out.later hb5)
                  have HRB5 := Lib.hid ((srow_later HRB.out hb5).more hb5.size)
                  clear hm5 hr5 hb5 HP hpl
                  go_wp2
                  go_loopw [90] (fun i wv => ∃ k5 : Nat, k5 ≤ m5 ∧ i = .int .i64 k5 ∧ Hid (BMap wv Nm n (delAll S (P.take k5))) ∧ Hid (SRow wv w5.heap.size A5 P) ∧ Hid (SRow wv w5.heap.size A PB) ∧ Hid (Below w.heap.size w wv) ∧ Hid (w5.heap.size ≤ wv.heap.size)) (fun i _ => m5 - (intOf i).toNat)
                  case atStart => exact ⟨0, Nat.zero_le _, rfl, HBM5.out, HR5.out, HRB5.out, HB5.out, Nat.le_refl _⟩
                  case round =>
                    obtain ⟨k5, hk5, rfl, HBM6, HR6, HRB6, HB6, HZ6⟩ := hrel
                    by_cases hl5 : k5 < m5
                    · have hk5i : (k5 : Int) < m5 := by omega
                      have hxk : P[k5]? = some (P[k5]'(by rw [HM5.out]; exact hl5)) := List.getElem?_eq_getElem _
                      generalize P[k5]'(by rw [HM5.out]; exact hl5) = x at hxk
                      obtain ⟨b5, o5, s5, rfl, _, hs5, cX5⟩ := HR6.out k5 x hxk
                      have hs5z : s5.size ≤ 100000 := by
                        have := HPZ.out x (List.mem_of_getElem? hxk)
                        rw [← hs5, data_length] at this
                        exact this
                      have hsn := delAll_snoc S P k5 x hxk
                      rw [← hs5] at hsn
                      have HSN := Lib.hid hsn
                      clear hsn hxk hs5
                      go_wp2_with (at_delete; refine wpList_del_b _ rfl _ _ rfl Nm n _ rfl HBM6.out s5 rfl (by unfold maxLen; omega) ?_)
                      intro w7 HM7 HG7
                      have HR7 := Lib.hid (srow_map HBM6.out HG7.out HR6.out)
                      have HRB7 := Lib.hid (srow_map HBM6.out HG7.out HRB6.out)
                      have HB7 := Lib.hid (HB6.out.grown HG7.out HB6.out.size (fun y hy => by cases hy; exact hz4))
                      have HZ7 : Hid (w5.heap.size ≤ w7.heap.size) := Nat.le_trans HZ6.out HG7.out.size
                      have HBM7 : Hid (BMap w7 Nm n (delAll S (P.take (k5 + 1)))) := by show BMap _ _ _ _; rw [HSN.out]; exact HM7.out
                      clear HG7 HM7
                      go_wp2
                      go_roundw
                      case rel => exact ⟨k5 + 1, by omega, by go_num, HBM7.out, HR7.out, HRB7.out, HB7.out, HZ7.out⟩
                      case measure => simp [intOf]; omega
                    · obtain rfl : k5 = m5 := by omega
                      have hbf := HBM6.out
                      rw [List.take_of_length_le (by rw [HM5.out]; exact Nat.le_refl _)] at hbf
                      have hbg : ∃ T, BMap wr Nm n T ∧ ∀ x, x ∈ T ↔ x ∈ PB := ⟨_, hbf, HFIN.out⟩
                      obtain ⟨T, hbt, htm⟩ := hbg
                      have hris : Rising PB := by rw [← HPB.out]; exact pickL_rising _ _ _
                      have hbz : ∀ x ∈ PB, x.length ≤ 100000 := by rw [← HPB.out]; exact pickL_size _ _ HSM.out
                      have hlen : T.length = m := by
                        obtain ⟨_, _, _, _, _, hnd⟩ := hbt
                        rw [len_same hnd (rising_nodup hris) htm, HM.out]
                      have HBT := Lib.hid hbt
                      have HTM := Lib.hid htm
                      have HRIS := Lib.hid hris
                      have HBZ := Lib.hid hbz
                      have HLEN := Lib.hid hlen
                      have HRB8 := Lib.hid (HRB6.out.more HZ6.out)
                      clear hbf hbt htm hris hbz hlen HBM6 HR6 HRB6
                      -- each that both pick is in the set, and they rise
                      go_wp2
                      go_loopw [99] (fun i wv => ∃ (j d : Nat), j ≤ m ∧ i = .int .i64 j ∧ wv = wr.drewN d) (fun i _ => m - (intOf i).toNat)
                      case atStart => exact ⟨0, 0, Nat.zero_le _, rfl, rfl⟩
                      case round =>
                        obtain ⟨j, d, hjm, rfl, rfl⟩ := hrel
                        by_cases hlj : j < m
                        · have hji : (j : Int) < m := by omega
                          have hxj : PB[j]? = some (PB[j]'(by rw [HM.out]; exact hlj)) := List.getElem?_eq_getElem _
                          obtain ⟨x, hx⟩ : ∃ x, PB[j]'(by rw [HM.out]; exact hlj) = x := ⟨_, rfl⟩
                          rw [hx] at hxj
                          obtain ⟨b8, o8, s8, rfl, _, hs8, c8⟩ := (HRB8.out.drewN d) j x hxj
                          have hs8z : s8.size ≤ 100000 := by
                            have := HBZ.out x (List.mem_of_getElem? hxj)
                            rw [← hs8, data_length] at this
                            exact this
                          have hin : decide (s8.data.toList ∈ T) = true := decide_eq_true ((HTM.out _).2 (by rw [hs8]; exact List.mem_of_getElem? hxj))
                          have HIN := Lib.hid hin
                          have HS8 := Lib.hid hs8
                          have HXJ := Lib.hid hxj
                          clear hin hs8 hx hxj
                          have HBT2 := Lib.hid (HBT.out.drewN d)
                          cases j with
                          | zero =>
                            rw [Nat.add_zero] at c8
                            go_wp2_with (at_lookup; refine wpList_get_b _ rfl _ _ rfl Nm n _ rfl HBT2.out s8 rfl (by unfold maxLen; omega) true HIN.out ?_)
                            go_roundw
                            case rel => exact ⟨1, _, by omega, rfl, rfl⟩
                            case measure => simp [intOf]; omega
                          | succ j =>
                            have hxp : PB[j]? = some (PB[j]'(by rw [HM.out]; omega)) := List.getElem?_eq_getElem _
                            generalize PB[j]'(by rw [HM.out]; omega) = y at hxp
                            obtain ⟨sp, hsp, cp⟩ := srow_get (HRB8.out.drewN d) hxp
                            have hlt : y < x := by
                              obtain ⟨i1, e1⟩ := List.getElem?_eq_some_iff.1 hxp
                              obtain ⟨i2, e2⟩ := List.getElem?_eq_some_iff.1 HXJ.out
                              have := List.pairwise_iff_getElem.1 HRIS.out j (j + 1) i1 i2 (by omega)
                              rw [e1, e2] at this
                              exact this
                            have hbl : Op.bytesLess sp.toList s8.toList = true := by
                              rw [bytesLess_eq, ByteArray.toList_eq, ByteArray.toList_eq, hsp, HS8.out]; exact decide_eq_true hlt
                            have e1 : IntKind.i64.wrap (((j + 1 : Nat) : Int) - 1) = (j : Int) := by rw [IntWalk.i64_in _ (by omega)]; omega
                            have hj0 : (0 : Int) < ((j + 1 : Nat) : Int) := by omega
                            have hj2 : (j : Int) < m := by omega
                            clear hxp hsp hlt
                            go_wp2_with (at_lookup; refine wpList_get_b _ rfl _ _ rfl Nm n _ rfl HBT2.out s8 rfl (by unfold maxLen; omega) true HIN.out ?_)
                            go_roundw
                            case rel => exact ⟨j + 2, _, by omega, by go_num, rfl⟩
                            case measure => simp [intOf]; omega
                        · obtain rfl : j = m := by omega
                          have HBT2 := Lib.hid (HBT.out.drewN d)
                          have HB9 := Lib.hid (below_drewN HB6.out d)
                          have HR9 := Lib.hid (show SRow (wr.drewN d) (wr.drewN d).heap.size A PB from HRB8.out.drewN d)
                          generalize wr.drewN d = W9 at HBT2 HB9 HR9 ⊢
                          have hbw : Below W9.heap.size W9 (W9.alloc (.cells #[.string ⟨#[42, 42]⟩] 9)) := (Below.refl _ _).alloc (Nat.le_refl _) _
                          have hr9 := lit_row W9 [⟨#[42, 42]⟩] 9
                          have HG9 := Lib.hid (gpick_any A (some ⟨W9.heap.size, 0, none⟩) none cap 1 0 j 1 0 PB [star] [] (W9.alloc (.cells #[.string ⟨#[42, 42]⟩] 9)) ((HX0.out.later HB9.out).later hbw) HM.out rfl rfl (by omega) (by omega) (by omega) HBZ.out (by intro x hx; rw [List.mem_singleton] at hx; rw [hx]; decide) (by simp) ((srow_later HR9.out hbw).more hbw.size) (hr9.more (by simp)) (SRow.none_ _ _ _))
                          have HB10 := Lib.hid (HB9.out.trans (hbw.mono HB9.out.size))
                          have HR10 := Lib.hid ((srow_later HR9.out hbw).more hbw.size)
                          have hag : pickL PB [star] [] = PB := by rw [← HPB.out]; exact again_same _ _ _
                          rw [hag] at HG9
                          clear hbw hr9 hag
                          go_wp2_with (first | (at_len; refine wpList_len_b _ rfl _ rfl Nm n _ rfl HBT2.out j HLEN.out ?_) | fail)
                          refine HG9.out.mono ?_
                          rintro e w10 ⟨A10, m10, cap10, rfl, hm10, hr10, hb10⟩
                          rw [HM.out] at hm10
                          subst hm10
                          have hr11 := (srow_later HR10.out hb10).more hb10.size
                          have hsa := same_any A10 A cap10 cap w10.heap.size PB PB w10 hr10 hr11 (by rw [HM.out]; omega) (by rw [HM.out]; omega)
                          rw [HM.out] at hsa
                          have HSA := Lib.hid hsa
                          have HB11 := Lib.hid (HB10.out.trans (hb10.mono HB10.out.size))
                          clear hr10 hr11 hsa hb10
                          go_wp2_with fail
                          refine HSA.out.mono ?_
                          rintro e w11 ⟨rfl, d2, rfl⟩
                          simp only [decide_true]
                          go_wp2
                          go_ret
                          exact ⟨rfl, below_drewN HB11.out d2⟩
end Gl
end Go.Proofs.YtffmnobcdhgfdaaDoor
