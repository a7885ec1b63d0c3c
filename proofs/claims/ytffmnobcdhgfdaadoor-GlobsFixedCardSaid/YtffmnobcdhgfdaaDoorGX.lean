/-
  Layer 4 (globs): the walk of the law GlobsPick.
-/
import Derived.Test.YtffmnobcdhgfdaaDoorGW
namespace Go.Proofs.YtffmnobcdhgfdaaDoor
namespace Gl
open Go.RowKit Pt

/-- Which of the three lists, and that they stand in memory. -/
def Tri (w : World) (B N : Nat) (Ls : List (List Bs)) : Prop := ∀ j l, Ls[j]? = some l → ∃ (A : Option Addr) (n c : Nat), w.cell? ⟨N, j, none⟩ = some (.slice A n c) ∧ l.length = n ∧ n ≤ 40 ∧ SRow w B A l
theorem Tri.drewN {w : World} {B N : Nat} {Ls : List (List Bs)} (h : Tri w B N Ls) (q : Nat) : Tri (w.drewN q) B N Ls := h
def small (l : List Bs) : Prop := ∀ x ∈ l, x.length ≤ 200

set_option maxRecDepth 100000 in
set_option maxHeartbeats 8000000 in
theorem pick_law (A1 A2 A3 : Option Addr) (c1 c2 c3 n1 n2 n3 : Nat) (paths yes no : List Bs) (w : World) (hmx : Mx w) (h1 : paths.length = n1) (h2 : yes.length = n2) (h3 : no.length = n3)
    (d1 : n1 ≤ 140737488355328) (d2 : n2 ≤ 140737488355328) (d3 : n3 ≤ 140737488355328)
    (l1 : ∀ x ∈ paths, x.length ≤ 140737488355328) (l2 : ∀ x ∈ yes, x.length ≤ 140737488355328) (l3 : ∀ x ∈ no, x.length ≤ 140737488355328) (r1 : SRow w w.heap.size A1 paths) (r2 : SRow w w.heap.size A2 yes) (r3 : SRow w w.heap.size A3 no) :
    Calls Tryd.prog 4 #[.slice A1 n1 c1, .slice A2 n2 c2, .slice A3 n3 c3] w fun e w' => e = .returned (.bool true) ∧ Below w.heap.size w w' := by
  have H1 := Lib.hid h1
  have H2 := Lib.hid h2
  have H3 := Lib.hid h3
  have L1 := Lib.hid l1
  have L2 := Lib.hid l2
  have L3 := Lib.hid l3
  have R1 := Lib.hid r1
  have R2 := Lib.hid r2
  have R3 := Lib.hid r3
  have HX0 := Lib.hid hmx
  have HA := Lib.hid alive_any
  clear h1 h2 h3 l1 l2 l3 r1 r2 r3 hmx
  by_cases s1 : 40 < n1
  · have s1' : (40 : Int) < n1 := by omega
    clear s1
    go_enter Tryd.func4, Tryd.ntmps4
    go_wp2_with fail
    refine (HA.out _ HX0.out).mono ?_
    rintro e w1 ⟨rfl, hb1⟩
    have HB1 := Lib.hid hb1
    clear hb1
    go_wp2
    go_ret
    exact ⟨rfl, HB1.out⟩
  · have s1' : decide ((40 : Int) < n1) = false := by rw [decide_eq_false_iff_not]; omega
    by_cases s2 : 10 < n2
    · have s2' : (10 : Int) < n2 := by omega
      clear s1 s2
      go_enter Tryd.func4, Tryd.ntmps4
      go_wp2_with fail
      refine (HA.out _ HX0.out).mono ?_
      rintro e w1 ⟨rfl, hb1⟩
      have HB1 := Lib.hid hb1
      clear hb1
      go_wp2
      go_ret
      exact ⟨rfl, HB1.out⟩
    · have s2' : decide ((10 : Int) < n2) = false := by rw [decide_eq_false_iff_not]; omega
      by_cases s3 : 10 < n3
      · have s3' : (10 : Int) < n3 := by omega
        clear s1 s2 s3
        go_enter Tryd.func4, Tryd.ntmps4
        go_wp2_with fail
        refine (HA.out _ HX0.out).mono ?_
        rintro e w1 ⟨rfl, hb1⟩
        have HB1 := Lib.hid hb1
        clear hb1
        go_wp2
        go_ret
        exact ⟨rfl, HB1.out⟩
      · have s3' : decide ((10 : Int) < n3) = false := by rw [decide_eq_false_iff_not]; omega
        go_enter Tryd.func4, Tryd.ntmps4
        go_wp2_with fail
        refine (HA.out _ HX0.out).mono ?_
        rintro e w1 ⟨rfl, hb1⟩
        have HB1 := Lib.hid hb1
        have HX1 := Lib.hid (HX0.out.later hb1)
        clear hb1
        go_wp2
        have hn1 : n1 ≤ 40 := by omega
        have hn2 : n2 ≤ 10 := by omega
        have hn3 : n3 ≤ 10 := by omega
        have hbw : Below w1.heap.size w1 (w1.alloc (.cells #[.slice A1 n1 c1, .slice A2 n2 c2, .slice A3 n3 c3] 26)) := (Below.refl _ _).alloc (Nat.le_refl _) _
        have hB2 := HB1.out.trans (hbw.mono HB1.out.size)
        have hX2 := HX1.out.later hbw
        have hT : Tri (w1.alloc (.cells #[.slice A1 n1 c1, .slice A2 n2 c2, .slice A3 n3 c3] 26)) w.heap.size w1.heap.size [paths, yes, no] := by
          intro j l hj
          have hcell := fun j => (cell_made w1 #[.slice A1 n1 c1, .slice A2 n2 c2, .slice A3 n3 c3] 26 j).1
          match j, hj with
          | 0, hj => cases hj; exact ⟨A1, n1, c1, hcell 0, H1.out, by omega, R1.out.below hB2 (Nat.le_refl _)⟩
          | 1, hj => cases hj; exact ⟨A2, n2, c2, hcell 1, H2.out, by omega, R2.out.below hB2 (Nat.le_refl _)⟩
          | 2, hj => cases hj; exact ⟨A3, n3, c3, hcell 2, H3.out, by omega, R3.out.below hB2 (Nat.le_refl _)⟩
          | j + 3, hj => simp at hj
        have hLL : ∀ (j : Nat) (l : List Bs), [paths, yes, no][j]? = some l → ∀ x ∈ l, x.length ≤ 140737488355328 := by
          intro j l hj
          match j, hj with
          | 0, hj => cases hj; exact L1.out
          | 1, hj => cases hj; exact L2.out
          | 2, hj => cases hj; exact L3.out
          | j + 3, hj => simp at hj
        obtain ⟨W2, hW2⟩ : ∃ W2, w1.alloc (.cells #[.slice A1 n1 c1, .slice A2 n2 c2, .slice A3 n3 c3] 26) = W2 := ⟨_, rfl⟩
        rw [hW2] at hT hB2 hX2 ⊢
        have HT := Lib.hid hT
        have HB2 := Lib.hid hB2
        have HX2 := Lib.hid hX2
        have HLL := Lib.hid hLL
        clear hW2 hT hB2 hX2 hbw hLL HB1 HX1 s1 s2 s3
        generalize w1.heap.size = N at HT ⊢
        go_loopw [31] (fun i wr => ∃ j : Nat, j ≤ 3 ∧ i = .int .i64 j ∧ wr = W2 ∧ Hid (∀ (q : Nat) (l : List Bs), q < j → [paths, yes, no][q]? = some l → small l)) (fun i _ => 3 - (intOf i).toNat)
        case atStart => exact ⟨0, Nat.zero_le _, rfl, rfl, fun q l hq => absurd hq (Nat.not_lt_zero _)⟩
        case round =>
          obtain ⟨j, hj, rfl, rfl, HS⟩ := hrel
          by_cases hlt : j < 3
          · have hji : (j : Int) < 3 := by omega
            obtain ⟨l, hl⟩ : ∃ l, [paths, yes, no][j]? = some l := ⟨_, List.getElem?_eq_getElem (by simpa using hlt)⟩
            obtain ⟨A, n, c, hc, hln, hn40, hsr⟩ := HT.out j l hl
            have HSR := Lib.hid hsr
            have HLN := Lib.hid hln
            have HL := Lib.hid hl
            clear hsr hln hl
            go_wp2
            go_loopw [37] (fun i wr2 => ∃ k : Nat, k ≤ n ∧ i = .int .i64 k ∧ wr2 = wr ∧ Hid (∀ (q : Nat) x, q < k → l[q]? = some x → x.length ≤ 200)) (fun i _ => n - (intOf i).toNat)
            case atStart => exact ⟨0, Nat.zero_le _, rfl, rfl, fun q x hq => absurd hq (Nat.not_lt_zero _)⟩
            case round =>
              obtain ⟨k, hk, rfl, rfl, HK⟩ := hrel
              by_cases hlk : k < n
              · have hki : (k : Int) < n := by omega
                have hxk : l[k]? = some (l[k]'(by rw [HLN.out]; exact hlk)) := List.getElem?_eq_getElem _
                generalize l[k]'(by rw [HLN.out]; exact hlk) = x at hxk
                obtain ⟨b1, o1, sx, rfl, _, hsx, cX⟩ := HSR.out k x hxk
                have hxl : sx.size ≤ 140737488355328 := by
                  have := HLL.out j l HL.out x (List.mem_of_getElem? hxk)
                  rw [← hsx, data_length] at this
                  exact this
                by_cases h200 : 200 < sx.size
                · have h2i : (200 : Int) < sx.size := by omega
                  clear hxk hsx h200
                  go_wp2
                  go_ret
                  exact ⟨rfl, HB2.out⟩
                · have h2i : decide ((200 : Int) < sx.size) = false := by rw [decide_eq_false_iff_not]; omega
                  have HK2 : Hid (∀ (q : Nat) x, q < k + 1 → l[q]? = some x → x.length ≤ 200) := fun q y hq hy => by
                    by_cases he : q = k
                    · subst he
                      rw [hxk] at hy
                      cases hy
                      rw [← hsx, data_length]; omega
                    · exact HK.out q y (by omega) hy
                  clear hxk hsx h200
                  go_wp2
                  go_roundw
                  case rel => exact ⟨k + 1, by omega, by go_num, by first | rfl | trivial, HK2.out⟩
                  case measure => simp [intOf]; omega
              · obtain rfl : k = n := by omega
                have HS2 : Hid (∀ (q : Nat) (l : List Bs), q < j + 1 → [paths, yes, no][q]? = some l → small l) := fun q m hq hm => by
                  by_cases he : q = j
                  · subst he
                    have hl := HL.out
                    rw [hm] at hl
                    cases hl
                    intro x hx
                    obtain ⟨i, hi⟩ := List.getElem?_of_mem hx
                    have hil := (List.getElem?_eq_some_iff.1 hi).1
                    exact HK.out i x (by rw [HLN.out] at hil; exact hil) hi
                  · exact HS.out q m (by omega) hm
                go_wp2
                go_roundw
                case rel => exact ⟨j + 1, by omega, by go_num, by first | rfl | trivial, HS2.out⟩
                case measure => simp [intOf]; omega
          · obtain rfl : j = 3 := by omega
            have p1 : small paths := HS.out 0 paths (by omega) rfl
            have p2 : small yes := HS.out 1 yes (by omega) rfl
            have p3 : small no := HS.out 2 no (by omega) rfl
            have hsz := HB2.out.size
            have q1 : ∀ x ∈ paths, x.length ≤ 100000 := fun x hx => Nat.le_trans (p1 x hx) (by omega)
            have q2 : ∀ x ∈ yes, x.length ≤ 100000 := fun x hx => Nat.le_trans (p2 x hx) (by omega)
            have q3 : ∀ x ∈ no, x.length ≤ 100000 := fun x hx => Nat.le_trans (p3 x hx) (by omega)
            have t1 := (R1.out.below HB2.out (Nat.le_refl _)).more hsz
            have t2 := (R2.out.below HB2.out (Nat.le_refl _)).more hsz
            have t3 := (R3.out.below HB2.out (Nat.le_refl _)).more hsz
            have HG := Lib.hid (gpick_any A1 A2 A3 c1 c2 c3 n1 n2 n3 paths yes no wr HX2.out H1.out H2.out H3.out (by omega) (by omega) (by omega) q1 q2 q3 t1 t2 t3)
            have HRP := Lib.hid (fun W a b c => refpick_any A1 A2 A3 c1 c2 c3 n1 n2 n3 paths yes no W H1.out H2.out H3.out (by omega) (by omega) (by omega) q1 q2 q3 a b c)
            have T1 := Lib.hid t1
            have T2 := Lib.hid t2
            have T3 := Lib.hid t3
            have hpl : (pickL paths yes no).length ≤ 40 := by
              refine Nat.le_trans (pickR_len _) (Nat.le_trans (List.length_filter_le _ _) ?_)
              rw [H1.out]; exact hn1
            have HPL := Lib.hid hpl
            clear p1 p2 p3 q1 q2 q3 t1 t2 t3 hpl
            go_wp2_with fail
            refine HG.out.mono ?_
            rintro e w3 ⟨A, m, cap, rfl, hm, hr3, hb3⟩
            have HR3 := Lib.hid hr3
            have HM := Lib.hid hm
            have HB3 := Lib.hid (HB2.out.trans (hb3.mono hsz))
            have T1' := Lib.hid ((srow_later T1.out hb3).more hb3.size)
            have T2' := Lib.hid ((srow_later T2.out hb3).more hb3.size)
            have T3' := Lib.hid ((srow_later T3.out hb3).more hb3.size)
            clear hr3 hm hb3
            go_wp2_with fail
            refine (HRP.out _ T1'.out T2'.out T3'.out).mono ?_
            rintro e w4 ⟨g, m2, cap2, rfl, hm2, hr4, hb4⟩
            have hr3' := (srow_later HR3.out hb4).more hb4.size
            have HSA := Lib.hid (same_any A (some ⟨g, 0, none⟩) cap cap2 w4.heap.size (pickL paths yes no) (pickL paths yes no) w4 hr3' hr4 (by have := HPL.out; omega) (by have := HPL.out; omega))
            have HB4 := Lib.hid (HB3.out.trans (hb4.mono HB3.out.size))
            rw [hm2] at HSA
            rw [HM.out] at hm2
            subst hm2
            clear hr3' hr4 hb4
            go_wp2_with fail
            refine HSA.out.mono ?_
            rintro e w5 ⟨rfl, q, rfl⟩
            simp only [decide_true]
            go_wp2
            go_ret
            exact ⟨rfl, below_drewN HB4.out q⟩
end Gl
end Go.Proofs.YtffmnobcdhgfdaaDoor
