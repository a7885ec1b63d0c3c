/-
  Layer 5 (tree): the walk of Diff.
-/
import Derived.Test.YtkldgfdfpanelaaUM
import Derived.Test.YtkldgfdfpanelaaUD
import Derived.BigRegion
import Derived.BigQuiet
namespace Go.Proofs.Ytkldgfdfpanelaa
namespace Tr
open Go.RowKit Go.ChangeShapes Pt

theorem OwnsC.keep {w w' : World} {b : Nat} {v : Value} {t : List Ch} (h : OwnsC w b v t) (hb : Below w.heap.size w w') : OwnsC w' b v t := by
  refine ⟨h.1, h.2.imp id ?_⟩
  rintro ⟨g', c, cur, h1, h2, h3, h4⟩
  have hlt : g' < w.heap.size := by
    rcases Nat.lt_or_ge g' w.heap.size with h5 | h5
    · exact h5
    · rw [Array.getElem?_eq_none h5] at h3; cases h3
  exact ⟨g', c, cur, h1, h2, (hb.block g' hlt).trans h3, h4⟩
theorem OwnsC.nil (w : World) (base : Nat) : OwnsC w base (.slice none 0 0) [] := World.ownsRow_nil _ _ _ _
theorem FRow.tail {w : World} {B b o : Nat} {x : Fl} {t : List Fl} (h : FRow w B (some ⟨b, o, none⟩) (x :: t)) : FRow w B (some ⟨b, o + 2, none⟩) t := fun j f hf => by
  obtain ⟨b', o', s, d, e, h1, h2, h3, h4, h5⟩ := h (j + 1) f hf
  injection e with e
  injection e with e1 e2
  subst e1 e2
  exact ⟨b, o + 2, s, d, rfl, h1, h2, h3, by rw [← h4]; congr 2; omega, by rw [← h5]; congr 2; omega⟩
/-- 's[1:]' of files, not empty. -/
theorem step_slice {b o n cap : Nat} (h0 : 0 < n) (hc : n ≤ cap) : ∃ (A' : Option Addr) (n' c' : Nat), n = n' + 1 ∧ cap = c' + 1 ∧
    (∀ W, (Instr.sliceAt 22 (.slice (some ⟨b, o, none⟩) n cap) (some (.int .i64 1)) none none).run Try.prog W = .ok (.slice A' n' c') W) ∧
    ∀ w B x t, FRow w B (some ⟨b, o, none⟩) (x :: t) → (x :: t).length = n → FRow w B A' t := by
  obtain ⟨n', rfl⟩ : ∃ q, n = q + 1 := ⟨n - 1, by omega⟩
  obtain ⟨c', rfl⟩ : ∃ q, cap = q + 1 := ⟨cap - 1, by omega⟩
  refine ⟨if c' = 0 then some ⟨b, o, none⟩ else some ⟨b, o + 2, none⟩, n', c', rfl, rfl, fun W => ?_, fun w B x t h hl => ?_⟩
  · have hu : Try.prog.underlying 22 = some (.slice (Try.prog.elem 22)) := by kernel_rfl
    have hz : (sizeOf (Try.prog.elem 22)).run Try.prog W = .ok 2 W := Try.sizeOf29 W
    rw [run_sliceAt_slice _ _ _ _ _ _ hu, run_slice_l _ _ _ _ _ hu .i64 1 (by omega) (by omega), hz]
    by_cases h1 : c' = 0
    · subst h1
      simp [sliced, Result.andThen]
    · simp [sliced, Result.andThen, h1, Addr.add]
  · by_cases h1 : c' = 0
    · rw [if_pos h1]
      cases t with
      | nil => exact FRow.none_ _ _ _
      | cons y t => simp at hl; omega
    · rw [if_neg h1]
      exact h.tail
theorem FRow.head {w : World} {B : Nat} {A : Option Addr} {x : Fl} {t : List Fl} (h : FRow w B A (x :: t)) : ∃ b o s d, A = some ⟨b, o, none⟩ ∧ b < B ∧ x = (s.data.toList, d.data.toList) ∧ w.cell? ⟨b, o, none⟩ = some (.string s) ∧ w.cell? ⟨b, o + 1, none⟩ = some (.string d) := by
  obtain ⟨b, o, s, d, e, h1, h2, h3, h4, h5⟩ := h 0 x rfl
  exact ⟨b, o, s, d, e, h1, Prod.ext h2.symm h3.symm, by simpa using h4, by simpa using h5⟩

def lenV : Value → Nat | .slice _ q _ => q | _ => 0

set_option maxRecDepth 100000 in
set_option maxHeartbeats 8000000 in
theorem diff_any : PDiff := by
  intro A A' cap cap' n m a b w hcn hcm hn hm hfa hfb hx hy
  obtain ⟨i0, hi, hz0, hz1, hz2⟩ := info_parts chgInfo
  have hnl : n ≤ 1000 := by rw [← hn]; exact hfa.1
  have hml : m ≤ 1000 := by rw [← hm]; exact hfb.1
  obtain ⟨c1, hc1⟩ : ∃ c, decide (tcheck a = 0) = c := ⟨_, rfl⟩
  obtain ⟨c2, hc2⟩ : ∃ c, decide (tcheck b = 0) = c := ⟨_, rfl⟩
  have HT1 := Lib.hid (istree_any A cap n a c1 w hc1 hn hfa hx)
  have HT2 := Lib.hid (fun W (h : FRow W W.heap.size A' b) => istree_any A' cap' m b c2 W hc2 hm hfb h)
  have HX := Lib.hid hx
  have HY := Lib.hid hy
  have HN := Lib.hid hn
  have HM := Lib.hid hm
  cases c1
  · have HV : Hid (diffV a b = []) := by
      show _ = _
      unfold diffV; rw [if_neg (fun h => of_decide_eq_false hc1 h.1)]
    clear hx hy hn hm hfa hfb hc1 hc2
    go_enter Try.func22, Try.ntmps22
    go_wp2_with fail
    refine HT1.out.mono ?_
    rintro e w1 ⟨rfl, hb1⟩
    have HB1 := Lib.hid hb1
    clear hb1
    go_wp2_with fail
    go_ret
    unfold GotC
    rw [HV.out]
    exact ⟨none, 0, 0, rfl, rfl, fun j f h => by simp at h, HB1.out⟩
  · cases c2
    · have HV : Hid (diffV a b = []) := by
        show _ = _
        unfold diffV; rw [if_neg (fun h => of_decide_eq_false hc2 h.2)]
      clear hx hy hn hm hfa hfb hc1 hc2
      go_enter Try.func22, Try.ntmps22
      go_wp2_with fail
      refine HT1.out.mono ?_
      rintro e w1 ⟨rfl, hb1⟩
      have HB1 := Lib.hid hb1
      clear hb1
      go_wp2_with fail
      refine (HT2.out w1 ((HY.out.below HB1.out (Nat.le_refl _)).more HB1.out.size)).mono ?_
      rintro e w2 ⟨rfl, hb2⟩
      have HB2 := Lib.hid (HB1.out.trans (hb2.mono HB1.out.size))
      clear hb2
      go_wp2_with fail
      go_ret
      unfold GotC
      rw [HV.out]
      exact ⟨none, 0, 0, rfl, rfl, fun j f h => by simp at h, HB2.out⟩
    · have ht1 := (tree_iff a).1 (of_decide_eq_true hc1)
      have ht2 := (tree_iff b).1 (of_decide_eq_true hc2)
      have HV : Hid (diffV a b = mdf (n + m) a b) := by
        show _ = _
        unfold diffV; rw [if_pos ⟨of_decide_eq_true hc1, of_decide_eq_true hc2⟩, mdf_diff (by rw [HN.out, HM.out]; exact Nat.le_refl _) ht1.2.1 ht2.2.1]
      obtain ⟨D, hD⟩ : ∃ D, diffV a b = D := ⟨_, rfl⟩
      rw [hD] at HV ⊢
      clear hx hy hn hm hfa hfb hc1 hc2 ht1 ht2 hD
      go_enter Try.func22, Try.ntmps22
      go_wp2_with fail
      refine HT1.out.mono ?_
      rintro e w1 ⟨rfl, hb1⟩
      have HB1 := Lib.hid hb1
      clear hb1
      go_wp2_with fail
      refine (HT2.out w1 ((HY.out.below HB1.out (Nat.le_refl _)).more HB1.out.size)).mono ?_
      rintro e w2 ⟨rfl, hb2⟩
      have HB2 := Lib.hid (HB1.out.trans (hb2.mono HB1.out.size))
      clear hb2
      have HX2 := Lib.hid (HX.out.below HB2.out (Nat.le_refl _))
      have HY2 := Lib.hid (HY.out.below HB2.out (Nat.le_refl _))
      have HO2 : Hid (OwnsC w2 w.heap.size (.slice none 0 0) []) := OwnsC.nil _ _
      go_wp2_with fail
      go_loopw [0, 1, 5] (fun va vb vl wr => ∃ (fl : Nat) (a0 b0 : List Fl) (A1 A2 A3 : Option Addr) (n1 n2 m3 cp1 cp2 cp3 : Nat) (L : List Ch), va = .slice A1 n1 cp1 ∧ vb = .slice A2 n2 cp2 ∧ vl = .slice A3 m3 cp3 ∧ n1 ≤ cp1 ∧ n2 ≤ cp2 ∧ n1 ≤ 1000 ∧ n2 ≤ 1000 ∧ n1 + n2 ≤ fl ∧ m3 + fl ≤ n + m ∧
        Hid (a0.length = n1) ∧ Hid (b0.length = n2) ∧ Hid (L.length = m3) ∧ Hid (D = L ++ mdf fl a0 b0) ∧ Hid (FRow wr w.heap.size A1 a0) ∧ Hid (FRow wr w.heap.size A2 b0) ∧ Hid (OwnsC wr w.heap.size (.slice A3 m3 cp3) L) ∧ Hid (Below w.heap.size w wr)) (fun va vb _ _ => lenV va + lenV vb)
      case atStart => exact ⟨n + m, a, b, A, A', none, n, m, 0, cap, cap', 0, [], rfl, rfl, rfl, hcn, hcm, hnl, hml, Nat.le_refl _, by omega, HN.out, HM.out, rfl, by rw [HV.out]; rfl, HX2.out, HY2.out, HO2.out, HB2.out⟩
      case round =>
        obtain ⟨fl, a0, b0, A1, A2, A3, n1, n2, m3, cp1, cp2, cp3, L, rfl, rfl, rfl, hc1, hc2, hn1, hn2, hf, hmf, HN1, HN2, HL, HD, HXwr, HYwr, HOwr, HBwr⟩ := hrel
        clear HX2 HY2 HO2
        have hn0 : n1 = 0 ∨ 0 < n1 := by omega
        have hm0 : n2 = 0 ∨ 0 < n2 := by omega
        rcases hn0 with hz1' | hp1
        · subst hz1'
          obtain rfl : a0 = [] := List.eq_nil_of_length_eq_zero HN1.out
          rcases hm0 with hz2' | hp2
          · subst hz2'
            obtain rfl : b0 = [] := List.eq_nil_of_length_eq_zero HN2.out
            have HF0 : Hid (mdf fl [] [] = []) := by show _ = _; cases fl <;> rfl
            go_wp2
            go_ret
            unfold GotC
            have hd : D = L := by rw [HD.out, HF0.out, List.append_nil]
            rw [hd]
            exact ⟨A3, m3, cp3, rfl, HL.out, HOwr.out.row, HBwr.out⟩
          · obtain ⟨y, b', rfl⟩ : ∃ y b', b0 = y :: b' := by cases b0 with | nil => have := HN2.out; simp at this; omega | cons y b' => exact ⟨y, b', rfl⟩
            obtain ⟨b2, o2, sy, dy, rfl, hb2, rfl, cP2wr, cD2wr⟩ := HYwr.out.head
            have hp2i : (0 : Int) < n2 := by omega
            have hd2 : decide ((0 : Int) < n2) = true := decide_eq_true hp2i
            have he2 : ((n2 : Int) == 0) = false := beq_eq_false_iff_ne.2 (by omega)
            obtain ⟨A2', q2, r2, e2n, e2c, hsl2, HS2⟩ := step_slice (b := b2) (o := o2) hp2 hc2
            have E2n := Lib.hid e2n
            have E2c := Lib.hid e2c
            have he2' : decide ((n2 : Int) = 0) = false := decide_eq_false (by omega)
            clear e2n e2c
            have HS2' := Lib.hid HS2
            clear HS2
            obtain ⟨f', rfl⟩ : ∃ q, fl = q + 1 := ⟨fl - 1, by omega⟩
            have HD' : Hid (D = (L ++ [(sy.data.toList, 1)]) ++ mdf f' [] b') := by show _ = _; rw [HD.out]; simp [mdf]
            go_wp2
            go_big_quiet (fail)
            obtain ⟨w3, hw3⟩ : ∃ W, W = wr.drewN nq := ⟨_, rfl⟩
            rw [← hw3]
            have cP2w3 : w3.cell? ⟨b2, o2, none⟩ = some (.string sy) := by rw [hw3]; exact cP2wr
            have cD2w3 : w3.cell? ⟨b2, o2 + 1, none⟩ = some (.string dy) := by rw [hw3]; exact cD2wr
            have HXw3 : Hid (FRow w3 w.heap.size A1 ([] : List Fl)) := by rw [hw3]; exact HXwr.out
            have HYw3 : Hid (FRow w3 w.heap.size (some ⟨b2, o2, none⟩) ((sy.data.toList, dy.data.toList) :: b')) := by rw [hw3]; exact HYwr.out
            have HOw3 : Hid (OwnsC w3 w.heap.size (.slice A3 m3 cp3) L) := by rw [hw3]; exact HOwr.out
            have HBw3 : Hid (Below w.heap.size w w3) := by rw [hw3]; exact below_drewN HBwr.out _
            clear hw3
            go_wp2
            go_big_quiet (fail)
            obtain ⟨w4, hw4⟩ : ∃ W, W = w3.drewN nq := ⟨_, rfl⟩
            rw [← hw4]
            have cP2w4 : w4.cell? ⟨b2, o2, none⟩ = some (.string sy) := by rw [hw4]; exact cP2w3
            have cD2w4 : w4.cell? ⟨b2, o2 + 1, none⟩ = some (.string dy) := by rw [hw4]; exact cD2w3
            have HXw4 : Hid (FRow w4 w.heap.size A1 ([] : List Fl)) := by rw [hw4]; exact HXw3.out
            have HYw4 : Hid (FRow w4 w.heap.size (some ⟨b2, o2, none⟩) ((sy.data.toList, dy.data.toList) :: b')) := by rw [hw4]; exact HYw3.out
            have HOw4 : Hid (OwnsC w4 w.heap.size (.slice A3 m3 cp3) L) := by rw [hw4]; exact HOw3.out
            have HBw4 : Hid (Below w.heap.size w w4) := by rw [hw4]; exact below_drewN HBw3.out _
            clear hw4
            go_wp2_with (at_builtin; refine wpList_append_own _ rfl _ _ 40 rfl (w.heap.size) 43 i0 (.agg #[.string ⟨#[]⟩, .int .i64 0]) 2 24 Try.underlying40 hi hz0 hz1 hz2 rfl (by decide) _ m3 (cellsC L) rfl ?c0ka ⟨w4.heap.size, 0, none⟩ 1 1 [.string sy, .int .i64 1] rfl rfl ?c1ka ?c2ka ?c3ka ?c4ka ?c5ka ?_)
            case c0ka => have := HOw4.out.alloc' (.cells #[.string sy, .int .i64 1] 43); unfold OwnsC at this; rw [HL.out] at this; exact this
            case c2ka => intro u hu; simp only [List.mem_cons, List.mem_nil_iff, or_false] at hu; rcases hu with rfl | rfl <;> rfl
            case c3ka => simp only [maxLen]; omega
            case c4ka => omega
            case c5ka => have := HBw4.out.size; simp at this ⊢; omega
            · rintro (_ | _ | j) u hj
              · simp only [List.getElem?_cons_zero, Option.some.injEq] at hj
                subst hj
                simp [Addr.add]
              · simp only [List.getElem?_cons_succ, List.getElem?_cons_zero, Option.some.injEq] at hj
                subst hj
                simp [Addr.add]
              · simp at hj
            intro v' w7 hown' hgrow _
            obtain ⟨g7, cap7, rfl, _, _⟩ := hown'.form (by omega)
            have HBw7 : Hid (Below w.heap.size w w7) := (HBw4.out.alloc (by have := HBw4.out.size; simp at this ⊢; omega) _).grown hgrow (by have := HBw4.out.size; simp at this ⊢; omega) (fun q hq => (HOw4.out.lt q hq).1)
            have HLN7 : Hid ((L ++ [(sy.data.toList, 1)]).length = m3 + 1) := by show _ = _; rw [List.length_append, HL.out]; rfl
            have HOw7 : Hid (OwnsC w7 w.heap.size (.slice (some ⟨g7, 0, none⟩) (m3 + 1) cap7) (L ++ [(sy.data.toList, 1)])) := by
              show OwnsC _ _ _ _
              unfold OwnsC
              rw [HLN7.out, cellsC_append]
              simp only [SV_str] at hown'
              exact hown'
            clear hown' hgrow
            have HXw7 : Hid (FRow w7 w.heap.size A1 ([] : List Fl)) := HXw4.out.keep fun p hp => (HBw7.out.cell hp).trans (HBw4.out.cell hp).symm
            have HYw7 : Hid (FRow w7 w.heap.size (some ⟨b2, o2, none⟩) ((sy.data.toList, dy.data.toList) :: b')) := HYw4.out.keep fun p hp => (HBw7.out.cell hp).trans (HBw4.out.cell hp).symm
            have HY8 : Hid (FRow w7 w.heap.size A2' b') := HS2'.out _ _ _ _ HYw7.out HN2.out
            go_wp2
            go_roundw
            case rel => exact ⟨f', [], b', A1, A2', _, 0, q2, m3 + 1, cp1, r2, cap7, _, rfl, rfl, rfl, by have h3 := E2n.out; have h4 := E2c.out; omega, by have h3 := E2n.out; have h4 := E2c.out; omega, by have h3 := E2n.out; have h4 := E2c.out; omega, by have h3 := E2n.out; have h4 := E2c.out; omega, by have h3 := E2n.out; have h4 := E2c.out; omega, by have h3 := E2n.out; have h4 := E2c.out; omega, rfl, by show List.length _ = _; have := HN2.out; simp only [List.length_cons] at this; have h3 := E2n.out; have h4 := E2c.out; omega, HLN7.out, HD'.out, FRow.none_ _ _ _, HY8.out, HOw7.out, HBw7.out⟩
            case measure => simp [lenV]; have h3 := E2n.out; omega
        · obtain ⟨x, a', rfl⟩ : ∃ x a', a0 = x :: a' := by cases a0 with | nil => have := HN1.out; simp at this; omega | cons x a' => exact ⟨x, a', rfl⟩
          obtain ⟨b1, o1, sx, dx, rfl, hb1, rfl, cP1wr, cD1wr⟩ := HXwr.out.head
          have hp1i : (0 : Int) < n1 := by omega
          have hd1 : decide ((0 : Int) < n1) = true := decide_eq_true hp1i
          have he1 : ((n1 : Int) == 0) = false := beq_eq_false_iff_ne.2 (by omega)
          obtain ⟨A1', q1, r1, e1n, e1c, hsl1, HS1⟩ := step_slice (b := b1) (o := o1) hp1 hc1
          have E1n := Lib.hid e1n
          have E1c := Lib.hid e1c
          have he1' : decide ((n1 : Int) = 0) = false := decide_eq_false (by omega)
          clear e1n e1c
          have HS1' := Lib.hid HS1
          clear HS1
          obtain ⟨f', rfl⟩ : ∃ q, fl = q + 1 := ⟨fl - 1, by omega⟩
          rcases hm0 with hz2' | hp2
          · subst hz2'
            obtain rfl : b0 = [] := List.eq_nil_of_length_eq_zero HN2.out
            have HD' : Hid (D = (L ++ [(sx.data.toList, 2)]) ++ mdf f' a' []) := by show _ = _; rw [HD.out]; simp [mdf]
            go_wp2
            go_big_quiet (fail)
            obtain ⟨w3, hw3⟩ : ∃ W, W = wr.drewN nq := ⟨_, rfl⟩
            rw [← hw3]
            have cP1w3 : w3.cell? ⟨b1, o1, none⟩ = some (.string sx) := by rw [hw3]; exact cP1wr
            have cD1w3 : w3.cell? ⟨b1, o1 + 1, none⟩ = some (.string dx) := by rw [hw3]; exact cD1wr
            have HXw3 : Hid (FRow w3 w.heap.size (some ⟨b1, o1, none⟩) ((sx.data.toList, dx.data.toList) :: a')) := by rw [hw3]; exact HXwr.out
            have HYw3 : Hid (FRow w3 w.heap.size A2 ([] : List Fl)) := by rw [hw3]; exact HYwr.out
            have HOw3 : Hid (OwnsC w3 w.heap.size (.slice A3 m3 cp3) L) := by rw [hw3]; exact HOwr.out
            have HBw3 : Hid (Below w.heap.size w w3) := by rw [hw3]; exact below_drewN HBwr.out _
            clear hw3
            go_wp2_with (at_builtin; refine wpList_append_own _ rfl _ _ 40 rfl (w.heap.size) 43 i0 (.agg #[.string ⟨#[]⟩, .int .i64 0]) 2 24 Try.underlying40 hi hz0 hz1 hz2 rfl (by decide) _ m3 (cellsC L) rfl ?c0kb ⟨w3.heap.size, 0, none⟩ 1 1 [.string sx, .int .i64 2] rfl rfl ?c1kb ?c2kb ?c3kb ?c4kb ?c5kb ?_)
            case c0kb => have := HOw3.out.alloc' (.cells #[.string sx, .int .i64 2] 43); unfold OwnsC at this; rw [HL.out] at this; exact this
            case c2kb => intro u hu; simp only [List.mem_cons, List.mem_nil_iff, or_false] at hu; rcases hu with rfl | rfl <;> rfl
            case c3kb => simp only [maxLen]; omega
            case c4kb => omega
            case c5kb => have := HBw3.out.size; simp at this ⊢; omega
            · rintro (_ | _ | j) u hj
              · simp only [List.getElem?_cons_zero, Option.some.injEq] at hj
                subst hj
                simp [Addr.add]
              · simp only [List.getElem?_cons_succ, List.getElem?_cons_zero, Option.some.injEq] at hj
                subst hj
                simp [Addr.add]
              · simp at hj
            intro v' w7 hown' hgrow _
            obtain ⟨g7, cap7, rfl, _, _⟩ := hown'.form (by omega)
            have HBw7 : Hid (Below w.heap.size w w7) := (HBw3.out.alloc (by have := HBw3.out.size; simp at this ⊢; omega) _).grown hgrow (by have := HBw3.out.size; simp at this ⊢; omega) (fun q hq => (HOw3.out.lt q hq).1)
            have HLN7 : Hid ((L ++ [(sx.data.toList, 2)]).length = m3 + 1) := by show _ = _; rw [List.length_append, HL.out]; rfl
            have HOw7 : Hid (OwnsC w7 w.heap.size (.slice (some ⟨g7, 0, none⟩) (m3 + 1) cap7) (L ++ [(sx.data.toList, 2)])) := by
              show OwnsC _ _ _ _
              unfold OwnsC
              rw [HLN7.out, cellsC_append]
              simp only [SV_str] at hown'
              exact hown'
            clear hown' hgrow
            have HXw7 : Hid (FRow w7 w.heap.size (some ⟨b1, o1, none⟩) ((sx.data.toList, dx.data.toList) :: a')) := HXw3.out.keep fun p hp => (HBw7.out.cell hp).trans (HBw3.out.cell hp).symm
            have HYw7 : Hid (FRow w7 w.heap.size A2 ([] : List Fl)) := HYw3.out.keep fun p hp => (HBw7.out.cell hp).trans (HBw3.out.cell hp).symm
            have HX8 : Hid (FRow w7 w.heap.size A1' a') := HS1'.out _ _ _ _ HXw7.out HN1.out
            go_wp2
            go_roundw
            case rel => exact ⟨f', a', [], A1', A2, _, q1, 0, m3 + 1, r1, cp2, cap7, _, rfl, rfl, rfl, by have h1 := E1n.out; have h2 := E1c.out; omega, by have h1 := E1n.out; have h2 := E1c.out; omega, by have h1 := E1n.out; have h2 := E1c.out; omega, by have h1 := E1n.out; have h2 := E1c.out; omega, by have h1 := E1n.out; have h2 := E1c.out; omega, by have h1 := E1n.out; have h2 := E1c.out; omega, by show List.length _ = _; have := HN1.out; simp only [List.length_cons] at this; have h1 := E1n.out; have h2 := E1c.out; omega, rfl, HLN7.out, HD'.out, HX8.out, FRow.none_ _ _ _, HOw7.out, HBw7.out⟩
            case measure => simp [lenV]; have h1 := E1n.out; omega
          · obtain ⟨y, b', rfl⟩ : ∃ y b', b0 = y :: b' := by cases b0 with | nil => have := HN2.out; simp at this; omega | cons y b' => exact ⟨y, b', rfl⟩
            obtain ⟨b2, o2, sy, dy, rfl, hb2, rfl, cP2wr, cD2wr⟩ := HYwr.out.head
            have hp2i : (0 : Int) < n2 := by omega
            have hd2 : decide ((0 : Int) < n2) = true := decide_eq_true hp2i
            have he2 : ((n2 : Int) == 0) = false := beq_eq_false_iff_ne.2 (by omega)
            obtain ⟨A2', q2, r2, e2n, e2c, hsl2, HS2⟩ := step_slice (b := b2) (o := o2) hp2 hc2
            have E2n := Lib.hid e2n
            have E2c := Lib.hid e2c
            have he2' : decide ((n2 : Int) = 0) = false := decide_eq_false (by omega)
            clear e2n e2c
            have HS2' := Lib.hid HS2
            clear HS2
            have hl1 : Op.bytesLess sx.toList sy.toList = decide (sx.data.toList < sy.data.toList) := by rw [bytesLess_eq, ByteArray.toList_eq, ByteArray.toList_eq]
            have hl2 : Op.bytesLess sy.toList sx.toList = decide (sy.data.toList < sx.data.toList) := by rw [bytesLess_eq, ByteArray.toList_eq, ByteArray.toList_eq]
            by_cases hxy : sx.data.toList < sy.data.toList
            · rw [decide_eq_true hxy] at hl1
              have HD' : Hid (D = (L ++ [(sx.data.toList, 2)]) ++ mdf f' a' ((sy.data.toList, dy.data.toList) :: b')) := by show _ = _; rw [HD.out]; simp [mdf, hxy]
              clear hl2 hxy
              go_wp2
              go_big_quiet (fail)
              obtain ⟨w3, hw3⟩ : ∃ W, W = wr.drewN nq := ⟨_, rfl⟩
              rw [← hw3]
              have cP1w3 : w3.cell? ⟨b1, o1, none⟩ = some (.string sx) := by rw [hw3]; exact cP1wr
              have cD1w3 : w3.cell? ⟨b1, o1 + 1, none⟩ = some (.string dx) := by rw [hw3]; exact cD1wr
              have cP2w3 : w3.cell? ⟨b2, o2, none⟩ = some (.string sy) := by rw [hw3]; exact cP2wr
              have cD2w3 : w3.cell? ⟨b2, o2 + 1, none⟩ = some (.string dy) := by rw [hw3]; exact cD2wr
              have HXw3 : Hid (FRow w3 w.heap.size (some ⟨b1, o1, none⟩) ((sx.data.toList, dx.data.toList) :: a')) := by rw [hw3]; exact HXwr.out
              have HYw3 : Hid (FRow w3 w.heap.size (some ⟨b2, o2, none⟩) ((sy.data.toList, dy.data.toList) :: b')) := by rw [hw3]; exact HYwr.out
              have HOw3 : Hid (OwnsC w3 w.heap.size (.slice A3 m3 cp3) L) := by rw [hw3]; exact HOwr.out
              have HBw3 : Hid (Below w.heap.size w w3) := by rw [hw3]; exact below_drewN HBwr.out _
              clear hw3
              go_wp2_with (at_builtin; refine wpList_append_own _ rfl _ _ 40 rfl (w.heap.size) 43 i0 (.agg #[.string ⟨#[]⟩, .int .i64 0]) 2 24 Try.underlying40 hi hz0 hz1 hz2 rfl (by decide) _ m3 (cellsC L) rfl ?c0kc ⟨w3.heap.size, 0, none⟩ 1 1 [.string sx, .int .i64 2] rfl rfl ?c1kc ?c2kc ?c3kc ?c4kc ?c5kc ?_)
              case c0kc => have := HOw3.out.alloc' (.cells #[.string sx, .int .i64 2] 43); unfold OwnsC at this; rw [HL.out] at this; exact this
              case c2kc => intro u hu; simp only [List.mem_cons, List.mem_nil_iff, or_false] at hu; rcases hu with rfl | rfl <;> rfl
              case c3kc => simp only [maxLen]; omega
              case c4kc => omega
              case c5kc => have := HBw3.out.size; simp at this ⊢; omega
              · rintro (_ | _ | j) u hj
                · simp only [List.getElem?_cons_zero, Option.some.injEq] at hj
                  subst hj
                  simp [Addr.add]
                · simp only [List.getElem?_cons_succ, List.getElem?_cons_zero, Option.some.injEq] at hj
                  subst hj
                  simp [Addr.add]
                · simp at hj
              intro v' w7 hown' hgrow _
              obtain ⟨g7, cap7, rfl, _, _⟩ := hown'.form (by omega)
              have HBw7 : Hid (Below w.heap.size w w7) := (HBw3.out.alloc (by have := HBw3.out.size; simp at this ⊢; omega) _).grown hgrow (by have := HBw3.out.size; simp at this ⊢; omega) (fun q hq => (HOw3.out.lt q hq).1)
              have HLN7 : Hid ((L ++ [(sx.data.toList, 2)]).length = m3 + 1) := by show _ = _; rw [List.length_append, HL.out]; rfl
              have HOw7 : Hid (OwnsC w7 w.heap.size (.slice (some ⟨g7, 0, none⟩) (m3 + 1) cap7) (L ++ [(sx.data.toList, 2)])) := by
                show OwnsC _ _ _ _
                unfold OwnsC
                rw [HLN7.out, cellsC_append]
                simp only [SV_str] at hown'
                exact hown'
              clear hown' hgrow
              have HXw7 : Hid (FRow w7 w.heap.size (some ⟨b1, o1, none⟩) ((sx.data.toList, dx.data.toList) :: a')) := HXw3.out.keep fun p hp => (HBw7.out.cell hp).trans (HBw3.out.cell hp).symm
              have HYw7 : Hid (FRow w7 w.heap.size (some ⟨b2, o2, none⟩) ((sy.data.toList, dy.data.toList) :: b')) := HYw3.out.keep fun p hp => (HBw7.out.cell hp).trans (HBw3.out.cell hp).symm
              have HX8 : Hid (FRow w7 w.heap.size A1' a') := HS1'.out _ _ _ _ HXw7.out HN1.out
              go_wp2
              go_roundw
              case rel => exact ⟨f', a', ((sy.data.toList, dy.data.toList) :: b'), A1', (some ⟨b2, o2, none⟩), _, q1, n2, m3 + 1, r1, cp2, cap7, _, rfl, rfl, rfl, by have h1 := E1n.out; have h2 := E1c.out; omega, by have h1 := E1n.out; have h2 := E1c.out; omega, by have h1 := E1n.out; have h2 := E1c.out; omega, by have h1 := E1n.out; have h2 := E1c.out; omega, by have h1 := E1n.out; have h2 := E1c.out; omega, by have h1 := E1n.out; have h2 := E1c.out; omega, by show List.length _ = _; have := HN1.out; simp only [List.length_cons] at this; have h1 := E1n.out; have h2 := E1c.out; omega, HN2.out, HLN7.out, HD'.out, HX8.out, HYw7.out, HOw7.out, HBw7.out⟩
              case measure => simp [lenV]; have h1 := E1n.out; omega
            · rw [decide_eq_false hxy] at hl1
              by_cases hyx : sy.data.toList < sx.data.toList
              · rw [decide_eq_true hyx] at hl2
                have HD' : Hid (D = (L ++ [(sy.data.toList, 1)]) ++ mdf f' ((sx.data.toList, dx.data.toList) :: a') b') := by show _ = _; rw [HD.out]; simp [mdf, hxy, hyx]
                clear hxy hyx
                go_wp2
                go_big_quiet (fail)
                obtain ⟨w3, hw3⟩ : ∃ W, W = wr.drewN nq := ⟨_, rfl⟩
                rw [← hw3]
                have cP1w3 : w3.cell? ⟨b1, o1, none⟩ = some (.string sx) := by rw [hw3]; exact cP1wr
                have cD1w3 : w3.cell? ⟨b1, o1 + 1, none⟩ = some (.string dx) := by rw [hw3]; exact cD1wr
                have cP2w3 : w3.cell? ⟨b2, o2, none⟩ = some (.string sy) := by rw [hw3]; exact cP2wr
                have cD2w3 : w3.cell? ⟨b2, o2 + 1, none⟩ = some (.string dy) := by rw [hw3]; exact cD2wr
                have HXw3 : Hid (FRow w3 w.heap.size (some ⟨b1, o1, none⟩) ((sx.data.toList, dx.data.toList) :: a')) := by rw [hw3]; exact HXwr.out
                have HYw3 : Hid (FRow w3 w.heap.size (some ⟨b2, o2, none⟩) ((sy.data.toList, dy.data.toList) :: b')) := by rw [hw3]; exact HYwr.out
                have HOw3 : Hid (OwnsC w3 w.heap.size (.slice A3 m3 cp3) L) := by rw [hw3]; exact HOwr.out
                have HBw3 : Hid (Below w.heap.size w w3) := by rw [hw3]; exact below_drewN HBwr.out _
                clear hw3
                go_wp2
                go_big_quiet (fail)
                obtain ⟨w4, hw4⟩ : ∃ W, W = w3.drewN nq := ⟨_, rfl⟩
                rw [← hw4]
                have cP1w4 : w4.cell? ⟨b1, o1, none⟩ = some (.string sx) := by rw [hw4]; exact cP1w3
                have cD1w4 : w4.cell? ⟨b1, o1 + 1, none⟩ = some (.string dx) := by rw [hw4]; exact cD1w3
                have cP2w4 : w4.cell? ⟨b2, o2, none⟩ = some (.string sy) := by rw [hw4]; exact cP2w3
                have cD2w4 : w4.cell? ⟨b2, o2 + 1, none⟩ = some (.string dy) := by rw [hw4]; exact cD2w3
                have HXw4 : Hid (FRow w4 w.heap.size (some ⟨b1, o1, none⟩) ((sx.data.toList, dx.data.toList) :: a')) := by rw [hw4]; exact HXw3.out
                have HYw4 : Hid (FRow w4 w.heap.size (some ⟨b2, o2, none⟩) ((sy.data.toList, dy.data.toList) :: b')) := by rw [hw4]; exact HYw3.out
                have HOw4 : Hid (OwnsC w4 w.heap.size (.slice A3 m3 cp3) L) := by rw [hw4]; exact HOw3.out
                have HBw4 : Hid (Below w.heap.size w w4) := by rw [hw4]; exact below_drewN HBw3.out _
                clear hw4
                go_wp2_with (at_builtin; refine wpList_append_own _ rfl _ _ 40 rfl (w.heap.size) 43 i0 (.agg #[.string ⟨#[]⟩, .int .i64 0]) 2 24 Try.underlying40 hi hz0 hz1 hz2 rfl (by decide) _ m3 (cellsC L) rfl ?c0kd ⟨w4.heap.size, 0, none⟩ 1 1 [.string sy, .int .i64 1] rfl rfl ?c1kd ?c2kd ?c3kd ?c4kd ?c5kd ?_)
                case c0kd => have := HOw4.out.alloc' (.cells #[.string sy, .int .i64 1] 43); unfold OwnsC at this; rw [HL.out] at this; exact this
                case c2kd => intro u hu; simp only [List.mem_cons, List.mem_nil_iff, or_false] at hu; rcases hu with rfl | rfl <;> rfl
                case c3kd => simp only [maxLen]; omega
                case c4kd => omega
                case c5kd => have := HBw4.out.size; simp at this ⊢; omega
                · rintro (_ | _ | j) u hj
                  · simp only [List.getElem?_cons_zero, Option.some.injEq] at hj
                    subst hj
                    simp [Addr.add]
                  · simp only [List.getElem?_cons_succ, List.getElem?_cons_zero, Option.some.injEq] at hj
                    subst hj
                    simp [Addr.add]
                  · simp at hj
                intro v' w7 hown' hgrow _
                obtain ⟨g7, cap7, rfl, _, _⟩ := hown'.form (by omega)
                have HBw7 : Hid (Below w.heap.size w w7) := (HBw4.out.alloc (by have := HBw4.out.size; simp at this ⊢; omega) _).grown hgrow (by have := HBw4.out.size; simp at this ⊢; omega) (fun q hq => (HOw4.out.lt q hq).1)
                have HLN7 : Hid ((L ++ [(sy.data.toList, 1)]).length = m3 + 1) := by show _ = _; rw [List.length_append, HL.out]; rfl
                have HOw7 : Hid (OwnsC w7 w.heap.size (.slice (some ⟨g7, 0, none⟩) (m3 + 1) cap7) (L ++ [(sy.data.toList, 1)])) := by
                  show OwnsC _ _ _ _
                  unfold OwnsC
                  rw [HLN7.out, cellsC_append]
                  simp only [SV_str] at hown'
                  exact hown'
                clear hown' hgrow
                have HXw7 : Hid (FRow w7 w.heap.size (some ⟨b1, o1, none⟩) ((sx.data.toList, dx.data.toList) :: a')) := HXw4.out.keep fun p hp => (HBw7.out.cell hp).trans (HBw4.out.cell hp).symm
                have HYw7 : Hid (FRow w7 w.heap.size (some ⟨b2, o2, none⟩) ((sy.data.toList, dy.data.toList) :: b')) := HYw4.out.keep fun p hp => (HBw7.out.cell hp).trans (HBw4.out.cell hp).symm
                have HY8 : Hid (FRow w7 w.heap.size A2' b') := HS2'.out _ _ _ _ HYw7.out HN2.out
                go_wp2
                go_roundw
                case rel => exact ⟨f', ((sx.data.toList, dx.data.toList) :: a'), b', (some ⟨b1, o1, none⟩), A2', _, n1, q2, m3 + 1, cp1, r2, cap7, _, rfl, rfl, rfl, by have h3 := E2n.out; have h4 := E2c.out; omega, by have h3 := E2n.out; have h4 := E2c.out; omega, by have h3 := E2n.out; have h4 := E2c.out; omega, by have h3 := E2n.out; have h4 := E2c.out; omega, by have h3 := E2n.out; have h4 := E2c.out; omega, by have h3 := E2n.out; have h4 := E2c.out; omega, HN1.out, by show List.length _ = _; have := HN2.out; simp only [List.length_cons] at this; have h3 := E2n.out; have h4 := E2c.out; omega, HLN7.out, HD'.out, HXw7.out, HY8.out, HOw7.out, HBw7.out⟩
                case measure => simp [lenV]; have h3 := E2n.out; omega
              · rw [decide_eq_false hyx] at hl2
                by_cases hdd : dx.data.toList = dy.data.toList
                · have hne : (dx.toList == dy.toList) = true := by rw [ByteArray.toList_eq, ByteArray.toList_eq, hdd]; simp
                  have HD' : Hid (D = L ++ mdf f' a' b') := by show _ = _; rw [HD.out]; simp [mdf, hxy, hyx, hdd]
                  clear hxy hyx hdd
                  go_wp2
                  go_big_quiet (fail)
                  obtain ⟨w3, hw3⟩ : ∃ W, W = wr.drewN nq := ⟨_, rfl⟩
                  rw [← hw3]
                  have cP1w3 : w3.cell? ⟨b1, o1, none⟩ = some (.string sx) := by rw [hw3]; exact cP1wr
                  have cD1w3 : w3.cell? ⟨b1, o1 + 1, none⟩ = some (.string dx) := by rw [hw3]; exact cD1wr
                  have cP2w3 : w3.cell? ⟨b2, o2, none⟩ = some (.string sy) := by rw [hw3]; exact cP2wr
                  have cD2w3 : w3.cell? ⟨b2, o2 + 1, none⟩ = some (.string dy) := by rw [hw3]; exact cD2wr
                  have HXw3 : Hid (FRow w3 w.heap.size (some ⟨b1, o1, none⟩) ((sx.data.toList, dx.data.toList) :: a')) := by rw [hw3]; exact HXwr.out
                  have HYw3 : Hid (FRow w3 w.heap.size (some ⟨b2, o2, none⟩) ((sy.data.toList, dy.data.toList) :: b')) := by rw [hw3]; exact HYwr.out
                  have HOw3 : Hid (OwnsC w3 w.heap.size (.slice A3 m3 cp3) L) := by rw [hw3]; exact HOwr.out
                  have HBw3 : Hid (Below w.heap.size w w3) := by rw [hw3]; exact below_drewN HBwr.out _
                  clear hw3
                  go_wp2
                  go_big_quiet (fail)
                  obtain ⟨w4, hw4⟩ : ∃ W, W = w3.drewN nq := ⟨_, rfl⟩
                  rw [← hw4]
                  have cP1w4 : w4.cell? ⟨b1, o1, none⟩ = some (.string sx) := by rw [hw4]; exact cP1w3
                  have cD1w4 : w4.cell? ⟨b1, o1 + 1, none⟩ = some (.string dx) := by rw [hw4]; exact cD1w3
                  have cP2w4 : w4.cell? ⟨b2, o2, none⟩ = some (.string sy) := by rw [hw4]; exact cP2w3
                  have cD2w4 : w4.cell? ⟨b2, o2 + 1, none⟩ = some (.string dy) := by rw [hw4]; exact cD2w3
                  have HXw4 : Hid (FRow w4 w.heap.size (some ⟨b1, o1, none⟩) ((sx.data.toList, dx.data.toList) :: a')) := by rw [hw4]; exact HXw3.out
                  have HYw4 : Hid (FRow w4 w.heap.size (some ⟨b2, o2, none⟩) ((sy.data.toList, dy.data.toList) :: b')) := by rw [hw4]; exact HYw3.out
                  have HOw4 : Hid (OwnsC w4 w.heap.size (.slice A3 m3 cp3) L) := by rw [hw4]; exact HOw3.out
                  have HBw4 : Hid (Below w.heap.size w w4) := by rw [hw4]; exact below_drewN HBw3.out _
                  clear hw4
                  go_wp2
                  go_big_quiet (fail)
                  obtain ⟨w5, hw5⟩ : ∃ W, W = w4.drewN nq := ⟨_, rfl⟩
                  rw [← hw5]
                  have cP1w5 : w5.cell? ⟨b1, o1, none⟩ = some (.string sx) := by rw [hw5]; exact cP1w4
                  have cD1w5 : w5.cell? ⟨b1, o1 + 1, none⟩ = some (.string dx) := by rw [hw5]; exact cD1w4
                  have cP2w5 : w5.cell? ⟨b2, o2, none⟩ = some (.string sy) := by rw [hw5]; exact cP2w4
                  have cD2w5 : w5.cell? ⟨b2, o2 + 1, none⟩ = some (.string dy) := by rw [hw5]; exact cD2w4
                  have HXw5 : Hid (FRow w5 w.heap.size (some ⟨b1, o1, none⟩) ((sx.data.toList, dx.data.toList) :: a')) := by rw [hw5]; exact HXw4.out
                  have HYw5 : Hid (FRow w5 w.heap.size (some ⟨b2, o2, none⟩) ((sy.data.toList, dy.data.toList) :: b')) := by rw [hw5]; exact HYw4.out
                  have HOw5 : Hid (OwnsC w5 w.heap.size (.slice A3 m3 cp3) L) := by rw [hw5]; exact HOw4.out
                  have HBw5 : Hid (Below w.heap.size w w5) := by rw [hw5]; exact below_drewN HBw4.out _
                  clear hw5
                  go_wp2
                  go_big_quiet (fail)
                  obtain ⟨w6, hw6⟩ : ∃ W, W = w5.drewN nq := ⟨_, rfl⟩
                  rw [← hw6]
                  have cP1w6 : w6.cell? ⟨b1, o1, none⟩ = some (.string sx) := by rw [hw6]; exact cP1w5
                  have cD1w6 : w6.cell? ⟨b1, o1 + 1, none⟩ = some (.string dx) := by rw [hw6]; exact cD1w5
                  have cP2w6 : w6.cell? ⟨b2, o2, none⟩ = some (.string sy) := by rw [hw6]; exact cP2w5
                  have cD2w6 : w6.cell? ⟨b2, o2 + 1, none⟩ = some (.string dy) := by rw [hw6]; exact cD2w5
                  have HXw6 : Hid (FRow w6 w.heap.size (some ⟨b1, o1, none⟩) ((sx.data.toList, dx.data.toList) :: a')) := by rw [hw6]; exact HXw5.out
                  have HYw6 : Hid (FRow w6 w.heap.size (some ⟨b2, o2, none⟩) ((sy.data.toList, dy.data.toList) :: b')) := by rw [hw6]; exact HYw5.out
                  have HOw6 : Hid (OwnsC w6 w.heap.size (.slice A3 m3 cp3) L) := by rw [hw6]; exact HOw5.out
                  have HBw6 : Hid (Below w.heap.size w w6) := by rw [hw6]; exact below_drewN HBw5.out _
                  clear hw6
                  have HX8 : Hid (FRow w6 w.heap.size A1' a') := HS1'.out _ _ _ _ HXw6.out HN1.out
                  have HY8 : Hid (FRow w6 w.heap.size A2' b') := HS2'.out _ _ _ _ HYw6.out HN2.out
                  go_wp2
                  go_roundw
                  case rel => exact ⟨f', a', b', A1', A2', A3, q1, q2, m3, r1, r2, cp3, L, rfl, rfl, rfl, by have h1 := E1n.out; have h2 := E1c.out; have h3 := E2n.out; have h4 := E2c.out; omega, by have h1 := E1n.out; have h2 := E1c.out; have h3 := E2n.out; have h4 := E2c.out; omega, by have h1 := E1n.out; have h2 := E1c.out; have h3 := E2n.out; have h4 := E2c.out; omega, by have h1 := E1n.out; have h2 := E1c.out; have h3 := E2n.out; have h4 := E2c.out; omega, by have h1 := E1n.out; have h2 := E1c.out; have h3 := E2n.out; have h4 := E2c.out; omega, by have h1 := E1n.out; have h2 := E1c.out; have h3 := E2n.out; have h4 := E2c.out; omega, by show List.length _ = _; have := HN1.out; simp only [List.length_cons] at this; have h1 := E1n.out; have h2 := E1c.out; have h3 := E2n.out; have h4 := E2c.out; omega, by show List.length _ = _; have := HN2.out; simp only [List.length_cons] at this; have h1 := E1n.out; have h2 := E1c.out; have h3 := E2n.out; have h4 := E2c.out; omega, HL.out, HD'.out, HX8.out, HY8.out, HOw6.out, HBw6.out⟩
                  case measure => simp [lenV]; have h1 := E1n.out; have h3 := E2n.out; omega
                · have hne : (dx.toList == dy.toList) = false := by rw [ByteArray.toList_eq, ByteArray.toList_eq]; simpa using hdd
                  have HD' : Hid (D = (L ++ [(sx.data.toList, 3)]) ++ mdf f' a' b') := by show _ = _; rw [HD.out]; simp [mdf, hxy, hyx, hdd]
                  clear hxy hyx hdd
                  go_wp2
                  go_big_quiet (fail)
                  obtain ⟨w3, hw3⟩ : ∃ W, W = wr.drewN nq := ⟨_, rfl⟩
                  rw [← hw3]
                  have cP1w3 : w3.cell? ⟨b1, o1, none⟩ = some (.string sx) := by rw [hw3]; exact cP1wr
                  have cD1w3 : w3.cell? ⟨b1, o1 + 1, none⟩ = some (.string dx) := by rw [hw3]; exact cD1wr
                  have cP2w3 : w3.cell? ⟨b2, o2, none⟩ = some (.string sy) := by rw [hw3]; exact cP2wr
                  have cD2w3 : w3.cell? ⟨b2, o2 + 1, none⟩ = some (.string dy) := by rw [hw3]; exact cD2wr
                  have HXw3 : Hid (FRow w3 w.heap.size (some ⟨b1, o1, none⟩) ((sx.data.toList, dx.data.toList) :: a')) := by rw [hw3]; exact HXwr.out
                  have HYw3 : Hid (FRow w3 w.heap.size (some ⟨b2, o2, none⟩) ((sy.data.toList, dy.data.toList) :: b')) := by rw [hw3]; exact HYwr.out
                  have HOw3 : Hid (OwnsC w3 w.heap.size (.slice A3 m3 cp3) L) := by rw [hw3]; exact HOwr.out
                  have HBw3 : Hid (Below w.heap.size w w3) := by rw [hw3]; exact below_drewN HBwr.out _
                  clear hw3
                  go_wp2
                  go_big_quiet (fail)
                  obtain ⟨w4, hw4⟩ : ∃ W, W = w3.drewN nq := ⟨_, rfl⟩
                  rw [← hw4]
                  have cP1w4 : w4.cell? ⟨b1, o1, none⟩ = some (.string sx) := by rw [hw4]; exact cP1w3
                  have cD1w4 : w4.cell? ⟨b1, o1 + 1, none⟩ = some (.string dx) := by rw [hw4]; exact cD1w3
                  have cP2w4 : w4.cell? ⟨b2, o2, none⟩ = some (.string sy) := by rw [hw4]; exact cP2w3
                  have cD2w4 : w4.cell? ⟨b2, o2 + 1, none⟩ = some (.string dy) := by rw [hw4]; exact cD2w3
                  have HXw4 : Hid (FRow w4 w.heap.size (some ⟨b1, o1, none⟩) ((sx.data.toList, dx.data.toList) :: a')) := by rw [hw4]; exact HXw3.out
                  have HYw4 : Hid (FRow w4 w.heap.size (some ⟨b2, o2, none⟩) ((sy.data.toList, dy.data.toList) :: b')) := by rw [hw4]; exact HYw3.out
                  have HOw4 : Hid (OwnsC w4 w.heap.size (.slice A3 m3 cp3) L) := by rw [hw4]; exact HOw3.out
                  have HBw4 : Hid (Below w.heap.size w w4) := by rw [hw4]; exact below_drewN HBw3.out _
                  clear hw4
                  go_wp2
                  go_big_quiet (fail)
                  obtain ⟨w5, hw5⟩ : ∃ W, W = w4.drewN nq := ⟨_, rfl⟩
                  rw [← hw5]
                  have cP1w5 : w5.cell? ⟨b1, o1, none⟩ = some (.string sx) := by rw [hw5]; exact cP1w4
                  have cD1w5 : w5.cell? ⟨b1, o1 + 1, none⟩ = some (.string dx) := by rw [hw5]; exact cD1w4
                  have cP2w5 : w5.cell? ⟨b2, o2, none⟩ = some (.string sy) := by rw [hw5]; exact cP2w4
                  have cD2w5 : w5.cell? ⟨b2, o2 + 1, none⟩ = some (.string dy) := by rw [hw5]; exact cD2w4
                  have HXw5 : Hid (FRow w5 w.heap.size (some ⟨b1, o1, none⟩) ((sx.data.toList, dx.data.toList) :: a')) := by rw [hw5]; exact HXw4.out
                  have HYw5 : Hid (FRow w5 w.heap.size (some ⟨b2, o2, none⟩) ((sy.data.toList, dy.data.toList) :: b')) := by rw [hw5]; exact HYw4.out
                  have HOw5 : Hid (OwnsC w5 w.heap.size (.slice A3 m3 cp3) L) := by rw [hw5]; exact HOw4.out
                  have HBw5 : Hid (Below w.heap.size w w5) := by rw [hw5]; exact below_drewN HBw4.out _
                  clear hw5
                  go_wp2_with (at_builtin; refine wpList_append_own _ rfl _ _ 40 rfl (w.heap.size) 43 i0 (.agg #[.string ⟨#[]⟩, .int .i64 0]) 2 24 Try.underlying40 hi hz0 hz1 hz2 rfl (by decide) _ m3 (cellsC L) rfl ?c0ke ⟨w5.heap.size, 0, none⟩ 1 1 [.string sx, .int .i64 3] rfl rfl ?c1ke ?c2ke ?c3ke ?c4ke ?c5ke ?_)
                  case c0ke => have := HOw5.out.alloc' (.cells #[.string sx, .int .i64 3] 43); unfold OwnsC at this; rw [HL.out] at this; exact this
                  case c2ke => intro u hu; simp only [List.mem_cons, List.mem_nil_iff, or_false] at hu; rcases hu with rfl | rfl <;> rfl
                  case c3ke => simp only [maxLen]; omega
                  case c4ke => omega
                  case c5ke => have := HBw5.out.size; simp at this ⊢; omega
                  · rintro (_ | _ | j) u hj
                    · simp only [List.getElem?_cons_zero, Option.some.injEq] at hj
                      subst hj
                      simp [Addr.add]
                    · simp only [List.getElem?_cons_succ, List.getElem?_cons_zero, Option.some.injEq] at hj
                      subst hj
                      simp [Addr.add]
                    · simp at hj
                  intro v' w7 hown' hgrow _
                  obtain ⟨g7, cap7, rfl, _, _⟩ := hown'.form (by omega)
                  have HBw7 : Hid (Below w.heap.size w w7) := (HBw5.out.alloc (by have := HBw5.out.size; simp at this ⊢; omega) _).grown hgrow (by have := HBw5.out.size; simp at this ⊢; omega) (fun q hq => (HOw5.out.lt q hq).1)
                  have HLN7 : Hid ((L ++ [(sx.data.toList, 3)]).length = m3 + 1) := by show _ = _; rw [List.length_append, HL.out]; rfl
                  have HOw7 : Hid (OwnsC w7 w.heap.size (.slice (some ⟨g7, 0, none⟩) (m3 + 1) cap7) (L ++ [(sx.data.toList, 3)])) := by
                    show OwnsC _ _ _ _
                    unfold OwnsC
                    rw [HLN7.out, cellsC_append]
                    simp only [SV_str] at hown'
                    exact hown'
                  clear hown' hgrow
                  have HXw7 : Hid (FRow w7 w.heap.size (some ⟨b1, o1, none⟩) ((sx.data.toList, dx.data.toList) :: a')) := HXw5.out.keep fun p hp => (HBw7.out.cell hp).trans (HBw5.out.cell hp).symm
                  have HYw7 : Hid (FRow w7 w.heap.size (some ⟨b2, o2, none⟩) ((sy.data.toList, dy.data.toList) :: b')) := HYw5.out.keep fun p hp => (HBw7.out.cell hp).trans (HBw5.out.cell hp).symm
                  go_wp2
                  go_big_quiet (fail)
                  obtain ⟨w8, hw8⟩ : ∃ W, W = w7.drewN nq := ⟨_, rfl⟩
                  rw [← hw8]
                  have HX8 : Hid (FRow w8 w.heap.size A1' a') := by rw [hw8]; exact HS1'.out _ _ _ _ HXw7.out HN1.out
                  have HY8 : Hid (FRow w8 w.heap.size A2' b') := by rw [hw8]; exact HS2'.out _ _ _ _ HYw7.out HN2.out
                  have HO8 : Hid (OwnsC w8 w.heap.size (.slice (some ⟨g7, 0, none⟩) (m3 + 1) cap7) (L ++ [(sx.data.toList, 3)])) := by rw [hw8]; exact HOw7.out
                  have HBw8 : Hid (Below w.heap.size w w8) := by rw [hw8]; exact below_drewN HBw7.out _
                  clear hw8
                  go_wp2
                  go_roundw
                  case rel => exact ⟨f', a', b', A1', A2', _, q1, q2, m3 + 1, r1, r2, cap7, _, rfl, rfl, rfl, by have h1 := E1n.out; have h2 := E1c.out; have h3 := E2n.out; have h4 := E2c.out; omega, by have h1 := E1n.out; have h2 := E1c.out; have h3 := E2n.out; have h4 := E2c.out; omega, by have h1 := E1n.out; have h2 := E1c.out; have h3 := E2n.out; have h4 := E2c.out; omega, by have h1 := E1n.out; have h2 := E1c.out; have h3 := E2n.out; have h4 := E2c.out; omega, by have h1 := E1n.out; have h2 := E1c.out; have h3 := E2n.out; have h4 := E2c.out; omega, by have h1 := E1n.out; have h2 := E1c.out; have h3 := E2n.out; have h4 := E2c.out; omega, by show List.length _ = _; have := HN1.out; simp only [List.length_cons] at this; have h1 := E1n.out; have h2 := E1c.out; have h3 := E2n.out; have h4 := E2c.out; omega, by show List.length _ = _; have := HN2.out; simp only [List.length_cons] at this; have h1 := E1n.out; have h2 := E1c.out; have h3 := E2n.out; have h4 := E2c.out; omega, HLN7.out, HD'.out, HX8.out, HY8.out, HO8.out, HBw8.out⟩
                  case measure => simp [lenV]; have h1 := E1n.out; have h3 := E2n.out; omega
end Tr
end Go.Proofs.Ytkldgfdfpanelaa
