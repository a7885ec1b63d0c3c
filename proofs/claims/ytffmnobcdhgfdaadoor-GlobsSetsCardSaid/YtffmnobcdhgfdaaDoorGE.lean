/-
  Layer 4 (globs): the walk of assignable.
-/
import Derived.Test.YtffmnobcdhgfdaaDoorGD
import Derived.Test.YtffmnobcdhgfdaaDoorI
namespace Go.Proofs.YtffmnobcdhgfdaaDoor
namespace Gl
open Go.RowKit Pt

def reachV (br bp bf : Nat) : Value := .func (.func 49) #[] #[.pointer (some ⟨br, 0, none⟩), .pointer (some ⟨bp, 0, none⟩), .pointer (some ⟨bf, 0, none⟩)]

theorem run_store_func (P : Program) (w : World) (a : Addr) (m : Mode) (fn : Fn) (x y : Array Value) : (store a (.func fn x y) m).run P w = stored P w a (.func fn x y) m := run_store P w a _ m rfl
attribute [local go_sem] run_store_func

structure Env (w : World) (B br bp bf g n cap : Nat) (A : Option Addr) (ps : List Bs) : Prop where
  r : w.cell? ⟨br, 0, none⟩ = some (.slice (some ⟨g, 0, none⟩) (n + 1) (n + 1))
  rf : w.frozen? ⟨br, 0, none⟩ = false
  p : w.cell? ⟨bp, 0, none⟩ = some (.slice A n cap)
  f : w.cell? ⟨bf, 0, none⟩ = some (reachV br bp bf)
  s : SRow w B A ps

theorem grown_cell {w w' : World} {x : Nat} {a : Addr} {v : Value} (h : w.cell? a = some v) (hg : w.grownBy w' (some x)) (ha : a.block ≠ x) : w'.cell? a = some v :=
  (World.cell?_of_block (hg.block a.block (cell_lt h) (fun e => ha (Option.some.inj e)))).trans h
theorem grown_frozen {w w' : World} {x : Nat} {a : Addr} {v : Value} (h : w.cell? a = some v) (hf : w.frozen? a = false) (hg : w.grownBy w' (some x)) (ha : a.block ≠ x) : w'.frozen? a = false :=
  (World.frozen?_of_block (hg.block a.block (cell_lt h) (fun e => ha (Option.some.inj e)))).trans hf
theorem later_cell {w w' : World} {a : Addr} {v : Value} (h : w.cell? a = some v) (hb : Below w.heap.size w w') : w'.cell? a = some v := (hb.cell (cell_lt h)).trans h
theorem later_frozen {w w' : World} {a : Addr} {v : Value} (h : w.cell? a = some v) (hf : w.frozen? a = false) (hb : Below w.heap.size w w') : w'.frozen? a = false := (hb.frozen (cell_lt h)).trans hf
theorem srow_grown {w w' : World} {B x : Nat} {A : Option Addr} {xs : List Bs} (h : SRow w B A xs) (hg : w.grownBy w' (some x)) (hx : B ≤ x) : SRow w' B A xs := fun j y hy => by
  obtain ⟨b, o, s, h1, h2, h3, h4⟩ := h j y hy
  exact ⟨b, o, s, h1, h2, h3, grown_cell h4 hg (by show b ≠ x; omega)⟩
theorem srow_later {w w' : World} {B : Nat} {A : Option Addr} {xs : List Bs} (h : SRow w B A xs) (hb : Below w.heap.size w w') : SRow w' B A xs := fun j y hy => by
  obtain ⟨b, o, s, h1, h2, h3, h4⟩ := h j y hy
  exact ⟨b, o, s, h1, h2, h3, later_cell h4 hb⟩
theorem Env.grown {w w' : World} {B br bp bf g n cap x : Nat} {A : Option Addr} {ps : List Bs} (h : Env w B br bp bf g n cap A ps) (hg : w.grownBy w' (some x)) (h1 : br ≠ x) (h2 : bp ≠ x) (h3 : bf ≠ x) (hB : B ≤ x) : Env w' B br bp bf g n cap A ps :=
  ⟨grown_cell h.r hg h1, grown_frozen h.r h.rf hg h1, grown_cell h.p hg h2, grown_cell h.f hg h3, srow_grown h.s hg hB⟩
theorem Env.later {w w' : World} {B br bp bf g n cap : Nat} {A : Option Addr} {ps : List Bs} (h : Env w B br bp bf g n cap A ps) (hb : Below w.heap.size w w') : Env w' B br bp bf g n cap A ps :=
  ⟨later_cell h.r hb, later_frozen h.r h.rf hb, later_cell h.p hb, later_cell h.f hb, srow_later h.s hb⟩
theorem Env.drewN {w : World} {B br bp bf g n cap : Nat} {A : Option Addr} {ps : List Bs} (h : Env w B br bp bf g n cap A ps) (q : Nat) : Env (w.drewN q) B br bp bf g n cap A ps :=
  ⟨h.r, h.rf, h.p, h.f, h.s⟩
theorem Env.setr {w : World} {B br bp bf g n cap : Nat} {A : Option Addr} {ps : List Bs} (h : Env w B br bp bf g n cap A ps) (g2 : Nat) (h2 : bp ≠ br) (h3 : bf ≠ br) (hB : B ≤ br) :
    Env (w.setCell ⟨br, 0, none⟩ (.slice (some ⟨g2, 0, none⟩) (n + 1) (n + 1))) B br bp bf g2 n cap A ps :=
  ⟨World.cell?_setCell_same' _ _ _ (by rw [h.r]; rfl), by rw [World.frozen?_setCell]; exact h.rf, grown_cell h.p (grown_set _ _ _ _) h2, grown_cell h.f (grown_set _ _ _ _) h3, srow_set h.s _ _ hB⟩

theorem reach_env (B br bp bf cap g n : Nat) (A : Option Addr) (ps : List Bs) (hn : ps.length = n) (hnm : n ≤ 100000) (hBg : B ≤ g) (h1 : br ≠ g) (h2 : bp ≠ g) (h3 : bf ≠ g)
    (i : Nat) (L : List Bool) (w : World) (hi : i ≤ n) (hL : L.length = n + 1) (he : Env w B br bp bf g n cap A ps) (hb : Bl w g L) :
    Calls Tryd.prog 49 #[.int .i64 i, .pointer (some ⟨br, 0, none⟩), .pointer (some ⟨bp, 0, none⟩), .pointer (some ⟨bf, 0, none⟩)] w fun e w' => e = .returned (.tuple #[]) ∧ Bl w' g (reach ps i L) ∧ w.grownBy w' (some g) :=
  reach_any br bp bf (n + 1) cap B g n A ps hn hnm hBg h1 h2 h3 (n - i + 1) i L w (by omega) hi hL he.r he.p he.f he.s hb

set_option maxHeartbeats 2000000 in
set_option maxRecDepth 100000 in
theorem assignable_any (A1 A2 : Option Addr) (cap1 cap2 m n : Nat) (cs ps : List Bs) (b : Bool) (hb : ass ps cs = b) (w : World) (hm : cs.length = m) (hn : ps.length = n) (hm1 : m ≤ 100000) (hn1 : n ≤ 100000)
    (hc1 : ∀ x ∈ cs, x.length ≤ 100000) (hp1 : ∀ x ∈ ps, x.length ≤ 100000) (hs1 : SRow w w.heap.size A1 cs) (hs2 : SRow w w.heap.size A2 ps) :
    Calls Tryd.prog 30 #[.slice A1 m cap1, .slice A2 n cap2] w fun e w' => e = .returned (.bool b) ∧ Below w.heap.size w w' := by
  obtain ⟨i0, hi, hz0, hz1, hz2⟩ := info_parts boolInfo
  have HE := Lib.hid hb
  have HM := Lib.hid hm
  have HN := Lib.hid hn
  have HC := Lib.hid hc1
  have HP := Lib.hid hp1
  have HS1 := Lib.hid hs1
  have HS2 := Lib.hid hs2
  clear hb hm hn hc1 hp1 hs1 hs2
  have hnn : (n : Int) ≤ 100000 := by omega
  go_enter Tryd.func30, Tryd.ntmps30
  go_wp2_with (at_make; refine wpList_make_bl _ rfl (.tmp 14) (.tmp 14) 42 rfl 4 i0 Tryd.underlying42 hi hz0 hz1 (by rw [hz2]; decide) .i64 .i64 _ _ (n + 1) rfl rfl ?m1 ?m2 (by omega) ?_)
  case m1 => go_num
  case m2 => go_num
  intro w1 HL1 HW1 HZ1
  have hq1 := HZ1.out
  go_wp2_with fail
  obtain ⟨v, hv⟩ : ∃ v, v = reachV (w.heap.size + 1 + 1) w.heap.size (w.heap.size + 1 + 1 + 1) := ⟨_, rfl⟩
  have c3 := made_cell (w1.alloc (.cells #[.slice (some ⟨w.heap.size + 1, 0, none⟩) (n + 1) (n + 1)] 42)) v 52
  have c2 := made_cell w1 (.slice (some ⟨w.heap.size + 1, 0, none⟩) (n + 1) (n + 1)) 42
  have c1 := made_cell w (.slice A2 n cap2) 26
  rw [World.size_alloc, hq1] at c3
  rw [hq1] at c2
  have d2 := past_cell (.cells #[v] 52) c2
  have d1 := past_cell (.cells #[v] 52) (past_cell (.cells #[.slice (some ⟨w.heap.size + 1, 0, none⟩) (n + 1) (n + 1)] 42) (show w1.cell? ⟨w.heap.size, 0, none⟩ = _ ∧ w1.frozen? ⟨w.heap.size, 0, none⟩ = false from
    ⟨(HW1.out.cell (p := ⟨w.heap.size, 0, none⟩) (by simp)).trans c1.1, (HW1.out.frozen (p := ⟨w.heap.size, 0, none⟩) (by simp)).trans c1.2⟩))
  have hl0 := (HL1.out.alloc (.cells #[.slice (some ⟨w.heap.size + 1, 0, none⟩) (n + 1) (n + 1)] 42)).alloc (.cells #[v] 52)
  have hb0 : Below w.heap.size w ((w1.alloc (.cells #[.slice (some ⟨w.heap.size + 1, 0, none⟩) (n + 1) (n + 1)] 42)).alloc (.cells #[v] 52)) :=
    ((((Below.refl _ w).alloc (Nat.le_refl _) _).trans (HW1.out.mono (by omega))).alloc (by omega) _).alloc (by simp; omega) _
  have hz3 : ((w1.alloc (.cells #[.slice (some ⟨w.heap.size + 1, 0, none⟩) (n + 1) (n + 1)] 42)).alloc (.cells #[v] 52)).heap.size = w.heap.size + 4 := by
    simp; omega
  have hs1' := srow_later (HS1.out) hb0
  have hs2' := srow_later (HS2.out) hb0
  rw [hv] at c3 d1 d2 hl0 hb0 hz3 hs1' hs2'
  unfold reachV at c3 d1 d2 hl0 hb0 hz3 hs1' hs2'
  clear HS1 HS2 HL1 HW1 HZ1 c1 c2 hv hq1
  obtain ⟨w2, hw2⟩ : ∃ w2, (w1.alloc (.cells #[.slice (some ⟨w.heap.size + 1, 0, none⟩) (n + 1) (n + 1)] 42)).alloc (.cells #[.func (.func 49) #[] #[.pointer (some ⟨w.heap.size + 1 + 1, 0, none⟩), .pointer (some ⟨w.heap.size, 0, none⟩), .pointer (some ⟨w.heap.size + 1 + 1 + 1, 0, none⟩)]] 52) = w2 := ⟨_, rfl⟩
  rw [hw2] at d1 d2 hl0 hb0 hz3 c3 hs1' hs2' ⊢
  clear hw2
  have HEN : Hid (Env w2 w.heap.size (w.heap.size + 1 + 1) w.heap.size (w.heap.size + 1 + 1 + 1) (w.heap.size + 1) n cap2 A2 ps) := ⟨d2.1, d2.2, d1.1, c3.1, hs2'⟩
  clear d1 d2 c3 hs2'
  refine (reach_env w.heap.size (w.heap.size + 1 + 1) w.heap.size (w.heap.size + 1 + 1 + 1) cap2 (w.heap.size + 1) n A2 ps HN.out hn1 (by omega) (by omega) (by omega) (by omega) 0 (List.replicate (n + 1) false) w2 (Nat.zero_le _) (by simp) HEN.out hl0).mono ?_
  rintro e w3 ⟨rfl, hl3, hg3⟩
  have HEN3 := Lib.hid (HEN.out.grown hg3 (by omega) (by omega) (by omega) (by omega))
  have HL3 : Hid (Bl w3 (w.heap.size + 1) (runC ps cs 0)) := by show Bl _ _ (reach ps 0 (List.replicate (ps.length + 1) false)); rw [HN.out]; exact hl3
  have HB3 := Lib.hid (hb0.grown hg3 (by omega) (fun q hq => by cases hq; omega))
  have HC3 := Lib.hid (srow_grown hs1' hg3 (by omega))
  have HZ3 : Hid (w.heap.size + 4 ≤ w3.heap.size) := by have := hg3.size; show _ ≤ _; omega
  clear hl3 hg3 hs1' hl0 hb0 hz3 HEN
  generalize hB : w.heap.size = B at HEN3 HL3 HB3 HC3 HZ3 ⊢
  have HBQ := Lib.hid hB
  clear hB
  go_wp2
  go_loopw [21] (fun i wr => ∃ k g : Nat, k ≤ m ∧ i = .int .i64 k ∧ Hid (Env wr B (B + 1 + 1) B (B + 1 + 1 + 1) g n cap2 A2 ps) ∧ Hid (Bl wr g (runC ps cs k)) ∧ Hid (Below B w wr) ∧ Hid (SRow wr B A1 cs) ∧ Hid (B + 4 ≤ wr.heap.size) ∧ Hid (B < g ∧ g ≠ B + 1 + 1 ∧ g ≠ B + 1 + 1 + 1)) (fun i _ => m - (intOf i).toNat)
  case atStart => exact ⟨0, B + 1, Nat.zero_le _, rfl, HEN3.out, HL3.out, HB3.out, HC3.out, HZ3.out, by show _ ∧ _ ∧ _; omega⟩
  case round =>
    obtain ⟨k, g, hk, rfl, HEN, HL, HB, HCS, HZ, HGN⟩ := hrel
    clear HEN3 HL3 HB3 HC3 HZ3
    by_cases hlt : k < m
    · have hki : (k : Int) < m := by omega
      have hxk : cs[k]? = some (cs[k]'(by rw [HM.out]; exact hlt)) := List.getElem?_eq_getElem _
      generalize cs[k]'(by rw [HM.out]; exact hlt) = c at hxk
      obtain ⟨b1, o1, sc, rfl, _, hsc, cC⟩ := HCS.out k c hxk
      have hscs : sc.size ≤ 100000 := by
        have := HC.out c (List.mem_of_getElem? hxk)
        rw [← hsc, data_length] at this
        exact this
      have hrn : runC ps cs (k + 1) = cont ps c (runC ps cs k) n := by
        show cont ps (cs.getD k []) (runC ps cs k) ps.length = _
        rw [List.getD_eq_getElem?_getD, hxk, HN.out]; rfl
      have hrl := runC_len ps cs k
      rw [HN.out] at hrl
      have HRN := Lib.hid hrn
      obtain ⟨R, hR⟩ : ∃ R, runC ps cs k = R := ⟨_, rfl⟩
      rw [hR] at HRN HL hrl
      have HRL := Lib.hid hrl
      have HSC := Lib.hid hsc
      have cR := HEN.out.r
      have fR := HEN.out.rf
      have cP := HEN.out.p
      clear hrn hR hrl hsc hxk
      go_wp2_with (at_make; refine wpList_make_bl _ rfl (.tmp 28) (.tmp 28) 42 rfl 4 i0 Tryd.underlying42 hi hz0 hz1 (by rw [hz2]; decide) .i64 .i64 _ _ (n + 1) rfl rfl ?n1 ?n2 (by omega) ?_)
      case n1 => go_num
      case n2 => go_num
      intro w4 HL4 HW4 HZ4
      have HG4 : Hid (g < wr.heap.size) := HL.out.lt
      have henv4 := HEN.out.later HW4.out
      have hl4 := HL.out.later HW4.out
      have hb4 := HB.out.trans (HW4.out.mono (by have := HZ.out; omega))
      have hc4 := srow_later HCS.out HW4.out
      have hz4 : B + 4 ≤ w4.heap.size := by have := HZ.out; have := HZ4.out; omega
      have HZG : Hid (B + 4 ≤ wr.heap.size) := HZ
      clear HEN HL HB HCS HZ HW4 HZ4 cR fR cP cC
      generalize hN2 : wr.heap.size = g2 at HL4 HG4 HZG ⊢
      clear hN2
      have cR4 := henv4.r
      have fR4 := henv4.rf
      have henv5 := henv4.setr g2 (by omega) (by omega) (by omega)
      have HL5 := Lib.hid (hl4.other ⟨B + 1 + 1, 0, none⟩ (.slice (some ⟨g2, 0, none⟩) (n + 1) (n + 1)) (by have := HGN.out; show B + 1 + 1 ≠ g; omega))
      have HL6 := Lib.hid (HL4.out.other ⟨B + 1 + 1, 0, none⟩ (.slice (some ⟨g2, 0, none⟩) (n + 1) (n + 1)) (by have := HZG.out; show B + 1 + 1 ≠ g2; omega))
      have HB5 := Lib.hid (hb4.setCell (p := ⟨B + 1 + 1, 0, none⟩) (by show B ≤ B + 1 + 1; omega) (.slice (some ⟨g2, 0, none⟩) (n + 1) (n + 1)))
      have HC5 := Lib.hid (srow_set hc4 ⟨B + 1 + 1, 0, none⟩ (.slice (some ⟨g2, 0, none⟩) (n + 1) (n + 1)) (by show B ≤ B + 1 + 1; omega))
      have HZ5 : Hid (B + 4 ≤ (w4.setCell ⟨B + 1 + 1, 0, none⟩ (.slice (some ⟨g2, 0, none⟩) (n + 1) (n + 1))).heap.size) := by show _ ≤ _; simpa using hz4
      have cP5 := henv5.p
      have HEN5 := Lib.hid henv5
      clear henv4 hl4 hb4 hc4 hz4 henv5 HL4
      go_wp2
      go_loopw [32] (fun i wr => ∃ j : Nat, j ≤ n ∧ i = .int .i64 j ∧ Hid (Env wr B (B + 1 + 1) B (B + 1 + 1 + 1) g2 n cap2 A2 ps) ∧ Hid (Bl wr g R) ∧ Hid (Bl wr g2 (cont ps c R j)) ∧ Hid (Below B w wr) ∧ Hid (SRow wr B (some ⟨b1, o1, none⟩) cs) ∧ Hid (B + 4 ≤ wr.heap.size)) (fun i _ => n - (intOf i).toNat)
      case atStart => exact ⟨0, Nat.zero_le _, rfl, HEN5.out, HL5.out, by have := HL6.out; show Bl _ _ (List.replicate (ps.length + 1) false); rw [HN.out]; exact this, HB5.out, HC5.out, HZ5.out⟩
      case round =>
        obtain ⟨j, hj, rfl, HE2, HLR, HLN, HBW, HCW, HZW⟩ := hrel
        clear HEN5 HL5 HL6 HB5 HC5 HZ5 cP5 cR4 fR4
        have HGD : Hid (g2 ≠ B + 1 + 1 ∧ B ≠ g2 ∧ B + 1 + 1 + 1 ≠ g2 ∧ B ≤ g2 ∧ g ≠ g2) := by have := HZG.out; have := HG4.out; show _ ∧ _ ∧ _ ∧ _ ∧ _; omega
        by_cases hlj : j < n
        · have hji : (j : Int) < n := by omega
          have hxj : ps[j]? = some (ps[j]'(by rw [HN.out]; exact hlj)) := List.getElem?_eq_getElem _
          generalize ps[j]'(by rw [HN.out]; exact hlj) = x at hxj
          obtain ⟨b2, o2, sp, rfl, _, hsp, cS⟩ := HE2.out.s j x hxj
          have hgd : ps.getD j [] = x := by rw [List.getD_eq_getElem?_getD, hxj]; rfl
          have hcr := HLR.out.at j (by rw [HRL.out]; omega)
          have hcl := cont_len ps c R j
          rw [HN.out] at hcl
          have hstp : cont ps c R (j + 1) = stp ps c R j (cont ps c R j) := rfl
          unfold stp at hstp
          rw [hgd] at hstp
          have hst := star_beq hsp
          have hsps : sp.size ≤ 100000 := by
            have := HP.out x (List.mem_of_getElem? hxj)
            rw [← hsp, data_length] at this
            exact this
          generalize R.getD j false = r at hcr hstp
          have HCL := Lib.hid hcl
          clear hcl hgd hxj
          cases r
          · rw [Bool.false_and, if_neg (by simp)] at hstp
            have HLN2 : Hid (Bl wr g2 (cont ps c R (j + 1))) := by show Bl _ _ _; rw [hstp]; exact HLN.out
            clear hstp hst
            go_wp2
            go_roundw
            case rel => exact ⟨j + 1, by omega, by go_num, HE2.out, HLR.out, HLN2.out, HBW.out, HCW.out, HZW.out⟩
            case measure => simp [intOf]; omega
          · rw [Bool.true_and] at hstp
            obtain ⟨q, hq⟩ : ∃ q, one x c = q := ⟨_, rfl⟩
            have HF := Lib.hid (fun W => fits_any sc sp q (by rw [hsp, HSC.out]; exact hq) W hscs hsps)
            rw [hq] at hstp
            cases q
            · rw [if_neg (by simp)] at hstp
              have HLN2 : Hid (Bl wr g2 (cont ps c R (j + 1))) := by show Bl _ _ _; rw [hstp]; exact HLN.out
              clear hstp hst hq hsp
              go_wp2_with fail
              refine (HF.out _).mono ?_
              rintro e w6 ⟨rfl, q, rfl⟩
              go_wp2
              go_roundw
              case rel => exact ⟨j + 1, by omega, by go_num, HE2.out.drewN q, HLR.out, HLN2.out, below_drewN HBW.out q, HCW.out, HZW.out⟩
              case measure => simp [intOf]; omega
            · rw [if_pos rfl] at hstp
              by_cases hxs : x = star
              · rw [if_pos hxs] at hstp
                rw [decide_eq_true hxs] at hst
                have HSP := Lib.hid hstp
                clear hstp hq hsp hxs
                go_wp2_with fail
                refine (HF.out _).mono ?_
                rintro e w6 ⟨rfl, q, rfl⟩
                have cF := (HE2.out.drewN q).f
                unfold reachV at cF
                go_wp2_with fail
                refine (reach_env B (B + 1 + 1) B (B + 1 + 1 + 1) cap2 g2 n _ ps HN.out hn1 HGD.out.2.2.2.1 (fun e => HGD.out.1 e.symm) HGD.out.2.1 HGD.out.2.2.1 j (cont ps c R j) (wr.drewN q) (by omega) HCL.out (HE2.out.drewN q) HLN.out).mono ?_
                rintro e w7 ⟨rfl, hl7, hg7⟩
                have he7 := (HE2.out.drewN q).grown hg7 (fun e => HGD.out.1 e.symm) HGD.out.2.1 HGD.out.2.2.1 HGD.out.2.2.2.1
                have HLR7 := Lib.hid (HLR.out.keep (hg7.block g HLR.out.lt (fun e => HGD.out.2.2.2.2 (Option.some.inj e))))
                have HB7 := Lib.hid ((below_drewN HBW.out q).grown hg7 (Nat.le_trans (Nat.le_add_right B 4) HZW.out) (fun y hy => by cases hy; exact HGD.out.2.2.2.1))
                have HC7 := Lib.hid (srow_grown (w := wr.drewN q) HCW.out hg7 HGD.out.2.2.2.1)
                have HZ7 : Hid (B + 4 ≤ w7.heap.size) := Nat.le_trans HZW.out hg7.size
                have HE7 := Lib.hid he7
                have HL7 := Lib.hid hl7
                have cF7 := he7.f
                unfold reachV at cF7
                clear he7 hl7 hg7 cF
                go_wp2_with fail
                rw [show ((j : Int) + 1) = ((j + 1 : Nat) : Int) by omega]
                refine (reach_env B (B + 1 + 1) B (B + 1 + 1 + 1) cap2 g2 n _ ps HN.out hn1 HGD.out.2.2.2.1 (fun e => HGD.out.1 e.symm) HGD.out.2.1 HGD.out.2.2.1 (j + 1) (reach ps j (cont ps c R j)) w7 (by omega) (by rw [reach_len]; exact HCL.out) HE7.out HL7.out).mono ?_
                rintro e w8 ⟨rfl, hl8, hg8⟩
                have HE8 := Lib.hid (HE7.out.grown hg8 (fun e => HGD.out.1 e.symm) HGD.out.2.1 HGD.out.2.2.1 HGD.out.2.2.2.1)
                have HLR8 := Lib.hid (HLR7.out.keep (hg8.block g HLR7.out.lt (fun e => HGD.out.2.2.2.2 (Option.some.inj e))))
                have HB8 := Lib.hid (HB7.out.grown hg8 (Nat.le_trans (Nat.le_add_right B 4) HZ7.out) (fun y hy => by cases hy; exact HGD.out.2.2.2.1))
                have HC8 := Lib.hid (srow_grown HC7.out hg8 HGD.out.2.2.2.1)
                have HZ8 : Hid (B + 4 ≤ w8.heap.size) := Nat.le_trans HZ7.out hg8.size
                have HL8 : Hid (Bl w8 g2 (cont ps c R (j + 1))) := by show Bl _ _ _; rw [HSP.out]; exact hl8
                clear hl8 hg8 cF7
                go_wp2
                go_roundw
                case rel => exact ⟨j + 1, by omega, by go_num, HE8.out, HLR8.out, HL8.out, HB8.out, HC8.out, HZ8.out⟩
                case measure => simp [intOf]; omega
              · rw [if_neg hxs] at hstp
                rw [decide_eq_false hxs] at hst
                have HSP := Lib.hid hstp
                clear hstp hq hsp hxs
                go_wp2_with fail
                refine (HF.out _).mono ?_
                rintro e w6 ⟨rfl, q, rfl⟩
                have cF := (HE2.out.drewN q).f
                unfold reachV at cF
                go_wp2_with fail
                rw [show ((j : Int) + 1) = ((j + 1 : Nat) : Int) by omega]
                refine (reach_env B (B + 1 + 1) B (B + 1 + 1 + 1) cap2 g2 n _ ps HN.out hn1 HGD.out.2.2.2.1 (fun e => HGD.out.1 e.symm) HGD.out.2.1 HGD.out.2.2.1 (j + 1) (cont ps c R j) (wr.drewN q) (by omega) HCL.out (HE2.out.drewN q) HLN.out).mono ?_
                rintro e w8 ⟨rfl, hl8, hg8⟩
                have HE8 := Lib.hid ((HE2.out.drewN q).grown hg8 (fun e => HGD.out.1 e.symm) HGD.out.2.1 HGD.out.2.2.1 HGD.out.2.2.2.1)
                have HLR8 := Lib.hid (HLR.out.keep (hg8.block g HLR.out.lt (fun e => HGD.out.2.2.2.2 (Option.some.inj e))))
                have HB8 := Lib.hid ((below_drewN HBW.out q).grown hg8 (Nat.le_trans (Nat.le_add_right B 4) HZW.out) (fun y hy => by cases hy; exact HGD.out.2.2.2.1))
                have HC8 := Lib.hid (srow_grown (w := wr.drewN q) HCW.out hg8 HGD.out.2.2.2.1)
                have HZ8 : Hid (B + 4 ≤ w8.heap.size) := Nat.le_trans HZW.out hg8.size
                have HL8 : Hid (Bl w8 g2 (cont ps c R (j + 1))) := by show Bl _ _ _; rw [HSP.out]; exact hl8
                clear hl8 hg8 cF
                go_wp2
                go_roundw
                case rel => exact ⟨j + 1, by omega, by go_num, HE8.out, HLR8.out, HL8.out, HB8.out, HC8.out, HZ8.out⟩
                case measure => simp [intOf]; omega
        · obtain rfl : j = n := by omega
          have HLN2 : Hid (Bl wr g2 (runC ps cs (k + 1))) := by show Bl _ _ _; rw [HRN.out]; exact HLN.out
          clear HLN
          go_wp2
          go_roundw
          case rel => exact ⟨k + 1, g2, by omega, by go_num, HE2.out, HLN2.out, HBW.out, HCW.out, HZW.out, by have := HZG.out; show _ ∧ _ ∧ _; omega⟩
          case measure => simp [intOf]; omega
    · obtain rfl : k = m := by omega
      have hend := runC_end ps cs
      rw [HM.out, HN.out, HE.out] at hend
      have hrl := runC_len ps cs k
      rw [HN.out] at hrl
      have c1 := HL.out.at n (by omega)
      rw [hend] at c1
      have cR := HEN.out.r
      have cP := HEN.out.p
      clear hend hrl HL HEN
      go_wp2
      go_ret
      exact ⟨rfl, by rw [HBQ.out]; exact HB.out⟩
end Gl
end Go.Proofs.YtffmnobcdhgfdaaDoor
