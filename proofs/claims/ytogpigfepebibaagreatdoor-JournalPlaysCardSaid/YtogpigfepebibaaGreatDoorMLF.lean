/-
  Layer 8 (journal): a landed journal in memory; the walk of the landed replace. Layer 8 (journal): the walks of the landed broken, Add.
-/
import Derived.Test.YtogpigfepebibaaGreatDoorMLA
import Derived.Test.YtogpigfepebibaaGreatDoorMJE
import Derived.Deep.RegionHeld3
import Derived.Deep.RegionWith
import Derived.Test.YtogpigfepebibaaGreatDoorMJH
namespace Go.Proofs.YtogpigfepebibaaGreatDoor
namespace Jl
open Go.RowKit Go.ChangeShapes Kr Dk

theorem runC_last (c : Cal) (D : DD) : runC [c] D = c.f D := by
  by_cases h : (c.f D).2 = 0
  · have h2 : c.f D = ((c.f D).1, 0) := by rw [← h]
    rw [runC_ok h2, h2]; rfl
  · rw [runC_no h]
theorem run_rest (D : DD) (p x : ByteArray) (b c1 c2 d2 c3 d3 : Nat) : runC [remC c1 (nw p), appC c2 d2 (nw p) x, synC b (nw p), renC c3 d3 (nw p) p] D = restV D p x := by
  unfold restV
  rw [clear_rem]
  by_cases h1 : (remV D (nw p)).2 = 0
  · rw [if_pos h1]
    unfold runC
    show (if (remV D (nw p)).2 = 0 then runC _ (remV D (nw p)).1 else _) = _
    rw [if_pos h1]
    generalize (remV D (nw p)).1 = D1
    unfold anewV
    by_cases h2 : (appendV D1 (nw p) x).2 = 0
    · rw [if_neg (by simpa using h2)]
      unfold runC
      show (if (appendV D1 (nw p) x).2 = 0 then runC _ (appendV D1 (nw p) x).1 else _) = _
      rw [if_pos h2]
      generalize (appendV D1 (nw p) x).1 = D2
      by_cases h3 : (syncV D2 (nw p)).2 = 0
      · rw [if_neg (by simpa using h3)]
        unfold runC
        show (if (syncV D2 (nw p)).2 = 0 then runC _ (syncV D2 (nw p)).1 else _) = _
        rw [if_pos h3, runC_last]; rfl
      · rw [if_pos h3, runC_no (show ((synC b (nw p)).f D2).2 ≠ 0 from h3)]; rfl
    · rw [if_pos h2, runC_no (show ((appC c2 d2 (nw p) x).f D1).2 ≠ 0 from h2)]; rfl
  · rw [if_neg h1, runC_no (show ((remC c1 (nw p)).f D).2 ≠ 0 from h1)]; rfl
theorem fit_rest {D : DD} {x : ByteArray} (h : Fit 40000 D) (hx : x.size ≤ 40000) (p : ByteArray) (b c1 c2 d2 c3 d3 : Nat) : FitC [remC c1 (nw p), appC c2 d2 (nw p) x, synC b (nw p), renC c3 d3 (nw p) p] D := by
  have h1 : Fit 40000 (remV D (nw p)).1 := by rw [← clear_rem]; exact fit_clear h p
  have h2 := fit_append h1 (nw p) x
  have h3 := fit_sync h2 (nw p)
  exact ⟨h.more (by decide), fun _ => ⟨h1.more (by decide), fun _ => ⟨h2.more (by omega), fun _ => ⟨h3.more (by omega), fun _ => trivial⟩⟩⟩⟩
theorem below_step2 {w W W' : World} (h : Below w.heap.size w W) (h' : Below W.heap.size W W') : Below w.heap.size w W' := h.trans (h'.mono h.size)
theorem below_new {w W : World} (h : Below w.heap.size w W) (o : Obj) : Below w.heap.size w (W.alloc o) := h.alloc h.size o
theorem Held.up {w0 w w1 : World} {c : Nat} {v : Value} (h : Held w w1 c v) (hb : Below w0.heap.size w0 w) : Held w0 w1 c v := h.more hb.size
theorem Held.new {w w1 : World} {c : Nat} {v : Value} (h : Held w w1 c v) (o : Obj) : Held w (w1.alloc o) c v := h.below ((Below.refl _ _).alloc (Nat.le_refl _) o)
theorem crow_new (w : World) (T : TypeId) (l : List Cal) (cs : Array Value) (h : cs = (l.map (·.val)).toArray) : CRow (w.alloc (.cells cs T)) w.heap.size 0 l := by
  refine ⟨by simp, fun j c hc => ?_⟩
  have hr : Row (w.alloc (.cells cs T)) w.heap.size T (l.map (·.val)) := Row.new_at _ _ _ _ rfl h
  rw [Nat.zero_add, hr.cell, List.getElem?_map, hc]; rfl

set_option maxRecDepth 100000 in
set_option maxHeartbeats 4000000 in
theorem replace_any (w : World) (S : Nat → Prop) (b g : Nat) (D : DD) (p x : ByteArray) (h : Rd w S b D) (hfit : Fit 40000 D) (hx : x.size ≤ 40000) (hp : p.size ≤ 10000) (hg : Row w g T_J [ptr b, .string p]) (hsg : ¬ S g) :
    Calls Tryz.prog 26 #[.pointer (some ⟨g, 0, none⟩), .string x] w (WAns S b g p (ptr b) (restV D p x) w) := by
  have HG := Lib.hid hg
  have HIN := Lib.hid (fun q (hq : S q) => rd_inside h q hq)
  have hgs := hg.lt
  have hS0 := (⟨hg.cell 0, hg.cell 1⟩ : w.cell? ⟨g, 0, none⟩ = some (ptr b) ∧ w.cell? ⟨g, 1, none⟩ = some (.string p))
  have HCE : Hid (∀ W, Below w.heap.size w W → W.cell? ⟨g, 0, none⟩ = some (ptr b) ∧ W.cell? ⟨g, 1, none⟩ = some (.string p)) := fun W hb => ⟨(hb.cell (p := ⟨g, 0, none⟩) hgs).trans hS0.1, (hb.cell (p := ⟨g, 1, none⟩) hgs).trans hS0.2⟩
  have HWR : Hid (∀ W c1 c2 d2 c3 d3 X cap, Below w.heap.size w W → Held w W c1 (ptr b) → Held w W c2 (ptr b) → Held w W d2 (.string x) → Held w W c3 (ptr b) → Held w W d3 (.string p) → CRow W X 0 [remC c1 (nw p), appC c2 d2 (nw p) x, synC b (nw p), renC c3 d3 (nw p) p] → w.heap.size ≤ X →
      Calls Tryz.prog 27 #[.pointer (some ⟨g, 0, none⟩), .string (nw p), .slice (some ⟨X, 0, none⟩) 4 cap] W (WAns S b g p (ptr b) (restV D p x) w)) := by
    intro W c1 c2 d2 c3 d3 X cap hb h1 h2 h3 h4 h5 hcr hX
    have hno : ∀ q, w.heap.size ≤ q → ¬ S q := fun q hq hs => by have := HIN.out q hs; omega
    have hNB : NB (nw p) := by show (nw p).size ≤ _; rw [nw_size]; omega
    have hNp : NB p := by show p.size ≤ _; omega
    have hh : Rd W S b D := rd_keep h fun q hq => hb.block q (HIN.out q hq)
    have hw := write_any W S b g X 0 4 cap D (nw p) p (ptr b) [remC c1 (nw p), appC c2 d2 (nw p) x, synC b (nw p), renC c3 d3 (nw p) p] rfl (by decide) hh (fit_rest hfit hx p b c1 c2 d2 c3 d3) (fun c hc => by
      rcases List.mem_cons.1 hc with rfl | hc
      · exact rem_doing hNB (nw_ne p) h1.2.1 (hno _ h1.1) h1.2.2
      rcases List.mem_cons.1 hc with rfl | hc
      · exact app_doing hNB (by omega) h2.2.1 (hno _ h2.1) h2.2.2 h3.2.1 (hno _ h3.1) h3.2.2
      rcases List.mem_cons.1 hc with rfl | hc
      · exact syn_doing hNB
      obtain rfl := List.mem_singleton.1 hc
      exact ren_doing hNB hNp h4.2.1 (hno _ h4.1) h4.2.2 h5.2.1 (hno _ h5.1) h5.2.2) hcr (hno _ hX) (HG.out.below hb hgs) hsg
    rw [run_rest] at hw
    refine hw.mono fun e w' h => ?_
    obtain ⟨S', k1, k2, k3, k4, k5⟩ := h
    exact ⟨S', k1, k2, fun q hq => (k3 q hq).imp id (Nat.le_trans hb.size), k4, away_next (Away.of hb) (fun q hq => .inl hq) k5⟩
  have HM1 : Hid (∀ W, Below w.heap.size w W → Calls Tryz.prog 28 #[ptr b] W fun e w' => ∃ c, e = .returned (.func (.func 52) #[] #[.pointer (some ⟨c, 0, none⟩)]) ∧ Held w w' c (ptr b) ∧ Below W.heap.size W w' ∧ Below w.heap.size w w') := fun W hb =>
    (removing_any b (nw p) W).mono fun e w' ⟨c, h1, h2, h3⟩ => ⟨c, h1, h2.up hb, h3, below_step2 hb h3⟩
  have HM2 : Hid (∀ W, Below w.heap.size w W → Calls Tryz.prog 34 #[ptr b, .string x] W fun e w' => ∃ c d, e = .returned (.func (.func 57) #[] #[.pointer (some ⟨c, 0, none⟩), .pointer (some ⟨d, 0, none⟩)]) ∧ Held w w' c (ptr b) ∧ Held w w' d (.string x) ∧ Below W.heap.size W w' ∧ Below w.heap.size w w') := fun W hb =>
    (appending_any b (nw p) x W).mono fun e w' ⟨c, d, h1, h2, h4, h3⟩ => ⟨c, d, h1, h2.up hb, h4.up hb, h3, below_step2 hb h3⟩
  have HM3 : Hid (∀ W, Below w.heap.size w W → Calls Tryz.prog 51 #[ptr b, .string p] W fun e w' => ∃ c d, e = .returned (.func (.func 63) #[] #[.pointer (some ⟨c, 0, none⟩), .pointer (some ⟨d, 0, none⟩)]) ∧ Held w w' c (ptr b) ∧ Held w w' d (.string p) ∧ Below W.heap.size W w' ∧ Below w.heap.size w w') := fun W hb =>
    (renaming_any b (nw p) p W).mono fun e w' ⟨c, d, h1, h2, h4, h3⟩ => ⟨c, d, h1, h2.up hb, h4.up hb, h3, below_step2 hb h3⟩
  have H0 := Lib.hid (Below.refl w.heap.size w).drew
  have hm := hmf
  have hps : ¬ 9223372036854775807 < p.size + 4 := by omega
  clear hfit hx hp hg h hsg
  go_enter Tryz.func26, Tryz.ntmps26
  have c0 := hS0.1
  have c1 := hS0.2
  go_wp2_with fail
  go_region_held3 (fun w' : World => w'.cell? ⟨g, 1, none⟩ = some (.string p))
    (first | exact hS0.2 | assumption | exact (HCE.out _ (below_new (by assumption) _)).2)
    ((first
      | (go_at_call 28; (refine Calls.mono (HM1.out _ H0.out) ?_); rintro e wa ⟨k1, rfl, hk1, hba', hba⟩; have hSa := (HCE.out _ hba).2)
      | (go_at_call 34; (refine Calls.mono (HM2.out _ hba) ?_); rintro e wb ⟨k2, l2, rfl, hk2, hl2, hbb', hbb⟩; have hSb := (HCE.out _ hbb).2)
      | (go_at_call 51; (refine Calls.mono (HM3.out _ hbb) ?_); rintro e wc ⟨k3, l3, rfl, hk3, hl3, hbc', hbc⟩; have hSc := (HCE.out _ hbc).2)
      | (go_at_call 27; (refine Calls.mono (HWR.out _ k1 k2 l2 k3 l3 _ _ (below_new hbc _) (((hk1.below hbb').below hbc').new _) ((hk2.below hbc').new _) ((hl2.below hbc').new _) (hk3.new _) (hl3.new _) (crow_new _ _ _ _ rfl) hbc.size) ?_); rintro e we hwe; have hwe' := Lib.hid hwe; obtain ⟨S', rfl, hw2, hw3, hw4, hw5⟩ := hwe; have hSe := hw4.cell 1)))
  all_goals
    clear hw2 hw3 hw4 hw5 hSe
    go_wp2
    go_ret
    exact hwe'.out
end Jl
end Go.Proofs.YtogpigfepebibaaGreatDoor

namespace Go.Proofs.YtogpigfepebibaaGreatDoor
namespace Jl
open Go.RowKit Go.ChangeShapes Kr Dk

/-- A load that isn't to be taken first. -/
def asIs (o : Go.Op) : Go.Op := o
attribute [local go_sem] asIs
set_option maxRecDepth 100000 in
theorem broken_nil (w : World) : Calls Tryz.prog 33 #[.pointer none] w fun e w' => e = .returned (.bool true) ∧ w = w' := by
  go_enter Tryz.func33, Tryz.ntmps33
  go_wp2
  go_ret
  exact ⟨rfl, rfl⟩
set_option maxRecDepth 100000 in
theorem broken_yes (w : World) (g : Nat) (h : w.cell? ⟨g, 0, none⟩ = some (.pointer none)) : Calls Tryz.prog 33 #[.pointer (some ⟨g, 0, none⟩)] w fun e w' => e = .returned (.bool true) ∧ w = w' := by
  go_enter Tryz.func33, Tryz.ntmps33
  go_wp2
  go_ret
  exact ⟨rfl, rfl⟩
set_option maxRecDepth 100000 in
theorem broken_no (w : World) (g b : Nat) (h : w.cell? ⟨g, 0, none⟩ = some (ptr b)) : Calls Tryz.prog 33 #[.pointer (some ⟨g, 0, none⟩)] w fun e w' => e = .returned (.bool false) ∧ w = w' := by
  go_enter Tryz.func33, Tryz.ntmps33
  go_wp2
  go_ret
  exact ⟨rfl, rfl⟩

theorem run_put (D : DD) (p x : ByteArray) (b c2 d2 : Nat) : runC [appC c2 d2 p x, synC b p] D = putV D p x := by
  unfold putV
  by_cases h2 : (appendV D p x).2 = 0
  · rw [if_pos h2]
    unfold runC
    show (if (appendV D p x).2 = 0 then runC _ (appendV D p x).1 else _) = _
    rw [if_pos h2, runC_last]; rfl
  · rw [if_neg h2, runC_no (show ((appC c2 d2 p x).f D).2 ≠ 0 from h2)]; rfl
theorem fit_put {D : DD} {x : ByteArray} (h : Fit 40000 D) (hx : x.size ≤ 40000) (p : ByteArray) (b c2 d2 : Nat) : FitC [appC c2 d2 p x, synC b p] D := by
  have h2 := fit_append h p x
  exact ⟨h.more (by decide), fun _ => ⟨h2.more (by omega), fun _ => trivial⟩⟩

set_option maxRecDepth 100000 in
set_option maxHeartbeats 4000000 in
theorem add_any (B : Nat) (w : World) (S : Nat → Prop) (b g : Nat) (D : DD) (p x : ByteArray) (h : Rd w S b D) (hfit : Fit 40000 D) (hx : x.size ≤ 20000) (hp : p.size ≤ 10000) (hg : Row w g T_J [ptr b, .string p]) (hsg : ¬ S g) (ho : Ok B w) :
    Calls Tryz.prog 10 #[.pointer (some ⟨g, 0, none⟩), .string x] w (WAns S b g p (ptr b) (putV D p (ofB (frame Sh.dig (toB x)))) w) := by
  have HG := Lib.hid hg
  have HIN := Lib.hid (fun q (hq : S q) => rd_inside h q hq)
  have hgs := hg.lt
  have hS0 := (⟨hg.cell 0, hg.cell 1⟩ : w.cell? ⟨g, 0, none⟩ = some (ptr b) ∧ w.cell? ⟨g, 1, none⟩ = some (.string p))
  have HCE : Hid (∀ W, Below w.heap.size w W → W.cell? ⟨g, 0, none⟩ = some (ptr b) ∧ W.cell? ⟨g, 1, none⟩ = some (.string p)) := fun W hb => ⟨(hb.cell (p := ⟨g, 0, none⟩) hgs).trans hS0.1, (hb.cell (p := ⟨g, 1, none⟩) hgs).trans hS0.2⟩
  have HFR := Lib.hid (frame_any B x w (by omega) ho)
  have hfs : (ofB (frame Sh.dig (toB x))).size ≤ 20012 := by rw [ofB_size, frame_length H_len, toB_length]; omega
  generalize ofB (frame Sh.dig (toB x)) = f at *
  have HWR : Hid (∀ W c2 d2 X cap, Below w.heap.size w W → Held w W c2 (ptr b) → Held w W d2 (.string f) → CRow W X 0 [appC c2 d2 p f, synC b p] → w.heap.size ≤ X →
      Calls Tryz.prog 27 #[.pointer (some ⟨g, 0, none⟩), .string p, .slice (some ⟨X, 0, none⟩) 2 cap] W (WAns S b g p (ptr b) (putV D p f) w)) := by
    intro W c2 d2 X cap hb h2 h3 hcr hX
    have hno : ∀ q, w.heap.size ≤ q → ¬ S q := fun q hq hs => by have := HIN.out q hs; omega
    have hNp : NB p := by show p.size ≤ _; omega
    have hh : Rd W S b D := rd_keep h fun q hq => hb.block q (HIN.out q hq)
    have hw := write_any W S b g X 0 2 cap D p p (ptr b) [appC c2 d2 p f, synC b p] rfl (by decide) hh (fit_put hfit (by omega) p b c2 d2) (fun c hc => by
      rcases List.mem_cons.1 hc with rfl | hc
      · exact app_doing hNp (by omega) h2.2.1 (hno _ h2.1) h2.2.2 h3.2.1 (hno _ h3.1) h3.2.2
      obtain rfl := List.mem_singleton.1 hc
      exact syn_doing hNp) hcr (hno _ hX) (HG.out.below hb hgs) hsg
    rw [run_put] at hw
    refine hw.mono fun e w' h => ?_
    obtain ⟨S', k1, k2, k3, k4, k5⟩ := h
    exact ⟨S', k1, k2, fun q hq => (k3 q hq).imp id (Nat.le_trans hb.size), k4, away_next (Away.of hb) (fun q hq => .inl hq) k5⟩
  have HM2 : Hid (∀ W, Below w.heap.size w W → Calls Tryz.prog 34 #[ptr b, .string f] W fun e w' => ∃ c d, e = .returned (.func (.func 57) #[] #[.pointer (some ⟨c, 0, none⟩), .pointer (some ⟨d, 0, none⟩)]) ∧ Held w w' c (ptr b) ∧ Held w w' d (.string f) ∧ Below W.heap.size W w' ∧ Below w.heap.size w w') := fun W hb =>
    (appending_any b p f W).mono fun e w' ⟨c, d, h1, h2, h4, h3⟩ => ⟨c, d, h1, h2.up hb, h4.up hb, h3, below_step2 hb h3⟩
  have hm := hmf
  have HBR := Lib.hid (broken_no w g b hS0.1)
  clear hfit hx hp hg h hsg
  go_enter Tryz.func10, Tryz.ntmps10
  go_wp2_with fail
  refine HBR.out.mono ?_
  rintro e _ ⟨rfl, rfl⟩
  go_wp2_with fail
  refine HFR.out.mono ?_
  rintro e w1 ⟨rfl, hb1⟩
  have HB1 := Lib.hid hb1
  have H0 := Lib.hid hb1.drew
  obtain ⟨hc0, hS1⟩ := HCE.out _ hb1
  clear hb1
  go_wp2_with fail
  have k25 : ∀ t x ty pos af g, Oper.mk (some 25) (Go.Op.load t x) ty pos af g = Oper.mk (some 25) (asIs (Go.Op.load t x)) ty pos af g := fun _ _ _ _ _ _ => rfl
  have k31 : ∀ t x ty pos af g, Oper.mk (some 31) (Go.Op.load t x) ty pos af g = Oper.mk (some 31) (asIs (Go.Op.load t x)) ty pos af g := fun _ _ _ _ _ _ => rfl
  simp only [k25, k31]
  clear k25 k31
  first | (go_region_held3 (fun w' : World => w'.cell? ⟨g, 1, none⟩ = some (.string p))
    (first | exact hS1 | assumption | exact (HCE.out _ (below_new (by assumption) _)).2)
    ((first
      | (go_at_call 34; (refine Calls.mono (HM2.out _ H0.out) ?_); rintro e wb ⟨k2, l2, rfl, hk2, hl2, hbb', hbb⟩; obtain ⟨hcb, hSb⟩ := HCE.out _ hbb)
      | (go_at_call 27; (refine Calls.mono (HWR.out _ k2 l2 _ _ (below_new hbb _) (hk2.new _) (hl2.new _) (crow_new _ _ _ _ rfl) hbb.size) ?_); rintro e we hwe; have hwe' := Lib.hid hwe; obtain ⟨S', rfl, hw2, hw3, hw4, hw5⟩ := hwe; have hSe := hw4.cell 1)))) | fail
  all_goals
    clear hw2 hw3 hw4 hw5 hSe
    go_wp2
    go_ret
    exact hwe'.out
end Jl
end Go.Proofs.YtogpigfepebibaaGreatDoor
