/-
  Layer 6 (blobs): the walk of the document's Put.
-/
import Derived.Test.YtiilmgbobjagkaaDoorBB
import Derived.StillTailTactics
namespace Go.Proofs.YtiilmgbobjagkaaDoor
namespace Bl
open Go.RowKit Kr

/-- What a call that answers a row leaves. -/
def AnsB (A0 : Option Addr) (w : World) (l : List Bb) (e : Ending) (w' : World) : Prop :=
  ∃ A m cap, e = .returned (.slice A m cap) ∧ l.length = m ∧ BRow w' w'.heap.size A l ∧ Below w.heap.size w w' ∧ (A = A0 ∨ ∀ p, A = some p → w.heap.size ≤ p.block ∧ p.block < w'.heap.size)

theorem own_low {α : Type} {enc : α → List Value} {k base : Nat} {T : TypeId} {w : World} {A : Option Addr} {n cap : Nat} {t : List α} (h : OwnsK enc k T w base (.slice A n cap) t) : ∀ p, A = some p → base ≤ p.block ∧ p.block < w.heap.size := fun p hp => by
  subst hp
  rcases h.2 with ⟨hv, _⟩ | ⟨g, cap', cur, hv, hb, hg, _⟩
  · cases hv
  · injection hv with hv
    injection hv with hv
    subst hv
    exact ⟨hb, (Array.getElem?_eq_some_iff.1 hg).1⟩
theorem insRun_one {l : List Bb} {f x : Bb} {k : Nat} {L : List Bb} {b c : Bool} (hx : l[k]? = some x) (h1 : (insRun f (l.take k)).1 = L) (h2 : (insRun f (l.take k)).2 = b) (hc : decide (f.1 < x.1) = c) :
    (insRun f (l.take (k + 1))).1 = (if (!b && c) = true then L ++ [f] else L) ++ [x] ∧ (insRun f (l.take (k + 1))).2 = (b || c) := by
  rw [Sh.take_snoc l k x hx, insRun_snoc]
  unfold insStep
  rw [h1, h2, hc]
  cases b <;> cases c <;> simp [h1, h2]

set_option maxRecDepth 100000 in
set_option maxHeartbeats 8000000 in
theorem put_any (A : Option Addr) (cap n : Nat) (l : List Bb) (f : Bb) (hf : f.1.length = 32) (w : World) (hn : l.length = n) (hnm : n ≤ 90000) (hs : Sums l) (hx : BRow w w.heap.size A l) :
    Calls Tryd.prog 18 #[.slice A n cap, .agg (encB f).toArray] w (AnsB A w (putV l f)) := by
  obtain ⟨i0, hi, hz0, hz1, hz2⟩ := info_parts blobInfo
  have HX := Lib.hid hx
  have HN := Lib.hid hn
  have HF := Lib.hid hf
  have HS := Lib.hid hs
  obtain ⟨w0, hw0⟩ : ∃ w0, w0 = w.alloc (.cells (encB f).toArray 37) := ⟨_, rfl⟩
  have HC0 : Hid (∀ (j : Nat) v, (encB f)[j]? = some v → w0.cell? ⟨w.heap.size, j, none⟩ = some v) := by
    intro j v hv
    rw [hw0]
    exact ((Sh.Row.new_at w _ _ _ rfl rfl).cell j).trans hv
  have HX0 : Hid (BRow w0 w.heap.size A l) := by rw [hw0]; exact HX.out.alloc (Nat.le_refl _) _
  have HB0 : Hid (Below w.heap.size w w0) := by rw [hw0]; exact (Below.refl _ _).alloc (Nat.le_refl _) _
  have hs0 : w0.heap.size = w.heap.size + 1 := by rw [hw0]; simp
  have HFF := Lib.hid (fun W (h : BRow W w.heap.size A l) (hW : w.heap.size ≤ W.heap.size) => find_any A cap w.heap.size n l f.1 hf W hn (by omega) hs h hW)
  have HAD := Lib.hid (fun W : World => (by kernel_rfl : (isAgg 29).run Tryd.prog W = .ok true W))
  have HZD := Lib.hid (fun W : World => (by kernel_rfl : (sizeOf 29).run Tryd.prog W = .ok 32 W))
  have HA2 := Lib.hid (fun W : World => (by kernel_rfl : (isAgg 37).run Tryd.prog W = .ok true W))
  have HZ2 := Lib.hid (fun W : World => (by kernel_rfl : (sizeOf 37).run Tryd.prog W = .ok 33 W))
  have HBL := Lib.hid (show (Sh.bvals f.1).length = 32 by rw [Sh.bvals_length, hf])
  have HDC : Hid (∀ W : World, Below (w.heap.size + 1) w0 W → ∀ j v, (Sh.bvals f.1)[j]? = some v → W.cell? ((⟨w.heap.size, 0, none⟩ : Addr).add j) = some v) := by
    intro W hW j v hv
    rw [Addr.add_lit, Nat.zero_add]
    refine (hW.cell (p := ⟨w.heap.size, j, none⟩) (Nat.lt_succ_self _)).trans (HC0.out j v ?_)
    unfold encB
    rw [fix32_id HF.out, List.getElem?_append_left (by have := (List.getElem?_eq_some_iff.1 hv).1; exact this)]
    exact hv
  clear hx hn hf hs HX
  go_enter Tryd.func18, Tryd.ntmps18
  go_wp2_with (rw [← hw0]; refine wpList_load_at rfl 29 (.tmp 9) rfl ⟨w.heap.size, 0, none⟩ rfl (Sh.bvals f.1) 32 (HAD.out _) (HZD.out _) HBL.out (HDC.out w0 (Below.refl _ _)) ?_)
  rw [← hw0]
  clear hw0
  refine (HFF.out _ HX0.out (by omega)).mono ?_
  rintro e w1 ⟨z, rfl, hz, hb1⟩
  have HB1 := Lib.hid hb1
  have HB1w := Lib.hid (HB0.out.trans (hb1.mono (by omega)))
  rcases hz with ⟨rfl, hg⟩ | ⟨q, x, rfl, hq, _, hg⟩
  · have HPV : Hid (putV l f = insV l f) := by show _ = _; unfold putV; rw [hg]; rfl
    clear hg hb1
    go_wp2
    go_loopw [5, 6, 7] (fun v dn i wr => ∃ (k m cp : Nat) (A' : Option Addr) (b : Bool), k ≤ n ∧ i = .int .i64 k ∧ v = .slice A' m cp ∧ dn = .bool b ∧ m ≤ 2 * k ∧ Hid ((insRun f (l.take k)).1.length = m) ∧ Hid ((insRun f (l.take k)).2 = b) ∧ Hid (OwnsB wr (w.heap.size + 1) (.slice A' m cp) (insRun f (l.take k)).1) ∧ Hid (Below (w.heap.size + 1) w0 wr)) (fun _ _ i _ => n - (intOf i).toNat)
    case atStart => exact ⟨0, 0, 0, none, false, Nat.zero_le _, rfl, rfl, rfl, by omega, rfl, rfl, OwnsK.nil _ _, by have := HB1.out; rwa [hs0] at this⟩
    case round =>
      obtain ⟨k, m, cp, A', b, hk, rfl, rfl, rfl, hm, HLN, HDN, HO, HB⟩ := hrel
      obtain ⟨L, hL⟩ : ∃ L, (insRun f (l.take k)).1 = L := ⟨_, rfl⟩
      rw [hL] at HLN HO
      have HL := Lib.hid hL
      clear hL
      have hws : w.heap.size + 1 ≤ wr.heap.size := by have := HB.out.size; omega
      by_cases hlt : k < n
      · have hki : (k : Int) < n := by omega
        have hxk : l[k]? = some (l[k]'(by rw [HN.out]; exact hlt)) := List.getElem?_eq_getElem _
        generalize l[k]'(by rw [HN.out]; exact hlt) = x at hxk
        have HXK := Lib.hid hxk
        obtain ⟨b1, o1, rfl, hb1, _⟩ := HX0.out k x hxk
        have HX32 := Lib.hid (HS.out x (List.mem_of_getElem? hxk))
        clear hxk
        cases b
        · obtain ⟨c, hc⟩ : ∃ c, decide (f.1 < x.1) = c := ⟨_, rfl⟩
          have HST := Lib.hid (insRun_one HXK.out HL.out HDN.out hc)
          have HLE := Lib.hid (fun W : World => less_any f.1 x.1 c hc HF.out HX32.out W)
          clear hc
          obtain ⟨wd, hwd⟩ : ∃ wd : World, wd = { wr with drawn := wr.drawn + 1 } := ⟨_, rfl⟩
          have HW1 : Hid (Below (w.heap.size + 1) w0 wd) := by rw [hwd]; exact Sh.below_drewN HB.out 1
          have HO1 : Hid (OwnsB wd (w.heap.size + 1) (.slice A' m cp) L) := by rw [hwd]; exact HO.out.drewN 1
          have HXL := Lib.hid (show (Sh.bvals x.1).length = 32 by rw [Sh.bvals_length, HX32.out])
          have HDX : Hid (∀ j v, (Sh.bvals x.1)[j]? = some v → wd.cell? ((⟨b1, o1 + k * 33, none⟩ : Addr).add j) = some v) := fun j v hv => by
            have := KRow.part (i := 0) (m := 32) (HX0.out.below HW1.out (by omega)) HXK.out (sum_part HX32.out) j v hv
            rw [Addr.add_lit]
            rwa [Nat.add_zero] at this
          go_wp2
          refine wp_region_still_tail 10 (by kernel_rfl) (by kernel_rfl) ?_
          rw [← hwd]
          clear hwd
          simp only [List.take_succ_cons, List.take_zero, List.drop_succ_cons, List.drop_zero]
          repeat (first
            | (refine wpStill_load_at rfl 29 (.tmp 23) rfl ⟨w.heap.size, 0, none⟩ rfl (Sh.bvals f.1) 32 (HAD.out _) (HZD.out _) HBL.out (HDC.out wd HW1.out) ?_)
            | (refine wpStill_load_at rfl 29 (.tmp 28) rfl ⟨b1, o1 + k * 33, none⟩ rfl (Sh.bvals x.1) 32 (HAD.out _) (HZD.out _) HXL.out HDX.out ?_)
            | still_step)
          refine wpStill_nil ?_
          go_wp2_with fail
          refine (HLE.out _).mono ?_
          rintro e w2 ⟨rfl, hb2⟩
          have hwd1 := HW1.out.size
          have HO2 : Hid (OwnsB w2 (w.heap.size + 1) (.slice A' m cp) L) := HO1.out.keep hb2
          have HW2 : Hid (Below (w.heap.size + 1) w0 w2) := HW1.out.trans (hb2.mono (by omega))
          clear hb2 hwd1
          cases c
          · have hBa := HW2.out.size
            have HCLa : Hid (∀ j v, (encB x)[j]? = some v → w2.cell? ((⟨b1, o1 + k * 33, none⟩ : Addr).add j) = some v) := fun j v hv => by rw [Addr.add_lit]; have := KRow.part (i := 0) (m := 33) (HX0.out.below HW2.out (by omega)) HXK.out rfl j v (by rw [List.drop_zero, List.take_of_length_le (by rw [encB_length]; exact Nat.le_refl _)]; exact hv); rwa [Nat.add_zero] at this
            go_wp2_with (first
              | (refine wpList_load_at rfl 37 (.tmp 39) rfl ⟨b1, o1 + k * 33, none⟩ rfl (encB x) 33 (HA2.out _) (HZ2.out _) (encB_length x) HCLa.out ?_)
              | (refine wpList_lit_one rfl 27 37 (.tmp 40) rfl (encB x) 33 rfl i0 _ Tryd.underlying27 hi hz0 hz1 (encB_length x) (by decide) (by decide) ?_)
              | (at_builtin; refine wpList_append_own _ rfl _ _ 27 rfl (w.heap.size + 1) 37 i0 (.agg (encB (List.replicate 32 0, [])).toArray) 33 48 Tryd.underlying27 hi hz0 hz1 hz2 (by simp [Value.cells, encB_length]) (by decide) _ (m) ((L).flatMap encB) rfl ?c0a ⟨w2.heap.size, 0, none⟩ 1 1 (encB x) rfl (by rw [encB_length]) ?c1a (encB_one x) ?c3a ?c4a ?c5a ?_))
            case c0a => have := HO2.out.alloc (.cells (encB x).toArray 37); unfold OwnsK at this; rw [HLN.out] at this; exact this
            case c3a => simp only [maxLen]; omega
            case c4a => omega
            case c5a => simp; omega
            · intro j u hj
              rw [Addr.add_lit, Nat.zero_add]
              exact ((Sh.Row.new_at w2 _ _ _ rfl rfl).cell j).trans hj
            intro va wa howna hgrowa _
            have hOa := OwnsK.appended HLN.out howna
            obtain ⟨La, hLa⟩ : ∃ Q, Q = L ++ [x] := ⟨_, rfl⟩
            rw [← hLa] at hOa
            have HLNa : Hid (La.length = m + 1) := by show _ = _; rw [hLa, List.length_append, HLN.out]; rfl
            have HLLa := Lib.hid hLa
            obtain ⟨Aa, capa, e⟩ := hOa.form
            rw [HLNa.out] at e
            subst e
            have HWa := Lib.hid ((HW2.out.alloc (by omega) _).grown hgrowa (by simp; omega) (fun q hq => (World.ownsRow.lt HO2.out q hq).1))
            have HOa := Lib.hid hOa
            clear hLa hOa howna hgrowa HCLa
            go_wp2
            go_roundw
            case rel => exact ⟨k + 1, m + 1, capa, Aa, false, by omega, by go_num, rfl, rfl, by omega, by rw [HST.out.1]; show (_ ++ [x]).length = _; exact (congrArg List.length HLLa.out).symm.trans HLNa.out, by rw [HST.out.2]; rfl, by rw [HST.out.1]; have := HOa.out; rw [HLLa.out] at this; exact this, HWa.out⟩
            case measure => simp [intOf]; omega
          · have hBb := HW2.out.size
            have HCLb : Hid (∀ j v, (encB f)[j]? = some v → w2.cell? ((⟨w.heap.size, 0, none⟩ : Addr).add j) = some v) := fun j v hv => by rw [Addr.add_lit, Nat.zero_add]; exact (HW2.out.cell (p := ⟨w.heap.size, j, none⟩) (Nat.lt_succ_self _)).trans (HC0.out j v hv)
            go_wp2_with (first
              | (refine wpList_load_at rfl 37 (.tmp 3) rfl ⟨w.heap.size, 0, none⟩ rfl (encB f) 33 (HA2.out _) (HZ2.out _) (encB_length f) HCLb.out ?_)
              | (refine wpList_lit_one rfl 27 37 (.tmp 33) rfl (encB f) 33 rfl i0 _ Tryd.underlying27 hi hz0 hz1 (encB_length f) (by decide) (by decide) ?_)
              | (at_builtin; refine wpList_append_own _ rfl _ _ 27 rfl (w.heap.size + 1) 37 i0 (.agg (encB (List.replicate 32 0, [])).toArray) 33 48 Tryd.underlying27 hi hz0 hz1 hz2 (by simp [Value.cells, encB_length]) (by decide) _ (m) ((L).flatMap encB) rfl ?c0b ⟨w2.heap.size, 0, none⟩ 1 1 (encB f) rfl (by rw [encB_length]) ?c1b (encB_one f) ?c3b ?c4b ?c5b ?_))
            case c0b => have := HO2.out.alloc (.cells (encB f).toArray 37); unfold OwnsK at this; rw [HLN.out] at this; exact this
            case c3b => simp only [maxLen]; omega
            case c4b => omega
            case c5b => simp; omega
            · intro j u hj
              rw [Addr.add_lit, Nat.zero_add]
              exact ((Sh.Row.new_at w2 _ _ _ rfl rfl).cell j).trans hj
            intro vb wb hownb hgrowb _
            have hOb := OwnsK.appended HLN.out hownb
            obtain ⟨Lb, hLb⟩ : ∃ Q, Q = L ++ [f] := ⟨_, rfl⟩
            rw [← hLb] at hOb
            have HLNb : Hid (Lb.length = m + 1) := by show _ = _; rw [hLb, List.length_append, HLN.out]; rfl
            have HLLb := Lib.hid hLb
            obtain ⟨Ab, capb, e⟩ := hOb.form
            rw [HLNb.out] at e
            subst e
            have HWb := Lib.hid ((HW2.out.alloc (by omega) _).grown hgrowb (by simp; omega) (fun q hq => (World.ownsRow.lt HO2.out q hq).1))
            have HOb := Lib.hid hOb
            clear hLb hOb hownb hgrowb HCLb
            have hBc := HWb.out.size
            have HCLc : Hid (∀ j v, (encB x)[j]? = some v → wb.cell? ((⟨b1, o1 + k * 33, none⟩ : Addr).add j) = some v) := fun j v hv => by rw [Addr.add_lit]; have := KRow.part (i := 0) (m := 33) (HX0.out.below HWb.out (by omega)) HXK.out rfl j v (by rw [List.drop_zero, List.take_of_length_le (by rw [encB_length]; exact Nat.le_refl _)]; exact hv); rwa [Nat.add_zero] at this
            go_wp2_with (first
              | (refine wpList_load_at rfl 37 (.tmp 39) rfl ⟨b1, o1 + k * 33, none⟩ rfl (encB x) 33 (HA2.out _) (HZ2.out _) (encB_length x) HCLc.out ?_)
              | (refine wpList_lit_one rfl 27 37 (.tmp 40) rfl (encB x) 33 rfl i0 _ Tryd.underlying27 hi hz0 hz1 (encB_length x) (by decide) (by decide) ?_)
              | (at_builtin; refine wpList_append_own _ rfl _ _ 27 rfl (w.heap.size + 1) 37 i0 (.agg (encB (List.replicate 32 0, [])).toArray) 33 48 Tryd.underlying27 hi hz0 hz1 hz2 (by simp [Value.cells, encB_length]) (by decide) _ ((m + 1)) ((Lb).flatMap encB) rfl ?c0c ⟨wb.heap.size, 0, none⟩ 1 1 (encB x) rfl (by rw [encB_length]) ?c1c (encB_one x) ?c3c ?c4c ?c5c ?_))
            case c0c => have := HOb.out.alloc (.cells (encB x).toArray 37); unfold OwnsK at this; rw [HLNb.out] at this; exact this
            case c3c => simp only [maxLen]; omega
            case c4c => omega
            case c5c => simp; omega
            · intro j u hj
              rw [Addr.add_lit, Nat.zero_add]
              exact ((Sh.Row.new_at wb _ _ _ rfl rfl).cell j).trans hj
            intro vc wc hownc hgrowc _
            have hOc := OwnsK.appended HLNb.out hownc
            obtain ⟨Lc, hLc⟩ : ∃ Q, Q = Lb ++ [x] := ⟨_, rfl⟩
            rw [← hLc] at hOc
            have HLNc : Hid (Lc.length = (m + 1) + 1) := by show _ = _; rw [hLc, List.length_append, HLNb.out]; rfl
            have HLLc := Lib.hid hLc
            obtain ⟨Ac, capc, e⟩ := hOc.form
            rw [HLNc.out] at e
            subst e
            have HWc := Lib.hid ((HWb.out.alloc (by omega) _).grown hgrowc (by simp; omega) (fun q hq => (World.ownsRow.lt HOb.out q hq).1))
            have HOc := Lib.hid hOc
            clear hLc hOc hownc hgrowc HCLc
            have HLLd : Hid (Lc = (L ++ [f]) ++ [x]) := by show _ = _; rw [HLLc.out, HLLb.out]
            clear HLLc
            have HLLc := HLLd
            go_wp2
            go_roundw
            case rel => exact ⟨k + 1, m + 1 + 1, capc, Ac, true, by omega, by go_num, rfl, rfl, by omega, by rw [HST.out.1]; show (_ ++ [x]).length = _; exact (congrArg List.length HLLc.out).symm.trans HLNc.out, by rw [HST.out.2]; rfl, by rw [HST.out.1]; have := HOc.out; rw [HLLc.out] at this; exact this, HWc.out⟩
            case measure => simp [intOf]; omega
        · have HST := Lib.hid (insRun_one (c := decide (f.1 < x.1)) HXK.out HL.out HDN.out rfl)
          go_wp2
          go_big_quiet (fail)
          obtain ⟨w2, hw2⟩ : ∃ W, W = wr.drewN nq := ⟨_, rfl⟩
          rw [← hw2]
          have HO1 : Hid (OwnsB w2 (w.heap.size + 1) (.slice A' m cp) L) := by rw [hw2]; exact HO.out.drewN _
          have HW1 : Hid (Below (w.heap.size + 1) w0 w2) := by rw [hw2]; exact Sh.below_drewN HB.out _
          clear hw2
          have hBd := HW1.out.size
          have HCLd : Hid (∀ j v, (encB x)[j]? = some v → w2.cell? ((⟨b1, o1 + k * 33, none⟩ : Addr).add j) = some v) := fun j v hv => by rw [Addr.add_lit]; have := KRow.part (i := 0) (m := 33) (HX0.out.below HW1.out (by omega)) HXK.out rfl j v (by rw [List.drop_zero, List.take_of_length_le (by rw [encB_length]; exact Nat.le_refl _)]; exact hv); rwa [Nat.add_zero] at this
          go_wp2_with (first
            | (refine wpList_load_at rfl 37 (.tmp 39) rfl ⟨b1, o1 + k * 33, none⟩ rfl (encB x) 33 (HA2.out _) (HZ2.out _) (encB_length x) HCLd.out ?_)
            | (refine wpList_lit_one rfl 27 37 (.tmp 40) rfl (encB x) 33 rfl i0 _ Tryd.underlying27 hi hz0 hz1 (encB_length x) (by decide) (by decide) ?_)
            | (at_builtin; refine wpList_append_own _ rfl _ _ 27 rfl (w.heap.size + 1) 37 i0 (.agg (encB (List.replicate 32 0, [])).toArray) 33 48 Tryd.underlying27 hi hz0 hz1 hz2 (by simp [Value.cells, encB_length]) (by decide) _ (m) ((L).flatMap encB) rfl ?c0d ⟨w2.heap.size, 0, none⟩ 1 1 (encB x) rfl (by rw [encB_length]) ?c1d (encB_one x) ?c3d ?c4d ?c5d ?_))
          case c0d => have := HO1.out.alloc (.cells (encB x).toArray 37); unfold OwnsK at this; rw [HLN.out] at this; exact this
          case c3d => simp only [maxLen]; omega
          case c4d => omega
          case c5d => simp; omega
          · intro j u hj
            rw [Addr.add_lit, Nat.zero_add]
            exact ((Sh.Row.new_at w2 _ _ _ rfl rfl).cell j).trans hj
          intro vd wd hownd hgrowd _
          have hOd := OwnsK.appended HLN.out hownd
          obtain ⟨Ld, hLd⟩ : ∃ Q, Q = L ++ [x] := ⟨_, rfl⟩
          rw [← hLd] at hOd
          have HLNd : Hid (Ld.length = m + 1) := by show _ = _; rw [hLd, List.length_append, HLN.out]; rfl
          have HLLd := Lib.hid hLd
          obtain ⟨Ad, capd, e⟩ := hOd.form
          rw [HLNd.out] at e
          subst e
          have HWd := Lib.hid ((HW1.out.alloc (by omega) _).grown hgrowd (by simp; omega) (fun q hq => (World.ownsRow.lt HO1.out q hq).1))
          have HOd := Lib.hid hOd
          clear hLd hOd hownd hgrowd HCLd
          go_wp2
          go_roundw
          case rel => exact ⟨k + 1, m + 1, capd, Ad, true, by omega, by go_num, rfl, rfl, by omega, by rw [HST.out.1]; show (_ ++ [x]).length = _; exact (congrArg List.length HLLd.out).symm.trans HLNd.out, by rw [HST.out.2]; rfl, by rw [HST.out.1]; have := HOd.out; rw [HLLd.out] at this; exact this, HWd.out⟩
          case measure => simp [intOf]; omega
      · obtain rfl : k = n := by omega
        rw [List.take_of_length_le (by rw [HN.out]; omega)] at HL HDN
        cases b
        · have HV : Hid (putV l f = L ++ [f]) := by show _ = _; rw [HPV.out]; unfold insV; rw [HDN.out, HL.out]; rfl
          have hBe := HB.out.size
          have HCLe : Hid (∀ j v, (encB f)[j]? = some v → wr.cell? ((⟨w.heap.size, 0, none⟩ : Addr).add j) = some v) := fun j v hv => by rw [Addr.add_lit, Nat.zero_add]; exact (HB.out.cell (p := ⟨w.heap.size, j, none⟩) (Nat.lt_succ_self _)).trans (HC0.out j v hv)
          go_wp2_with (first
            | (refine wpList_load_at rfl 37 (.tmp 3) rfl ⟨w.heap.size, 0, none⟩ rfl (encB f) 33 (HA2.out _) (HZ2.out _) (encB_length f) HCLe.out ?_)
            | (refine wpList_lit_one rfl 27 37 (.tmp 46) rfl (encB f) 33 rfl i0 _ Tryd.underlying27 hi hz0 hz1 (encB_length f) (by decide) (by decide) ?_)
            | (at_builtin; refine wpList_append_own _ rfl _ _ 27 rfl (w.heap.size + 1) 37 i0 (.agg (encB (List.replicate 32 0, [])).toArray) 33 48 Tryd.underlying27 hi hz0 hz1 hz2 (by simp [Value.cells, encB_length]) (by decide) _ (m) ((L).flatMap encB) rfl ?c0e ⟨wr.heap.size, 0, none⟩ 1 1 (encB f) rfl (by rw [encB_length]) ?c1e (encB_one f) ?c3e ?c4e ?c5e ?_))
          case c0e => have := HO.out.alloc (.cells (encB f).toArray 37); unfold OwnsK at this; rw [HLN.out] at this; exact this
          case c3e => simp only [maxLen]; omega
          case c4e => omega
          case c5e => simp; omega
          · intro j u hj
            rw [Addr.add_lit, Nat.zero_add]
            exact ((Sh.Row.new_at wr _ _ _ rfl rfl).cell j).trans hj
          intro ve we howne hgrowe _
          have hOe := OwnsK.appended HLN.out howne
          obtain ⟨Le, hLe⟩ : ∃ Q, Q = L ++ [f] := ⟨_, rfl⟩
          rw [← hLe] at hOe
          have HLNe : Hid (Le.length = m + 1) := by show _ = _; rw [hLe, List.length_append, HLN.out]; rfl
          have HLLe := Lib.hid hLe
          obtain ⟨Ae, cape, e⟩ := hOe.form
          rw [HLNe.out] at e
          subst e
          have HWe := Lib.hid ((HB.out.alloc (by omega) _).grown hgrowe (by simp; omega) (fun q hq => (World.ownsRow.lt HO.out q hq).1))
          have HOe := Lib.hid hOe
          clear hLe hOe howne hgrowe HCLe
          have HWE : Hid (Below w.heap.size w we) := HB0.out.trans (HWe.out.mono (by omega))
          go_wp2
          go_ret
          exact ⟨Ae, m + 1, cape, rfl, by rw [HV.out, ← HLLe.out]; exact HLNe.out, by rw [HV.out, ← HLLe.out]; exact HOe.out.row encB_length, HWE.out, .inr fun p hp => ⟨by have := (own_low HOe.out p hp).1; omega, (own_low HOe.out p hp).2⟩⟩
        · have HV : Hid (putV l f = L) := by show _ = _; rw [HPV.out]; unfold insV; rw [HDN.out, HL.out]; rfl
          have HWE : Hid (Below w.heap.size w wr) := HB0.out.trans (HB.out.mono (by omega))
          go_wp2
          go_ret
          exact ⟨A', m, cp, rfl, by rw [HV.out]; exact HLN.out, by rw [HV.out]; exact HO.out.row encB_length, HWE.out, .inr fun p hp => ⟨by have := (own_low HO.out p hp).1; omega, (own_low HO.out p hp).2⟩⟩
  · have HPV : Hid (putV l f = l) := by show _ = _; unfold putV; rw [hg]; rfl
    have hqn : q < l.length := (List.getElem?_eq_some_iff.1 hq).1
    rw [HN.out] at hqn
    clear hg hb1 hq
    go_wp2
    go_ret
    refine ⟨A, n, cap, rfl, by rw [HPV.out]; exact HN.out, ?_, HB1w.out, .inl rfl⟩
    rw [HPV.out]
    exact ((HX0.out.below HB1.out (by omega)).more (by have := HB1w.out.size; omega))
end Bl
end Go.Proofs.YtiilmgbobjagkaaDoor
