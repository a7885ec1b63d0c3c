/-
  Layer 6 (blobs): the library's AppendSeq and Collect over the keys of a map keyed by digests.
-/
import Derived.Test.YtiilmgbobjagkaaDoorCG
import Derived.Maps.AppendAt
import Derived.Great.BuildSlice
namespace Go.Proofs.YtiilmgbobjagkaaDoor
namespace Bl
open Go.RowKit Go.Shelf Kr Go.Maps
attribute [local go_sem] Oper.semAt_some

def encD (d : Bs) : List Value := Sh.bvals (fix32 d)
theorem encD_length (d : Bs) : (encD d).length = 32 := by unfold encD; rw [Sh.bvals_length, fix32_length]
theorem encD_id {d : Bs} (h : d.length = 32) : encD d = Sh.bvals d := by unfold encD; rw [fix32_id h]
theorem digInfo : (Tryd.prog.info? 29).map (fun i => (i.zero, i.size, i.bytes)) = some (some (.agg (Sh.bvals (List.replicate 32 0)).toArray), 32, 32) := by kernel_rfl
theorem digs_und : Tryd.prog.underlying 48 = some (.slice 29) := by kernel_rfl

set_option maxRecDepth 100000 in
set_option maxHeartbeats 8000000 in
theorem append_seq_any (Bm m : Nat) (D : DataW Unit) (l : List Bb) (w : World) (hBm : Bm < w.heap.size) (hm : w.cell? ⟨Bm, 0, none⟩ = some (.map (some m)))
    (hown : w.ownsMap Tryd.prog 29 (plainElem Tryd.prog 9) m l.length D) (h4 : MapOf D l) (hr : Rise l) (hl : l.length ≤ 100) :
    Calls Tryd.prog 39 #[.slice none 0 0, .func (.func 35) #[] #[.pointer (some ⟨Bm, 0, none⟩)]] w fun e w' =>
      ∃ v ss, e = .returned v ∧ ss.Perm (l.map (·.1)) ∧ OwnsK encD 32 29 w' w.heap.size v ss ∧ Below w.heap.size w w' := by
  refine (callsIn_wide (n := 9)).1 ?_
  refine callsIn_of_wp_marks Tryd.func39 rfl trivial ?_ rfl
  simp only [Tryd.ntmps39, List.size_toArray, List.length_cons, List.length_nil, Nat.reduceAdd, Nat.reduceSub, Array.replicate_succ, Array.replicate_zero, List.push_toArray, List.append_toArray, List.nil_append, List.cons_append]
  gi_wp2
  have bS := Boxed.new w 48 (.slice none 0 0)
  have hB0 : Below w.heap.size w (w.alloc (.cells #[.slice none 0 0] 48)) := (Below.refl _ w).alloc (Nat.le_refl _) _
  have hm0 : (w.alloc (.cells #[.slice none 0 0] 48)).cell? ⟨Bm, 0, none⟩ = some (.map (some m)) := (World.cell?_alloc_lt w _ _ hBm).trans hm
  have ho0 := hown.alloc (.cells #[.slice none 0 0] 48)
  have hsz : (w.alloc (.cells #[.slice none 0 0] 48)).heap.size = w.heap.size + 1 := by simp
  obtain ⟨W0, hW0⟩ : ∃ W0, w.alloc (.cells #[.slice none 0 0] 48) = W0 := ⟨_, rfl⟩
  rw [hW0] at bS hB0 hm0 ho0 hsz ⊢
  clear hW0
  have HST := Lib.hid (keys_stops 8 (by omega) Bm m D l W0 (by omega) hm0 ho0 h4 hr)
  clear hm0 ho0 hown h4
  refine wpIn_rangeFunc_ownH rfl (by omega) (gf := 35) (lb := #[.pointer (some ⟨Bm, 0, none⟩)]) rfl trivial (enters_of Tryd.func35 (by kernel_rfl) rfl)
    HST.out walksK_t walksK_b (Below.refl _ _) (fun _ => rfl)
    (fun pre W => (∃ v, Boxed W w.heap.size 48 v ∧ W.ownsRow w.heap.size 29 32 v (dgl pre).length ((dgl pre).flatMap encD) ∧ True) ∧ Below w.heap.size w W)
    (fun _ _ _ => False)
    (OwnFrom.and (Own.from (holdsRow_own w.heap.size w.heap.size 48 29 32 (fun pre => (dgl pre).length) (fun pre => (dgl pre).flatMap encD) (fun _ _ => True)) _) (ownFrom_below (Nat.le_refl _) (by omega)))
    (fun _ _ _ _ _ hs _ _ => hs)
    ⟨⟨_, bS, World.ownsRow_nil _ _ _ _, trivial⟩, hB0⟩
    (fun x a' W => ∃ Bx, w.heap.size < Bx ∧ Sh.Row W Bx 29 (Sh.bvals x.1) ∧ a' = { tmps := #[.slice none 0 0, .func (.func 35) #[] #[.pointer (some ⟨Bm, 0, none⟩)], .pointer (some ⟨w.heap.size, 0, none⟩), undef, .slice none 0 0, .pointer (some ⟨Bx, 0, none⟩), .func (.func 35) #[] #[.pointer (some ⟨Bm, 0, none⟩)], dv x.1, undef, undef, undef, undef, undef], defers := [] })
    (fun x a' _ X Y row hs hg hr => by
      obtain ⟨Bx, h1, h2, h3⟩ := hs
      refine ⟨Bx, h1, h2.grown hg (fun e => ?_), h3⟩
      obtain ⟨o, ho, hc⟩ := (hr Bx e.symm).2
      rw [show X.heap[Bx]? = _ from h2] at ho
      cases ho
      cases hc)
    ?assign ?body ?done ?stop
  case assign =>
    rintro L pre x W K ⟨⟨v, bV, hrow, _⟩, hB1⟩ hK
    have HXL : Hid ((Sh.bvals x.1).length = 32) := by show _ = _; rw [Sh.bvals_length, x.2]
    gi_wp2_with (refine Kr.wpListIn_store_all rfl 29 (.tmp 5) (.tmp 7) rfl W.heap.size (Sh.bvals x.1) rfl rfl 29 (Sh.bvals (List.replicate 32 0)) (zero_row W) ?s1 ?s2 (Sh.bvals_one _) ?_)
    case s1 => rw [HXL.out]; kernel_rfl
    case s2 => rw [HXL.out, Sh.bvals_length, List.length_replicate]
    intro w3 HX3 HT3
    have hg := turn_grown HT3.out
    have hko : KeepsOthers W w3 := KeepsOthers.of_grownBy hg (fun j o e => by cases e)
    gi_wp2
    exact hK _ _ (hko.from _) hko.walks ⟨⟨v, bV.kept hg (by simp), hrow.kept hg (Classical.em _), trivial⟩, hB1.grown hg hB1.size (fun k e => by cases e)⟩ ⟨W.heap.size, bV.lt, HX3.out, rfl⟩
  case body =>
    rintro L pre x a' W hLl ⟨rL, hrL⟩ ⟨⟨v, bV, hrow, _⟩, hB1⟩ ⟨Bx, hBx, hX, rfl⟩ hlt
    obtain ⟨i0, hi, hz0, hz1, hz2⟩ := info_parts digInfo
    have HXL : Hid ((Sh.bvals x.1).length = 32) := by show _ = _; rw [Sh.bvals_length, x.2]
    have HX := Lib.hid hX
    have HROW := Lib.hid hrow
    have HB1 := Lib.hid hB1
    have HBV := Lib.hid bV
    have hlp : (dgl pre).length ≤ 100 := by rw [dgl_len]; omega
    have cV := bV.cell
    have hWs := hB1.size
    clear hX hrow hB1 hrL
    gi_wp2_with (first
      | (refine Kr.wpListIn_load_at rfl 29 (.tmp 5) rfl ⟨Bx, 0, none⟩ rfl (Sh.bvals x.1) 32 (digest_agg _) (digest_size _) HXL.out (row_cells HX.out) ?_)
      | (refine Kr.wpListIn_lit_one rfl 48 29 (.tmp 9) rfl (Sh.bvals x.1) 32 rfl i0 _ digs_und hi hz0 hz1 HXL.out (by decide) (by decide) ?_)
      | (gi_at_builtin; refine wpListIn_append_own _ rfl _ _ 48 rfl w.heap.size 29 i0 (.agg (Sh.bvals (List.replicate 32 0)).toArray) 32 32 digs_und hi hz0 hz1 hz2 (by decide) (by decide) v (dgl pre).length ((dgl pre).flatMap encD) rfl (HROW.out.alloc _) ⟨W.heap.size, 0, none⟩ 1 1 (Sh.bvals x.1) rfl (by rw [HXL.out]) ?c1 ?c2 ?c3 ?c4 ?c5 ?_))
    case c1 =>
      intro j u hj
      rw [Addr.add_lit, Nat.zero_add]
      exact ((Sh.Row.new_at W _ _ _ rfl rfl).cell j).trans hj
    case c2 =>
      intro u hu
      have h1 := Sh.bvals_one x.1
      exact (Array.all_eq_true_iff_forall_mem.1 h1) u (by simpa using hu)
    case c3 => simp only [maxLen]; omega
    case c4 => omega
    case c5 => simp; omega
    intro v' w1 hown' hgrow _
    have hte : 48 ≠ 29 := by decide
    obtain ⟨g', cap', rfl⟩ := ownsRow_succ hown'
    obtain ⟨hv1, hv2, hr2, hk2, hb2⟩ := HBV.out.appended hte HROW.out HB1.out.size (Nat.le_refl _) hown' hgrow
    have hc1 := hv1.cell
    have hf1 := hv1.frozen
    have HV2 := Lib.hid hv2
    have HR2 := Lib.hid hr2
    have HK2 := Lib.hid hk2
    have HB2 := Lib.hid hb2
    clear hv1 hv2 hr2 hk2 hb2 hown' hgrow hte
    gi_wp2
    refine ⟨HK2.out.from _, HK2.out.walks, ⟨⟨_, HV2.out, ?_, trivial⟩, HB1.out.trans HB2.out⟩⟩
    have h2 := HR2.out
    rw [dgl_snoc, List.length_append, List.length_singleton, List.flatMap_append]
    rw [← encD_id x.2] at h2
    simpa using h2
  case done =>
    rintro Dd ys W hD hS ⟨⟨v, bV, hrow, _⟩, hB1⟩ hK
    have HROW := Lib.hid hrow
    have HB1 := Lib.hid hB1
    have HS := Lib.hid hS
    have cV := bV.cell
    clear hrow hB1 hS bV
    gi_wp2
    refine ⟨by simp, .inl ⟨_, _, rfl, run_takeDeferred hK, ?_⟩⟩
    refine ⟨_, results_tmp rfl _ _ _, v, dgl ys, rfl, HS.out, ownsRow_putObj HROW.out _ hK rfl, ?_⟩
    exact HB1.out.trans (belowK_b (w := w) (Nat.le_refl _) W Dd _ _ (by omega) hK rfl rfl)
  case stop =>
    rintro Dd c pre W _ _ h _
    exact h.elim
end Bl
end Go.Proofs.YtiilmgbobjagkaaDoor
