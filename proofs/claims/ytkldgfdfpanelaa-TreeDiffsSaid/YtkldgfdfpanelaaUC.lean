/-
  Layer 5 (tree): the walks of slices.Clone, of without, and of Drop.
-/
import Derived.Test.YtkldgfdfpanelaaUB
import Derived.Test.YtkldgfdfpanelaaUD
namespace Go.Proofs.Ytkldgfdfpanelaa
namespace Tr
open Go.RowKit Go.ChangeShapes Pt

theorem cellsF_one (t : List Fl) : ∀ u ∈ cellsF t, u.oneCell' = true := by
  induction t with
  | nil => intro u hu; cases hu
  | cons f t ih =>
    intro u hu
    simp only [cellsF, List.mem_cons] at hu
    rcases hu with rfl | rfl | hu
    · rfl
    · rfl
    · exact ih u hu
theorem FRow.cells {w : World} {B : Nat} {a : Addr} {t : List Fl} (h : FRow w B (some a) t) : ∀ j u, (cellsF t)[j]? = some u → w.cell? (a.add j) = some u := by
  intro j u hu
  have hj := (List.getElem?_eq_some_iff.1 hu).1
  rw [cellsF_length] at hj
  have hi : j / 2 < t.length := by omega
  have hx : t[j / 2]? = some (t[j / 2]'hi) := List.getElem?_eq_getElem _
  generalize t[j / 2]'hi = x at hx
  obtain ⟨b, o, s, d, e, _, hs, hd, c1, c2⟩ := h (j / 2) x hx
  injection e with e
  subst e
  obtain ⟨a1, a2⟩ := cellsF_at t (j / 2) x hx
  rw [Addr.add_lit]
  have : j = j / 2 * 2 ∨ j = j / 2 * 2 + 1 := by omega
  rcases this with h1 | h1
  · rw [h1] at hu
    rw [hu] at a1
    injection a1 with a1
    rw [h1, c1, a1, ← hs, ← SV_str]
  · rw [h1] at hu
    rw [hu] at a2
    injection a2 with a2
    rw [h1, ← Nat.add_assoc, c2, a2, ← hd, ← SV_str]

set_option maxRecDepth 100000 in
set_option maxHeartbeats 2000000 in
theorem clone_any (A : Option Addr) (cap B n : Nat) (t : List Fl) (w : World) (hn : t.length = n) (hnm : n ≤ 100000) (hx : FRow w B A t) :
    Calls Try.prog 40 #[.slice A n cap] w fun e w' => ∃ A' cap', e = .returned (.slice A' n cap') ∧ OwnsF w' w.heap.size (.slice A' n cap') t ∧ Below w.heap.size w w' := by
  obtain ⟨i0, hi, hz0, hz1, hz2⟩ := info_parts fileInfo
  cases A with
  | none =>
    have h0 : t = [] := by
      cases t with
      | nil => rfl
      | cons f t => obtain ⟨b, o, s, d, e, _⟩ := hx 0 f rfl; cases e
    subst h0
    obtain rfl : n = 0 := hn.symm
    have hnil := Lib.run_eql_slice_nil (P := Try.prog) w 22 29 none 0 cap 0 0 Try.underlying22
    clear hx hn
    go_enter Try.func40, Try.ntmps40
    go_wp2
    go_ret
    exact ⟨none, 0, rfl, OwnsF.nil _ _, Below.refl _ _⟩
  | some a =>
    have HX := Lib.hid hx.cells
    have HN := Lib.hid hn
    have ho0 : OwnsF (w.alloc (.cells #[] 29)) w.heap.size (.slice (some ⟨w.heap.size, 0, none⟩) 0 0) [] :=
      World.ownsRow_lit (base := w.heap.size) (e := 29) (size := 2) w #[] 0 (Nat.le_refl _) (by decide) rfl
    have HO0 := Lib.hid ho0
    have HB0 : Hid (Below w.heap.size w (w.alloc (.cells #[] 29))) := (Below.refl _ _).alloc (Nat.le_refl _) _
    have hnil := Lib.run_eql_slice_nil (P := Try.prog) w 22 29 (some a) n cap 0 0 Try.underlying22
    clear hx hn ho0
    go_enter Try.func40, Try.ntmps40
    go_wp2_with (at_builtin; refine wpList_append_own _ rfl _ _ 22 rfl (w.heap.size) 29 i0 (.agg #[.string ⟨#[]⟩, .string ⟨#[]⟩]) 2 32 Try.underlying22 hi hz0 hz1 hz2 rfl (by decide) _ 0 (cellsF []) rfl ?c0a a n cap (cellsF t) rfl ?c1l ?c1a ?c2a ?c3a ?c4a ?c5a ?_)
    case c0a => exact HO0.out
    case c1l => rw [cellsF_length, HN.out]
    case c1a => exact fun j u hu => (World.cell?_alloc_lt w _ _ (World.block_lt_of_cell? w _ (HX.out j u hu))).trans (HX.out j u hu)
    case c2a => exact cellsF_one t
    case c3a => simp only [maxLen]; omega
    case c4a => omega
    case c5a => simp
    intro v' w2 hown' hgrow _
    have HO2 : Hid (OwnsF w2 w.heap.size v' t) := by
      show OwnsF _ _ _ _
      unfold OwnsF
      rw [HN.out]; exact hown'
    obtain ⟨A2, cap2, hv⟩ := OwnsF.form HO2.out
    rw [HN.out] at hv
    subst hv
    have HW2 := Lib.hid (HB0.out.grown hgrow (by simp) (fun q hq => (HO0.out.lt q hq).1))
    clear hown' hgrow
    go_wp2
    go_ret
    exact ⟨A2, cap2, rfl, HO2.out, HW2.out⟩

set_option maxRecDepth 100000 in
set_option maxHeartbeats 2000000 in
theorem pwithout (c B : Nat) (q : ByteArray) (w : World) (hc : w.cell? ⟨c, 0, none⟩ = some (.string q)) (hcB : c < B) : Pred 41 c (isPath q.data.toList) B w := by
  intro W s d hW
  have hcW := (hW.cell (p := ⟨c, 0, none⟩) hcB).trans hc
  have hcl : c < W.heap.size := World.block_lt_of_cell? W _ hcW
  have he : (s.toList == q.toList) = isPath q.data.toList (s.data.toList, d.data.toList) := by rw [ByteArray.toList_eq, ByteArray.toList_eq]; exact beqB _ _
  have HB0 : Hid (Below W.heap.size W (W.alloc (.cells #[.string s, .string d] 29))) := (Below.refl _ _).alloc (Nat.le_refl _) _
  obtain ⟨b, hb⟩ : ∃ b, isPath q.data.toList (s.data.toList, d.data.toList) = b := ⟨_, rfl⟩
  rw [hb] at he ⊢
  have hcW2 : (W.alloc (.cells #[.string s, .string d] 29)).cell? ⟨c, 0, none⟩ = some (.string q) := (World.cell?_alloc_lt W _ _ hcl).trans hcW
  clear hb hW hc
  go_enter Try.func41, Try.ntmps41
  go_wp2
  go_ret
  exact ⟨rfl, HB0.out⟩

/-- Files without those of a path. -/
def outV (t : List Fl) (q : Bs) : List Fl := t.filter (fun x => !isPath q x)
theorem outV_drop (t : List Fl) (q : Bs) : outV t q = t.filter (fun x => decide (x.1 ≠ q)) := by
  unfold outV isPath
  congr 1
  funext x
  by_cases h : x.1 = q <;> simp [h]
/-- What a call that answers files, in a row of its own or none, leaves. -/
def AnsO (w : World) (t : List Fl) (e : Ending) (w' : World) : Prop :=
  ∃ A m cap, e = .returned (.slice A m cap) ∧ t.length = m ∧ OwnsF w' w.heap.size (.slice A m cap) t ∧ Below w.heap.size w w'
theorem AnsO.got {w w' : World} {l : List Fl} {e : Ending} (h : AnsO w l e w') : GotF w l e w' := by
  obtain ⟨A, m, cap, h1, h2, h3, h4⟩ := h
  exact ⟨A, m, cap, h1, h2, h3.row, h4⟩

set_option maxRecDepth 100000 in
set_option maxHeartbeats 2000000 in
theorem without_any (A : Option Addr) (cap B n : Nat) (t : List Fl) (p : ByteArray) (w : World) (hn : t.length = n) (hnm : n ≤ 100000) (hx : FRow w B A t) (hB : B ≤ w.heap.size) :
    Calls Try.prog 28 #[.slice A n cap, .string p] w (AnsO w (outV t p.data.toList)) := by
  obtain ⟨w0, hw0⟩ : ∃ w0, w0 = w.alloc (.cells #[.string p] 9) := ⟨_, rfl⟩
  have hs0 : w0.heap.size = w.heap.size + 1 := by rw [hw0]; simp
  have HB0 : Hid (Below w.heap.size w w0) := by rw [hw0]; exact (Below.refl _ _).alloc (Nat.le_refl _) _
  have HX0 : Hid (FRow w0 w.heap.size A t) := by rw [hw0]; exact (hx.more hB).alloc (Nat.le_refl _) _
  have hc0 : w0.cell? ⟨w.heap.size, 0, none⟩ = some (.string p) := by rw [hw0]; simp
  have HP := Lib.hid (pwithout w.heap.size w0.heap.size p w0 hc0 (by omega))
  have HCL := Lib.hid (clone_any A cap w.heap.size n t w0 hn hnm HX0.out)
  have HD := Lib.hid (fun A' cap' W (hp : Pred 41 w.heap.size (isPath p.data.toList) w0.heap.size W) (ho : OwnsF W w0.heap.size (.slice A' n cap') t) (hW : w0.heap.size ≤ W.heap.size) => deletef_any 41 w.heap.size (enters_of Try.func41 (by kernel_rfl) rfl) (isPath p.data.toList) A' cap' w0.heap.size n t W hp hn hnm ho hW)
  clear hx hn hc0
  go_enter Try.func28, Try.ntmps28
  go_wp2_with fail
  rw [← hw0]
  clear hw0
  refine HCL.out.mono ?_
  rintro e w1 ⟨A1, cap1, rfl, ho1, hb1⟩
  have HD1 := Lib.hid (HD.out A1 cap1 w1 (HP.out.at hb1) ho1 hb1.size)
  have HB1 := Lib.hid (HB0.out.trans (hb1.mono (by omega)))
  clear ho1 hb1
  go_wp2_with fail
  refine HD1.out.mono ?_
  rintro e w2 ⟨m, rfl, hm, ho2, hb2⟩
  have HO2 := Lib.hid (ho2.less (b' := w.heap.size) (by omega))
  have HB2 := Lib.hid (HB1.out.trans (hb2.mono (by omega)))
  have HM := Lib.hid hm
  clear ho2 hb2 hm
  go_wp2_with fail
  go_ret
  exact ⟨A1, m, cap1, rfl, HM.out, HO2.out, HB2.out⟩

set_option maxRecDepth 100000 in
set_option maxHeartbeats 2000000 in
theorem drop_any : PDrop := by
  intro A cap n t p w hn hf hx hp
  have hnl : n ≤ 1000 := by rw [← hn]; exact hf.1
  obtain ⟨b, hb⟩ : ∃ b, decide (tcheck t = 0) = b := ⟨_, rfl⟩
  have HT := Lib.hid (istree_any A cap n t b w hb hn hf hx)
  have HX := Lib.hid hx
  cases b
  · have HV : Hid (dropV t p.data.toList = []) := by
      show _ = _
      unfold dropV; rw [if_neg (of_decide_eq_false hb)]
    clear hx hn hf hb
    go_enter Try.func13, Try.ntmps13
    go_wp2_with fail
    refine HT.out.mono ?_
    rintro e w1 ⟨rfl, hb1⟩
    have HB1 := Lib.hid hb1
    clear hb1
    go_wp2_with fail
    go_ret
    refine AnsO.got ?_
    rw [HV.out]
    exact ⟨none, 0, 0, rfl, rfl, OwnsF.nil _ _, HB1.out⟩
  · have HV : Hid (dropV t p.data.toList = outV t p.data.toList) := by
      show _ = _
      rw [outV_drop]
      unfold dropV; rw [if_pos (of_decide_eq_true hb)]
    have HW := Lib.hid (fun W (h : FRow W w.heap.size A t) (hW : w.heap.size ≤ W.heap.size) => without_any A cap w.heap.size n t p W hn (by omega) h hW)
    clear hx hn hf hb
    go_enter Try.func13, Try.ntmps13
    go_wp2_with fail
    refine HT.out.mono ?_
    rintro e w1 ⟨rfl, hb1⟩
    have HB1 := Lib.hid hb1
    clear hb1
    go_wp2_with fail
    refine (HW.out w1 (HX.out.below HB1.out (Nat.le_refl _)) HB1.out.size).mono ?_
    rintro e w2 ⟨A2, m, cap2, rfl, hm, ho2, hb2⟩
    have HO2 := Lib.hid (ho2.less (b' := w.heap.size) HB1.out.size)
    have HB2 := Lib.hid (HB1.out.trans (hb2.mono HB1.out.size))
    have HM := Lib.hid hm
    clear ho2 hb2 hm
    go_wp2_with fail
    go_ret
    refine AnsO.got ?_
    rw [HV.out]
    exact ⟨A2, m, cap2, rfl, HM.out, HO2.out, HB2.out⟩
end Tr
end Go.Proofs.Ytkldgfdfpanelaa
