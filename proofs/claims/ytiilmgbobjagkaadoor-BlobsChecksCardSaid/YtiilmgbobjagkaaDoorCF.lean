/-
  Layer 6 (blobs): what is met of a map's entries; the program's Size.
-/
import Derived.Test.YtiilmgbobjagkaaDoorCE
import Derived.Maps.RangeWalk
import Derived.Sort.KeysCollected
namespace Go.Proofs.YtiilmgbobjagkaaDoor
namespace Bl
open Go.RowKit Kr Go.Maps

theorem bvals_one_to_one : ∀ {a b : Bs}, Sh.bvals a = Sh.bvals b → a = b
  | [], [], _ => rfl
  | [], _ :: _, h => by cases h
  | _ :: _, [], h => by cases h
  | x :: a, y :: b, h => by
    injection h with h1 h2
    injection h1 with _ h1
    rw [bvals_one_to_one h2, UInt8.toNat_inj.1 (by omega : x.toNat = y.toNat)]
def lenAt (l : List Bb) (d : Bs) : Nat := ((Bl.get l d).getD []).length
theorem met_perm {D : DataW Unit} {l : List Bb} {left : Lit → Bool} {ss : List Bs} (h : MapOf D l) (hr : Rise l) (hc : Collected D left ss) (hl : ∀ kl, left kl = false) : ss.Perm (l.map (·.1)) := by
  have hn : (l.map (·.1)).Nodup := List.pairwise_map.2 (hr.imp fun {a b} hab => ne_of hab)
  refine (List.perm_ext_iff_of_nodup hc.1 hn).2 fun x => ?_
  rw [hc.2 x, hl, h.1]
  constructor
  · rintro ⟨h1, _⟩
    obtain ⟨y, hy⟩ := Option.isSome_iff_exists.1 h1
    exact List.mem_map.2 ⟨(x, y), (get_some hr).1 hy, rfl⟩
  · intro hx
    obtain ⟨f, hf, rfl⟩ := List.mem_map.1 hx
    rw [(get_some hr (d := f.1) (x := f.2)).2 hf]
    exact ⟨rfl, rfl⟩
theorem met_sum {l : List Bb} {ss : List Bs} (hr : Rise l) (h : ss.Perm (l.map (·.1))) : (ss.map (lenAt l)).sum = sizeV l := by
  rw [(h.map (lenAt l)).sum_nat, List.map_map]
  unfold sizeV
  congr 1
  refine List.map_congr_left fun f hf => ?_
  show ((Bl.get l f.1).getD []).length = f.2.length
  rw [(get_some hr (d := f.1) (x := f.2)).2 hf]; rfl
theorem len_le {l : List Bb} (h : ∀ f ∈ l, f.2.length ≤ 1000) (d : Bs) : lenAt l d ≤ 1000 := by
  unfold lenAt
  cases hg : Bl.get l d with
  | none => simp
  | some y =>
    unfold Bl.get at hg
    obtain ⟨f, hf, rfl⟩ := Option.map_eq_some_iff.1 hg
    exact h f (List.mem_of_find?_eq_some hf)
theorem sum_le {l : List Bb} (h : ∀ f ∈ l, f.2.length ≤ 1000) : ∀ ss : List Bs, (ss.map (lenAt l)).sum ≤ 1000 * ss.length
  | [] => Nat.zero_le _
  | d :: ss => by
    have h1 := sum_le h ss
    have h2 := len_le h d
    rw [List.map_cons, List.sum_cons, List.length_cons]
    omega
theorem sum_snoc (l : List Bb) (ss : List Bs) (d : Bs) : ((ss ++ [d]).map (lenAt l)).sum = (ss.map (lenAt l)).sum + lenAt l d := by simp

set_option maxRecDepth 100000 in
set_option maxHeartbeats 4000000 in
theorem prog_size (w : World) (S : Nat → Prop) (b : Nat) (l : List Bb) (z : Nat) (h : Rs w S b l) (hf : Fits l) (hz : sizeV l = z) :
    Calls Tryd.prog 22 #[ptr b] w fun e w' => e = .returned (.int .i64 z) ∧ Below w.heap.size w w' := by
  obtain ⟨m, h1, h2, D, h3, h4⟩ := h
  have hcb := cell_of h2
  have HF := Lib.hid hf
  have H4 := Lib.hid h4
  have HZ := Lib.hid hz
  have HO := Lib.hid h3
  have HN : Hid (l.length ≤ 100) := hf.2.2.1
  clear h1 h2 h4 hf hz h3
  go_enter Tryd.func22, Tryd.ntmps22
  go_wp2_with (first | (at_range; refine wpList_range_own _ rfl _ 53 rfl 29 9 digKeyed map_und _ m l.length D rfl HO.out ?_; intro w0 hrg0 hg0 hs0) | go_in)
  go_frame
  have HG0 : Hid (Below w.heap.size w w0) := (Below.refl _ _).grown hg0 (Nat.le_refl _) (fun k e => by cases e)
  have HRG0 := Lib.hid hrg0
  clear hrg0 hg0 hs0
  go_loopw [3] (fun v wr => ∃ (left : Lit → Bool) (cnt q : Nat) (ss : List Bs), Hid (wr.ranges Tryd.prog 29 (plainElem Tryd.prog 9) m w.heap.size l.length D left cnt) ∧ Hid (ss.length + cnt ≤ l.length) ∧ Hid (Collected D left ss) ∧ v = .int .i64 q ∧ Hid ((ss.map (lenAt l)).sum = q) ∧ Hid (Below w.heap.size w wr))
    (fun _ wr => wr.rangeLeft m w.heap.size)
  case atStart => exact ⟨_, _, 0, [], HRG0, by show _ ≤ _; rw [H4.out.2.2]; simp, Collected.start D, rfl, rfl, HG0⟩
  case round =>
    obtain ⟨left, cnt, q, ss, HRG, HCS, HC, rfl, HQ, HB⟩ := hrel
    have hq : q ≤ 1000 * ss.length := by rw [← HQ.out]; exact sum_le HF.out.2.2.2 ss
    have hss : ss.length ≤ 100 := by have := HCS.out; have := HN.out; omega
    go_wp2_with (first
      | (at_next; refine wpList_next_ranges _ rfl _ rfl 29 digKeyed (plainElem Tryd.prog 9) dv Value.string (fun key kl hk => by obtain ⟨d, _, hx, _⟩ := key_inv hk; exact ⟨d, hx⟩) (fun v y hv => by obtain ⟨s, hx, _⟩ := plain_string_inv str_und hv; exact ⟨s, hx⟩) m w.heap.size l.length D left cnt rfl HRG.out ?_ ?_)
      | go_in)
    · intro hc0 hl0
      have HE : Hid (q = z) := by
        show _ = _
        rw [← HQ.out, ← HZ.out]
        exact met_sum HF.out.1 (met_perm H4.out HF.out.1 HC.out hl0)
      clear hl0
      go_wp2
      go_ret
      exact ⟨by rw [HE.out]; rfl, HB.out⟩
    · intro x c kl yd yp w2 cnt2 hkey hlk hv hat hrg2 hlt hg2 hs2 hen
      obtain ⟨d, hd, hx, rfl⟩ := key_inv hkey
      have hxd : x = d := by
        injection hx with hx
        exact bvals_one_to_one (Array.toList_inj.2 hx)
      subst hxd
      obtain ⟨s, hs, he⟩ := plain_string_inv str_und hv
      injection hs with hs
      subst hs
      injection he with he1 he2
      have HLN : Hid (c.size = lenAt l x) := by
        have h1 := hat (.lit (.string []))
        rw [H4.out.2.1 x, he1] at h1
        injection h1 with h1
        injection h1 with h1
        show c.size = _
        unfold lenAt
        rw [h1]; rfl
      have hcl : c.size ≤ 1000 := by rw [HLN.out]; exact len_le HF.out.2.2.2 x
      have HRG2 := Lib.hid hrg2
      have HC2 := Lib.hid (HC.out.step hlk hat)
      have HB2 : Hid (Below w.heap.size w w2) := HB.out.grown hg2 HB.out.size (fun k e => by injection e with e; omega)
      have HMS : Hid (w2.rangeLeft m w.heap.size < wr.rangeLeft m w.heap.size) := by rw [hrg2.left_eq, HRG.out.left_eq]; exact hlt
      have HCT := Lib.hid hlt
      clear hkey hlk hv hat hrg2 hg2 hs2 he1 he2 hx hlt
      go_wp2
      go_roundw
      case rel =>
        refine ⟨_, cnt2, q + c.size, ss ++ [x], HRG2, ?_, HC2, by go_num, ?_, HB2⟩
        · have h1 := HCS.out
          have h2 := HCT.out
          show _ ≤ _
          rw [List.length_append, List.length_singleton]
          omega
        · show _ = _
          rw [sum_snoc, HQ.out, ← HLN.out]
      case measure => exact HMS.out
end Bl
end Go.Proofs.YtiilmgbobjagkaaDoor
