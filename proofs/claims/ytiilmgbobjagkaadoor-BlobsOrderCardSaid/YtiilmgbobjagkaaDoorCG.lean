/-
  Layer 6 (blobs): the library's iterator over the keys of a map keyed by digests.
-/
import Derived.Test.YtiilmgbobjagkaaDoorCF
import Derived.Test.YtiilmgbobjagkaaDoorKS
import Derived.RangeFuncNested
import Derived.RangeFuncBound
import Derived.RangeFuncCalls
import Derived.RangeFuncLeaves
import Derived.Shelf.Abstract
import Derived.Shelf.RegionOpen
import Derived.Sort.MapsRangeIn
import Derived.TacticsInMore
import Derived.LoopNIn
import Derived.LoopIn
namespace Go.Proofs.YtiilmgbobjagkaaDoor
namespace Bl
open Go.RowKit Go.Shelf Kr Go.Maps
attribute [local go_sem] Oper.semAt_some

/-- What the iterator yields: digests. -/
abbrev Dig := { d : Bs // d.length = 32 }
def dgl (xs : List Dig) : List Bs := xs.map (·.1)
theorem dgl_snoc (xs : List Dig) (x : Dig) : dgl (xs ++ [x]) = dgl xs ++ [x.1] := by simp [dgl]
theorem dgl_len (xs : List Dig) : (dgl xs).length = xs.length := by simp [dgl]
theorem keys_any (mb : Option Nat) (w : World) :
    Calls Tryd.prog 29 #[.map mb] w fun e w' => e = .returned (.func (.func 35) #[] #[.pointer (some ⟨w.heap.size, 0, none⟩)]) ∧ w.alloc (.cells #[.map mb] 53) = w' := by
  go_enter Tryd.func29, Tryd.ntmps29
  go_wp2
  go_ret
  exact ⟨rfl, rfl⟩
theorem turn_grown {w w' : World} {t : TypeId} {cs : Array Value} (h : Sh.Turn w.heap.size (w.alloc (.cells cs t)) w') : w.grownBy w' none :=
  ⟨h.1, h.2.1, h.2.2.1, by rw [h.2.2.2.1]; simp, fun k hk _ => (h.2.2.2.2 k (Nat.ne_of_lt hk)).trans (Below.heap_alloc _ _ _ hk)⟩

set_option maxRecDepth 100000 in
set_option maxHeartbeats 4000000 in
theorem keys_stops (n : Nat) (hn : 3 ≤ n) (Bm m : Nat) (D : DataW Unit) (l : List Bb) (w : World) (hBm : Bm < w.heap.size) (hm : w.cell? ⟨Bm, 0, none⟩ = some (.map (some m)))
    (hown : w.ownsMap Tryd.prog 29 (plainElem Tryd.prog 9) m l.length D) (h4 : MapOf D l) (hr : Rise l) :
    SeqStopsK Fence.wide n Tryd.prog 35 #[.pointer (some ⟨Bm, 0, none⟩)] (fun x : Dig => #[dv x.1]) KeepsWalks
      (fun ss => (dgl ss).Perm (l.map (·.1))) (fun _ => True) l.length w := fun L J Jx W hW hJ hJx hY h0 => by
  have hown' : W.ownsMap Tryd.prog 29 (plainElem Tryd.prog 9) m l.length D := by
    have hbl := hown.lt
    obtain ⟨es, clock, hb, Ft, hs, hD⟩ := hown
    exact ⟨es, clock, (hW.block m hbl).trans hb, Ft, hs, hD⟩
  have hc : W.cell? ⟨Bm, 0, none⟩ = some (.map (some m)) := (hW.cell (p := ⟨Bm, 0, none⟩) hBm).trans hm
  have HO := Lib.hid hown'
  have HY := Lib.hid hY
  have HJ := Lib.hid hJ
  have H4 := Lib.hid h4
  have HR := Lib.hid hr
  clear hY hJ hown hown' h4 hr hm
  refine callsIn_of_wp Tryd.func35 rfl trivial ?_ rfl
  simp only [Tryd.ntmps35, List.size_toArray, List.length_cons, List.length_nil, Nat.reduceAdd, Nat.reduceSub, Array.replicate_succ, Array.replicate_zero, List.push_toArray, List.append_toArray, List.nil_append, List.cons_append]
  gi_wp2_with (first
    | (gi_at_range; refine wpListIn_range_own _ rfl _ 53 rfl 29 9 digKeyed map_und _ m l.length D rfl HO.out ?_; intro w0 hrg0 hg0 hs0)
    | gi_in)
  try go_frame
  have HRG0 := Lib.hid hrg0
  have HJ0 : Hid (J [] w0) := HJ.out [] W w0 none h0 hg0 (fun r e => by cases e)
  clear hrg0 hg0 hs0
  gi_loopw [3] (fun _ wr => ∃ (left : Lit → Bool) (cnt : Nat) (ss : List Dig), Hid (wr.ranges Tryd.prog 29 (plainElem Tryd.prog 9) m W.heap.size l.length D left cnt) ∧ Hid (ss.length + cnt ≤ l.length) ∧ Hid (Collected D left (dgl ss)) ∧ Hid (J ss wr))
    (fun _ wr => wr.rangeLeft m W.heap.size)
  case atStart => exact ⟨_, _, [], HRG0, by show _ ≤ _; rw [H4.out.2.2]; simp, Collected.start D, HJ0⟩
  case round =>
    obtain ⟨left, cnt, ss, HRG, HCS, HC, HJS⟩ := hrel
    gi_wp2_with (first
      | (gi_at_next; refine wpListIn_next_ranges _ rfl _ rfl 29 digKeyed (plainElem Tryd.prog 9) dv Value.string (fun key kl hk => by obtain ⟨d, _, hx, _⟩ := key_inv hk; exact ⟨d, hx⟩) (fun v y hv => by obtain ⟨s, hx, _⟩ := plain_string_inv str_und hv; exact ⟨s, hx⟩) m W.heap.size l.length D left cnt rfl HRG.out ?_ ?_)
      | gi_in)
    · intro hc0 hl0
      have HE : Hid ((dgl ss).Perm (l.map (·.1))) := met_perm H4.out HR.out HC.out hl0
      clear hl0
      gi_wp2
      go_end0
      exact ⟨⟨_, rfl⟩, .inl ⟨ss, HE.out, HJS.out⟩⟩
    · intro x c kl yd yp w2 cnt2 hkey hlk hv hat hrg2 hlt hg2 hs2 hen
      obtain ⟨d, hd, hx, rfl⟩ := key_inv hkey
      have hxd : x = d := by
        injection hx with hx
        exact bvals_one_to_one (Array.toList_inj.2 hx)
      subst hxd
      have HC2 : Hid (Collected D (fun z => left z && !z.sameKey (.string x)) (dgl (ss ++ [⟨x, hd⟩]))) := by
        show Collected _ _ _
        rw [dgl_snoc]
        exact HC.out.step hlk hat
      have HJ2 : Hid (J ss w2) := HJ.out ss wr w2 (some W.heap.size) HJS.out hg2 (fun r e => by cases e; exact ⟨Nat.le_refl _, HRG.out.iter_walk⟩)
      have HRG2 := Lib.hid hrg2
      have HMS : Hid (cnt2 < cnt) := hlt
      have HXL : Hid ((Sh.bvals x).length = 32) := by show _ = _; rw [Sh.bvals_length, hd]
      have hlen : ss.length < l.length := by have := HCS.out; omega
      clear hkey hlk hv hat hrg2 hg2 hs2 hx hlt
      gi_wp2_with (refine Kr.wpListIn_store_all rfl 29 (.tmp 3) (.tmp 9) rfl w2.heap.size (Sh.bvals x) rfl rfl 29 (Sh.bvals (List.replicate 32 0)) (zero_row w2) ?s1 ?s2 (Sh.bvals_one _) ?_)
      case s1 => rw [HXL.out]; kernel_rfl
      case s2 => rw [HXL.out, Sh.bvals_length, List.length_replicate]
      intro w3 HX3 HT3
      have HG3 : Hid (w2.grownBy w3 none) := turn_grown HT3.out
      have HJ3 : Hid (J ss w3) := HJ.out ss w2 w3 none HJ2.out HG3.out (fun r e => by cases e)
      have HRG3 := Lib.hid (HRG2.out.kept HG3.out (by simp) (by simp))
      clear HT3 HJ2
      obtain ⟨fn, tmps, assign, body, hy, hRd⟩ := HY.out ss ⟨x, hd⟩ w3 HJ3.out hlen
      dsimp only at hy
      gi_wp2_with (refine Kr.wpListIn_load_at rfl 29 (.tmp 3) rfl ⟨w2.heap.size, 0, none⟩ rfl (Sh.bvals x) 32 (digest_agg _) (digest_size _) HXL.out (row_cells HX3.out) ?_)
      refine ⟨fun _ => by omega, hRd.mono ?_⟩
      rintro e w4 (⟨rfl, hJ4, hk4⟩ | ⟨rfl, hJx4⟩)
      · have HRG4 := Lib.hid (HRG3.out.of_walks hk4)
        clear hk4
        gi_wp2
        go_roundw
        case rel =>
          refine ⟨_, cnt2, ss ++ [⟨x, hd⟩], HRG4, ?_, HC2, Lib.hid hJ4⟩
          have h1 := HCS.out
          have h2 := HMS.out
          show _ ≤ _
          rw [List.length_append, List.length_singleton]
          omega
        case measure => rw [HRG4.out.left_eq, HRG.out.left_eq]; exact HMS.out
      · gi_wp2
        refine bodyPost_ret (results_none rfl _ _ _) rfl ?_
        exact ⟨⟨_, rfl⟩, .inr ⟨ss ++ [⟨x, hd⟩], trivial, hJx4⟩⟩
end Bl
end Go.Proofs.YtiilmgbobjagkaaDoor
