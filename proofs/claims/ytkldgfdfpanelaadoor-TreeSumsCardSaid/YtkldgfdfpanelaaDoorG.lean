/-
  Layer 3 (path): the walk of components, and of what it yields: a range over a function.
-/
import Derived.RangeFuncNested
import Derived.RangeFuncBound
import Derived.RangeFuncCalls
import Derived.RangeFuncLeaves
import Derived.Shelf.Abstract
import Derived.Shelf.RegionOpen
import Derived.OwnWalkIn
import Derived.TacticsInMore
import Derived.LoopNIn
import Derived.LoopIn
import Derived.Test.YtkldgfdfpanelaaDoorF
namespace Go.Proofs.YtkldgfdfpanelaaDoor
namespace Pt
open Go.RowKit Go.Shelf
attribute [local go_sem] Oper.semAt_some

/-- What components yields: strings that are no longer than those that came. -/
abbrev Pc := { x : ByteArray // x.size ≤ 100000 }
def pcl (xs : List Pc) : List Bs := xs.map fun x => x.1.data.toList
theorem pcl_snoc (xs : List Pc) (x : Pc) : pcl (xs ++ [x]) = pcl xs ++ [x.1.data.toList] := by simp [pcl]
theorem pcl_len (xs : List Pc) : (pcl xs).length = xs.length := by simp [pcl]
theorem grown_drewN (w : World) (n : Nat) (row : Option Nat) : w.grownBy (w.drewN n) row := ⟨rfl, rfl, rfl, Nat.le_refl _, fun _ _ _ => rfl⟩

theorem comps_any (s : ByteArray) (w : World) :
    Calls Tryd.prog 51 #[.string s] w fun e w' => e = .returned (.func (.func 57) #[] #[.pointer (some ⟨w.heap.size, 0, none⟩)]) ∧ w.alloc (.cells #[.string s] 9) = w' := by
  go_enter Tryd.func51, Tryd.ntmps51
  go_wp2
  go_ret
  exact ⟨rfl, rfl⟩

/-- A text that has a stroke. -/
theorem first_stroke (l : Bs) : (47 : UInt8) ∉ l ∨ ∃ a b, (47 : UInt8) ∉ a ∧ l = a ++ 47 :: b := by
  induction l with
  | nil => exact .inl (by simp)
  | cons c l ih =>
    by_cases h : c = 47
    · exact .inr ⟨[], l, by simp, by rw [h]; rfl⟩
    · rcases ih with h1 | ⟨a, b, h1, h2⟩
      · refine .inl fun hm => ?_
        rcases List.mem_cons.1 hm with e | hm
        · exact h e.symm
        · exact h1 hm
      · refine .inr ⟨c :: a, b, fun hm => ?_, by rw [h2]; rfl⟩
        rcases List.mem_cons.1 hm with e | hm
        · exact h e.symm
        · exact h1 hm
theorem parts_first (a b : Bs) (h : (47 : UInt8) ∉ a) : parts (a ++ 47 :: b) = a :: parts b := by rw [parts_mid, parts_one a h]; rfl

set_option maxRecDepth 100000 in
set_option maxHeartbeats 2000000 in
theorem comps_stops (n : Nat) (hn : 3 ≤ n) (Bn : Nat) (s : ByteArray) (hs : s.size ≤ 100000) (w : World) (hBl : Bn < w.heap.size) (hBn : w.cell? ⟨Bn, 0, none⟩ = some (.string s)) :
    SeqStopsK Fence.wide n Tryd.prog 57 #[.pointer (some ⟨Bn, 0, none⟩)] (fun x : Pc => #[.string x.1]) (fun _ _ => True)
      (fun xs => pcl xs = parts s.data.toList) (fun pre => pcl pre <+: parts s.data.toList) (parts s.data.toList).length w := fun l J Jx W hW hJ hJx hY h0 => by
  have hc : W.cell? ⟨Bn, 0, none⟩ = some (.string s) := (hW.cell (p := ⟨Bn, 0, none⟩) hBl).trans hBn
  have HY := Lib.hid hY
  have HJ := Lib.hid hJ
  clear hY hJ
  refine callsIn_of_wp Tryd.func57 rfl trivial ?_ rfl
  simp only [Tryd.ntmps57, List.size_toArray, List.length_cons, List.length_nil, Nat.reduceAdd, Nat.reduceSub, Array.replicate_succ, Array.replicate_zero, List.push_toArray, List.append_toArray, List.nil_append, List.cons_append]
  gi_wp2
  gi_loopw [3, 4] (fun r m wr => ∃ (pre : List Pc) (R : ByteArray) (b : Bool), r = .string R ∧ m = .bool b ∧ R.size ≤ 100000 ∧ Hid (b = true → pcl pre ++ parts R.data.toList = parts s.data.toList) ∧ Hid (b = false → pcl pre = parts s.data.toList) ∧ J pre wr)
    (fun r m _ => match m with | .bool true => (match r with | .string R => R.size + 1 | _ => 0) | _ => 0)
  case atStart => exact ⟨[], s, true, rfl, rfl, hs, fun _ => rfl, fun h => (by cases h), h0⟩
  case round =>
    obtain ⟨pre, R, b, rfl, rfl, hR, HT, HF, hj⟩ := hrel
    cases b
    · have HE := Lib.hid (HF.out rfl)
      gi_wp2
      go_end0
      exact ⟨⟨_, rfl⟩, .inl ⟨pre, HE.out, hj⟩⟩
    · have hpp := HT.out rfl
      rcases first_stroke R.data.toList with hno | ⟨a, b, hno, he⟩
      · have HC := Lib.hid (fun W => cut_no R hno W)
        rw [parts_one _ hno] at hpp
        have HP := Lib.hid hpp
        clear hpp hno
        gi_wp2_with fail
        refine ⟨trivial, fun _ => by omega, (callsIn_wide.2 (HC.out _)).mono ?_⟩
        rintro e w' ⟨rfl, q, rfl⟩
        have hlen : pre.length < (parts s.data.toList).length := by rw [← HP.out, List.length_append, pcl_len]; simp
        obtain ⟨fn, tmps, assign, body, hy, hRd⟩ := HY.out pre ⟨R, hR⟩ (wr.drewN q) (HJ.out pre wr _ none hj (grown_drewN _ _ _) (fun r e => by cases e)) hlen
        dsimp only at hy
        clear hlen
        gi_wp2
        refine ⟨fun _ => by omega, hRd.mono ?_⟩
        rintro e W3 (⟨rfl, hJ3, -⟩ | ⟨rfl, hJx3⟩)
        · gi_wp2
          go_roundw
          case rel => exact ⟨pre ++ [⟨R, hR⟩], ⟨#[]⟩, false, rfl, rfl, by decide, fun h => (by cases h), fun _ => by rw [pcl_snoc]; exact HP.out, hJ3⟩
          case measure => simp
        · gi_wp2
          refine bodyPost_ret (results_none rfl _ _ _) rfl ?_
          exact ⟨⟨_, rfl⟩, .inr ⟨pre ++ [⟨R, hR⟩], by rw [pcl_snoc, HP.out]; exact List.prefix_refl _, hJx3⟩⟩
      · have hl : a.length + 1 ≤ R.size := by rw [← data_length, he, List.length_append, List.length_cons]; omega
        have HC := Lib.hid (fun W => cut_yes R a b (by omega) hno he W)
        rw [he, parts_first a b hno] at hpp
        have hA : (R.extract 0 a.length).data.toList = a := by rw [ext_front, he, List.take_left]
        have hAs : (R.extract 0 a.length).size ≤ 100000 := by rw [ByteArray.size_extract]; omega
        have hB : (R.extract (a.length + 1) R.size).data.toList = b := by rw [ext_rest, he, ← List.drop_drop, List.drop_left]; rfl
        have hBs : (R.extract (a.length + 1) R.size).size < R.size := by rw [ByteArray.size_extract]; omega
        generalize R.extract 0 a.length = A at hA hAs HC
        generalize R.extract (a.length + 1) R.size = B at hB hBs HC
        have HP := Lib.hid hpp
        have HA := Lib.hid hA
        have HB := Lib.hid hB
        clear hpp hno he hl hA hB
        gi_wp2_with fail
        refine ⟨trivial, fun _ => by omega, (callsIn_wide.2 (HC.out _)).mono ?_⟩
        rintro e w' ⟨rfl, q, rfl⟩
        have hlen : pre.length < (parts s.data.toList).length := by rw [← HP.out, List.length_append, pcl_len]; simp
        obtain ⟨fn, tmps, assign, body, hy, hRd⟩ := HY.out pre ⟨A, hAs⟩ (wr.drewN q) (HJ.out pre wr _ none hj (grown_drewN _ _ _) (fun r e => by cases e)) hlen
        dsimp only at hy
        clear hlen
        gi_wp2
        refine ⟨fun _ => by omega, hRd.mono ?_⟩
        rintro e W3 (⟨rfl, hJ3, -⟩ | ⟨rfl, hJx3⟩)
        · gi_wp2
          go_roundw
          case rel => exact ⟨pre ++ [⟨A, hAs⟩], B, true, rfl, rfl, by omega, fun _ => by rw [pcl_snoc, HA.out, HB.out, List.append_assoc]; exact HP.out, fun h => (by cases h), hJ3⟩
          case measure => simp; omega
        · gi_wp2
          refine bodyPost_ret (results_none rfl _ _ _) rfl ?_
          exact ⟨⟨_, rfl⟩, .inr ⟨pre ++ [⟨A, hAs⟩], by rw [pcl_snoc, HA.out, ← HP.out]; exact ⟨parts b, by simp⟩, hJx3⟩⟩
end Pt
end Go.Proofs.YtkldgfdfpanelaaDoor
