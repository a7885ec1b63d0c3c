/-
  Layer 4 (globs): what strings.SplitSeq yields at a stroke: the parts, one by one.
-/
import Derived.Test.YtffmnobcdhgfdaaDoorGH
namespace Go.Proofs.YtffmnobcdhgfdaaDoor
namespace Gl
open Go.RowKit Go.Shelf Pt
attribute [local go_sem] Oper.semAt_some

theorem splitSeq_any (s : ByteArray) (w : World) :
    Calls Tryd.prog 24 #[.string s, .string ⟨#[47]⟩] w fun e w' => e = .returned (.func (.func 61) #[] #[.pointer (some ⟨w.heap.size + 1, 0, none⟩), .pointer (some ⟨w.heap.size, 0, none⟩), .pointer (some ⟨w.heap.size + 1 + 1, 0, none⟩)]) ∧ ((w.alloc (.cells #[.string s] 9)).alloc (.cells #[.string ⟨#[47]⟩] 9)).alloc (.cells #[.int .i64 0] 3) = w' := by
  go_enter Tryd.func24, Tryd.ntmps24
  go_wp2
  go_ret
  exact ⟨rfl, rfl⟩

set_option maxRecDepth 100000 in
set_option maxHeartbeats 4000000 in
theorem seq_parts (n : Nat) (hn : 3 ≤ n) (Bs : Nat) (s : ByteArray) (hs : s.size ≤ 100000) (w : World) (hBl : Bs + 1 + 1 < w.heap.size)
    (h0 : w.cell? ⟨Bs, 0, none⟩ = some (.string s)) (h0f : w.frozen? ⟨Bs, 0, none⟩ = false) (h1 : w.cell? ⟨Bs + 1, 0, none⟩ = some (.string ⟨#[47]⟩)) (h2 : w.cell? ⟨Bs + 1 + 1, 0, none⟩ = some (.int .i64 0)) :
    SeqC n 61 #[.pointer (some ⟨Bs + 1, 0, none⟩), .pointer (some ⟨Bs, 0, none⟩), .pointer (some ⟨Bs + 1 + 1, 0, none⟩)] Bs
      (fun xs => pcl xs = parts s.data.toList) (fun pre => pcl pre <+: parts s.data.toList) (parts s.data.toList).length w := fun l J Jx W hW hJ hJx hY hJ0 => by
  have k0 : W.cell? ⟨Bs, 0, none⟩ = some (.string s) := later_cell h0 hW
  have k0f : W.frozen? ⟨Bs, 0, none⟩ = false := later_frozen h0 h0f hW
  have k1 : W.cell? ⟨Bs + 1, 0, none⟩ = some (.string ⟨#[47]⟩) := later_cell h1 hW
  have k2 : W.cell? ⟨Bs + 1 + 1, 0, none⟩ = some (.int .i64 0) := later_cell h2 hW
  have HY := Lib.hid hY
  have HJ := Lib.hid hJ
  clear hY hJ h0 h0f h1 h2 hW
  refine callsIn_of_wp Tryd.func61 rfl trivial ?_ rfl
  simp only [Tryd.ntmps61, List.size_toArray, List.length_cons, List.length_nil, Nat.reduceAdd, Nat.reduceSub, Array.replicate_succ, Array.replicate_zero, List.push_toArray, List.append_toArray, List.nil_append, List.cons_append]
  gi_wp2
  gi_loopw [7] (fun _ wr => ∃ (pre : List Pc) (R : ByteArray), wr.cell? ⟨Bs, 0, none⟩ = some (.string R) ∧ wr.frozen? ⟨Bs, 0, none⟩ = false ∧ wr.cell? ⟨Bs + 1, 0, none⟩ = some (.string ⟨#[47]⟩) ∧ wr.cell? ⟨Bs + 1 + 1, 0, none⟩ = some (.int .i64 0) ∧ R.size ≤ 100000 ∧ Hid (pcl pre ++ parts R.data.toList = parts s.data.toList) ∧ J pre wr)
    (fun _ wr => match wr.cell? ⟨Bs, 0, none⟩ with | some (.string R) => R.size | _ => 0)
  case atStart => exact ⟨[], s, k0, k0f, k1, k2, hs, rfl, hJ0⟩
  case round =>
    obtain ⟨pre, R, c0, f0, c1, c2, hR, HP, hj⟩ := hrel
    clear k0 k0f k1 k2 hJ0
    have hidx := Tryd.strings_Index_one R 47
    rcases first_stroke R.data.toList with hno | ⟨a, b, hno, he⟩
    · rw [idx_no _ hno] at hidx
      have HI := Lib.hid hidx
      have hpp := HP.out
      rw [parts_one _ hno] at hpp
      have HPP := Lib.hid hpp
      clear hidx hno hpp HP
      have hlen : pre.length < (parts s.data.toList).length := by rw [← HPP.out, List.length_append, pcl_len]; simp
      obtain ⟨fn, tmps, assign, body, hy, hRd⟩ := HY.out pre ⟨R, hR⟩ wr hj hlen
      dsimp only at hy
      clear hlen
      gi_wp2_with fail
      refine ⟨trivial, fun _ => by omega, (callsIn_wide.2 (HI.out _)).mono ?_⟩
      rintro e w' ⟨rfl, rfl⟩
      gi_wp2
      refine ⟨fun _ => by omega, hRd.mono ?_⟩
      rintro e W3 (⟨rfl, hJ3, -⟩ | ⟨rfl, hJx3⟩)
      · gi_wp2
        go_end0
        exact ⟨⟨_, rfl⟩, .inl ⟨pre ++ [⟨R, hR⟩], by rw [pcl_snoc]; exact HPP.out, hJ3⟩⟩
      · gi_wp2
        go_end0
        exact ⟨⟨_, rfl⟩, .inr ⟨pre ++ [⟨R, hR⟩], by rw [pcl_snoc, HPP.out]; exact List.prefix_refl _, hJx3⟩⟩
    · have hl : a.length + 1 ≤ R.size := by rw [← data_length, he, List.length_append, List.length_cons]; omega
      rw [he, idx_at _ _ hno] at hidx
      have hpp := HP.out
      rw [he, parts_first a b hno] at hpp
      have hA : (R.extract 0 a.length).data.toList = a := by rw [ext_front, he, List.take_left]
      have hAs : (R.extract 0 a.length).size ≤ 100000 := by rw [ByteArray.size_extract]; omega
      have hB : (R.extract (a.length + 1) R.size).data.toList = b := by rw [ext_rest, he, ← List.drop_drop, List.drop_left]; rfl
      have hBs : (R.extract (a.length + 1) R.size).size < R.size := by rw [ByteArray.size_extract]; omega
      have HI := Lib.hid hidx
      have HPP := Lib.hid hpp
      have HA := Lib.hid hA
      have HB := Lib.hid hB
      have hlen : pre.length < (parts s.data.toList).length := by rw [← HPP.out, List.length_append, pcl_len]; simp
      clear hidx hpp HP hno he hA hB
      generalize a.length = q at *
      have hq1 : (0 : Int) ≤ q := by omega
      have hq2 : (q : Int) + 1 ≤ R.size := by omega
      obtain ⟨fn, tmps, assign, body, hy, hRd⟩ := HY.out pre ⟨R.extract 0 q, hAs⟩ wr hj hlen
      dsimp only at hy
      clear hlen
      gi_wp2_with fail
      refine ⟨trivial, fun _ => by omega, (callsIn_wide.2 (HI.out _)).mono ?_⟩
      rintro e w' ⟨rfl, rfl⟩
      gi_wp2
      refine ⟨fun _ => by omega, hRd.mono ?_⟩
      rintro e W3 (⟨rfl, hJ3, hb3⟩ | ⟨rfl, hJx3⟩)
      · have d0 : W3.cell? ⟨Bs, 0, none⟩ = some (.string R) := (hb3.cell (p := ⟨Bs, 0, none⟩) (by show Bs < _; omega)).trans c0
        have d0f : W3.frozen? ⟨Bs, 0, none⟩ = false := (hb3.frozen (p := ⟨Bs, 0, none⟩) (by show Bs < _; omega)).trans f0
        have d1 : W3.cell? ⟨Bs + 1, 0, none⟩ = some (.string ⟨#[47]⟩) := (hb3.cell (p := ⟨Bs + 1, 0, none⟩) (by show Bs + 1 < _; omega)).trans c1
        have d2 : W3.cell? ⟨Bs + 1 + 1, 0, none⟩ = some (.int .i64 0) := (hb3.cell (p := ⟨Bs + 1 + 1, 0, none⟩) (by show Bs + 1 + 1 < _; omega)).trans c2
        have hj4 := HJ.out _ W3 _ (some Bs) hJ3 (grown_set W3 Bs 0 (.string (R.extract (q + 1) R.size))) (fun r e => by cases e; exact .inl rfl)
        have g0 := World.cell?_setCell_same' W3 ⟨Bs, 0, none⟩ (.string (R.extract (q + 1) R.size)) (by rw [d0]; rfl)
        have g1 : (W3.setCell ⟨Bs, 0, none⟩ (.string (R.extract (q + 1) R.size))).cell? ⟨Bs + 1, 0, none⟩ = _ := (World.cell?_setCell_other _ _ _ _ (fun e => by injection e with e; omega)).trans d1
        have g2 : (W3.setCell ⟨Bs, 0, none⟩ (.string (R.extract (q + 1) R.size))).cell? ⟨Bs + 1 + 1, 0, none⟩ = _ := (World.cell?_setCell_other _ _ _ _ (fun e => by injection e with e; omega)).trans d2
        have G0 := Lib.hid g0
        have G1 := Lib.hid g1
        have G2 := Lib.hid g2
        have C0 := Lib.hid c0
        clear g0 g1 g2 hb3 hJ3 c0 f0 c1 c2 hy hRd
        gi_wp2
        go_roundw
        case rel => exact ⟨pre ++ [⟨R.extract 0 q, hAs⟩], R.extract (q + 1) R.size, G0.out, by rw [World.frozen?_setCell]; exact d0f, G1.out, G2.out, by omega, by show _ = _; rw [pcl_snoc, HA.out, HB.out, List.append_assoc]; exact HPP.out, hj4⟩
        case measure => rw [G0.out, C0.out]; exact hBs
      · gi_wp2
        refine bodyPost_ret (results_none rfl _ _ _) rfl ?_
        exact ⟨⟨_, rfl⟩, .inr ⟨pre ++ [⟨R.extract 0 q, hAs⟩], by rw [pcl_snoc, HA.out, ← HPP.out]; exact ⟨parts b, by simp⟩, hJx3⟩⟩
end Gl
end Go.Proofs.YtffmnobcdhgfdaaDoor
