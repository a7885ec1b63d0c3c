/-
  Layer 2 (sha): the walk of ending.
-/
import Derived.Test.YtiilmgbobjagkaaDoorSF
namespace Go.Proofs.YtiilmgbobjagkaaDoor
namespace Sh
open Go.RowKit

theorem byteInfo : (Tryd.prog.info? 5).map (fun i => (i.zero, i.size, i.bytes)) = some (some (.int .u8 0), 1, 1) := by kernel_rfl

theorem byte_val (n e : Nat) : (n : Int) * 8 / 2 ^ e % 256 = ((UInt8.ofNat (n * 8 / 2 ^ e)).toNat : Int) := by
  rw [UInt8.toNat_ofNat']
  simp

set_option maxRecDepth 100000 in
set_option maxHeartbeats 2000000 in
theorem ending_any (n : Nat) (w : World) (hn : n ≤ 1000000) :
    Calls Tryd.prog 32 #[.int .u64 (n : Int)] w fun e w' => e = .returned (.string ⟨(tail n).toArray⟩) ∧ Below w.heap.size w w' := by
  obtain ⟨i0, hi, hz0, hz1, hz2⟩ := info_parts byteInfo
  have hz : padZ n ≤ 63 := by unfold padZ; omega
  have HZ : Hid (padZ n = 63 - (n + 8) % 64) := rfl
  go_enter Tryd.func32, Tryd.ntmps32
  go_wp2_with (at_make; refine wpList_make_sl _ rfl (.tmp 11) (.tmp 14) 47 rfl 5 i0 (.int .u8 0) Tryd.underlying47 hi hz0 hz1 (by rw [hz2]; decide) rfl w.heap.size .u64 .u64 _ _ (1 + padZ n) (9 + padZ n) rfl rfl ?m1 ?m2 (by omega) (by omega) (Nat.le_refl _) ?_)
  case m1 => rw [HZ.out]; omega
  case m2 => rw [HZ.out]; omega
  intro w1 HS1 HB1
  have hc0 := HS1.out.at_ 0 (by simp; omega)
  have hf0 := HS1.out.2.2.2.2.2.1 0 (by omega)
  have hs2 : Sl (w1.setCell ⟨w.heap.size, 0, none⟩ (.int .u8 128)) w.heap.size w.heap.size (9 + padZ n) (bvals (pad n ++ lenB n 0)) := by
    have h := HS1.out.set 0 (.int .u8 128)
    have e : (List.replicate (1 + padZ n) (Value.int .u8 0)).set 0 (.int .u8 128) = bvals (pad n ++ lenB n 0) := by
      rw [show 1 + padZ n = padZ n + 1 by omega, List.replicate_succ, List.set_cons_zero]
      simp [bvals, pad, lenB]
    rw [e] at h
    exact h
  have hb2 : Below w.heap.size w (w1.setCell ⟨w.heap.size, 0, none⟩ (.int .u8 128)) := HB1.out.setCell (by simp) _
  have HS2 := Lib.hid hs2
  have HB2 := Lib.hid hb2
  clear hs2 hb2 HS1 HB1
  go_wp2
  go_loopw [4, 18] (fun v i wr => ∃ (k g cap : Nat), k ≤ 8 ∧ i = .int .i64 k ∧ v = .slice (some ⟨g, 0, none⟩) (1 + padZ n + k) cap ∧ Hid (Sl wr w.heap.size g cap (bvals (pad n ++ lenB n k))) ∧ Hid (Below w.heap.size w wr)) (fun _ i _ => 8 - (intOf i).toNat)
  case atStart => exact ⟨0, _, _, by omega, rfl, rfl, HS2, HB2⟩
  case round =>
    obtain ⟨k, g, cap, hk, rfl, rfl, HS, HB⟩ := hrel
    by_cases hlt : k < 8
    · have hki : (k : Int) < 8 := by omega
      have hlen : (bvals (pad n ++ lenB n k)).length = 1 + padZ n + k := by rw [bvals_length, List.length_append, pad_length, lenB_length]
      have hls := lenB_succ n k
      have hbv := byte_val n (56 - k * 8)
      generalize UInt8.ofNat (n * 8 / 2 ^ (56 - k * 8)) = c at hls hbv
      have HLN := Lib.hid hlen
      have HLS := Lib.hid hls
      have HBV := Lib.hid hbv
      clear hlen hls hbv
      go_wp2_with (at_builtin; refine wpList_append_sl _ rfl (.tmp 21) (.tmp 29) 47 rfl 5 i0 (.int .u8 0) 1 Tryd.underlying47 hi hz0 hz1 hz2 rfl (by decide) w.heap.size g cap (1 + padZ n + k) _ rfl HLN.out (HS.out.alloc _) ⟨wr.heap.size, 0, none⟩ 1 1 [.int .u8 (c.toNat : Int)] rfl rfl ?c1 ?c2 (by decide) (by omega) ?_)
      case c1 =>
        rintro (_ | j) u hj
        · simp only [List.getElem?_cons_zero, Option.some.injEq] at hj
          subst hj
          rw [← HBV.out]
          simp [Addr.add]
        · simp at hj
      case c2 => intro u hu; obtain rfl := List.mem_singleton.1 hu; rfl
      intro g' cap' w2 HS2' HG2 _
      have hs3 : Sl w2 w.heap.size g' cap' (bvals (pad n ++ lenB n (k + 1))) := by
        rw [HLS.out, ← List.append_assoc, bvals_append (pad n ++ lenB n k)]
        exact HS2'.out
      have hb3 : Below w.heap.size w w2 := (HB.out.alloc HB.out.size _).grown HG2.out (by have := HB.out.size; simp; omega) (fun k' hk' => by injection hk' with hk'; subst hk'; exact HS.out.1)
      have HS3 := Lib.hid hs3
      have HB3 := Lib.hid hb3
      clear hs3 hb3 HS2' HG2
      go_wp2
      go_roundw
      case rel => exact ⟨k + 1, g', cap', by omega, by go_num, rfl, HS3, HB3⟩
      case measure => simp [intOf]; omega
    · have hk8 : k = 8 := by omega
      subst hk8
      have hcv : ∀ W : World, W = wr → (convert 47 9 (.slice (some ⟨g, 0, none⟩) (1 + padZ n + 8) cap)).run Tryd.prog W = .ok (.string ⟨(tail n).toArray⟩) W := by
        rintro W rfl
        have h := run_convert_bytes_back (P := Tryd.prog) W 47 9 5 ⟨g, 0, none⟩ cap (tail n) Tryd.underlying47 Tryd.underlying5 Tryd.underlying9 (fun j hj => by
          rw [show (⟨g, 0, none⟩ : Addr).add j = ⟨g, j, none⟩ by unfold Addr.add; split <;> simp_all]
          refine HS.out.2.2.2.2.2.2 j _ ?_
          show (bvals (tail n))[j]? = _
          rw [bvals_get _ _ hj, List.getD_eq_getElem?_getD, List.getElem?_eq_getElem hj]; rfl)
        rw [tail_length, show 9 + padZ n = 1 + padZ n + 8 by omega] at h
        exact h
      have hcv' := hcv wr rfl
      clear hcv
      go_wp2
      go_ret
      exact ⟨rfl, HB.out⟩
end Sh
end Go.Proofs.YtiilmgbobjagkaaDoor
