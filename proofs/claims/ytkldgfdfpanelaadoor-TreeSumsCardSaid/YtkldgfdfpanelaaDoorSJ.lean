/-
  Layer 2 (sha): the document's answer: constants; a text, and what stands behind it.
-/
import Derived.Test.YtkldgfdfpanelaaDoorSI
import Derived.Great.BuildSlice
namespace Go.Proofs.YtkldgfdfpanelaaDoor
namespace Sh
open Go.RowKit

theorem wordInfo : (Tryd.prog.info? 44).map (fun i => (i.zero, i.size, i.bytes)) = some (some (.int .u32 0), 1, 4) := by kernel_rfl

section
variable {ops : Array Oper} {rest : List Oper} {o : Oper} {a : Act} {w : World} {Q : Exit → Act → World → Prop}
/-- append of one byte. -/
theorem append_byte (hgd : o.guard = none) (s x : Operand) (ho : o.op = .call { callee := .builtin .append, args := #[s, x], argTypes := #[50, 50] })
    (B g cap n : Nat) (L : Bs) (hs : a.eval s = .slice (some ⟨g, 0, none⟩) n cap) (hn : L.length = n) (hown : Sl w B g cap (bvals L))
    (b : Nat) (z : Int) (c : UInt8) (hz : z = (c.toNat : Int)) (hx : a.eval x = .slice (some ⟨b, 0, none⟩) 1 1) (hc : w.cell? ⟨b, 0, none⟩ = some (.int .u8 z)) (hlen : n + 1 ≤ 1000000000)
    (h : ∀ g' cap' w', Hid (Sl w' B g' cap' (bvals (L ++ [c]))) → Hid (w.grownBy w' (some g)) → wpList Tryd.prog ops Q rest (a.put o.dst (.slice (some ⟨g', 0, none⟩) (n + 1) cap')) w') : wpList Tryd.prog ops Q (o :: rest) a w := by
  obtain ⟨i0, hi, hz0, hz1, hz2⟩ := info_parts byteInfo
  subst hz
  refine wpList_append_sl _ hgd s x 50 ho 5 i0 (.int .u8 0) 1 Tryd.underlying50 hi hz0 hz1 hz2 rfl (by decide) B g cap n (bvals L) hs (by rw [bvals_length]; exact hn) hown ⟨b, 0, none⟩ 1 1 [.int .u8 (c.toNat : Int)] hx rfl ?_ ?_ (by decide) hlen ?_
  · rintro (_ | j) u hj
    · simp only [List.getElem?_cons_zero, Option.some.injEq] at hj
      subst hj
      exact hc
    · simp at hj
  · intro u hu; obtain rfl := List.mem_singleton.1 hu; rfl
  · intro g' cap' w' h1 h2 _
    exact h g' cap' w' (by rw [bvals_append]; exact h1) h2
/-- append of one word. -/
theorem append_word (hgd : o.guard = none) (s x : Operand) (ho : o.op = .call { callee := .builtin .append, args := #[s, x], argTypes := #[64, 64] })
    (B g cap n : Nat) (L : List W) (hs : a.eval s = .slice (some ⟨g, 0, none⟩) n cap) (hn : L.length = n) (hown : Sl w B g cap (vals L))
    (b : Nat) (z : Int) (c : W) (hz : z = (c.toNat : Int)) (hx : a.eval x = .slice (some ⟨b, 0, none⟩) 1 1) (hc : w.cell? ⟨b, 0, none⟩ = some (.int .u32 z)) (hlen : n + 1 ≤ 1000000000)
    (h : ∀ g' cap' w', Hid (Sl w' B g' cap' (vals (L ++ [c]))) → Hid (w.grownBy w' (some g)) → Hid (g' = g ∨ w.heap.size ≤ g') → wpList Tryd.prog ops Q rest (a.put o.dst (.slice (some ⟨g', 0, none⟩) (n + 1) cap')) w') : wpList Tryd.prog ops Q (o :: rest) a w := by
  obtain ⟨i0, hi, hz0, hz1, hz2⟩ := info_parts wordInfo
  subst hz
  refine wpList_append_sl _ hgd s x 64 ho 44 i0 (.int .u32 0) 4 Tryd.underlying64 hi hz0 hz1 hz2 rfl (by decide) B g cap n (vals L) hs (by rw [vals_length]; exact hn) hown ⟨b, 0, none⟩ 1 1 [.int .u32 (c.toNat : Int)] hx rfl ?_ ?_ (by decide) hlen ?_
  · rintro (_ | j) u hj
    · simp only [List.getElem?_cons_zero, Option.some.injEq] at hj
      subst hj
      exact hc
    · simp at hj
  · intro u hu; obtain rfl := List.mem_singleton.1 hu; rfl
  · intro g' cap' w' h1 h2 h3
    exact h g' cap' w' (by rw [vals_append]; exact h1) h2 h3
end

set_option maxRecDepth 100000 in
theorem ks_any (w : World) :
    Calls Tryd.prog 43 #[] w fun e w' => e = .returned (.slice (some ⟨w.heap.size, 0, none⟩) 64 64) ∧ Sl w' w.heap.size w.heap.size 64 (vals K) ∧ Below w.heap.size w w' := by
  go_enter Tryd.func43, Tryd.ntmps43
  go_wp2_with (refine wpList_buildFlat rfl 64 44 64 _ rfl .u32 (K.map fun x => (x.toNat : Int)) Tryd.underlying64 (by kernel_rfl) (by kernel_rfl) (by kernel_rfl) (by decide) (by decide) (by kernel_rfl) ?_)
  go_ret
  exact ⟨rfl, Sl.of_cells w _ _ (vals K) 64 (Nat.le_refl _) (by simp [vals]) rfl (by decide), (Below.refl _ _).alloc (Nat.le_refl _) _⟩

def slLen : Value → Nat | .slice _ n _ => n | _ => 0
theorem zero_step (n z : Nat) (h : z ≤ padZ n) (h2 : (n + 1 + z) % 64 = 56) : z = padZ n := by
  unfold padZ at *; omega
theorem zero_more (n z : Nat) (h : z ≤ padZ n) (h2 : ¬ (n + 1 + z) % 64 = 56) : z + 1 ≤ padZ n := by
  unfold padZ at *; omega

set_option maxRecDepth 100000 in
set_option maxHeartbeats 2000000 in
theorem whole_any (s : ByteArray) (w : World) (hl : s.size ≤ 100000) :
    Calls Tryd.prog 29 #[.string s] w fun e w' => ∃ g cap, e = .returned (.slice (some ⟨g, 0, none⟩) (s.size + 9 + padZ s.size) cap) ∧ Sl w' w.heap.size g cap (bvals (s.data.toList ++ tail s.size)) ∧ Below w.heap.size w w' := by
  go_enter Tryd.func29, Tryd.ntmps29
  go_wp2_with (refine wpList_bytes_sl _ rfl (.tmp 6) 9 50 5 rfl Tryd.underlying9 Tryd.underlying50 Tryd.underlying5 w.heap.size s rfl (Nat.le_refl _) (by omega) ?_)
  intro cap1 w1 HS1 HB1
  have hdl := data_length s
  have HDL := Lib.hid hdl
  clear hdl
  go_wp2_with (at_builtin; refine append_byte rfl (.tmp 8) (.tmp 9) rfl w.heap.size w.heap.size cap1 s.size s.data.toList rfl HDL.out (HS1.out.alloc _) w1.heap.size 128 128 rfl rfl (by simp) (by omega) ?_)
  intro g2 cap2 w2 HS2 HG2
  have hb2 : Below w.heap.size w w2 := (HB1.out.alloc HB1.out.size _).grown HG2.out (by have := HB1.out.size; simp; omega) (fun k hk => by injection hk with hk; omega)
  have HB2 := Lib.hid hb2
  clear hb2 HG2
  obtain ⟨n, hn⟩ : ∃ n, n = s.size := ⟨_, rfl⟩
  have HN := Lib.hid hn
  have hls := hl
  rw [← hn] at hl ⊢
  have hpz : padZ n ≤ 63 := by unfold padZ; omega
  clear hn HS1 HB1
  go_wp2
  go_loopw [3] (fun v wr => ∃ z g cap : Nat, z ≤ padZ n ∧ v = .slice (some ⟨g, 0, none⟩) (n + 1 + z) cap ∧ Hid (Sl wr w.heap.size g cap (bvals (s.data.toList ++ [128] ++ List.replicate z 0))) ∧ Hid (Below w.heap.size w wr)) (fun v _ => n + 1 + padZ n - slLen v)
  case atStart => exact ⟨0, _, _, Nat.zero_le _, rfl, by simpa using HS2, HB2⟩
  case round =>
    obtain ⟨z, g, cap, hz, rfl, HS, HB⟩ := hrel
    by_cases h56 : (n + 1 + z) % 64 = 56
    · have hzz := zero_step n z hz h56
      subst hzz
      have hb : (((n : Int) + 1 + (padZ n : Nat)) % 64 != 56) = false := by rw [bne_eq_false_iff_eq]; omega
      have hs0 : Sl wr w.heap.size g cap (bvals ((s.data.toList ++ pad n) ++ lenB n 0)) := by
        have h := HS.out
        simpa [pad, lenB] using h
      have HS0 := Lib.hid hs0
      clear h56 hs0 hz HS
      go_wp2
      go_loopw [3, 5] (fun v i wr => ∃ k g cap : Nat, k ≤ 8 ∧ i = .int .i64 (7 - (k : Int)) ∧ v = .slice (some ⟨g, 0, none⟩) (n + 1 + padZ n + k) cap ∧ Hid (Sl wr w.heap.size g cap (bvals ((s.data.toList ++ pad n) ++ lenB n k))) ∧ Hid (Below w.heap.size w wr)) (fun _ i _ => (intOf i + 1).toNat)
      case atStart => exact ⟨0, _, _, by omega, rfl, rfl, HS0, HB⟩
      case round =>
        obtain ⟨k, g, cap, hk, rfl, rfl, HS, HB⟩ := hrel
        by_cases hlt : k < 8
        · have hki : (0 : Int) ≤ 7 - k := by omega
          have hki2 : (k : Int) ≤ 7 := by omega
          have hlen : ((s.data.toList ++ pad n) ++ lenB n k).length = n + 1 + padZ n + k := by
            rw [List.length_append, List.length_append, HDL.out, ← HN.out, pad_length, lenB_length]; omega
          have hlsc := lenB_succ n k
          have hbv := byte_val n (8 * (7 - k))
          rw [show 56 - k * 8 = 8 * (7 - k) by omega] at hlsc
          generalize UInt8.ofNat (n * 8 / 2 ^ (8 * (7 - k))) = c at hlsc hbv
          rw [HN.out] at hbv
          have HLN := Lib.hid hlen
          have HLS := Lib.hid hlsc
          have HBV := Lib.hid hbv
          clear hlen hlsc hbv
          go_wp2_with (at_builtin; refine append_byte rfl (.tmp 26) (.tmp 32) rfl w.heap.size g cap (n + 1 + padZ n + k) ((s.data.toList ++ pad n) ++ lenB n k) rfl HLN.out (HS.out.alloc _) wr.heap.size _ c HBV.out rfl (by simp) (by omega) ?_)
          intro g2 cap2 w2 HS2 HG2
          have hb2 : Below w.heap.size w w2 := (HB.out.alloc HB.out.size _).grown HG2.out (by have := HB.out.size; simp; omega) (fun k hk => by injection hk with hk; subst hk; exact HS.out.1)
          have hs2 : Sl w2 w.heap.size g2 cap2 (bvals ((s.data.toList ++ pad n) ++ lenB n (k + 1))) := by
            rw [HLS.out, ← List.append_assoc]
            simpa using HS2.out
          have HB2 := Lib.hid hb2
          have HS3 := Lib.hid hs2
          clear hb2 hs2 HS2 HG2
          go_wp2
          go_roundw
          case rel => exact ⟨k + 1, g2, cap2, by omega, by congr 1; omega, rfl, HS3, HB2⟩
          case measure => simp [intOf]; omega
        · have hk8 : k = 8 := by omega
          subst hk8
          have hs8 : Sl wr w.heap.size g cap (bvals (s.data.toList ++ tail n)) := by
            have h := HS.out
            rw [List.append_assoc] at h
            exact h
          have HS8 := Lib.hid hs8
          clear hs8 HS
          go_wp2
          go_ret
          rw [← HN.out]
          refine ⟨g, cap, ?_, HS8.out, HB.out⟩
          have e : n + 9 + padZ n = n + 1 + padZ n + 8 := by omega
          rw [e]
          rfl
    · have hz2 := zero_more n z hz h56
      have hb : (((n : Int) + 1 + z) % 64 != 56) = true := by rw [bne_iff_ne]; omega
      have hlz : (s.data.toList ++ [128] ++ List.replicate z 0).length = n + 1 + z := by
        rw [List.length_append, List.length_append, HDL.out, ← HN.out, List.length_replicate]; rfl
      have HLZ := Lib.hid hlz
      clear h56 hlz
      go_wp2_with (at_builtin; refine append_byte rfl (.tmp 15) (.tmp 16) rfl w.heap.size g cap (n + 1 + z) (s.data.toList ++ [128] ++ List.replicate z 0) rfl HLZ.out (HS.out.alloc _) wr.heap.size 0 0 rfl rfl (by simp) (by omega) ?_)
      intro g2 cap2 w2 HS2 HG2
      have hb2 : Below w.heap.size w w2 := (HB.out.alloc HB.out.size _).grown HG2.out (by have := HB.out.size; simp; omega) (fun k hk => by injection hk with hk; subst hk; exact HS.out.1)
      have hs2 : Sl w2 w.heap.size g2 cap2 (bvals (s.data.toList ++ [128] ++ List.replicate (z + 1) 0)) := by
        rw [show s.data.toList ++ [128] ++ List.replicate (z + 1) 0 = s.data.toList ++ 128 :: (List.replicate z 0 ++ [0]) by simp [List.replicate_succ']]
        exact HS2.out
      have HB2 := Lib.hid hb2
      have HS3 := Lib.hid hs2
      clear hb2 hs2 HS2 HG2
      go_wp2
      go_roundw
      case rel => exact ⟨z + 1, g2, cap2, hz2, rfl, HS3, HB2⟩
      case measure => simp [slLen]; omega
end Sh
end Go.Proofs.YtkldgfdfpanelaaDoor
