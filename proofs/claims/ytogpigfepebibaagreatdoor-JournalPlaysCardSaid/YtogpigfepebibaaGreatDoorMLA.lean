/-
  Layer 8 (journal): the walk of the landed head. Layer 8 (journal): the walks of the landed Frame, first. Layer 8 (journal): the walk of the landed Scan. Layer 8 (journal): function values that write to a disk; the walk of the landed write. Layer 8 (journal): the calls of a disk as function values: what makes them, and what they do.
-/
import Derived.Test.YtogpigfepebibaaGreatDoorMJA
import Derived.Test.YtogpigfepebibaaGreatDoorMSH
import Derived.Test.YtogpigfepebibaaGreatDoorMJJ
import Derived.WalkLawsBesides
import Derived.Test.YtogpigfepebibaaGreatDoorMEF
namespace Go.Proofs.YtogpigfepebibaaGreatDoor
namespace Jl
open Go.RowKit Go.ChangeShapes Kr Dk

theorem two_strs (w : World) (Z x : ByteArray) (T : TypeId) : Sh.SRow (w.alloc (.cells #[.string Z, .string x] T)) (w.alloc (.cells #[.string Z, .string x] T)).heap.size (some ⟨w.heap.size, 0, none⟩) [toB Z, toB x] := by
  intro j y hy
  rcases j with _ | _ | j
  · injection hy with hy
    exact ⟨w.heap.size, 0, Z, rfl, by simp, hy, by simp⟩
  · injection hy with hy
    exact ⟨w.heap.size, 0, x, rfl, by simp, hy, by simp⟩
  · simp at hy
theorem be4_cells2 (n : Nat) (h : n ≤ 1048576) : #[Value.int .u8 ((n : Int) / 16777216), Value.int .u8 ((n : Int) / 65536), Value.int .u8 ((n : Int) / 256 % 256), Value.int .u8 ((n : Int) % 256)] = (Sh.bvals (be4 n)).toArray := by
  rw [← be4_cells n h, show (n : Int) / 65536 % 256 = (n : Int) / 65536 by omega]
/-- string(d[:8]), of a digest's cells. -/
theorem conv_eight (W : World) (g cap : Nat) (L : Bs) (hl : 8 ≤ L.length) (hr : Sh.Row W g 109 (Sh.bvals L)) : (convert 76 9 (.slice (some ⟨g, 0, none⟩) 8 cap)).run Tryz.prog W = .ok (.string (ofB (L.take 8))) W := by
  have h8 : (L.take 8).length = 8 := by rw [List.length_take]; omega
  have h := run_convert_bytes_back (P := Tryz.prog) W 76 9 5 ⟨g, 0, none⟩ cap (L.take 8) Tryz.underlying76 Tryz.underlying5 Tryz.underlying9 (fun j hj => by
    rw [h8] at hj
    rw [Addr.add_lit, Nat.zero_add, hr.cell j]
    show ((L.map fun x => Value.int .u8 (x.toNat : Int)))[j]? = _
    rw [List.getElem?_map, List.getElem?_eq_getElem (by omega), List.getElem_take]; rfl)
  rw [h8] at h
  exact h
set_option maxRecDepth 100000 in
set_option maxHeartbeats 4000000 in
theorem head_any (B : Nat) (x : ByteArray) (w : World) (hx : x.size ≤ 90000) (ho : Ok B w) :
    Calls Tryz.prog 49 #[.string x] w fun e w' => e = .returned (.string (ofB (head Sh.dig (toB x)))) ∧ Below w.heap.size w w' := by
  have hcv := conv_lit w 4 (be4 x.size) _ rfl (be4_cells2 x.size (by omega))
  obtain ⟨Z, hZ⟩ : ∃ Z, ofB (be4 x.size) = Z := ⟨_, rfl⟩
  rw [hZ] at hcv
  have hZs : Z.size = 4 := by rw [← hZ]; rfl
  have HS := Lib.hid (fun W (hb : Below w.heap.size w W) => Sh.sum_any (some ⟨W.heap.size, 0, none⟩) 2 [toB Z, toB x] (W.alloc (.cells #[.string Z, .string x] 9)) (two_strs W Z x _) (by simp) (by simp <;> omega)
    ((ho.later hb).1.below ((Below.refl _ _).alloc (Nat.le_refl _) _) (Nat.lt_of_lt_of_le (ho.later hb).2.1 (ho.later hb).2.2)) (by have := (ho.later hb).2.1; have := (ho.later hb).2.2; simp <;> omega))
  obtain ⟨L, hL⟩ : ∃ L, Sh.dig (toB Z ++ toB x) = L := ⟨_, rfl⟩
  have hfl : [toB Z, toB x].flatten = toB Z ++ toB x := by simp
  rw [hfl, hL] at HS
  have hLl : L.length = 32 := by rw [← hL]; exact Sh.dig_length _
  have HLL := Lib.hid hLl
  have HHD : Hid (head Sh.dig (toB x) = toB Z ++ L.take 8) := by
    show _ = _
    unfold head
    rw [← hL, ← hZ, toB_ofB]; rfl
  clear hL hZ hLl hfl ho
  go_enter Tryz.func49, Tryz.ntmps49
  go_wp2_with fail
  obtain ⟨w1, hw1⟩ : ∃ w1, w1 = w.alloc (.cells #[Value.int .u8 ((x.size : Int) / 16777216), Value.int .u8 ((x.size : Int) / 65536), Value.int .u8 ((x.size : Int) / 256 % 256), Value.int .u8 ((x.size : Int) % 256)] 5) := ⟨_, rfl⟩
  have HB1 : Hid (Below w.heap.size w w1) := by rw [hw1]; exact (Below.refl _ _).alloc (Nat.le_refl _) _
  have hs1 : w1.heap.size = w.heap.size + 1 := by rw [hw1]; simp
  have HS1 := Lib.hid (HS.out w1 HB1.out)
  rw [hs1] at HS1
  clear hs1
  rw [← hw1]
  clear hw1 hcv
  go_wp2_with fail
  refine HS1.out.mono ?_
  rintro e w2 ⟨rfl, hb2⟩
  have HB2 : Hid (Below w.heap.size w w2) := (HB1.out.alloc HB1.out.size _).trans (hb2.mono (by have := HB1.out.size; simp; omega))
  clear hb2 HS HS1 HB1
  have hs2 := HB2.out.size
  go_wp2_with (refine Sh.wpList_store_all rfl 109 (.tmp 5) (.tmp 24) rfl w2.heap.size (Sh.bvals L) rfl rfl 109 (Sh.bvals (List.replicate 32 0)) (Sh.Row.new_at w2 _ _ _ rfl rfl) ?s1 ?s2 (Sh.bvals_one _) ?_)
  case s1 => rw [Sh.bvals_length, HLL.out]; kernel_rfl
  case s2 => rw [Sh.bvals_length, Sh.bvals_length, HLL.out, List.length_replicate]
  intro w3 HR3 HT3
  have HB3 : Hid (Below w.heap.size w w3) := Sh.below_turn (HB2.out.alloc HB2.out.size _) HT3.out HB2.out.size
  have hc3 := conv_eight w3 w2.heap.size 32 L (by rw [HLL.out]; decide) HR3.out
  have h8s : (ofB (L.take 8)).size = 8 := by rw [ofB_size, List.length_take, HLL.out]; rfl
  have HE : Hid (Z ++ ofB (L.take 8) = ofB (head Sh.dig (toB x))) := by
    refine ba_eq ?_
    rw [app_data]
    show toB Z ++ toB (ofB _) = toB (ofB _)
    rw [toB_ofB, toB_ofB, HHD.out]
  generalize ofB (L.take 8) = Y at hc3 h8s HE
  clear HB2 HR3 HT3 HLL HHD
  go_wp2
  go_ret
  rw [HE.out]
  exact ⟨rfl, HB3.out⟩
end Jl
end Go.Proofs.YtogpigfepebibaaGreatDoor

namespace Go.Proofs.YtogpigfepebibaaGreatDoor
namespace Jl
open Go.RowKit Go.ChangeShapes Kr Dk

set_option maxRecDepth 100000 in
set_option maxHeartbeats 4000000 in
theorem frame_any (B : Nat) (x : ByteArray) (w : World) (hx : x.size ≤ 90000) (ho : Ok B w) :
    Calls Tryz.prog 23 #[.string x] w fun e w' => e = .returned (.tuple #[.string (ofB (frame Sh.dig (toB x))), .int .i64 0]) ∧ Below w.heap.size w w' := by
  have HS := Lib.hid (head_any B x w hx ho)
  have HA := Lib.hid (head_app x)
  have hxi : ¬ (1048576 : Int) < (x.size : Int) := by omega
  have hhs : (ofB (head Sh.dig (toB x))).size = 12 := by rw [ofB_size, head_length H_len]
  generalize ofB (head Sh.dig (toB x)) = Z at HS HA hhs
  go_enter Tryz.func23, Tryz.ntmps23
  go_wp2_with fail
  refine HS.out.mono ?_
  rintro e w1 ⟨rfl, hb1⟩
  go_wp2
  go_ret2
  rw [← HA.out]
  exact ⟨rfl, hb1⟩
set_option maxRecDepth 100000 in
set_option maxHeartbeats 4000000 in
theorem frame_long (x : ByteArray) (w : World) (hx : most < x.size) (hm : x.size ≤ 10000000) :
    Calls Tryz.prog 23 #[.string x] w fun e w' => e = .returned (.tuple #[.string nul, .int .i64 6]) ∧ Below w.heap.size w w' := by
  have hxi : (1048576 : Int) < (x.size : Int) := by have e : most = 1048576 := rfl; omega
  go_enter Tryz.func23, Tryz.ntmps23
  go_wp2_with fail
  go_ret2
  exact ⟨rfl, Below.refl _ _⟩

theorem or_next (m c : Nat) (hm : m < 16777216) (hc : c < 256) : bits .or .u32 ((m : Int) * 256) (c : Int) = ((256 * m + c : Nat) : Int) := by
  have h := Sh.orI (m * 256) c (by omega) (by omega)
  rw [Nat.mul_comm m 256, ← Nat.two_pow_add_eq_or_of_lt (i := 8) hc] at h
  rw [show (m : Int) * 256 = ((256 * m : Nat) : Int) by omega]
  exact h
theorem cut_front (b : ByteArray) (j : Int) (n : Nat) (hj : j = (n : Int)) (h2 : n ≤ b.size) (W : World) :
    (Instr.slice 9 (.string b) none (some (.int .i64 j)) none).run Tryz.prog W = .ok (.string (b.extract 0 n)) W := by
  subst hj
  rw [run_slice_string_h W 9 b Tryz.underlying9 .i64 _ (by omega) (by omega)]
  rfl
/-- What first answers. -/
def firstV (b : ByteArray) : ByteArray × Bool := if Front Sh.dig (toB b) then (ofB (((toB b).drop 12).take (num4 (toB b))), true) else (nul, false)
set_option maxRecDepth 100000 in
set_option maxHeartbeats 4000000 in
theorem first_any (B : Nat) (b : ByteArray) (w : World) (hb : b.size ≤ 90000) (ho : Ok B w) :
    Calls Tryz.prog 50 #[.string b] w fun e w' => e = .returned (.tuple #[.string (firstV b).1, .bool (firstV b).2]) ∧ Below w.heap.size w w' := by
  by_cases h12 : b.size < 12
  · have hki : (b.size : Int) < 12 := by omega
    have HE : Hid (firstV b = (nul, false)) := by
      show _ = _
      unfold firstV
      rw [if_neg (fun h => by have := h.1; rw [toB_length] at this; omega)]
    go_enter Tryz.func50, Tryz.ntmps50
    go_wp2
    go_ret2
    rw [HE.out]
    exact ⟨rfl, Below.refl _ _⟩
  · have hki : ¬ (b.size : Int) < 12 := by omega
    obtain ⟨T, hT⟩ : ∃ T, toB b = T := ⟨_, rfl⟩
    have HT := Lib.hid hT
    have HTL : Hid (T.length = b.size) := by show _ = _; rw [← hT]; rfl
    clear hT
    go_enter Tryz.func50, Tryz.ntmps50
    go_wp2
    go_loopw [4, 10] (fun s i wr => ∃ (k : Nat), k ≤ 4 ∧ i = .int .i64 k ∧ s = .int .u32 (nk T k : Int) ∧ wr = w) (fun _ i _ => 4 - (intOf i).toNat)
    case atStart => exact ⟨0, by omega, rfl, rfl, rfl⟩
    case round =>
      obtain ⟨k, hk, rfl, rfl, rfl⟩ := hrel
      by_cases hl2 : k < 4
      · have hk2 : (k : Int) < 4 := by omega
        have hlow := nk_low T (show k ≤ 3 by omega)
        have hx0 := str_index b k (k : Int) rfl (by omega)
        rw [HT.out] at hx0
        have HNK : Hid (nk T (k + 1) = 256 * nk T k + (T.getD k 0).toNat) := rfl
        have hc := (T.getD k 0).toNat_lt
        generalize (T.getD k 0).toNat = c at hx0 HNK hc
        go_wp2
        go_roundw
        case rel => exact ⟨k + 1, by omega, by go_num, by rw [HNK.out, or_next _ _ hlow hc], by trivial⟩
        case measure => simp [intOf]; omega
      · obtain rfl : k = 4 := by omega
        rw [nk_four T]
        have hnb : num4 T < 4294967296 := by rw [← nk_four]; exact nk_le T 4
        have HFV : Hid (firstV b = if Front Sh.dig T then (ofB ((T.drop 12).take (num4 T)), true) else (nul, false)) := by show _ = _; unfold firstV; rw [HT.out]
        obtain ⟨n, hn⟩ : ∃ n, num4 T = n := ⟨_, rfl⟩
        rw [hn] at hnb HFV ⊢
        have HN := Lib.hid hn
        clear hn
        by_cases hm : 1048576 < n
        · have hmi : (1048576 : Int) < n := by omega
          have HE : Hid (firstV b = (nul, false)) := by
            show _ = _
            rw [HFV.out, if_neg (fun h => by have := h.2.1; rw [HN.out] at this; have e : most = 1048576 := rfl; omega)]
          go_wp2
          go_ret2
          rw [HE.out]
          exact ⟨rfl, Below.refl _ _⟩
        · have hmi : ¬ (1048576 : Int) < n := by omega
          by_cases hm2 : b.size < 12 + n
          · have hmi2 : (b.size : Int) - 12 < n := by omega
            have HE : Hid (firstV b = (nul, false)) := by
              show _ = _
              rw [HFV.out, if_neg (fun h => by have := h.2.2.1; rw [HN.out, HTL.out] at this; omega)]
            go_wp2
            go_ret2
            rw [HE.out]
            exact ⟨rfl, Below.refl _ _⟩
          · have hmi2 : ¬ (b.size : Int) - 12 < n := by omega
            have hcut := cut_run b 12 (12 + n) 12 n (by omega) (by omega) (by omega)
            have hcut2 := cut_front b 12 12 (by omega) (by omega)
            have hrs : (b.extract 12 (12 + n)).size = n := by rw [ByteArray.size_extract]; omega
            have HR : Hid (toB (b.extract 12 (12 + n)) = (T.drop 12).take n) := by show _ = _; rw [toB_extract b 12 n, HT.out]
            have HR2 : Hid (toB (b.extract 0 12) = T.take 12) := by
              show _ = _
              have := toB_extract b 0 12
              rw [Nat.zero_add, List.drop_zero, HT.out] at this
              exact this
            generalize b.extract 12 (12 + n) = r at hcut hrs HR
            generalize b.extract 0 12 = g at hcut2 HR2
            have HHD := Lib.hid (fun W (hb : Below wr.heap.size wr W) => head_any B r W (by omega) (ho.later hb))
            have heq := eqB (ofB (head Sh.dig (toB r))) g
            have HFR : Hid (Front Sh.dig T ↔ ofB (head Sh.dig (toB r)) = g) := by
              constructor
              · intro h
                have h4 := h.2.2.2
                rw [HN.out, ← HR.out, ← HR2.out] at h4
                rw [h4, ofB_toB]
              · intro h
                refine ⟨by rw [HTL.out]; omega, by rw [HN.out]; have e : most = 1048576 := rfl; omega, by rw [HN.out, HTL.out]; omega, ?_⟩
                rw [HN.out, ← HR.out, ← HR2.out, ← h, toB_ofB]
            generalize ofB (head Sh.dig (toB r)) = z at HHD heq HFR
            go_wp2
            go_region_with (go_at_call 49; refine (HHD.out _ (Below.refl _ _).drew).mono ?_; rintro e w1 ⟨rfl, hb1⟩)
            all_goals
              have HB1 : Hid (Below wr.heap.size wr w1) := (Below.refl _ _).drew.trans hb1
              clear hb1 HHD heq
              by_cases hzg : z = g
              · have HE : Hid (firstV b = (r, true)) := by
                  show _ = _
                  rw [HFV.out, if_pos (HFR.out.2 hzg), ← HR.out, ofB_toB]
                rw [decide_eq_true hzg]
                clear hzg
                go_wp2
                go_ret2
                rw [HE.out]
                exact ⟨rfl, HB1.out⟩
              · have HE : Hid (firstV b = (nul, false)) := by
                  show _ = _
                  rw [HFV.out, if_neg (fun h => hzg (HFR.out.1 h))]
                rw [decide_eq_false hzg]
                clear hzg
                go_wp2
                go_ret2
                rw [HE.out]
                exact ⟨rfl, HB1.out⟩
end Jl
end Go.Proofs.YtogpigfepebibaaGreatDoor

namespace Go.Proofs.YtogpigfepebibaaGreatDoor
namespace Jl
open Go.RowKit Go.ChangeShapes Kr Dk

theorem cut_back (b : ByteArray) (j : Int) (n : Nat) (hj : j = (n : Int)) (h2 : n ≤ b.size) (W : World) :
    (Instr.slice 9 (.string b) (some (.int .i64 j)) none none).run Tryz.prog W = .ok (.string (b.extract n b.size)) W := by
  subst hj
  rw [run_slice_string_l W 9 b Tryz.underlying9 .i64 _ (by omega) (by omega)]
  rfl
theorem toB_back (b : ByteArray) (a : Nat) (h : a ≤ b.size) : toB (b.extract a b.size) = (toB b).drop a := by
  have h1 := toB_extract b a (b.size - a)
  rw [show a + (b.size - a) = b.size by omega] at h1
  rw [h1, List.take_of_length_le (by rw [List.length_drop, toB_length]; exact Nat.le_refl _)]

set_option maxRecDepth 100000 in
set_option maxHeartbeats 8000000 in
theorem scan_any (B : Nat) (b : ByteArray) (w : World) (hb : b.size ≤ 90000) (ho : Ok B w) :
    Calls Tryz.prog 25 #[.string b] w fun e w' => ∃ A' cap', e = .returned (.tuple #[.slice A' (recsV Sh.dig b).length cap', .int .i64 (lenV Sh.dig b : Int)]) ∧ OwnsN w' w.heap.size (.slice A' (recsV Sh.dig b).length cap') (recsV Sh.dig b) ∧ Below w.heap.size w w' := by
  obtain ⟨i0, hi, hz0, hz1, hz2⟩ := info_parts strInfo
  have HBL : Hid ((toB b).length = b.size) := rfl
  go_enter Tryz.func25, Tryz.ntmps25
  go_wp2_with fail
  go_loopw [4, 5] (fun o i wr => ∃ (a cp : Nat) (A' : Option Addr) (O : List ByteArray), a ≤ b.size ∧ O.length ≤ a ∧ i = .int .i64 a ∧ o = .slice A' O.length cp ∧ Hid (Scn Sh.dig (toB b) (O.map toB) a) ∧ Hid (OwnsN wr w.heap.size (.slice A' O.length cp) O) ∧ Hid (Below w.heap.size w wr)) (fun _ i _ => b.size - (intOf i).toNat)
  case atStart => exact ⟨0, 0, none, [], Nat.zero_le _, Nat.le_refl _, rfl, rfl, Scn.zero _ _, OwnsK.nil _ _, Below.refl _ _⟩
  case round =>
    obtain ⟨a, cp, A', O, ha, hO, rfl, rfl, HS, HO, HB⟩ := hrel
    have hwr := HB.out.size
    have hcut := cut_back b (a : Int) a rfl ha
    have hcs : (b.extract a b.size).size = b.size - a := by rw [ByteArray.size_extract]; omega
    have HC : Hid (toB (b.extract a b.size) = (toB b).drop a) := toB_back b a ha
    generalize b.extract a b.size = c at hcut hcs HC
    have HF := Lib.hid (fun W (hb : Below wr.heap.size wr W) => first_any B c W (by omega) (ho.below ((HB.out.trans (hb.mono hwr)).mono ho.2.2)))
    have HFV : Hid (firstV c = if Front Sh.dig ((toB b).drop a) then (ofB ((((toB b).drop a).drop 12).take (num4 ((toB b).drop a))), true) else (nul, false)) := by show _ = _; unfold firstV; rw [HC.out]
    go_wp2_with fail
    refine (HF.out _ (Below.refl _ _)).mono ?_
    rintro e w1 ⟨rfl, hb1⟩
    have HB1 : Hid (Below w.heap.size w w1) := HB.out.trans (hb1.mono hwr)
    have HO1 : Hid (OwnsN w1 w.heap.size (.slice A' O.length cp) O) := HO.out.keep hb1
    have hw1 := HB1.out.size
    clear hb1 HF HO HB hcut
    by_cases hf : Front Sh.dig ((toB b).drop a)
    · rw [if_pos hf] at HFV
      have HS2 := Lib.hid (HS.out.step hf)
      have hn := hf.2.2.1
      rw [List.length_drop, HBL.out] at hn
      have h12 := hf.1
      rw [List.length_drop, HBL.out] at h12
      generalize num4 ((toB b).drop a) = n at HFV HS2 hn
      have hrs : (ofB ((((toB b).drop a).drop 12).take n)).size = n := by
        rw [ofB_size, List.length_take, List.length_drop, List.length_drop, HBL.out]; omega
      rw [List.drop_drop] at HFV hrs
      have HR : Hid (toB (ofB (((toB b).drop (a + 12)).take n)) = ((toB b).drop (a + 12)).take n) := toB_ofB _
      generalize ofB (((toB b).drop (a + 12)).take n) = r at HFV hrs HR
      rw [← HR.out] at HS2
      have HS3 : Hid (Scn Sh.dig (toB b) ((O ++ [r]).map toB) (a + 12 + n)) := by
        rw [List.map_append]
        exact HS2
      rw [HFV.out]
      clear HS2 HS HR hf
      go_wp2_with (at_builtin; refine wpList_append_own _ rfl _ _ 34 rfl w.heap.size 9 i0 (.string ⟨#[]⟩) 1 16 Tryz.underlying34 hi hz0 hz1 hz2 rfl (by decide) _ O.length (O.flatMap encN) rfl ?c0a ⟨w1.heap.size, 0, none⟩ 1 1 [.string r] rfl rfl ?c1a ?c2a ?c3a ?c4a ?c5a ?_)
      case c0a => have := fun o1 => HO1.out.alloc o1; unfold OwnsK at this; exact this _
      case c2a => intro u hu; obtain rfl := List.mem_singleton.1 hu; rfl
      case c3a => simp only [maxLen]; omega
      case c4a => omega
      case c5a => simp; omega
      · intro j u hj
        rw [Addr.add_lit, Nat.zero_add]
        exact new_cell w1 (encN r) _ rfl hj
      intro v' w2 hown' hgrow _
      have hO2 : OwnsN w2 w.heap.size v' (O ++ [r]) := OwnsK.appended rfl hown'
      obtain ⟨A2, cap2, e⟩ := hO2.form
      subst e
      have HW2 := Lib.hid ((HB1.out.alloc hw1 _).grown hgrow (by simp; omega) (fun q hq => (World.ownsRow.lt HO1.out q hq).1))
      have HO2 := Lib.hid hO2
      have hlo : (O ++ [r]).length ≤ a + 12 + n := by rw [List.length_append, List.length_singleton]; omega
      clear hO2 hown' hgrow
      go_wp2
      go_roundw
      case rel => exact ⟨a + 12 + n, cap2, A2, O ++ [r], by omega, hlo, by go_num, rfl, HS3.out, HO2.out, HW2.out⟩
      case measure => simp [intOf]; omega
    · rw [if_neg hf] at HFV
      have HE := Lib.hid (scan_recs HS.out hf)
      rw [HFV.out]
      clear hf
      go_wp2
      go_ret2
      rw [HE.out.1, HE.out.2]
      exact ⟨A', cp, rfl, HO1.out, HB1.out⟩
end Jl
end Go.Proofs.YtogpigfepebibaaGreatDoor

namespace Go.Proofs.YtogpigfepebibaaGreatDoor
namespace Jl
open Go.RowKit Go.ChangeShapes Kr Dk

/-- A function value, and what it does to a disk. -/
structure Cal where
  g : Nat
  fa : Array Value
  ca : Array Value
  f : DD → DD × Nat
def Cal.val (c : Cal) : Value := .func (.func c.g) c.fa c.ca
/-- It does so to the disk b, called with a name, from world w0 on. -/
structure Doing (S0 : Nat → Prop) (w0 : World) (b : Nat) (nm : ByteArray) (c : Cal) : Prop where
  enter : ∀ args w, (callFunc c.g args).run Tryz.prog w = .ok (.enter c.g args) w
  does : ∀ W S D, Rd W S b D → Dk.Fits D → (∀ q, S q → S0 q ∨ w0.heap.size ≤ q) → Away S0 w0 W → Calls Tryz.prog c.g (c.fa.push (.string nm) ++ c.ca) W (Wrote Rd S b (c.f D).1 W (.int .i64 ((c.f D).2 : Int)))
/-- Calls one behind the other, up to the first error. -/
def runC : List Cal → DD → DD × Nat
  | [], D => (D, 0)
  | c :: l, D => if (c.f D).2 = 0 then runC l (c.f D).1 else c.f D
theorem runC_ok {c : Cal} {l : List Cal} {D D' : DD} (h : c.f D = (D', 0)) : runC (c :: l) D = runC l D' := by
  show (if (c.f D).2 = 0 then _ else _) = _
  rw [h]; rfl
theorem runC_no {c : Cal} {l : List Cal} {D : DD} (h : (c.f D).2 ≠ 0) : runC (c :: l) D = c.f D := if_neg h
/-- The disks on the way fit. -/
def FitC : List Cal → DD → Prop
  | [], _ => True
  | c :: l, D => Dk.Fits D ∧ ((c.f D).2 = 0 → FitC l (c.f D).1)
/-- Function values that lie in a row. -/
def CRow (w : World) (x o : Nat) (l : List Cal) : Prop := x < w.heap.size ∧ ∀ j c, l[j]? = some c → w.cell? ⟨x, o + j, none⟩ = some c.val
abbrev T_J : TypeId := 64

/-- What write answers: R the disk and the error's number. -/
def WAns (S : Nat → Prop) (b g : Nat) (nj : ByteArray) (dv : Value) (R : DD × Nat) (w : World) (e : Ending) (w' : World) : Prop :=
  ∃ S', e = .returned (.int .i64 (R.2 : Int)) ∧ Rd w' S' b R.1 ∧ (∀ q, S' q → S q ∨ w.heap.size ≤ q) ∧ Row w' g T_J [if R.2 = 0 then dv else .pointer none, .string nj] ∧ Away (fun q => S q ∨ q = g) w w'
theorem away_more {S S' : Nat → Prop} {w w' : World} (h : Away S w w') (hs : ∀ q, S q → S' q) : Away S' w w' := ⟨h.os, h.tape, h.output, h.size, fun q hq hn => h.block q hq fun h2 => hn (hs q h2)⟩
theorem away_next {S S1 : Nat → Prop} {a b c : World} (h : Away S a b) (hs : ∀ q, S1 q → S q ∨ a.heap.size ≤ q) (h' : Away S1 b c) : Away S a c :=
  ⟨h'.os.trans h.os, h'.tape.trans h.tape, h'.output.trans h.output, Nat.le_trans h.size h'.size, fun q hq hn => (h'.block q (Nat.lt_of_lt_of_le hq h.size) fun h2 => (hs q h2).elim hn (by omega)).trans (h.block q hq hn)⟩
theorem away_set {S : Nat → Prop} {a b : World} {g : Nat} (h : Away S a b) (hs : S g) (v : Value) : Away S a (b.setCell ⟨g, 0, none⟩ v) :=
  ⟨h.os, h.tape, h.output, Nat.le_trans h.size (Nat.le_of_eq (by simp)), fun q hq hn => (Below.heap_setCell b ⟨g, 0, none⟩ v q (fun e => hn (by rw [e]; exact hs))).trans (h.block q hq hn)⟩

set_option maxRecDepth 100000 in
set_option maxHeartbeats 4000000 in
theorem write_any (w : World) (S : Nat → Prop) (b g x o n cap : Nat) (D : DD) (nm nj : ByteArray) (dv : Value) (l : List Cal) (hn : l.length = n) (hnm : n ≤ 1000) (h : Rd w S b D) (hfit : FitC l D) (hdo : ∀ c ∈ l, Doing S w b nm c) (hx : CRow w x o l) (hsx : ¬ S x) (hg : Row w g T_J [dv, .string nj]) (hsg : ¬ S g) :
    Calls Tryz.prog 27 #[.pointer (some ⟨g, 0, none⟩), .string nm, .slice (some ⟨x, o, none⟩) n cap] w (WAns S b g nj dv (runC l D) w) := by
  have HN := Lib.hid hn
  have HX := Lib.hid hx
  have HG := Lib.hid hg
  have HDO := Lib.hid hdo
  have HH := Lib.hid h
  have HF := Lib.hid hfit
  have hgs := hg.lt
  clear hn hx hg hdo h hfit
  go_enter Tryz.func27, Tryz.ntmps27
  go_wp2_with fail
  go_loopw [12] (fun i wr => ∃ (k : Nat) (S' : Nat → Prop) (D' : DD), k ≤ n ∧ i = .int .i64 k ∧ Hid (Rd wr S' b D') ∧ Hid (∀ q, S' q → S q ∨ w.heap.size ≤ q) ∧ Hid (Away S w wr) ∧ Hid (runC l D = runC (l.drop k) D') ∧ Hid (FitC (l.drop k) D')) (fun i _ => n - (intOf i).toNat)
  case atStart => exact ⟨0, S, D, Nat.zero_le _, rfl, HH.out, fun q hq => .inl hq, Away.of (Below.refl _ _), rfl, HF.out⟩
  case round =>
    obtain ⟨k, S', D', hk, rfl, HR, HS, HA, HE, HFC⟩ := hrel
    by_cases hlt : k < n
    · have hki : (k : Int) < n := by omega
      have hxk : l[k]? = some (l[k]'(by rw [HN.out]; exact hlt)) := List.getElem?_eq_getElem _
      have hdr : l.drop k = l[k]'(by rw [HN.out]; exact hlt) :: l.drop (k + 1) := List.drop_eq_getElem_cons _
      generalize l[k]'(by rw [HN.out]; exact hlt) = c at hxk hdr
      have HD := HDO.out c (List.mem_of_getElem? hxk)
      have hcell : wr.cell? ⟨x, o + k, none⟩ = some c.val := (HA.out.cell (p := ⟨x, o + k, none⟩) HX.out.1 hsx).trans (HX.out.2 k c hxk)
      rw [hdr] at HE HFC
      obtain ⟨cg, fa, ca, cf⟩ := c
      have HC : Hid (Calls Tryz.prog cg (fa.push (.string nm) ++ ca) wr (Wrote Rd S' b (cf D').1 wr (.int .i64 ((cf D').2 : Int)))) := HD.does wr S' D' HR.out HFC.out.1 HS.out HA.out
      have eg : ∀ args w, (callFunc cg args).run Tryz.prog w = .ok (.enter cg args) w := HD.enter
      simp only [Cal.val] at hcell
      clear hxk hdr HD
      obtain ⟨r, hr⟩ : ∃ r, cf D' = r := ⟨_, rfl⟩
      rw [hr] at HC
      have HE2 : Hid (r.2 = 0 → runC l D = runC (l.drop (k + 1)) r.1) := fun h0 => by
        rw [HE.out]
        exact runC_ok (show cf D' = (r.1, 0) by rw [hr, ← h0])
      have HE3 : Hid (r.2 ≠ 0 → runC l D = r) := fun h0 => by
        rw [HE.out, runC_no (show (cf D').2 ≠ 0 by rw [hr]; exact h0)]
        exact hr
      have HFC2 : Hid (r.2 = 0 → FitC (l.drop (k + 1)) r.1) := fun h0 => by
        have := HFC.out.2
        change (cf D').2 = 0 → FitC (l.drop (k + 1)) (cf D').1 at this
        rw [hr] at this
        exact this h0
      obtain ⟨D2, no⟩ := r
      clear hr
      go_wp2_with (fail)
      refine HC.out.mono ?_
      rintro e w1 ⟨S1, rfl, hr1, hs1, ha1⟩
      have HR1 := Lib.hid hr1
      have HS1 : Hid (∀ q, S1 q → S q ∨ w.heap.size ≤ q) := fun q hq => (hs1 q hq).elim (HS.out q) (fun h2 => .inr (Nat.le_trans HA.out.size h2))
      have HA1 : Hid (Away S w w1) := away_next HA.out HS.out ha1
      clear hr1 hs1 ha1 hcell HC eg
      by_cases h0 : no = 0
      · subst h0
        have HE4 := Lib.hid (HE2.out rfl)
        have HF4 := Lib.hid (HFC2.out rfl)
        clear HE2 HE3 HFC2
        simp only [Int.natCast_zero]
        go_wp2
        go_roundw
        case rel => exact ⟨k + 1, S1, D2, by omega, by go_num, HR1.out, HS1.out, HA1.out, HE4.out, HF4.out⟩
        case measure => simp [intOf]; omega
      · have hni : ¬ (no : Int) = 0 := by omega
        have HE4 : Hid (runC l D = (D2, no)) := HE3.out h0
        have HZ : Hid (no ≠ 0) := h0
        have hG1 : Row w1 g T_J [dv, .string nj] := (HA1.out.block g hgs hsg).trans HG.out
        have c0 := hG1.cell 0
        have d0 := hG1.frozen 0
        have HG1 := Lib.hid hG1
        clear HE2 HE3 HFC2 h0 hG1
        go_wp2
        go_ret
        rw [HE4.out]
        refine ⟨S1, rfl, rd_keep HR1.out (fun q hq => Below.heap_setCell w1 ⟨g, 0, none⟩ _ q (fun e => by
          have e : q = g := e
          subst e
          exact (HS1.out q hq).elim hsg (by omega))), HS1.out, ?_, away_set (away_more HA1.out fun q hq => .inl hq) (.inr rfl) _⟩
        show Row _ g T_J [if no = 0 then dv else .pointer none, .string nj]
        rw [if_neg HZ.out]
        exact HG1.out.set 0 _
    · obtain rfl : k = n := by omega
      have HE4 : Hid (runC l D = (D', 0)) := by
        show _ = _
        rw [HE.out, List.drop_of_length_le (by rw [HN.out]; exact Nat.le_refl _)]
        rfl
      go_wp2
      go_ret
      rw [HE4.out]
      exact ⟨S', rfl, HR.out, HS.out, (HA.out.block g hgs hsg).trans HG.out, away_more HA.out fun q hq => .inl hq⟩
end Jl
end Go.Proofs.YtogpigfepebibaaGreatDoor

namespace Go.Proofs.YtogpigfepebibaaGreatDoor
namespace Jl
open Go.RowKit Go.ChangeShapes Kr Dk

/-- Remove, of a file that may not be. -/
def remV (D : DD) (p : ByteArray) : DD × Nat := if at? D.files p = none then (D, 0) else removeV D p
theorem clear_rem (D : DD) (p : ByteArray) : clearV D p = remV D (nw p) := rfl
theorem rem_none {D : DD} {p : ByteArray} (hp : p ≠ nul) (h : at? D.files p = none) : removeV D p = (D, 10) := by unfold removeV; rw [if_neg hp, h]
theorem rem_some {D : DD} {p : ByteArray} (hp : p ≠ nul) (h : at? D.files p ≠ none) : (removeV D p).2 ≠ 10 := by
  unfold removeV
  rw [if_neg hp]
  cases h2 : at? D.files p with
  | none => exact absurd h2 h
  | some f =>
    show (passV D _).2 ≠ 10
    unfold passV
    split <;> simp
theorem hmf (fn : Fn) (first cap : Array Value) (w : World) : (Instr.makeFunc fn first cap).run Tryz.prog w = .ok (.func fn first cap) w := by rfl

set_option maxRecDepth 100000 in
set_option maxHeartbeats 1000000 in
theorem remdoes (w : World) (S : Nat → Prop) (b c : Nat) (D : DD) (p : ByteArray) (h : Rd w S b D) (hf : Dk.Fits D) (hp : NB p) (hp0 : p ≠ nul) (hc : w.cell? ⟨c, 0, none⟩ = some (ptr b)) :
    Calls Tryz.prog 52 #[.string p, .pointer (some ⟨c, 0, none⟩)] w (Wrote Rd S b (remV D p).1 w (.int .i64 ((remV D p).2 : Int))) := by
  have HR := Lib.hid (keeps.remove w S b D p h hf hp)
  by_cases ha : at? D.files p = none
  · have HE : Hid (remV D p = (D, 0)) := if_pos ha
    rw [rem_none hp0 ha] at HR
    clear ha
    go_enter Tryz.func52, Tryz.ntmps52
    go_wp2_with fail
    refine HR.out.mono ?_
    rintro e w1 ⟨S1, rfl, h1, h2, h3⟩
    go_wp2
    go_ret
    rw [HE.out]
    exact ⟨S1, rfl, h1, h2, h3⟩
  · have HE : Hid (remV D p = removeV D p) := if_neg ha
    have hno := rem_some hp0 ha
    have hni : ¬ ((removeV D p).2 : Int) = 10 := by omega
    clear ha
    generalize removeV D p = r at *
    go_enter Tryz.func52, Tryz.ntmps52
    go_wp2_with fail
    refine HR.out.mono ?_
    rintro e w1 ⟨S1, rfl, h1, h2, h3⟩
    go_wp2
    go_ret
    rw [HE.out]
    exact ⟨S1, rfl, h1, h2, h3⟩
set_option maxRecDepth 100000 in
set_option maxHeartbeats 1000000 in
theorem appdoes (w : World) (S : Nat → Prop) (b c d : Nat) (D : DD) (p x : ByteArray) (h : Rd w S b D) (hf : Dk.Fits D) (hp : NB p) (hx : x.size ≤ 90000) (hc : w.cell? ⟨c, 0, none⟩ = some (ptr b)) (hd : w.cell? ⟨d, 0, none⟩ = some (.string x)) :
    Calls Tryz.prog 57 #[.string p, .pointer (some ⟨c, 0, none⟩), .pointer (some ⟨d, 0, none⟩)] w (Wrote Rd S b (appendV D p x).1 w (.int .i64 ((appendV D p x).2 : Int))) := by
  have HR := Lib.hid (keeps.append w S b D p x h hf hp hx)
  go_enter Tryz.func57, Tryz.ntmps57
  go_wp2_with fail
  refine HR.out.mono ?_
  rintro e w1 ⟨S1, rfl, h1, h2, h3⟩
  go_wp2
  go_ret
  exact ⟨S1, rfl, h1, h2, h3⟩
set_option maxRecDepth 100000 in
set_option maxHeartbeats 1000000 in
theorem rendoes (w : World) (S : Nat → Prop) (b c d : Nat) (D : DD) (p q : ByteArray) (h : Rd w S b D) (hf : Dk.Fits D) (hp : NB p) (hq : NB q) (hc : w.cell? ⟨c, 0, none⟩ = some (ptr b)) (hd : w.cell? ⟨d, 0, none⟩ = some (.string q)) :
    Calls Tryz.prog 63 #[.string p, .pointer (some ⟨c, 0, none⟩), .pointer (some ⟨d, 0, none⟩)] w (Wrote Rd S b (renameV D p q).1 w (.int .i64 ((renameV D p q).2 : Int))) := by
  have HR := Lib.hid (keeps.rename w S b D p q h hf hp hq)
  go_enter Tryz.func63, Tryz.ntmps63
  go_wp2_with fail
  refine HR.out.mono ?_
  rintro e w1 ⟨S1, rfl, h1, h2, h3⟩
  go_wp2
  go_ret
  exact ⟨S1, rfl, h1, h2, h3⟩

/-! The function values. -/
def remC (c : Nat) (p : ByteArray) : Cal := ⟨52, #[], #[.pointer (some ⟨c, 0, none⟩)], fun D => remV D p⟩
def appC (c d : Nat) (p x : ByteArray) : Cal := ⟨57, #[], #[.pointer (some ⟨c, 0, none⟩), .pointer (some ⟨d, 0, none⟩)], fun D => appendV D p x⟩
def renC (c d : Nat) (p q : ByteArray) : Cal := ⟨63, #[], #[.pointer (some ⟨c, 0, none⟩), .pointer (some ⟨d, 0, none⟩)], fun D => renameV D p q⟩
def synC (b : Nat) (p : ByteArray) : Cal := ⟨35, #[ptr b], #[], fun D => syncV D p⟩
section
variable {S0 : Nat → Prop} {w0 : World} {b c d : Nat} {p q x : ByteArray}
theorem rem_doing (hp : NB p) (hp0 : p ≠ nul) (hcl : c < w0.heap.size) (hcs : ¬ S0 c) (hc : w0.cell? ⟨c, 0, none⟩ = some (ptr b)) : Doing S0 w0 b p (remC c p) :=
  ⟨enters_of Tryz.func52 (by kernel_rfl) rfl, fun W S D h hf _ ha => remdoes W S b c D p h hf hp hp0 ((ha.cell (p := ⟨c, 0, none⟩) hcl hcs).trans hc)⟩
theorem app_doing (hp : NB p) (hx : x.size ≤ 90000) (hcl : c < w0.heap.size) (hcs : ¬ S0 c) (hc : w0.cell? ⟨c, 0, none⟩ = some (ptr b)) (hdl : d < w0.heap.size) (hds : ¬ S0 d) (hd : w0.cell? ⟨d, 0, none⟩ = some (.string x)) : Doing S0 w0 b p (appC c d p x) :=
  ⟨enters_of Tryz.func57 (by kernel_rfl) rfl, fun W S D h hf _ ha => appdoes W S b c d D p x h hf hp hx ((ha.cell (p := ⟨c, 0, none⟩) hcl hcs).trans hc) ((ha.cell (p := ⟨d, 0, none⟩) hdl hds).trans hd)⟩
theorem ren_doing (hp : NB p) (hq : NB q) (hcl : c < w0.heap.size) (hcs : ¬ S0 c) (hc : w0.cell? ⟨c, 0, none⟩ = some (ptr b)) (hdl : d < w0.heap.size) (hds : ¬ S0 d) (hd : w0.cell? ⟨d, 0, none⟩ = some (.string q)) : Doing S0 w0 b p (renC c d p q) :=
  ⟨enters_of Tryz.func63 (by kernel_rfl) rfl, fun W S D h hf _ ha => rendoes W S b c d D p q h hf hp hq ((ha.cell (p := ⟨c, 0, none⟩) hcl hcs).trans hc) ((ha.cell (p := ⟨d, 0, none⟩) hdl hds).trans hd)⟩
theorem syn_doing (hp : NB p) : Doing S0 w0 b p (synC b p) :=
  ⟨enters_of Tryz.func35 (by kernel_rfl) rfl, fun W S D h hf _ _ => keeps.sync W S b D p h hf hp⟩
end
/-- What a maker leaves: a new block that holds v. -/
def Held (w w' : World) (c : Nat) (v : Value) : Prop := w.heap.size ≤ c ∧ c < w'.heap.size ∧ w'.cell? ⟨c, 0, none⟩ = some v
theorem Held.below {w w1 w2 : World} {c : Nat} {v : Value} (h : Held w w1 c v) (hb : Below w1.heap.size w1 w2) : Held w w2 c v := ⟨h.1, Nat.lt_of_lt_of_le h.2.1 hb.size, (hb.cell (p := ⟨c, 0, none⟩) h.2.1).trans h.2.2⟩
theorem Held.more {w0 w w1 : World} {c : Nat} {v : Value} (h : Held w w1 c v) (hb : w0.heap.size ≤ w.heap.size) : Held w0 w1 c v := ⟨Nat.le_trans hb h.1, h.2⟩
set_option maxRecDepth 100000 in
set_option maxHeartbeats 1000000 in
theorem removing_any (b : Nat) (p : ByteArray) (w : World) :
    Calls Tryz.prog 28 #[ptr b] w fun e w' => ∃ c, e = .returned (remC c p).val ∧ Held w w' c (ptr b) ∧ Below w.heap.size w w' := by
  have hm := hmf
  go_enter Tryz.func28, Tryz.ntmps28
  go_wp2
  go_ret
  exact ⟨w.heap.size, rfl, ⟨Nat.le_refl _, by simp, by simp⟩, (Below.refl _ _).alloc (Nat.le_refl _) _⟩
set_option maxRecDepth 100000 in
set_option maxHeartbeats 1000000 in
theorem appending_any (b : Nat) (p x : ByteArray) (w : World) :
    Calls Tryz.prog 34 #[ptr b, .string x] w fun e w' => ∃ c d, e = .returned (appC c d p x).val ∧ Held w w' c (ptr b) ∧ Held w w' d (.string x) ∧ Below w.heap.size w w' := by
  have hm := hmf
  go_enter Tryz.func34, Tryz.ntmps34
  go_wp2
  go_ret
  exact ⟨w.heap.size, w.heap.size + 1, rfl, ⟨Nat.le_refl _, by simp; omega, by simp⟩, ⟨by omega, by simp, by simp⟩, ((Below.refl _ _).alloc (Nat.le_refl _) _).alloc (by simp) _⟩
set_option maxRecDepth 100000 in
set_option maxHeartbeats 1000000 in
theorem renaming_any (b : Nat) (p q : ByteArray) (w : World) :
    Calls Tryz.prog 51 #[ptr b, .string q] w fun e w' => ∃ c d, e = .returned (renC c d p q).val ∧ Held w w' c (ptr b) ∧ Held w w' d (.string q) ∧ Below w.heap.size w w' := by
  have hm := hmf
  go_enter Tryz.func51, Tryz.ntmps51
  go_wp2
  go_ret
  exact ⟨w.heap.size, w.heap.size + 1, rfl, ⟨Nat.le_refl _, by simp; omega, by simp⟩, ⟨by omega, by simp, by simp⟩, ((Below.refl _ _).alloc (Nat.le_refl _) _).alloc (by simp) _⟩
end Jl
end Go.Proofs.YtogpigfepebibaaGreatDoor
