/-
  Layer 4 (globs): the walk of the document's one (a part of a pattern, and of a path).
-/
import Derived.Test.YtffmnobcdhgfdaaDoorGA
import Derived.BigRegion
import Derived.BigQuiet
import Derived.Deep.QuietTactic
namespace Go.Proofs.YtffmnobcdhgfdaaDoor
namespace Gl
open Go.RowKit Pt

theorem at_char (s : ByteArray) (k : Nat) (h : k < s.size) : s.data.toList.getD k 0 = s[k] := by
  rw [List.getD_eq_getElem?_getD, List.getElem?_eq_getElem (by rw [data_length]; exact h)]
  rfl
theorem char_eq (a b : UInt8) : ((a.toNat : Int) == (b.toNat : Int)) = (a == b) := by
  rw [Bool.eq_iff_iff, beq_iff_eq, beq_iff_eq]
  exact ⟨fun h => UInt8.toNat_inj.1 (by omega), fun h => by rw [h]⟩
theorem char_lit (a : UInt8) (n : Nat) (hn : n < 256) : ((a.toNat : Int) == (n : Int)) = (a == UInt8.ofNat n) := by
  rw [← char_eq]
  congr 1
  rw [UInt8.toNat_ofNat_of_lt' hn]

set_option maxHeartbeats 1000000 in
set_option maxRecDepth 100000 in
theorem refone_any (p s : ByteArray) (b : Bool) (hb : one p.data.toList s.data.toList = b) (w : World) (hp : p.size ≤ 100000) (hs : s.size ≤ 100000) :
    Calls Tryd.prog 32 #[.string p, .string s] w fun e w' => e = .returned (.bool b) ∧ Below w.heap.size w w' := by
  obtain ⟨i0, hi, hz0, hz1, hz2⟩ := info_parts boolInfo
  have HE := Lib.hid hb
  clear hb
  go_enter Tryd.func32, Tryd.ntmps32
  go_wp2_with (at_make; refine wpList_make_bl _ rfl (.tmp 11) (.tmp 11) 42 rfl 4 i0 Tryd.underlying42 hi hz0 hz1 (by rw [hz2]; decide) .i64 .i64 _ _ (s.size + 1) rfl rfl ?m1 ?m2 (by omega) ?_)
  case m1 => go_num
  case m2 => go_num
  intro w1 HL1 HW1 HS1
  have c0 : w1.cell? ⟨w.heap.size, 0, none⟩ = some (.bool false) := HL1.out.at 0 (by simp)
  have f0 := HL1.out.fr 0 (by simp)
  have hset := HL1.out.set 0 true (by simp)
  have HSET := Lib.hid hset
  have HW2 := Lib.hid (HW1.out.setCell (p := ⟨w.heap.size, 0, none⟩) (Nat.le_refl _) (.bool true))
  clear hset
  go_wp2
  go_loopw [5, 6] (fun a i wr => ∃ k g : Nat, k ≤ p.size ∧ i = .int .i64 k ∧ a = .slice (some ⟨g, 0, none⟩) (s.size + 1) (s.size + 1) ∧ w.heap.size ≤ g ∧ Hid (Bl wr g (runO p.data.toList s.data.toList k)) ∧ Hid (Below w.heap.size w wr)) (fun _ i _ => p.size - (intOf i).toNat)
  case atStart =>
    refine ⟨0, w.heap.size, Nat.zero_le _, rfl, rfl, Nat.le_refl _, ?_, HW2.out⟩
    show Bl _ _ (true :: List.replicate s.data.toList.length false)
    have := HSET.out
    rw [data_length]
    exact this
  case round =>
    obtain ⟨k, g, hk, rfl, rfl, hg, HL, HW⟩ := hrel
    clear HL1 HW1 HS1 HSET HW2 c0 f0
    by_cases hlt : k < p.size
    · have hki : (k : Int) < p.size := by omega
      have hcl : p[k].toNat < 256 := p[k].toNat_lt
      have hrun : runO p.data.toList s.data.toList (k + 1) = nextO p[k] s.data.toList (runO p.data.toList s.data.toList k) := by rw [← at_char p k hlt]; rfl
      have hlen := runO_len p.data.toList s.data.toList k
      rw [data_length] at hlen
      have HR := Lib.hid hrun
      obtain ⟨L, hL⟩ : ∃ L, runO p.data.toList s.data.toList k = L := ⟨_, rfl⟩
      rw [hL] at HL HR hlen
      have HLE := Lib.hid hlen
      clear hrun hlen hL
      go_wp2_with (at_make; refine wpList_make_bl _ rfl (.tmp 23) (.tmp 23) 42 rfl 4 i0 Tryd.underlying42 hi hz0 hz1 (by rw [hz2]; decide) .i64 .i64 _ _ (s.size + 1) rfl rfl ?n1 ?n2 (by omega) ?_)
      case n1 => go_num
      case n2 => go_num
      intro w2 HL2 HW2 HS2
      have HK0 := Lib.hid (HL.out.later HW2.out)
      have HB0 := Lib.hid (HW.out.trans (HW2.out.mono HW.out.size))
      have HGG := Lib.hid HL.out.lt
      have HGS := Lib.hid HW.out.size
      clear HW2 HS2
      generalize hN : wr.heap.size = N at HL2 HGG HGS ⊢
      clear hN
      go_wp2
      go_loopw [8] (fun i wr2 => ∃ j : Nat, j ≤ s.size + 1 ∧ i = .int .i64 j ∧ Hid (Bl wr2 g L) ∧ Hid (Bl wr2 N (prt (nxO p[k] s.data.toList L) (s.size + 1) j)) ∧ Hid (Below w.heap.size w wr2)) (fun i _ => s.size + 1 - (intOf i).toNat)
      case atStart => exact ⟨0, Nat.zero_le _, rfl, HK0.out, by have := HL2.out; rw [← prt_zero (nxO p[k] s.data.toList L)] at this; exact this, HB0.out⟩
      case round =>
        obtain ⟨j, hj, rfl, HK, HN, HB⟩ := hrel
        by_cases hlt2 : j ≤ s.size
        · have hji : (j : Int) ≤ s.size := by omega
          have hLj : j < L.length := by rw [HLE.out]; omega
          have hpl := prt_len (nxO p[k] s.data.toList L) (s.size + 1) j
          have c1 := HK.out.at j hLj
          have f2 := HN.out.fr j (by rw [hpl]; omega)
          have hc2 := HN.out.at j (by rw [hpl]; omega)
          have HNW := Lib.hid (fun v => HN.out.set j v (by rw [hpl]; omega))
          have HKW := Lib.hid (fun v => HK.out.other ⟨N, j, none⟩ v (by have := HGG.out; show N ≠ g; omega))
          have HBW := Lib.hid (fun v => HB.out.setCell (p := ⟨N, j, none⟩) (show w.heap.size ≤ N from HGS.out) v)
          have HNX : Hid (∀ v, nxO p[k] s.data.toList L j = v → Bl (wr.setCell ⟨N, j, none⟩ (.bool v)) N (prt (nxO p[k] s.data.toList L) (s.size + 1) (j + 1))) := fun v hv => by
            rw [← prt_set _ (by omega), hv]; exact HNW.out v
          clear HNW
          by_cases h42 : p[k].toNat = 42
          · have hb : ((p[k].toNat : Int) == 42) = true := by rw [beq_iff_eq]; omega
            have hp42 : p[k] = 42 := UInt8.toNat_inj.1 h42
            cases j with
            | zero =>
              have hv : nxO p[k] s.data.toList L 0 = L.getD 0 false := by rw [hp42]; rfl
              generalize L.getD 0 false = x at c1 hv
              have HV := Lib.hid (HNX.out _ hv)
              clear hv hp42 h42 HNX
              cases x
              · go_wp2
                go_roundw
                case rel => exact ⟨1, by omega, rfl, HKW.out _, HV.out, HBW.out _⟩
                case measure => simp [intOf]
              · go_wp2
                go_roundw
                case rel => exact ⟨1, by omega, rfl, HKW.out _, HV.out, HBW.out _⟩
                case measure => simp [intOf]
            | succ j =>
              have hv : nxO p[k] s.data.toList L (j + 1) = (L.getD (j + 1) false || nxO p[k] s.data.toList L j) := by rw [hp42]; rfl
              have c3 := HN.out.at j (by rw [hpl]; omega)
              rw [prt_getD _ (by omega) (by omega)] at c3
              generalize L.getD (j + 1) false = x at c1 hv
              generalize nxO p[k] s.data.toList L j = y at c3 hv
              have HV := Lib.hid (HNX.out _ hv)
              clear hv hp42 h42 HNX
              have hj0 : (0 : Int) < ((j + 1 : Nat) : Int) := by omega
              have e1 : IntKind.i64.wrap (((j + 1 : Nat) : Int) - 1) = (j : Int) := by rw [IntWalk.i64_in _ (by omega)]; omega
              cases x
              · go_wp2
                go_roundw
                case rel => exact ⟨j + 2, by omega, by go_num, HKW.out _, HV.out, HBW.out _⟩
                case measure => simp [intOf]; omega
              · go_wp2
                go_roundw
                case rel => exact ⟨j + 2, by omega, by go_num, HKW.out _, HV.out, HBW.out _⟩
                case measure => simp [intOf]; omega
          · have hb : ((p[k].toNat : Int) == 42) = false := by rw [beq_eq_false_iff_ne]; omega
            have hp42 : p[k] ≠ 42 := fun e => h42 (by rw [e]; rfl)
            have HSK : Hid (nxO p[k] s.data.toList L j = false → Bl wr N (prt (nxO p[k] s.data.toList L) (s.size + 1) (j + 1))) := fun hv => by
              rw [prt_skip _ hv]; exact HN.out
            clear HN
            cases j with
            | zero =>
              have hv : nxO p[k] s.data.toList L 0 = false := by show (if p[k] = 42 then _ else false) = false; rw [if_neg hp42]
              have HV := Lib.hid (HSK.out hv)
              clear hv hp42 h42 HNX HSK c1
              go_wp2
              go_quiet (fail)
              go_wp2
              go_roundw
              case rel => exact ⟨1, by omega, rfl, HK.out, HV.out, below_drewN HB.out _⟩
              case measure => simp [intOf]
            | succ j =>
              have hv : nxO p[k] s.data.toList L (j + 1) = (L.getD j false && (p[k] == 63 || p[k] == s[j])) := by
                show (if p[k] = 42 then _ else L.getD j false && (p[k] == 63 || p[k] == s.data.toList.getD j 0)) = _
                rw [if_neg hp42, at_char s j (by omega)]
              have c3 := HK.out.at j (by omega)
              have hq1 := char_lit p[k] 63 (by decide)
              have hq2 := char_eq p[k] s[j]
              have hsl : s[j].toNat < 256 := s[j].toNat_lt
              rw [show UInt8.ofNat 63 = 63 from rfl] at hq1
              generalize L.getD j false = y at c3 hv
              generalize (p[k] == 63) = q1 at hq1 hv
              generalize (p[k] == s[j]) = q2 at hq2 hv
              have hq1 : ((p[k].toNat : Int) == 63) = q1 := hq1
              have hj0 : (0 : Int) < ((j + 1 : Nat) : Int) := by omega
              have e1 : IntKind.i64.wrap (((j + 1 : Nat) : Int) - 1) = (j : Int) := by rw [IntWalk.i64_in _ (by omega)]; omega
              have hji2 : (j : Int) < s.size := by omega
              have hjs : j < s.size := by omega
              cases y
              · have HV := Lib.hid (HSK.out hv)
                clear hv hp42 h42 HNX HSK c1
                go_wp2
                go_quiet (fail)
                go_wp2
                go_roundw
                case rel => exact ⟨j + 2, by omega, by go_num, HK.out, HV.out, below_drewN HB.out _⟩
                case measure => simp [intOf]; omega
              · cases q1
                · cases q2
                  · have HV := Lib.hid (HSK.out hv)
                    clear hv hp42 h42 HNX HSK c1
                    go_wp2
                    go_quiet (fail)
                    go_wp2
                    go_roundw
                    case rel => exact ⟨j + 2, by omega, by go_num, HK.out, HV.out, below_drewN HB.out _⟩
                    case measure => simp [intOf]; omega
                  · have HV := Lib.hid (HNX.out _ hv)
                    clear hv hp42 h42 HNX HSK c1
                    go_wp2
                    go_quiet (fail)
                    go_wp2
                    go_roundw
                    case rel => exact ⟨j + 2, by omega, by go_num, HKW.out _, HV.out, (below_drewN HB.out _).setCell (p := ⟨N, _, none⟩) (show w.heap.size ≤ N from HGS.out) _⟩
                    case measure => simp [intOf]; omega
                · have HV := Lib.hid (HNX.out _ hv)
                  clear hv hp42 h42 HNX HSK c1
                  go_wp2
                  go_quiet (fail)
                  go_wp2
                  go_roundw
                  case rel => exact ⟨j + 2, by omega, by go_num, HKW.out _, HV.out, (below_drewN HB.out _).setCell (p := ⟨N, _, none⟩) (show w.heap.size ≤ N from HGS.out) _⟩
                  case measure => simp [intOf]; omega
        · obtain rfl : j = s.size + 1 := by omega
          have hn : Bl wr N (runO p.data.toList s.data.toList (k + 1)) := by
            have := HN.out
            rw [prt_all] at this
            rw [HR.out]
            unfold nextO
            rw [data_length]
            exact this
          have HN2 := Lib.hid hn
          clear hn HN
          have hji : ¬ (((s.size + 1 : Nat) : Int) ≤ s.size) := by omega
          go_wp2
          go_roundw
          case rel => exact ⟨k + 1, N, by omega, by go_num, rfl, HGS.out, HN2.out, HB.out⟩
          case measure => simp [intOf]; omega
    · obtain rfl : k = p.size := by omega
      have hend := runO_end p.data.toList s.data.toList
      have hlen := runO_len p.data.toList s.data.toList p.size
      rw [data_length] at hend hlen
      rw [data_length, HE.out] at hend
      have c1 := HL.out.at s.size (by omega)
      rw [hend] at c1
      clear hend hlen HL
      go_wp2
      go_ret
      exact ⟨rfl, HW.out⟩
end Gl
end Go.Proofs.YtffmnobcdhgfdaaDoor
