/-
  Layer 2 (sha): the walk of the law ShaLong.
-/
import Derived.Test.YtkdnkcdjmcimbaaDoorT
namespace Go.Proofs.YtkdnkcdjmcimbaaDoor
namespace Sh
open Go.RowKit

theorem sum_one (x : ByteArray) (T : TypeId) (W : World) (hl : x.size ≤ 100000) (htab : Tab W) (hb0 : 0 < W.heap.size) :
    Calls Tryd.prog 10 #[.slice (some ⟨W.heap.size, 0, none⟩) 1 1] (W.alloc (.cells #[.string x] T)) fun e w' => e = .returned (.agg (bvals (dig x.data.toList)).toArray) ∧ Below W.heap.size W w' := by
  have hd := data_length x
  refine (sum_any (some ⟨W.heap.size, 0, none⟩) 1 [x.data.toList] _ ?c1 (by simp) (by simpa using hl) (htab.below ((Below.refl _ _).alloc (Nat.le_refl _) _) hb0) (by simp)).mono ?_
  case c1 =>
    rintro (_ | j) y hy
    · simp only [List.getElem?_cons_zero, Option.some.injEq] at hy
      subst hy
      refine ⟨W.heap.size, 0, x, rfl, by simp, rfl, ?_⟩
      exact cell_new W _ _ _ rfl
    · simp at hy
  rintro e w1 ⟨rfl, hb1⟩
  refine ⟨by simp, ((Below.refl _ _).alloc (Nat.le_refl _) _).trans (hb1.mono (by simp))⟩

theorem fill_set (K k : Nat) (u z : Value) (hk : k < K) : (List.replicate k u ++ List.replicate (K - k) z).set k u = List.replicate (k + 1) u ++ List.replicate (K - (k + 1)) z := by
  rw [List.set_append_right _ _ (by simp)]
  rw [show K - k = (K - (k + 1)) + 1 by omega, List.replicate_succ, List.length_replicate, Nat.sub_self, List.set_cons_zero, List.replicate_succ', List.append_assoc]
  rfl

set_option maxRecDepth 100000 in
set_option maxHeartbeats 4000000 in
theorem long_law (b n : Int) (w : World) (h0 : 0 ≤ b) (h1 : b ≤ 255) (h2 : 0 ≤ n) (h3 : n ≤ 255) (htab : Tab w) (hb0 : 0 < w.heap.size) :
    Calls Tryd.prog 5 #[.int .u8 b, .int .u8 n] w fun e w' => e = .returned (.bool true) ∧ Below w.heap.size w w' := by
  obtain ⟨i0, hi, hz0, hz1, hz2⟩ := info_parts byteInfo
  have HT := Lib.hid htab
  obtain ⟨c, rfl⟩ : ∃ c : UInt8, b = (c.toNat : Int) := ⟨UInt8.ofNat b.toNat, by rw [UInt8.toNat_ofNat']; omega⟩
  obtain ⟨m, rfl⟩ : ∃ m : Nat, n = (m : Int) := ⟨n.toNat, by omega⟩
  obtain ⟨K, hK⟩ : ∃ K, m % 200 = K := ⟨_, rfl⟩
  have hKi : (m : Int) % 200 = (K : Int) := by omega
  have hK2 : K ≤ 199 := by omega
  clear htab
  go_enter Tryd.func5, Tryd.ntmps5
  go_wp2_with (at_make; refine wpList_make_sl _ rfl (.tmp 9) (.tmp 9) 35 rfl 5 i0 (.int .u8 0) Tryd.underlying35 hi hz0 hz1 (by rw [hz2]; decide) rfl w.heap.size .i64 .i64 _ _ K K rfl rfl ?m1 ?m2 (Nat.le_refl _) (by omega) (Nat.le_refl _) ?_)
  case m1 => omega
  case m2 => omega
  intro w1 HS1 HB1
  clear hK hKi
  go_wp2
  go_loopw [6] (fun i wr => ∃ k : Nat, k ≤ K ∧ i = .int .i64 k ∧ Hid (Sl wr w.heap.size w.heap.size K (List.replicate k (.int .u8 (c.toNat : Int)) ++ List.replicate (K - k) (.int .u8 0))) ∧ Hid (Below w.heap.size w wr)) (fun i _ => K - (intOf i).toNat)
  case atStart => exact ⟨0, Nat.zero_le _, rfl, by simpa using HS1, HB1⟩
  case round =>
    obtain ⟨k, hk, rfl, HS, HB⟩ := hrel
    by_cases hlt : k < K
    · have hki : (k : Int) < K := by omega
      have hck := HS.out.2.2.2.2.1 k hlt
      obtain ⟨u, hu⟩ := Option.isSome_iff_exists.1 hck
      have hf := HS.out.2.2.2.2.2.1 k hlt
      clear hck
      go_wp2
      go_roundw
      case rel =>
        refine ⟨k + 1, by omega, by go_num, ?_, HB.out.setCell (Nat.le_refl _) _⟩
        have h := HS.out.set k (.int .u8 (c.toNat : Int))
        rw [fill_set K k _ _ hlt] at h
        exact h
      case measure => simp [intOf]; omega
    · have hkK : k = K := by omega
      subst hkK
      have hs := HS.out
      rw [Nat.sub_self, List.replicate_zero, List.append_nil] at hs
      obtain ⟨l, hl⟩ : ∃ l : Bs, l = List.replicate k c := ⟨_, rfl⟩
      have hll : l.length = k := by rw [hl, List.length_replicate]
      have hlb : bvals l = List.replicate k (.int .u8 (c.toNat : Int)) := by rw [hl]; simp [bvals]
      rw [← hlb] at hs
      have hgw : w.heap.size < wr.heap.size := hs.2.1
      have hcv : ∀ W, Below wr.heap.size wr W → (convert 35 9 (.slice (some ⟨w.heap.size, 0, none⟩) k k)).run Tryd.prog W = .ok (.string ⟨l.toArray⟩) W := by
        intro W hb
        have h := run_convert_bytes_back (P := Tryd.prog) W 35 9 5 ⟨w.heap.size, 0, none⟩ k l Tryd.underlying35 Tryd.underlying5 Tryd.underlying9 (fun j hj => by
          rw [show (⟨w.heap.size, 0, none⟩ : Addr).add j = ⟨w.heap.size, j, none⟩ by unfold Addr.add; split <;> simp_all]
          refine (hs.below hb hgw).2.2.2.2.2.2 j _ ?_
          rw [bvals_get _ _ hj, List.getD_eq_getElem?_getD, List.getElem?_eq_getElem hj]; rfl)
        rw [hll] at h
        exact h
      have heq := eq_same (dig l) (dig_length _)
      have hng := no_guard
      have HX : Hid ((⟨l.toArray⟩ : ByteArray).size ≤ 100000) := by show l.length ≤ 100000; omega
      obtain ⟨X, hX⟩ : ∃ X : ByteArray, X = ⟨l.toArray⟩ := ⟨_, rfl⟩
      have hXl : X.data.toList = l := by rw [hX]
      rw [← hX] at hcv HX
      rw [← hXl] at heq
      have HTW : Hid (∀ W, Below wr.heap.size wr W → Tab W) := fun W hb => HT.out.below (HB.out.trans (hb.mono HB.out.size)) hb0
      have HDD := (Below.refl wr.heap.size wr).drew
      have HDD' := Lib.hid HDD
      have HSM := Lib.hid (sum_one X 9 wr.drew HX.out (HTW.out _ HDD) (by show _ < wr.heap.size; omega))
      have HBR := Lib.hid HB.out
      have hszr := HB.out.size
      clear hs HS hl hll hlb hX hXl HB hlt
      go_wp2_with fail
      first | (go_region_held3 (fun w' : World => Below wr.heap.size wr w') (first | exact HDD'.out | assumption | exact Below.alloc (by assumption) (Below.size (by assumption)) _ | exact below_step HDD'.out (by assumption) | exact below_step (by assumption) (by assumption)) ((first
          | (go_at_call 10; (refine Calls.mono HSM.out ?_); rintro e wa ⟨rfl, hba⟩)
          | (go_at_call 11; (refine (refsum_any X _ HX.out).mono ?_); rintro e wa ⟨rfl, hba⟩)
          | (go_at_call 9; (refine (fixed_any _ (HTW.out _ (by assumption)) (by have := (by assumption : Below wr.heap.size wr _).size; omega)).mono ?_); rintro e wa ⟨rfl, hba⟩)))) | fail
      all_goals
        go_wp2
        go_ret
        refine ⟨rfl, HBR.out.trans (Below.mono (?_ : Below wr.heap.size wr _) hszr)⟩
        assumption
end Sh
end Go.Proofs.YtkdnkcdjmcimbaaDoor
