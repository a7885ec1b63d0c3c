/-
  Layer 1 (pack): the walk of the document's answer Num.
-/
import Derived.Test.YthjnbjfcjjnkaaaDoorL
namespace Go.Proofs.YthjnbjfcjjnkaaaDoor
namespace Pk
open Go.RowKit

theorem refnum_small (z : Int) (h0 : 0 ≤ z) (h1 : z < 10) (w : World) :
    Calls Tryd.prog 18 #[.int .i64 z] w fun e w' => e = .returned (.string ⟨(Lib.decDigits z.toNat).toArray⟩) ∧ Below w.heap.size w w' := by
  have hcv := conv_one (48 + z) (Lib.decDigits z.toNat) (UInt8.ofNat (48 + z.toNat)) (Lib.decDigits_one (by omega)) (by rw [(isD_dg z.toNat (by omega)).2]; omega) w
  generalize Lib.decDigits z.toNat = l at *
  go_enter Tryd.func18, Tryd.ntmps18
  go_wp2
  go_ret
  exact ⟨rfl, (Below.refl _ _).alloc (Nat.le_refl _) _⟩

theorem itoa_len (n : Int) (h : inR n) : (Lib.itoa n).length ≤ 20 := by
  obtain ⟨h1, h2⟩ := itoa_form n h
  rcases h1 with ⟨_, e⟩ | ⟨_, e⟩
  · rw [e, List.length_cons]; omega
  · rw [e]; omega

/-- The last digit of a number of two digits or more. -/
theorem itoa_pos (n : Int) (h : 10 ≤ n) : Lib.itoa n = Lib.itoa (n / 10) ++ Lib.decDigits (n % 10).toNat := by
  have e1 : Lib.itoa n = Lib.decDigits n.toNat := by rw [Lib.itoa, if_neg (by omega)]
  have e2 : Lib.itoa (n / 10) = Lib.decDigits (n / 10).toNat := by rw [Lib.itoa, if_neg (by omega)]
  rw [e1, e2, Lib.decDigits, dif_neg (by omega), Lib.decDigits_one (i := (n % 10).toNat) (by omega)]
  congr 2
  · omega
  · congr 2; omega

theorem quot_neg (n : Int) (h : n < 0) : n.tdiv 10 = -((n.natAbs / 10 : Nat) : Int) ∧ n.tmod 10 = -((n.natAbs % 10 : Nat) : Int) := by
  obtain ⟨u, rfl⟩ : ∃ u : Nat, n = -(u : Int) := ⟨n.natAbs, by omega⟩
  rw [Int.neg_tdiv, Int.neg_tmod, Int.natAbs_neg, Int.natAbs_natCast]
  exact ⟨by rw [Int.tdiv_eq_ediv_of_nonneg (by omega)]; omega, by rw [Int.tmod_eq_emod_of_nonneg (by omega)]; omega⟩

theorem itoa_minus (n : Int) (h : n ≤ -10) : Lib.itoa n = Lib.itoa (n.tdiv 10) ++ Lib.decDigits (-n.tmod 10).toNat := by
  obtain ⟨e1, e2⟩ := quot_neg n (by omega)
  rw [e1, e2, Lib.itoa, if_pos (by omega), Lib.itoa, if_pos (by omega), Lib.decDigits, dif_neg (by omega)]
  rw [Lib.decDigits_one (i := (- -((n.natAbs % 10 : Nat) : Int)).toNat) (by omega), List.cons_append]
  congr 2
  · congr 1; omega
  · congr 3; omega

set_option maxHeartbeats 1000000 in
theorem refnum_any : ∀ (f : Nat) (n : Int), n.natAbs < f → inR n → ∀ (w : World),
    Calls Tryd.prog 18 #[.int .i64 n] w fun e w' => e = .returned (.string ⟨(Lib.itoa n).toArray⟩) ∧ Below w.heap.size w w'
  | 0, n, h, _, _ => by omega
  | f + 1, n, hf, hr, w => by
    have hlen := itoa_len n hr
    obtain ⟨h0, h1⟩ := hr
    by_cases hn : n < 0
    · by_cases hs : -10 < n
      · have hd := fun W => refnum_small (-n) (by omega) (by omega) W
        have hfin : Lib.itoa n = 45 :: Lib.decDigits (-n).toNat := by
          rw [Lib.itoa, if_pos hn]; congr 2; omega
        have hl : (1 : Nat) + (Lib.decDigits (-n).toNat).length ≤ 9223372036854775807 := by
          rw [hfin, List.length_cons] at hlen; omega
        have HD := Lib.hid hd
        have HF := Lib.hid hfin
        clear hd hfin hlen
        go_enter Tryd.func18, Tryd.ntmps18
        go_wp2_with fail
        refine (HD.out w).mono ?_
        rintro e w1 ⟨rfl, hb1⟩
        generalize Lib.decDigits (-n).toNat = l at *
        go_wp2
        go_ret
        refine ⟨?_, hb1⟩
        rw [HF.out, show (45 :: l : List UInt8) = [45] ++ l from rfl, str_app]
        rfl
      · have hs' : n ≤ -10 := by omega
        obtain ⟨q1, q2⟩ := quot_neg n hn
        have ih := refnum_any f (n.tdiv 10) (by rw [q1]; omega) (by unfold inR; rw [q1]; omega) w
        have hd := fun W => refnum_small (-n.tmod 10) (by rw [q2]; omega) (by rw [q2]; omega) W
        have hfin := itoa_minus n hs'
        have hl : (Lib.itoa (n.tdiv 10)).length + (Lib.decDigits (-n.tmod 10).toNat).length ≤ 9223372036854775807 := by
          rw [hfin, List.length_append] at hlen; omega
        have m1 : -10 < n.tmod 10 := by rw [q2]; omega
        have m2 : n.tmod 10 ≤ 0 := by rw [q2]; omega
        have HI := Lib.hid ih
        have HD := Lib.hid hd
        have HF := Lib.hid hfin
        clear ih hd hfin q1 q2 hlen hf
        by_cases hm : n.tmod 10 < 0
        · go_enter Tryd.func18, Tryd.ntmps18
          go_wp2_with fail
          refine HI.out.mono ?_
          rintro e w1 ⟨rfl, hb1⟩
          go_wp2_with fail
          refine (HD.out w1).mono ?_
          rintro e w2 ⟨rfl, hb2⟩
          generalize Lib.decDigits (-n.tmod 10).toNat = l2 at *
          generalize Lib.itoa (n.tdiv 10) = l1 at *
          go_wp2
          go_ret
          rw [HF.out, str_app]
          exact ⟨rfl, hb1.trans (hb2.mono hb1.size)⟩
        · have hm0 : 0 ≤ n.tmod 10 := by omega
          have hz : -n.tmod 10 = n.tmod 10 := by omega
          have hd2 := HD.out
          have hf2 := HF.out
          rw [hz] at hd2 hf2 hl
          have HD := Lib.hid hd2
          have HF := Lib.hid hf2
          clear hd2 hf2 hz
          go_enter Tryd.func18, Tryd.ntmps18
          go_wp2_with fail
          refine HI.out.mono ?_
          rintro e w1 ⟨rfl, hb1⟩
          go_wp2_with fail
          refine (HD.out w1).mono ?_
          rintro e w2 ⟨rfl, hb2⟩
          generalize Lib.decDigits (n.tmod 10).toNat = l2 at *
          generalize Lib.itoa (n.tdiv 10) = l1 at *
          go_wp2
          go_ret
          rw [HF.out, str_app]
          exact ⟨rfl, hb1.trans (hb2.mono hb1.size)⟩
    · by_cases hs : n < 10
      · have h := refnum_small n (by omega) hs w
        have e : Lib.itoa n = Lib.decDigits n.toNat := by rw [Lib.itoa, if_neg hn]
        rw [e]
        exact h
      · have hs' : 10 ≤ n := by omega
        have ih := refnum_any f (n / 10) (by omega) (by unfold inR; omega) w
        have hd := fun W => refnum_small (n % 10) (by omega) (by omega) W
        have hfin := itoa_pos n hs'
        have hl : (Lib.itoa (n / 10)).length + (Lib.decDigits (n % 10).toNat).length ≤ 9223372036854775807 := by
          rw [hfin, List.length_append] at hlen; omega
        have HI := Lib.hid ih
        have HD := Lib.hid hd
        have HF := Lib.hid hfin
        clear ih hd hfin hlen hf
        go_enter Tryd.func18, Tryd.ntmps18
        go_wp2_with fail
        refine HI.out.mono ?_
        rintro e w1 ⟨rfl, hb1⟩
        go_wp2_with fail
        refine (HD.out w1).mono ?_
        rintro e w2 ⟨rfl, hb2⟩
        generalize Lib.decDigits (n % 10).toNat = l2 at *
        generalize Lib.itoa (n / 10) = l1 at *
        go_wp2
        go_ret
        rw [HF.out, str_app]
        exact ⟨rfl, hb1.trans (hb2.mono hb1.size)⟩
end Pk
end Go.Proofs.YthjnbjfcjjnkaaaDoor
