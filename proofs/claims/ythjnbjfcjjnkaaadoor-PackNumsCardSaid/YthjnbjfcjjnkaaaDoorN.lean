/-
  Layer 1 (pack): the walk of the document's answer Int.
-/
import Derived.Test.YthjnbjfcjjnkaaaDoorM
import Derived.Deep.DeepCutAuto
import Derived.Deep.Cut
namespace Go.Proofs.YthjnbjfcjjnkaaaDoor
namespace Pk
open Go.RowKit

/-- What a number's text is, behind a sign. -/
def signed (m : Bool) (R : Bs) : Bs := match m with | true => 45 :: R | false => R
def sgn (m : Bool) : Int := match m with | true => -1 | false => 1

theorem form_of (m : Bool) (R : Bs) (hm : m = false → ∀ t, R ≠ 45 :: t) (x : Int) (hx : inR x) (h : Lib.itoa x = signed m R) : R = Lib.decDigits x.natAbs ∧ x = sgn m * x.natAbs ∧ R.length ≤ 19 := by
  obtain ⟨h1, h2⟩ := itoa_form x hx
  cases m
  · rcases h1 with ⟨_, e⟩ | ⟨hx0, e⟩
    · exact absurd (e.symm.trans h).symm (hm rfl _)
    · have e2 : Lib.decDigits x.natAbs = R := e.symm.trans h
      refine ⟨e2.symm, ?_, by rw [← e2]; exact h2⟩
      simp only [sgn]; omega
  · rcases h1 with ⟨hx0, e⟩ | ⟨_, e⟩
    · have e2 : (45 :: Lib.decDigits x.natAbs : Bs) = 45 :: R := e.symm.trans h
      injection e2 with _ e2
      refine ⟨e2.symm, ?_, by rw [← e2]; exact h2⟩
      simp only [sgn]; omega
    · have e2 : Lib.decDigits x.natAbs = 45 :: R := e.symm.trans h
      have := all_dec x.natAbs 45 (by rw [e2]; simp)
      exact absurd this (by decide)

theorem wrap_in (x : Int) : inR (wrap64 x) := by unfold inR wrap64; omega
theorem wrap_id (x : Int) (h : inR x) : wrap64 x = x := by unfold inR at h; unfold wrap64; omega

theorem no_len (m : Bool) (R : Bs) (hm : m = false → ∀ t, R ≠ 45 :: t) (h : R = [] ∨ 19 < R.length) : IntIs (signed m R) 0 false := by
  refine .inr ⟨rfl, rfl, fun x hx he => ?_⟩
  obtain ⟨h1, _, h3⟩ := form_of m R hm x hx he
  rcases h with h | h
  · rw [h] at h1; exact dec_ne_nil _ h1.symm
  · omega

theorem no_digit (m : Bool) (R : Bs) (hm : m = false → ∀ t, R ≠ 45 :: t) (c : UInt8) (hc : c ∈ R) (h : isD c = false) : IntIs (signed m R) 0 false := by
  refine .inr ⟨rfl, rfl, fun x hx he => ?_⟩
  obtain ⟨h1, _, _⟩ := form_of m R hm x hx he
  rw [h1] at hc
  rw [all_dec _ c hc] at h
  cases h

theorem at_end (m : Bool) (R : Bs) (hm : m = false → ∀ t, R ≠ 45 :: t) (t : Int) (ht : t = wrap64 (sgn m * (val 0 R : Nat))) :
    (Lib.itoa t = signed m R → IntIs (signed m R) t true) ∧ (Lib.itoa t ≠ signed m R → IntIs (signed m R) 0 false) := by
  have hr : inR t := by rw [ht]; exact wrap_in _
  refine ⟨fun h => .inl ⟨rfl, hr, h⟩, fun h => .inr ⟨rfl, rfl, fun x hx he => ?_⟩⟩
  obtain ⟨h1, h2, _⟩ := form_of m R hm x hx he
  rw [h1, val_dec, ← h2, wrap_id x hx] at ht
  exact h (by rw [ht]; exact he)

theorem val_snoc (R : Bs) (k : Nat) (c : UInt8) (h : R[k]? = some c) : val 0 (R.take (k + 1)) = val 0 (R.take k) * 10 + (c.toNat - 48) := by
  rw [take_snoc R k c h, val_append, val_one]

/-- What stands behind the sign's look. -/
def Cut (s : ByteArray) (m : Bool) (r : ByteArray) : Prop := s.data.toList = signed m r.data.toList ∧ (m = false → ∀ t, r.data.toList ≠ 45 :: t) ∧ r.size ≤ s.size

theorem cut_minus (s : ByteArray) (hz : 0 < s.size) (h : s[0].toNat = 45) : Cut s true (s.extract 1 s.size) := by
  refine ⟨?_, fun h => (by cases h), by rw [ByteArray.size_extract]; omega⟩
  rw [ext_rest]
  have := drop_at s 0 hz
  rw [List.drop_zero] at this
  rw [this, show s[0] = 45 from UInt8.toNat_inj.1 h]
  rfl
theorem cut_plain (s : ByteArray) (h : ∀ hz : 0 < s.size, s[0].toNat ≠ 45) : Cut s false s := by
  refine ⟨rfl, fun _ t e => ?_, Nat.le_refl _⟩
  have hz : 0 < s.size := by rw [← data_length, e]; simp
  have h2 := drop_at s 0 hz
  rw [List.drop_zero, e] at h2
  injection h2 with h2 _
  exact h hz (by rw [← h2]; rfl)

theorem step_plus (R : Bs) (k : Nat) (c : UInt8) (z : Int) (hz : z = wrap64 (sgn false * (val 0 (R.take k) : Nat))) (hv : val 0 (R.take (k + 1)) = val 0 (R.take k) * 10 + (c.toNat - 48)) (hc : 48 ≤ c.toNat) :
    wrap64 (wrap64 (z * 10) + ((c.toNat : Int) - 48)) = wrap64 (sgn false * (val 0 (R.take (k + 1)) : Nat)) := by
  rw [hz, hv]
  simp only [sgn]
  unfold wrap64
  omega
theorem step_minus (R : Bs) (k : Nat) (c : UInt8) (z : Int) (hz : z = wrap64 (sgn true * (val 0 (R.take k) : Nat))) (hv : val 0 (R.take (k + 1)) = val 0 (R.take k) * 10 + (c.toNat - 48)) (hc : 48 ≤ c.toNat) :
    wrap64 (wrap64 (z * 10) - ((c.toNat : Int) - 48)) = wrap64 (sgn true * (val 0 (R.take (k + 1)) : Nat)) := by
  rw [hz, hv]
  simp only [sgn]
  unfold wrap64
  omega

def Starts (s : ByteArray) (m : Bool) : Prop := (m = true → ∃ hz : 0 < s.size, s[0].toNat = 45) ∧ (m = false → ∀ hz : 0 < s.size, s[0].toNat ≠ 45)

set_option maxHeartbeats 4000000 in
theorem refint_any (s : ByteArray) (hs : s.size ≤ 9223372036854775807) (w : World) :
    Calls Tryd.prog 16 #[.string s] w (IntPost s.data.toList w) := by
  go_enter Tryd.func16, Tryd.ntmps16
  go_upto_region 1 with (fail)
  go_cut [4] (fun a wx => ∃ m, a = .bool m ∧ Hid (Starts s m) ∧ w = wx)
  case first =>
    by_cases hz : 0 < s.size
    · have hz' : (0 : Int) < s.size := by omega
      have hl1 : (1 : Int) ≤ s.size := by omega
      by_cases h45 : s[0].toNat = 45
      · have h45b : ((s[0].toNat : Int) == 45) = true := by rw [beq_iff_eq]; omega
        have HC : Hid (Starts s true) := Lib.hid ⟨fun _ => ⟨hz, h45⟩, fun h => (by cases h)⟩
        clear h45
        go_wp2_with fail
        go_meet
        exact ⟨true, rfl, HC, rfl⟩
      · have h45b : ((s[0].toNat : Int) == 45) = false := by rw [beq_eq_false_iff_ne]; omega
        have HC : Hid (Starts s false) := Lib.hid ⟨fun h => (by cases h), fun _ _ => h45⟩
        clear h45
        go_wp2_with fail
        go_meet
        exact ⟨false, rfl, HC, rfl⟩
    · have HC : Hid (Starts s false) := Lib.hid ⟨fun h => (by cases h), fun _ h => absurd h hz⟩
      go_wp2_with fail
      go_meet
      exact ⟨false, rfl, HC, rfl⟩
  case rest =>
    obtain ⟨m, rfl, HM, rfl⟩ := hcut
    go_upto_if 18 with (fail)
    go_cut [5] (fun b wx => ∃ r, b = .string r ∧ Hid (Cut s m r) ∧ w = wx)
    case first =>
      cases m
      · have HC := Lib.hid (cut_plain s (HM.out.2 rfl))
        go_wp2_with fail
        go_meet
        exact ⟨_, rfl, HC, rfl⟩
      · obtain ⟨hz, h45⟩ := HM.out.1 rfl
        have HC := Lib.hid (cut_minus s hz h45)
        have hl1 : (1 : Int) ≤ s.size := by omega
        clear h45
        go_wp2_with fail
        go_meet
        exact ⟨_, rfl, HC, rfl⟩
    case rest =>
      obtain ⟨r, rfl, HC, rfl⟩ := hcut
      have hrs : r.size ≤ s.size := HC.out.2.2
      by_cases h0 : r.size = 0
      · have h0b : ((r.size : Int) == 0) = true := by rw [beq_iff_eq]; omega
        have hI : IntIs s.data.toList 0 false := by
          rw [HC.out.1]
          exact no_len m _ HC.out.2.1 (.inl (List.eq_nil_of_length_eq_zero (by rw [data_length]; exact h0)))
        have HI := Lib.hid hI
        clear hI h0
        go_wp2
        go_ret2
        exact ⟨0, false, rfl, HI.out, Below.refl _ _⟩
      · have h0b : ((r.size : Int) == 0) = false := by rw [beq_eq_false_iff_ne]; omega
        clear h0
        by_cases h19 : 19 < r.size
        · have h19' : (19 : Int) < r.size := by omega
          have hI : IntIs s.data.toList 0 false := by
            rw [HC.out.1]
            exact no_len m _ HC.out.2.1 (.inr (by rw [data_length]; exact h19))
          have HI := Lib.hid hI
          clear hI h19
          go_wp2
          go_ret2
          exact ⟨0, false, rfl, HI.out, Below.refl _ _⟩
        · have h19' : (r.size : Int) ≤ 19 := by omega
          clear h19
          go_wp2
          go_loop [6, 7] (fun t i => ∃ (k : Nat) (z : Int), k ≤ r.size ∧ i = .int .i64 k ∧ t = .int .i64 z ∧ -9223372036854775808 ≤ z ∧ z ≤ 9223372036854775807 ∧ Hid (z = wrap64 (sgn m * (val 0 (r.data.toList.take k) : Nat)))) (fun _ i => r.size - (intOf i).toNat)
          case atStart => exact ⟨0, 0, Nat.zero_le _, rfl, rfl, by omega, by omega, by show (0 : Int) = wrap64 (sgn m * (0 : Nat)); rw [Int.natCast_zero, Int.mul_zero]; exact (wrap_id 0 (by unfold inR; omega)).symm⟩
          case round =>
            obtain ⟨k, z, hk, rfl, rfl, hz0, hz1, HZ⟩ := hrel
            by_cases hlt : k < r.size
            · have hki : (k : Int) < r.size := by omega
              have hat : r.data.toList[k]? = some r[k] := by rw [List.getElem?_eq_getElem (by rw [data_length]; exact hlt)]; rfl
              have hdig := digit_any (r[k].toNat : Int) w
              rw [← isD_int] at hdig
              cases hd : isD r[k]
              · rw [hd] at hdig
                have HDG := Lib.hid hdig
                have hI : IntIs s.data.toList 0 false := by
                  rw [HC.out.1]
                  exact no_digit m _ HC.out.2.1 r[k] (List.mem_of_getElem? hat) hd
                have HI := Lib.hid hI
                clear hI hd hdig hat
                go_wp2_with fail
                refine HDG.out.mono ?_
                rintro e w' ⟨rfl, rfl⟩
                go_wp2
                go_ret2
                exact ⟨0, false, rfl, HI.out, Below.refl _ _⟩
              · rw [hd] at hdig
                have HDG := Lib.hid hdig
                have hc := isD_bounds hd
                obtain ⟨hc1, hc2⟩ := hc
                have hv := val_snoc _ _ _ hat
                have HV := Lib.hid hv
                clear hd hdig hat hv
                cases m
                · go_wp2_with fail
                  refine HDG.out.mono ?_
                  rintro e w' ⟨rfl, rfl⟩
                  go_wp2
                  go_round
                  case rel => exact ⟨k + 1, wrap64 (wrap64 (z * 10) + ((r[k].toNat : Int) - 48)), by omega, by go_num, rfl, (wrap_in _).1, (wrap_in _).2, step_plus _ _ _ _ HZ.out HV.out hc1⟩
                  case measure => simp [intOf]; omega
                · go_wp2_with fail
                  refine HDG.out.mono ?_
                  rintro e w' ⟨rfl, rfl⟩
                  go_wp2
                  go_round
                  case rel => exact ⟨k + 1, wrap64 (wrap64 (z * 10) - ((r[k].toNat : Int) - 48)), by omega, by go_num, rfl, (wrap_in _).1, (wrap_in _).2, step_minus _ _ _ _ HZ.out HV.out hc1⟩
                  case measure => simp [intOf]; omega
            · have hend := HZ.out
              rw [List.take_of_length_le (by rw [data_length]; omega)] at hend
              obtain ⟨hyes, hno⟩ := at_end m _ HC.out.2.1 z hend
              rw [← HC.out.1] at hyes hno
              have hnum := refnum_any (z.natAbs + 1) z (by omega) ⟨hz0, hz1⟩ w
              have HN := Lib.hid hnum
              clear hend hnum HZ
              by_cases he : Lib.itoa z = s.data.toList
              · have HI := Lib.hid (hyes he)
                have hx : (⟨(Lib.itoa z).toArray⟩ : ByteArray) = s := by rw [he, str_back]
                have hn := HN.out
                rw [hx] at hn
                have HN2 := Lib.hid hn
                clear hx hn he hyes hno HN
                go_wp2_with fail
                refine HN2.out.mono ?_
                rintro e w1 ⟨rfl, hb1⟩
                go_wp2
                go_ret2
                exact ⟨z, true, rfl, HI.out, hb1⟩
              · have HI := Lib.hid (hno he)
                obtain ⟨t, ht⟩ : ∃ t : ByteArray, t = ⟨(Lib.itoa z).toArray⟩ := ⟨_, rfl⟩
                have hne : (t.toList == s.toList) = false := by
                  rw [ByteArray.toList_eq, ByteArray.toList_eq, ht]
                  simpa using he
                have hn := HN.out
                rw [← ht] at hn
                have HN2 := Lib.hid hn
                clear ht hn he hyes hno HN
                go_wp2_with fail
                refine HN2.out.mono ?_
                rintro e w1 ⟨rfl, hb1⟩
                go_wp2
                go_ret2
                exact ⟨0, false, rfl, HI.out, hb1⟩
end Pk
end Go.Proofs.YthjnbjfcjjnkaaaDoor
