/-
  Layer 4 (globs): the walk of fits.
-/
import Derived.Test.YtffmnobcdhgfdaaDoorGB
namespace Go.Proofs.YtffmnobcdhgfdaaDoor
namespace Gl
open Go.RowKit Pt

theorem dropW_nil (l : Bs) (c : UInt8) : l.dropWhile (· == c) = [] ↔ ∀ x ∈ l, (x == c) = true := by
  induction l with
  | nil => simp
  | cons d l ih =>
    rw [List.dropWhile_cons]
    by_cases h : (d == c) = true
    · rw [if_pos h, ih]; simp [beq_iff_eq.1 h]
    · rw [if_neg h]; simp at h; simp [h]
theorem dropW_sub (l : Bs) (c : UInt8) : ∀ x ∈ l, x ∉ l.dropWhile (· == c) → (x == c) = true := by
  induction l with
  | nil => simp
  | cons d l ih =>
    intro x hx hn
    rw [List.dropWhile_cons] at hn
    by_cases h : (d == c) = true
    · rw [if_pos h] at hn
      rcases List.mem_cons.1 hx with rfl | hx
      · exact h
      · exact ih x hx hn
    · rw [if_neg h] at hn
      exact absurd hx hn
theorem trim_all (l : Bs) (c : UInt8) : Lib.trimB l c = [] ↔ l.all (· == c) = true := by
  rw [List.all_eq_true]
  show ((l.reverse.dropWhile (· == c)).reverse.dropWhile (· == c)) = [] ↔ _
  rw [dropW_nil]
  constructor
  · intro h x hx
    by_cases hm : x ∈ l.reverse.dropWhile (· == c)
    · exact h x (by simpa using hm)
    · exact dropW_sub l.reverse c x (by simpa using hx) hm
  · intro h x hx
    refine h x ?_
    have := (List.dropWhile_sublist (p := (· == c)) (l := l.reverse)).subset (by simpa using hx)
    simpa using this
theorem no_fit {p c : ByteArray} {ka ki : Nat} (hi : ki < c.size) (h : ∀ ha : ka < p.size, p[ka] ≠ 42 ∧ p[ka] ≠ 63 ∧ p[ka] ≠ c[ki]) :
    ka < p.data.toList.length → p.data.toList[ka]? ≠ some 42 ∧ p.data.toList[ka]? ≠ some 63 ∧ p.data.toList[ka]? ≠ c.data.toList[ki]? := by
  intro hl
  rw [data_length] at hl
  obtain ⟨h1, h2, h3⟩ := h hl
  rw [List.getElem?_eq_getElem (by rw [data_length]; exact hl), List.getElem?_eq_getElem (by rw [data_length]; exact hi)]
  exact ⟨fun e => h1 (Option.some.inj e), fun e => h2 (Option.some.inj e), fun e => h3 (Option.some.inj e)⟩

theorem meas_star {C P ke ki ka : Nat} (h1 : ke ≤ ki) (h2 : ka + 1 ≤ P) : (C + 1 - ki) * (P + 1) + (P - (ka + 1)) < (C + 1 - ke) * (P + 1) + (P - ka) := by
  have := Nat.mul_le_mul_right (P + 1) (show C + 1 - ki ≤ C + 1 - ke by omega)
  omega
theorem meas_back {C P ke t ka : Nat} (h1 : ke + 1 ≤ C) : (C + 1 - (ke + 1)) * (P + 1) + (P - (t + 1)) < (C + 1 - ke) * (P + 1) + (P - ka) := by
  have : C + 1 - ke = (C + 1 - (ke + 1)) + 1 := by omega
  rw [this, Nat.add_mul, Nat.one_mul]
  omega

set_option maxHeartbeats 1000000 in
set_option maxRecDepth 100000 in
theorem fits_any (c p : ByteArray) (b : Bool) (hb : one p.data.toList c.data.toList = b) (w : World) (hc : c.size ≤ 100000) (hp : p.size ≤ 100000) :
    Calls Tryd.prog 50 #[.string c, .string p] w fun e w' => e = .returned (.bool b) ∧ ∃ n, w' = w.drewN n := by
  have hst := fit_start p.data.toList c.data.toList
  rw [hb] at hst
  have HS := Lib.hid hst
  clear hb hst
  go_enter Tryd.func50, Tryd.ntmps50
  go_wp2
  go_loopw [5, 6, 7, 8] (fun a i st e wr => ∃ (ka ki ke : Nat) (z : Int), a = .int .i64 ka ∧ i = .int .i64 ki ∧ st = .int .i64 z ∧ e = .int .i64 ke ∧ Hid (Fit p.data.toList c.data.toList b ka ki z ke) ∧ -1 ≤ z ∧ z ≤ 100000 ∧ ka ≤ p.size ∧ ki ≤ c.size ∧ ke ≤ ki ∧ ∃ n, wr = w.drewN n)
    (fun a _ _ e _ => (c.size + 1 - (intOf e).toNat) * (p.size + 1) + (p.size - (intOf a).toNat))
  case atStart => exact ⟨0, 0, 0, -1, rfl, rfl, rfl, rfl, HS.out, by omega, by omega, Nat.zero_le _, Nat.zero_le _, Nat.zero_le _, 0, by rw [World.drewN_zero]⟩
  case round =>
    obtain ⟨ka, ki, ke, z, rfl, rfl, rfl, rfl, HF, hz1, hz2, hka, hki, hke, m, rfl⟩ := hrel
    by_cases hi : ki < c.size
    · have hii : (ki : Int) < c.size := by omega
      have hcl : c[ki].toNat < 256 := c[ki].toNat_lt
      by_cases ha : ka < p.size
      · have hai : (ka : Int) < p.size := by omega
        have hpl : p[ka].toNat < 256 := p[ka].toNat_lt
        by_cases h42 : p[ka].toNat = 42
        · have hb : ((p[ka].toNat : Int) == 42) = true := by rw [beq_iff_eq]; omega
          have hf := Lib.hid (fit_star HF.out (by rw [data_length]; exact ha) (UInt8.toNat_inj.1 h42))
          clear HF
          go_wp2
          go_roundw
          case rel => exact ⟨ka + 1, ki, ki, ka, by go_num, rfl, rfl, rfl, hf.out, by omega, by omega, by omega, by omega, Nat.le_refl _, m, rfl⟩
          case measure => simp only [intOf, Int.toNat_natCast]; exact meas_star hke (by omega)
        · have hb : ((p[ka].toNat : Int) == 42) = false := by rw [beq_eq_false_iff_ne]; omega
          have hn42 : p[ka] ≠ 42 := fun e => h42 (by rw [e]; rfl)
          have hq1 := char_lit p[ka] 63 (by decide)
          have hq2 := char_eq p[ka] c[ki]
          rw [show UInt8.ofNat 63 = 63 from rfl] at hq1
          have hq1 : ((p[ka].toNat : Int) == 63) = (p[ka] == 63) := hq1
          by_cases hq : p[ka] = 63 ∨ p[ka] = c[ki]
          · have hf := Lib.hid (fit_sign HF.out (by rw [data_length]; exact ha) (by rw [data_length]; exact hi) hn42 hq)
            clear HF
            by_cases h63 : p[ka] = 63
            · have e1 : (p[ka] == 63) = true := by rw [beq_iff_eq]; exact h63
              rw [e1] at hq1
              clear hq hn42 h42 h63 e1 hq2
              go_wp2
              go_quiet (fail)
              go_wp2
              go_roundw
              case rel => exact ⟨ka + 1, ki + 1, ke, z, by go_num, by go_num, rfl, rfl, hf.out, by omega, by omega, by omega, by omega, by omega, _, rfl⟩
              case measure => simp only [intOf, Int.toNat_natCast]; omega
            · have e1 : (p[ka] == 63) = false := by rw [beq_eq_false_iff_ne]; exact h63
              have e2 : (p[ka] == c[ki]) = true := by rw [beq_iff_eq]; exact hq.resolve_left h63
              rw [e1] at hq1
              rw [e2] at hq2
              clear hq hn42 h42 h63 e1 e2
              go_wp2
              go_quiet (fail)
              go_wp2
              go_roundw
              case rel => exact ⟨ka + 1, ki + 1, ke, z, by go_num, by go_num, rfl, rfl, hf.out, by omega, by omega, by omega, by omega, by omega, _, rfl⟩
              case measure => simp only [intOf, Int.toNat_natCast]; omega
          · have e1 : (p[ka] == 63) = false := by rw [beq_eq_false_iff_ne]; exact fun e => hq (.inl e)
            have e2 : (p[ka] == c[ki]) = false := by rw [beq_eq_false_iff_ne]; exact fun e => hq (.inr e)
            have hno := no_fit hi (fun _ => ⟨hn42, beq_eq_false_iff_ne.1 e1, beq_eq_false_iff_ne.1 e2⟩)
            rw [e1] at hq1
            rw [e2] at hq2
            clear hq hn42 h42 e1 e2
            by_cases hz : 0 ≤ z
            · obtain ⟨t, rfl, hta, hf⟩ := fit_again HF.out (by rw [data_length]; exact hi) hz hno
              have hf := Lib.hid hf
              clear HF hno
              go_wp2
              go_quiet (fail)
              go_wp2
              go_roundw
              case rel => exact ⟨t + 1, ke + 1, ke + 1, t, by go_num, by go_num, rfl, by go_num, hf.out, by omega, by omega, by omega, by omega, by omega, _, rfl⟩
              case measure => simp only [intOf, Int.toNat_natCast]; exact meas_back (by omega)
            · have hbf := Lib.hid (fit_fail HF.out (by rw [data_length]; exact hi) (by omega) hno)
              clear HF hno
              go_wp2
              go_quiet (fail)
              go_wp2
              go_ret
              exact ⟨by rw [hbf.out]; rfl, _, rfl⟩
      · have hai : ¬ ((ka : Int) < p.size) := by omega
        have hno := no_fit (p := p) (ka := ka) hi (fun h => absurd h ha)
        by_cases hz : 0 ≤ z
        · obtain ⟨t, rfl, hta, hf⟩ := fit_again HF.out (by rw [data_length]; exact hi) hz hno
          have hf := Lib.hid hf
          clear HF hno
          go_wp2
          go_quiet (fail)
          go_wp2
          go_roundw
          case rel => exact ⟨t + 1, ke + 1, ke + 1, t, by go_num, by go_num, rfl, by go_num, hf.out, by omega, by omega, by omega, by omega, by omega, _, rfl⟩
          case measure => simp only [intOf, Int.toNat_natCast]; exact meas_back (by omega)
        · have hbf := Lib.hid (fit_fail HF.out (by rw [data_length]; exact hi) (by omega) hno)
          clear HF hno
          go_wp2
          go_quiet (fail)
          go_wp2
          go_ret
          exact ⟨by rw [hbf.out]; rfl, _, rfl⟩
    · obtain rfl : ki = c.size := by omega
      have hd := fit_done HF.out (by rw [data_length])
      clear HF
      obtain ⟨X, hX⟩ : ∃ X : ByteArray, X = p.extract ka p.size := ⟨_, rfl⟩
      have hXs : X.size ≤ 9223372036854775807 := by rw [hX, ByteArray.size_extract]; omega
      have hXl : X.data.toList = p.data.toList.drop ka := by rw [hX, ext_rest]
      have HT := Lib.hid (fun W => Tryd.strings_Trim_one X 42 (by decide) W hXs)
      obtain ⟨Y, hY⟩ : ∃ Y : ByteArray, Y = ⟨(Lib.trimB X.data.toList 42).toArray⟩ := ⟨_, rfl⟩
      have hYb : Y.toList.isEmpty = b := by
        rw [ByteArray.toList_eq, hY, ← hd, hXl, Bool.eq_iff_iff, List.isEmpty_iff, ← trim_all]
      rw [← hY] at HT
      have HYB := Lib.hid hYb
      clear hY hXl hd hYb hXs
      go_wp2_with fail
      rw [← hX]
      refine (HT.out _).mono ?_
      clear hX
      rintro e w' ⟨rfl, hw⟩
      obtain ⟨q, rfl⟩ : ∃ q, w' = w.drewN q := by
        rcases hw with rfl | rfl
        · exact ⟨m, rfl⟩
        · exact ⟨m + 1, (World.drewN_drewN w m 1)⟩
      clear hw
      go_wp2
      go_ret
      exact ⟨by rw [← HYB.out]; rfl, _, rfl⟩
end Gl
end Go.Proofs.YtffmnobcdhgfdaaDoor
