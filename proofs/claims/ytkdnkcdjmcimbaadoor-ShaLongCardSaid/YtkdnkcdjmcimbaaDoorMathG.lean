/-
  Layer 2 (sha): plain mathematics: texts of digests, read. Names no program.
-/
import Derived.Test.YtkdnkcdjmcimbaaDoorMathF
namespace Go.Proofs.YtkdnkcdjmcimbaaDoor
namespace Sh
/-- Is it a digit? Its value. -/
def isH (c : UInt8) : Bool := (48 ≤ c && c ≤ 57) || (97 ≤ c && c ≤ 102)
def hval (c : UInt8) : Nat := if c ≤ 57 then c.toNat - 48 else c.toNat - 87
theorem all_bytes (p : UInt8 → Bool) (h : (List.range 256).all (fun n => p (UInt8.ofNat n)) = true) (c : UInt8) : p c = true := by
  have := List.all_eq_true.1 h c.toNat (List.mem_range.2 c.toNat_lt)
  rwa [UInt8.ofNat_toNat] at this
theorem hval_lt (c : UInt8) (h : isH c = true) : hval c < 16 := by
  have := all_bytes (fun c => !isH c || decide (hval c < 16)) (by decide +kernel) c
  simpa [h] using this
/-- Byte j of the digest of L, behind m of its digits. -/
def obyte (L : Bs) (j : Nat) : Nat → UInt8
  | 0 => 0
  | 1 => UInt8.ofNat (hval (L.getD (2 * j) 0))
  | _ => UInt8.ofNat (16 * hval (L.getD (2 * j) 0) + hval (L.getD (2 * j + 1) 0))
def dAt (L : Bs) (k : Nat) : Bs := (List.range 32).map fun j => obyte L j (min (k - 2 * j) 2)
theorem dAt_length (L : Bs) (k : Nat) : (dAt L k).length = 32 := by simp [dAt]
theorem dAt_get (L : Bs) (k j : Nat) (h : j < 32) : (dAt L k)[j]? = some (obyte L j (min (k - 2 * j) 2)) := by simp [dAt, h]
theorem dAt_getD (L : Bs) (k j : Nat) (h : j < 32) : (dAt L k).getD j 0 = obyte L j (min (k - 2 * j) 2) := by
  rw [List.getD_eq_getElem?_getD, dAt_get L k j h]; rfl
theorem dAt_zero (L : Bs) : dAt L 0 = List.replicate 32 0 := by
  unfold dAt
  simp only [Nat.zero_sub, Nat.zero_min]
  simp [obyte, List.map_const']
/-- A byte, and one digit more. -/
def more (x : UInt8) (v : Nat) : UInt8 := UInt8.ofNat (x.toNat * 16 % 256 + v)
theorem dAt_succ (L : Bs) (k : Nat) (hk : k < 64) (hv : ∀ j, j < 64 → isH (L.getD j 0) = true ∨ k < j) : dAt L (k + 1) = (dAt L k).set (k / 2) (more ((dAt L k).getD (k / 2) 0) (hval (L.getD k 0))) := by
  apply List.ext_getElem?
  intro j
  rw [List.getElem?_set, dAt_length]
  by_cases hj : j < 32
  · rw [dAt_get _ _ _ hj]
    by_cases he : k / 2 = j
    · subst he
      rw [if_pos rfl, if_pos hj, dAt_getD _ _ _ hj]
      by_cases hp : k % 2 = 0
      · rw [show min (k + 1 - 2 * (k / 2)) 2 = 1 by omega, show min (k - 2 * (k / 2)) 2 = 0 by omega]
        simp only [obyte, more]
        rw [show 2 * (k / 2) = k by omega]
        simp
      · rw [show min (k + 1 - 2 * (k / 2)) 2 = 2 by omega, show min (k - 2 * (k / 2)) 2 = 1 by omega]
        simp only [obyte, more]
        rw [show 2 * (k / 2) + 1 = k by omega]
        have hl : hval (L.getD (2 * (k / 2)) 0) < 16 := by
          rcases hv (2 * (k / 2)) (by omega) with h | h
          · exact hval_lt _ h
          · omega
        rw [UInt8.toNat_ofNat', show (2 : Nat) ^ 8 = 256 from rfl, Nat.mod_eq_of_lt (a := hval (L.getD (2 * (k / 2)) 0)) (by omega), Nat.mod_eq_of_lt (by omega), Nat.mul_comm]
    · rw [if_neg he, dAt_get _ _ _ hj]
      congr 2
      omega
  · rw [List.getElem?_eq_none (by rw [dAt_length]; omega)]
    by_cases he : k / 2 = j
    · omega
    · rw [if_neg he, List.getElem?_eq_none (by rw [dAt_length]; omega)]
theorem dAt_two (L : Bs) (k : Nat) (hk : k < 32) : dAt L (2 * (k + 1)) = (dAt L (2 * k)).set k (UInt8.ofNat (16 * hval (L.getD (2 * k) 0) + hval (L.getD (2 * k + 1) 0))) := by
  apply List.ext_getElem?
  intro j
  rw [List.getElem?_set, dAt_length]
  by_cases hj : j < 32
  · rw [dAt_get _ _ _ hj]
    by_cases he : k = j
    · subst he
      rw [if_pos rfl, if_pos hj, show min (2 * (k + 1) - 2 * k) 2 = 2 by omega]
      rfl
    · rw [if_neg he, dAt_get _ _ _ hj]
      congr 2
      omega
  · rw [List.getElem?_eq_none (by rw [dAt_length]; omega)]
    by_cases he : k = j
    · omega
    · rw [if_neg he, List.getElem?_eq_none (by rw [dAt_length]; omega)]
/-- Is a text a digest's? The digest. -/
def okOf (L : Bs) : Bool := decide (L.length = 64) && L.all isH
def dOf (L : Bs) : Bs := if okOf L then dAt L 64 else List.replicate 32 0
theorem dOf_length (L : Bs) : (dOf L).length = 32 := by
  unfold dOf; split
  · exact dAt_length _ _
  · simp
theorem okOf_short (L : Bs) (h : L.length ≠ 64) : okOf L = false := by simp [okOf, h]
theorem okOf_bad (L : Bs) (j : Nat) (hj : j < L.length) (h : isH (L.getD j 0) = false) : okOf L = false := by
  rw [okOf, Bool.and_eq_false_iff]
  refine .inr ?_
  rw [List.all_eq_false]
  refine ⟨L.getD j 0, ?_, by rw [h]; decide⟩
  rw [List.getD_eq_getElem?_getD, List.getElem?_eq_getElem hj]
  exact List.getElem_mem hj
theorem okOf_good (L : Bs) (h64 : L.length = 64) (h : ∀ j, j < 64 → isH (L.getD j 0) = true) : okOf L = true := by
  rw [okOf, Bool.and_eq_true, decide_eq_true_eq, List.all_eq_true]
  refine ⟨h64, fun c hc => ?_⟩
  obtain ⟨j, hj, rfl⟩ := List.getElem_of_mem hc
  have := h j (by omega)
  rw [List.getD_eq_getElem?_getD, List.getElem?_eq_getElem hj] at this
  exact this
theorem dOf_bad (L : Bs) (h : okOf L = false) : dOf L = List.replicate 32 0 := by rw [dOf, h]; rfl
theorem dOf_good (L : Bs) (h : okOf L = true) : dOf L = dAt L 64 := by rw [dOf, h]; rfl

/-- There and back. -/
theorem digit_back : ∀ n, n < 16 → isH (hexD n) = true ∧ hval (hexD n) = n := by decide
theorem digit_there (c : UInt8) (h : isH c = true) : hexD (hval c) = c := by
  have := all_bytes (fun c => !isH c || (hexD (hval c) == c)) (by decide +kernel) c
  simpa [h] using this
theorem hexs_at (l : Bs) (j : Nat) (hj : j < l.length) : (hexs l).getD (2 * j) 0 = hexD ((l.getD j 0).toNat / 16) ∧ (hexs l).getD (2 * j + 1) 0 = hexD ((l.getD j 0).toNat % 16) := by
  induction l generalizing j with
  | nil => simp at hj
  | cons c r ih =>
    have e : hexs (c :: r) = hexD (c.toNat / 16) :: hexD (c.toNat % 16) :: hexs r := by simp [hexs]
    cases j with
    | zero => rw [e]; exact ⟨rfl, rfl⟩
    | succ j =>
      rw [e, show 2 * (j + 1) = 2 * j + 1 + 1 by omega]
      have := ih j (by simpa using hj)
      simpa using this
theorem of_hex (l : Bs) (hl : l.length = 32) : okOf (hexs l) = true ∧ dOf (hexs l) = l := by
  have hok : okOf (hexs l) = true := by
    refine okOf_good _ (by rw [hexs_length, hl]) (fun j hj => ?_)
    have h := hexs_at l (j / 2) (by omega)
    have hc := (l.getD (j / 2) 0).toNat_lt
    by_cases hp : j % 2 = 0
    · have := h.1
      rw [show 2 * (j / 2) = j by omega] at this
      rw [this]
      exact (digit_back _ (by omega)).1
    · have := h.2
      rw [show 2 * (j / 2) + 1 = j by omega] at this
      rw [this]
      exact (digit_back _ (by omega)).1
  refine ⟨hok, ?_⟩
  rw [dOf_good _ hok]
  apply List.ext_getElem?
  intro j
  by_cases hj : j < 32
  · rw [dAt_get _ _ _ hj, show min (64 - 2 * j) 2 = 2 by omega]
    obtain ⟨h1, h2⟩ := hexs_at l j (by omega)
    have hc := (l.getD j 0).toNat_lt
    simp only [obyte]
    rw [h1, h2, (digit_back _ (by omega)).2, (digit_back _ (by omega)).2, List.getElem?_eq_getElem (by omega)]
    have e : 16 * ((l.getD j 0).toNat / 16) + (l.getD j 0).toNat % 16 = (l.getD j 0).toNat := by omega
    rw [e, UInt8.ofNat_toNat, List.getD_eq_getElem?_getD, List.getElem?_eq_getElem (by omega)]
    rfl
  · rw [List.getElem?_eq_none (by rw [dAt_length]; omega), List.getElem?_eq_none (by omega)]
theorem hex_of (L : Bs) (h : okOf L = true) : hexs (dOf L) = L := by
  have h' := h
  rw [okOf, Bool.and_eq_true, decide_eq_true_eq, List.all_eq_true] at h'
  obtain ⟨h64, hall⟩ := h'
  have hH : ∀ j, j < 64 → isH (L.getD j 0) = true := fun j hj => by
    rw [List.getD_eq_getElem?_getD, List.getElem?_eq_getElem (by omega)]
    exact hall _ (List.getElem_mem _)
  rw [dOf_good _ h]
  apply List.ext_getElem?
  intro j
  by_cases hj : j < 64
  · have hlen : (hexs (dAt L 64)).length = 64 := by rw [hexs_length, dAt_length]
    have hg : ∀ (l : Bs) (h : j < l.length), l[j]? = some (l.getD j 0) := fun l h => by rw [List.getD_eq_getElem?_getD, List.getElem?_eq_getElem h]; rfl
    rw [hg _ (by omega), hg _ (by omega)]
    obtain ⟨h1, h2⟩ := hexs_at (dAt L 64) (j / 2) (by rw [dAt_length]; omega)
    rw [dAt_getD _ _ _ (by omega), show min (64 - 2 * (j / 2)) 2 = 2 by omega] at h1 h2
    have ha := hval_lt _ (hH (2 * (j / 2)) (by omega))
    have hb := hval_lt _ (hH (2 * (j / 2) + 1) (by omega))
    simp only [obyte] at h1 h2
    rw [UInt8.toNat_ofNat', show (2 : Nat) ^ 8 = 256 from rfl, Nat.mod_eq_of_lt (a := 16 * hval (L.getD (2 * (j / 2)) 0) + hval (L.getD (2 * (j / 2) + 1) 0)) (by omega)] at h1 h2
    by_cases hp : j % 2 = 0
    · rw [show 2 * (j / 2) = j by omega] at h1 ha
      rw [h1, show (16 * hval (L.getD j 0) + hval (L.getD (j + 1) 0)) / 16 = hval (L.getD j 0) by
        rw [show 2 * (j / 2) + 1 = j + 1 by omega] at hb
        omega, digit_there _ (hH j hj)]
    · rw [show 2 * (j / 2) + 1 = j by omega] at h2 hb
      rw [h2, show (16 * hval (L.getD (2 * (j / 2)) 0) + hval (L.getD j 0)) % 16 = hval (L.getD j 0) by omega, digit_there _ (hH j hj)]
  · rw [List.getElem?_eq_none (by rw [hexs_length, dAt_length]; omega), List.getElem?_eq_none (by omega)]
end Sh
end Go.Proofs.YtkdnkcdjmcimbaaDoor
