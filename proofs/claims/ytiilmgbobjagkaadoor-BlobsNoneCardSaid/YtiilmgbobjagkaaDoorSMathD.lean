/-
  Layer 2 (sha): plain mathematics: digests. Names no program.
-/
import Derived.Test.YtiilmgbobjagkaaDoorSMath
namespace Go.Proofs.YtiilmgbobjagkaaDoor
namespace Sh

/-- A list while it is filled from its front. -/
def part {α : Type} (f : Nat → α) (z : α) (n k : Nat) : List α := (List.range n).map fun i => if i < k then f i else z
theorem part_length {α : Type} (f : Nat → α) (z : α) (n k : Nat) : (part f z n k).length = n := by simp [part]
theorem part_zero {α : Type} (f : Nat → α) (z : α) (n : Nat) : part f z n 0 = List.replicate n z := by
  simp [part, List.map_const']
theorem part_all {α : Type} (f : Nat → α) (z : α) (n : Nat) : part f z n n = (List.range n).map f := by
  unfold part
  apply List.map_congr_left
  intro i hi
  rw [if_pos (List.mem_range.1 hi)]
theorem part_get {α : Type} (f : Nat → α) (z : α) (n k j : Nat) (h : j < n) : (part f z n k)[j]? = some (if j < k then f j else z) := by
  simp [part, h]
theorem part_succ {α : Type} (f : Nat → α) (z : α) (n k : Nat) (hk : k < n) : part f z n (k + 1) = (part f z n k).set k (f k) := by
  apply List.ext_getElem?
  intro j
  rw [List.getElem?_set, part_length]
  by_cases hj : j < n
  · rw [part_get _ _ _ _ _ hj]
    by_cases he : k = j
    · subst he
      rw [if_pos (by omega), if_pos rfl, if_pos hk]
    · rw [if_neg he, part_get _ _ _ _ _ hj]
      by_cases hlt : j < k
      · rw [if_pos hlt, if_pos (by omega)]
      · rw [if_neg hlt, if_neg (by omega)]
  · rw [List.getElem?_eq_none (by rw [part_length]; omega)]
    by_cases he : k = j
    · omega
    · rw [if_neg he, List.getElem?_eq_none (by rw [part_length]; omega)]

/-- A digest's byte i, of the words. -/
def dByte (s : St) (i : Nat) : UInt8 := UInt8.ofNat ((s.list.getD (i / 4) 0).toNat / 2 ^ (24 - i % 4 * 8))
def digest (s : St) : Bs := (List.range 32).map (dByte s)
theorem digest_length (s : St) : (digest s).length = 32 := by simp [digest]
/-- The digest of a text. -/
def dig (L : Bs) : Bs := digest (st (L ++ tail L.length))
theorem dig_length (L : Bs) : (dig L).length = 32 := digest_length _
theorem dbyte_val (x : W) (e : Nat) : (x.toNat : Int) / 2 ^ e % 256 = ((UInt8.ofNat (x.toNat / 2 ^ e)).toNat : Int) := by
  rw [UInt8.toNat_ofNat']
  simp
theorem bvals_set (l : Bs) (j : Nat) (c : UInt8) : (bvals l).set j (.int .u8 (c.toNat : Int)) = bvals (l.set j c) := by
  simp [bvals, List.map_set]
theorem HC_one (ws : List W) (n : Nat) (r : Bs) : (HC ws n r).toArray.all (·.oneCell') = true := by
  rw [Array.all_eq_true_iff_forall_mem]
  intro v hv
  have hv := List.mem_toArray.1 hv
  unfold HC at hv
  rcases List.mem_append.1 hv with h | h
  · obtain ⟨x, _, rfl⟩ := List.mem_map.1 h; rfl
  · rcases List.mem_cons.1 h with rfl | h
    · rfl
    · obtain ⟨x, _, rfl⟩ := List.mem_map.1 h; rfl
theorem has_nil (r : Bs) (h : r.length = 64) : Has [] r := ⟨h, by simp⟩
theorem st_nil : st [] = init := rfl
end Sh
end Go.Proofs.YtiilmgbobjagkaaDoor
