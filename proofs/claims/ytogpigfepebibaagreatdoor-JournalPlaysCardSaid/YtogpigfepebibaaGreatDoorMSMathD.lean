/-
  Layer 2 (sha): plain mathematics: digests. Names no program. Layer 2 (sha): plain mathematics: sums of words as a region that draws its order spells them. Names no program.
-/
import Derived.Test.YtogpigfepebibaaGreatDoorMSMath
namespace Go.Proofs.YtogpigfepebibaaGreatDoor
namespace Sh

/-- A list while it is filled from its front. -/
def part {α : Type} (f : Nat → α) (z : α) (n k : Nat) : List α := (List.range n).map fun i => if i < k then f i else z
theorem part_length {α : Type} (f : Nat → α) (z : α) (n k : Nat) : (part f z n k).length = n := by simp [part]
theorem part_zero {α : Type} (f : Nat → α) (z : α) (n : Nat) : part f z n 0 = List.replicate n z := by
  simp [part, List.map_const']
theorem part_all {α : Type} (f : Nat → α) (z : α) (n : Nat) : part f z n n = (List.range n).map f := by
  unfold part
  apply List.map_congr_left
  intro i hi
  rw [if_pos (List.mem_range.1 hi)]
theorem part_get {α : Type} (f : Nat → α) (z : α) (n k j : Nat) (h : j < n) : (part f z n k)[j]? = some (if j < k then f j else z) := by
  simp [part, h]
theorem part_succ {α : Type} (f : Nat → α) (z : α) (n k : Nat) (hk : k < n) : part f z n (k + 1) = (part f z n k).set k (f k) := by
  apply List.ext_getElem?
  intro j
  rw [List.getElem?_set, part_length]
  by_cases hj : j < n
  · rw [part_get _ _ _ _ _ hj]
    by_cases he : k = j
    · subst he
      rw [if_pos (by omega), if_pos rfl, if_pos hk]
    · rw [if_neg he, part_get _ _ _ _ _ hj]
      by_cases hlt : j < k
      · rw [if_pos hlt, if_pos (by omega)]
      · rw [if_neg hlt, if_neg (by omega)]
  · rw [List.getElem?_eq_none (by rw [part_length]; omega)]
    by_cases he : k = j
    · omega
    · rw [if_neg he, List.getElem?_eq_none (by rw [part_length]; omega)]

/-- A digest's byte i, of the words. -/
def dByte (s : St) (i : Nat) : UInt8 := UInt8.ofNat ((s.list.getD (i / 4) 0).toNat / 2 ^ (24 - i % 4 * 8))
def digest (s : St) : Bs := (List.range 32).map (dByte s)
theorem digest_length (s : St) : (digest s).length = 32 := by simp [digest]
/-- The digest of a text. -/
def dig (L : Bs) : Bs := digest (st (L ++ tail L.length))
theorem dig_length (L : Bs) : (dig L).length = 32 := digest_length _
theorem dbyte_val (x : W) (e : Nat) : (x.toNat : Int) / 2 ^ e % 256 = ((UInt8.ofNat (x.toNat / 2 ^ e)).toNat : Int) := by
  rw [UInt8.toNat_ofNat']
  simp
theorem bvals_set (l : Bs) (j : Nat) (c : UInt8) : (bvals l).set j (.int .u8 (c.toNat : Int)) = bvals (l.set j c) := by
  simp [bvals, List.map_set]
theorem HC_one (ws : List W) (n : Nat) (r : Bs) : (HC ws n r).toArray.all (·.oneCell') = true := by
  rw [Array.all_eq_true_iff_forall_mem]
  intro v hv
  have hv := List.mem_toArray.1 hv
  unfold HC at hv
  rcases List.mem_append.1 hv with h | h
  · obtain ⟨x, _, rfl⟩ := List.mem_map.1 h; rfl
  · rcases List.mem_cons.1 h with rfl | h
    · rfl
    · obtain ⟨x, _, rfl⟩ := List.mem_map.1 h; rfl
theorem has_nil (r : Bs) (h : r.length = 64) : Has [] r := ⟨h, by simp⟩
theorem st_nil : st [] = init := rfl
end Sh
end Go.Proofs.YtogpigfepebibaaGreatDoor

namespace Go.Proofs.YtogpigfepebibaaGreatDoor
namespace Sh
theorem wrap_add (x y : W) : IntKind.u32.wrap ((x.toNat : Int) + (y.toNat : Int)) = ((x + y : W).toNat : Int) := by
  rw [← badd]
  simp [IntKind.wrap, IntKind.bits, IntKind.signed]
theorem rot3_eq (x : W) (a b c : Nat) : bits .xor .u32 (bits .xor .u32 ((rotr x a).toNat : Int) ((rotr x b).toNat : Int)) ((rotr x c).toNat : Int) = ((rot3 x a b c).toNat : Int) := by
  rw [bxor, bxor]; rfl
theorem t2_all (t : St) : (((rot3 t.a 2 13 22).toNat : Int) + bits .xor .u32 (bits .xor .u32 (bits .and .u32 (t.a.toNat : Int) (t.b.toNat : Int)) (bits .and .u32 (t.a.toNat : Int) (t.c.toNat : Int))) (bits .and .u32 (t.b.toNat : Int) (t.c.toNat : Int))) % 4294967296 = ((t2 t).toNat : Int) := by
  rw [band, band, band, bxor, bxor, badd]; rfl
theorem addSt_at (s t : St) (k : Nat) (h : k < 8) : (addSt s t).list.take (k + 1) = (addSt s t).list.take k ++ [s.list.getD k 0 + t.list.getD k 0] := by
  match k, h with
  | 0, _ => rfl
  | 1, _ => rfl
  | 2, _ => rfl
  | 3, _ => rfl
  | 4, _ => rfl
  | 5, _ => rfl
  | 6, _ => rfl
  | 7, _ => rfl
theorem addSt_len (s t : St) (k : Nat) (h : k ≤ 8) : ((addSt s t).list.take k).length = k := by
  rw [List.length_take]; show min k 8 = k; omega
end Sh
end Go.Proofs.YtogpigfepebibaaGreatDoor
