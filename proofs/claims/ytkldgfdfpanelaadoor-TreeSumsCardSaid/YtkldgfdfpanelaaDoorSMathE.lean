/-
  Layer 2 (sha): plain mathematics: sums of words as a region that draws its order spells them. Names no program.
-/
import Derived.Test.YtkldgfdfpanelaaDoorSMathD
namespace Go.Proofs.YtkldgfdfpanelaaDoor
namespace Sh
theorem wrap_add (x y : W) : IntKind.u32.wrap ((x.toNat : Int) + (y.toNat : Int)) = ((x + y : W).toNat : Int) := by
  rw [← badd]
  simp [IntKind.wrap, IntKind.bits, IntKind.signed]
theorem rot3_eq (x : W) (a b c : Nat) : bits .xor .u32 (bits .xor .u32 ((rotr x a).toNat : Int) ((rotr x b).toNat : Int)) ((rotr x c).toNat : Int) = ((rot3 x a b c).toNat : Int) := by
  rw [bxor, bxor]; rfl
theorem t2_all (t : St) : (((rot3 t.a 2 13 22).toNat : Int) + bits .xor .u32 (bits .xor .u32 (bits .and .u32 (t.a.toNat : Int) (t.b.toNat : Int)) (bits .and .u32 (t.a.toNat : Int) (t.c.toNat : Int))) (bits .and .u32 (t.b.toNat : Int) (t.c.toNat : Int))) % 4294967296 = ((t2 t).toNat : Int) := by
  rw [band, band, band, bxor, bxor, badd]; rfl
theorem addSt_at (s t : St) (k : Nat) (h : k < 8) : (addSt s t).list.take (k + 1) = (addSt s t).list.take k ++ [s.list.getD k 0 + t.list.getD k 0] := by
  match k, h with
  | 0, _ => rfl
  | 1, _ => rfl
  | 2, _ => rfl
  | 3, _ => rfl
  | 4, _ => rfl
  | 5, _ => rfl
  | 6, _ => rfl
  | 7, _ => rfl
theorem addSt_len (s t : St) (k : Nat) (h : k ≤ 8) : ((addSt s t).list.take k).length = k := by
  rw [List.length_take]; show min k 8 = k; omega
end Sh
end Go.Proofs.YtkldgfdfpanelaaDoor
