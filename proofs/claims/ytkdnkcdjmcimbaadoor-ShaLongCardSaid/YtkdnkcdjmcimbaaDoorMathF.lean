/-
  Layer 2 (sha): plain mathematics: digests as texts; the document's example. Names no program.
-/
import Derived.Test.YtkdnkcdjmcimbaaDoorMathE
namespace Go.Proofs.YtkdnkcdjmcimbaaDoor
namespace Sh
/-- A digit's byte. -/
def hexD (n : Nat) : UInt8 := if n < 10 then UInt8.ofNat (48 + n) else UInt8.ofNat (87 + n)
def hexs (l : Bs) : Bs := l.flatMap fun c => [hexD (c.toNat / 16), hexD (c.toNat % 16)]
theorem hexs_snoc (l : Bs) (c : UInt8) : hexs (l ++ [c]) = hexs l ++ [hexD (c.toNat / 16), hexD (c.toNat % 16)] := by simp [hexs]
theorem hexs_length (l : Bs) : (hexs l).length = 2 * l.length := by
  induction l with
  | nil => rfl
  | cons c r ih => 
    have : hexs (c :: r) = [hexD (c.toNat / 16), hexD (c.toNat % 16)] ++ hexs r := by simp [hexs]
    rw [this, List.length_append, ih]; simp; omega
theorem abc : hexs (dig [97, 98, 99]) = [98, 97, 55, 56, 49, 54, 98, 102, 56, 102, 48, 49, 99, 102, 101, 97, 52, 49, 52, 49, 52, 48, 100, 101, 53, 100, 97, 101, 50, 50, 50, 51, 98, 48, 48, 51, 54, 49, 97, 51, 57, 54, 49, 55, 55, 97, 57, 99, 98, 52, 49, 48, 102, 102, 54, 49, 102, 50, 48, 48, 49, 53, 97, 100] := by
  decide +kernel
end Sh
end Go.Proofs.YtkdnkcdjmcimbaaDoor
