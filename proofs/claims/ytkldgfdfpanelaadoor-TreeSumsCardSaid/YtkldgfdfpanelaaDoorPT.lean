/-
  Layer 1 (pack): how long a row's bytes are.
-/
import Derived.Test.YtkldgfdfpanelaaDoorPE
namespace Go.Proofs.YtkldgfdfpanelaaDoor
namespace Pk
open Go.RowKit

theorem enc_le (xs : List Bs) : (enc xs).length ≤ 2 * tot xs := by
  induction xs with
  | nil => simp [enc]
  | cons s r ih =>
    have hd := Lib.decDigits_length s.length
    have hl : Lib.nDigits s.length ≤ s.length + 1 := by
      by_cases h : s.length = 0
      · rw [h, Lib.nDigits_small (by omega)]; omega
      · have := nDigits_le_self s.length (by omega); omega
    simp only [enc, tot, List.length_append, List.length_cons]
    omega

end Pk
end Go.Proofs.YtkldgfdfpanelaaDoor
