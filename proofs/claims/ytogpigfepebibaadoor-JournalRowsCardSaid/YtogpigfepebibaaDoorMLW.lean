/-
  Layer 8 (journal): what the list of law Rows' row gives.
-/
import Derived.Test.YtogpigfepebibaaDoorMEV
import Derived.Test.YtogpigfepebibaaDoorMPD
import Derived.Stop.LaidErr
namespace Go.Proofs.YtogpigfepebibaaDoor
namespace Jl
open Go.ChangeShapes Go.WideShapes Go.ChangeAt Go.RowKit Go.Deep Kr Dk

theorem gTabP : Tryd.prog.globalNamed "internal/strconv.uint64pow10" = some 1 := by kernel_rfl
theorem gTabPType : (Tryd.prog.globals[1]?).map (·.type) = some 143 := by kernel_rfl
/-- What the row's list gives. -/
theorem tabs_of {W : World} (h : laidMetH Tryd.prog [("math/bits.deBruijn32tab", Rows.laid_math_bits_deBruijn32tab), ("math/bits.deBruijn64tab", Rows.laid_math_bits_deBruijn64tab), ("internal/strconv.uint64pow10", Rows.laid_internal_strconv_uint64pow10), ("bloomery/sha.roundKeys", Rows.laid_bloomery_sha_roundKeys)] W)
    (hp : ([("math/bits.deBruijn32tab", (Rows.laid_math_bits_deBruijn32tab : DataW Unit)), ("math/bits.deBruijn64tab", Rows.laid_math_bits_deBruijn64tab), ("internal/strconv.uint64pow10", Rows.laid_internal_strconv_uint64pow10), ("bloomery/sha.roundKeys", Rows.laid_bloomery_sha_roundKeys)].all fun x => x.2.handleName?.isNone) = true) : Ok W.heap.size W ∧ PT W := by
  rw [MakeChecks.laidMetH_plain _ _ _ hp] at h
  have h2 := h.tail.tail
  have h3 := h.tail.tail.tail
  have e : (Rows.laid_internal_strconv_uint64pow10 : DataW Unit) = Lib.tabData .u64 Lib.pow10Tab := by kernel_rfl
  rw [e] at h2
  exact ⟨sha_tab h3, Lib.tabBelow_of_tabIs (Lib.tabIs_of_head gTabP gTabPType Tryd.underlying143 Tryd.underlying112 (by kernel_rfl) (by kernel_rfl) h2)⟩
end Jl
end Go.Proofs.YtogpigfepebibaaDoor
