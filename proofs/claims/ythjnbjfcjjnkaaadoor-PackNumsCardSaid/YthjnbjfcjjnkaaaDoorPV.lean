/-
  Layer 1 (pack): what a row's list gives of the library's two errors.
-/
import Derived.Test.YthjnbjfcjjnkaaaDoorP
import Derived.Test.YthjnbjfcjjnkaaaDoorL
namespace Go.Proofs.YthjnbjfcjjnkaaaDoor
namespace Pk
open Go.ChangeShapes Go.WideShapes Go.ChangeAt Go.RowKit

theorem gRange : Tryd.prog.globalNamed "strconv.ErrRange" = some 1 := by kernel_rfl
theorem gSyn : Tryd.prog.globalNamed "strconv.ErrSyntax" = some 0 := by kernel_rfl
theorem gRangeType : (Tryd.prog.globals[1]?).map (·.type) = some 47 := by kernel_rfl
theorem gSynType : (Tryd.prog.globals[0]?).map (·.type) = some 47 := by kernel_rfl
theorem cellsErr : Tryd.prog.cellsOf 91 = 1 := by kernel_rfl

theorem star : ("*errors.errorString" : String) = "*" ++ "errors.errorString" := by decide
theorem rowErr (u : TypeId) (h : Tryd.prog.typeName? 3 u = some "*errors.errorString") : u = 89 :=
  typeName_ptr_named (nm := "errors.errorString") (by rw [← star]; kernel_rfl) (by kernel_rfl) (by decide) u (by rw [← star]; exact h)

theorem vars_of {W : World} (h : laidMetH Tryd.prog Rows.packNumsRow.laid W) (hp : (Rows.packNumsRow.laid.all fun x => x.2.handleName?.isNone) = true) : VarsAt W := by
  rw [MakeChecks.laidMetH_plain _ _ _ hp] at h
  have h1 : laidMet Tryd.prog [("strconv.ErrRange", Rows.laid_strconv_ErrRange), ("strconv.ErrSyntax", Rows.laid_strconv_ErrSyntax)] W := h.tail.tail.tail
  obtain ⟨a1, _, hv1, _⟩ := laid_sentinel h1 gRange gRangeType Tryd.underlying47 rowErr Tryd.underlying89 Tryd.underlying91 rfl rfl Tryd.underlying9 cellsErr cells_str
  obtain ⟨a2, _, hv2, _⟩ := laid_sentinel h1.tail gSyn gSynType Tryd.underlying47 rowErr Tryd.underlying89 Tryd.underlying91 rfl rfl Tryd.underlying9 cellsErr cells_str
  exact ⟨⟨_, _, hv2⟩, ⟨_, _, hv1⟩⟩
end Pk
end Go.Proofs.YthjnbjfcjjnkaaaDoor
