/-
  Layer 7 (disk): the walk of the document's Remove. Layer 7 (disk): the walk of the document's Rename.
-/
import Derived.Test.YtogpigfepebibaaDoorMDG
namespace Go.Proofs.YtogpigfepebibaaDoor
namespace Dk
open Go.RowKit Go.ChangeShapes Kr

theorem SitD.laid {x b n cap : Nat} {A : Option Addr} {left : Int} {W : World} (h : W.cell? ⟨x, 0, none⟩ = some (.slice A n cap) ∧ W.cell? ⟨x, 1, none⟩ = some (.int .i64 left)) (hx : b ≠ x) (u v : Value) :
    ((W.setCell ⟨b, 0, none⟩ u).setCell ⟨b, 1, none⟩ v).cell? ⟨x, 0, none⟩ = some (.slice A n cap) ∧ ((W.setCell ⟨b, 0, none⟩ u).setCell ⟨b, 1, none⟩ v).cell? ⟨x, 1, none⟩ = some (.int .i64 left) :=
  ⟨(far2 _ _ _ _ ⟨x, 0, none⟩ hx).trans h.1, (far2 _ _ _ _ ⟨x, 1, none⟩ hx).trans h.2⟩

end Dk
end Go.Proofs.YtogpigfepebibaaDoor

namespace Go.Proofs.YtogpigfepebibaaDoor
namespace Dk
open Go.RowKit Go.ChangeShapes Kr

end Dk
end Go.Proofs.YtogpigfepebibaaDoor
