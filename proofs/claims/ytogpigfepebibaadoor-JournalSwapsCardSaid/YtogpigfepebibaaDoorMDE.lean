/-
  Layer 7 (disk): the walks of the document's with, pass. Layer 7 (disk): the walks of the document's pass, Append, Sync, Rename, Remove.
-/
import Derived.Test.YtogpigfepebibaaDoorMDB
import Derived.WalkLawsBesides
namespace Go.Proofs.YtogpigfepebibaaDoor
namespace Dk
open Go.RowKit Go.ChangeShapes Kr

theorem moreB (a b : ByteArray) : (!(Op.bytesLess a.toList b.toList || a.toList == b.toList)) = decide (b.data.toList < a.data.toList) := by
  rw [lessB, eqB]
  rcases tri a.data.toList b.data.toList with h | h | h
  · rw [decide_eq_true h, decide_eq_false (fun h2 => lt_no (lt_lt h h2))]; rfl
  · rw [decide_eq_true (ba_eq h), decide_eq_false (fun h2 => ne_of h2 h.symm), Bool.or_true]; rfl
  · rw [decide_eq_true h, decide_eq_false (fun h2 => lt_no (lt_lt h h2)), decide_eq_false (fun e => ne_of h (by rw [e]))]; rfl
def lowF (l : List FF) (f : FF) : List FF := l.filter (fun x => decide (nm x < nm f))
def highF (l : List FF) (f : FF) : List FF := l.filter (fun x => decide (nm f < nm x))
theorem withF_parts (l : List FF) (f : FF) : withF l f = lowF l f ++ [f] ++ highF l f := rfl
theorem low_snoc {l : List FF} {k : Nat} {x : FF} (hx : l[k]? = some x) (f : FF) : lowF (l.take (k + 1)) f = lowF (l.take k) f ++ if nm x < nm f then [x] else [] := by
  unfold lowF
  rw [take_snoc l k x hx, List.filter_append]
  by_cases h : nm x < nm f
  · rw [if_pos h]
    exact congrArg (_ ++ ·) (List.filter_cons_of_pos (p := fun x => decide (nm x < nm f)) (decide_eq_true h))
  · rw [if_neg h]
    exact congrArg (_ ++ ·) (List.filter_cons_of_neg (p := fun x => decide (nm x < nm f)) (fun e => h (of_decide_eq_true e)))
theorem high_snoc {l : List FF} {k : Nat} {x : FF} (hx : l[k]? = some x) (f : FF) : highF (l.take (k + 1)) f = highF (l.take k) f ++ if nm f < nm x then [x] else [] := by
  unfold highF
  rw [take_snoc l k x hx, List.filter_append]
  by_cases h : nm f < nm x
  · rw [if_pos h]
    exact congrArg (_ ++ ·) (List.filter_cons_of_pos (p := fun x => decide (nm f < nm x)) (decide_eq_true h))
  · rw [if_neg h]
    exact congrArg (_ ++ ·) (List.filter_cons_of_neg (p := fun x => decide (nm f < nm x)) (fun e => h (of_decide_eq_true e)))

end Dk
end Go.Proofs.YtogpigfepebibaaDoor

namespace Go.Proofs.YtogpigfepebibaaDoor
namespace Dk
open Go.RowKit Go.ChangeShapes Kr

end Dk
end Go.Proofs.YtogpigfepebibaaDoor
