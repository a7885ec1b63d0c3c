/-
  Layer 1 (pack): the walk of Row.
-/
import Derived.Test.YtogpigfepebibaaGreatDoorMPC
import Derived.Test.YtogpigfepebibaaGreatDoorMShelf
import Derived.Lib.AppendIntMem
import Derived.Lib.UnsafeStr
namespace Go.Proofs.YtogpigfepebibaaGreatDoor
namespace Pk
open Go.RowKit Go.Sort

abbrev Tab (B : Nat) (w : World) : Prop := Lib.TabBelow Tryz.prog B w "internal/strconv.uint64pow10" .u64 Lib.pow10Tab

theorem below_grow (B : Nat) (w : World) (k : Nat) (os : Array Obj) (hB : B ≤ w.heap.size) : Below B w (grow (w.drewN k) os) := by
  refine ⟨rfl, rfl, rfl, ?_, ?_⟩
  · simp [grow]
  · intro b hb
    have hb' : b < w.heap.size := by omega
    simp [grow, Array.getElem?_append, hb']

theorem grown_of_below {w w' : World} (h : Below w.heap.size w w') (row : Option Nat) : w.grownBy w' row := ⟨h.os, h.tape, h.output, h.size, fun i hi _ => h.block i hi⟩

theorem owns_keep {w w' : World} {base e size n : Nat} {v : Value} {xs : List Value} (h : w.ownsRow base e size v n xs) (hb : Below w.heap.size w w') : w'.ownsRow base e size v n xs :=
  h.kept (row := none) (grown_of_below hb none) (by cases v.ownBlock <;> simp)

theorem bat_keep {B b : Nat} {p : Value} {bs : List Value} {w w' : World} (h : Lib.BuilderAt 78 5 B b p bs w) (hb : Below w.heap.size w w') : Lib.BuilderAt 78 5 B b p bs w' := by
  have hlt := h.lt
  obtain ⟨hB, v, hbk, hown, hne⟩ := h
  exact ⟨hB, v, (hb.block b hlt).trans hbk, owns_keep hown hb, hne⟩

theorem isB_keep {B b : Nat} {bs : List Value} {w w' : World} (h : IsB B b bs w) (hb : Below w.heap.size w w') : IsB B b bs w' := by
  rcases h with h | h
  · exact .inl (bat_keep h hb)
  · exact .inr (bat_keep h hb)

theorem enc_take_le (xs : List Bs) (k : Nat) : (enc (xs.take k)).length ≤ (enc xs).length := by
  have h := enc_append (xs.take k) (xs.drop k)
  rw [List.take_append_drop] at h
  rw [h, List.length_append]
  omega

theorem enc_snoc (xs : List Bs) (k : Nat) (x : Bs) (h : xs[k]? = some x) : enc (xs.take (k + 1)) = enc (xs.take k) ++ Lib.decDigits x.length ++ [58] ++ x := by
  rw [take_snoc xs k x h, enc_append]
  simp [enc]

end Pk
end Go.Proofs.YtogpigfepebibaaGreatDoor
