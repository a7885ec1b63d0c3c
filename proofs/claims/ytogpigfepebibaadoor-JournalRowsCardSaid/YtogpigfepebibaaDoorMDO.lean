/-
  Layer 7 (disk): a crash, file by file; the walk of the document's Crash.
-/
import Derived.Test.YtogpigfepebibaaDoorMDI
import Derived.StillTailTactics
namespace Go.Proofs.YtogpigfepebibaaDoor
namespace Dk
open Go.RowKit Go.ChangeShapes Kr

/-- What a crash makes of one file, by the picks that are left. -/
def crash1 (f : FF) (r : List Int) : FF := if f.sure < f.data.size then cutV f (r.headD 0) else ⟨f.name, f.data, f.data.size⟩
/-- How many picks are used. -/
def used : List FF → Nat
  | [] => 0
  | f :: t => (if f.sure < f.data.size then 1 else 0) + used t
theorem used_snoc : ∀ (t : List FF) (x : FF), used (t ++ [x]) = used t + if x.sure < x.data.size then 1 else 0
  | [], x => by simp [used]
  | f :: t, x => by
    show (if f.sure < f.data.size then 1 else 0) + used (t ++ [x]) = (if f.sure < f.data.size then 1 else 0) + used t + _
    rw [used_snoc t x]; omega
theorem used_le : ∀ t : List FF, used t ≤ t.length
  | [] => Nat.le_refl _
  | f :: t => by
    have := used_le t
    show (if f.sure < f.data.size then 1 else 0) + used t ≤ t.length + 1
    split <;> omega
theorem crash_snoc : ∀ (t : List FF) (ps : List Int) (x : FF), crashV (t ++ [x]) ps = crashV t ps ++ [crash1 x (ps.drop (used t))]
  | [], ps, x => by
    show crashV [x] ps = [] ++ [crash1 x (ps.drop 0)]
    unfold crashV crash1
    split <;> rfl
  | f :: t, ps, x => by
    show crashV (f :: (t ++ [x])) ps = _
    unfold crashV used
    split
    · rw [crash_snoc t ps.tail x]
      rw [show ps.drop (1 + used t) = ps.tail.drop (used t) by rw [List.drop_tail, Nat.add_comm]]
      rfl
    · rw [crash_snoc t ps x, Nat.zero_add]
      rfl
theorem crash_len : ∀ (l : List FF) (ps : List Int), (crashV l ps).length = l.length := fun l ps => by
  have := congrArg List.length (crash_names l ps)
  simpa using this
theorem head_drop (ps : List Int) (k : Nat) : (ps.drop k).headD 0 = ps.getD k 0 := by
  rw [List.headD_eq_head?_getD, List.head?_drop, List.getD_eq_getElem?_getD]
theorem rem_pos (z : Int) (n : Nat) (hn : 0 < n) : Int.tmod (Int.tmod z n + n) n = z % n := by
  have h1 := Int.tmod_eq_emod (a := z) (b := n)
  have h2 := Int.emod_nonneg z (show (n : Int) ≠ 0 by omega)
  have h3 := Int.emod_lt_of_pos z (show (0 : Int) < n by omega)
  have h4 : 0 ≤ Int.tmod z n + n := by
    rw [h1]; split <;> omega
  rw [Int.tmod_eq_emod_of_nonneg h4, h1]
  split
  · rw [show ((0 : Nat) : Int) = 0 from rfl, Int.sub_zero, Int.add_emod_right, Int.emod_emod]
  · rw [Int.natAbs_natCast, Int.sub_add_cancel, Int.emod_emod]

theorem owns_far {α : Type} {enc : α → List Value} {k : Nat} {T : TypeId} {w : World} {base b : Nat} {v : Value} {t : List α} (h : OwnsK enc k T w base v t) (hb : b < base) (o : Nat) (u : Value) : OwnsK enc k T (w.setCell ⟨b, o, none⟩ u) base v t := by
  refine ⟨h.1, h.2.imp id ?_⟩
  rintro ⟨g, c, cur, h1, h2, h3, h4⟩
  exact ⟨g, c, cur, h1, h2, (Below.heap_setCell w ⟨b, o, none⟩ u g (by show g ≠ b; omega)).trans h3, h4⟩
theorem owns_turn {α : Type} {enc : α → List Value} {k : Nat} {T : TypeId} {w w' : World} {base b : Nat} {v : Value} {t : List α} (h : OwnsK enc k T w base v t) (ht : Turn b w w') (hb : b < base) : OwnsK enc k T w' base v t := by
  refine ⟨h.1, h.2.imp id ?_⟩
  rintro ⟨g, c, cur, h1, h2, h3, h4⟩
  exact ⟨g, c, cur, h1, h2, (ht.2.2.2.2 g (by omega)).trans h3, h4⟩
theorem cut_front (X : ByteArray) (n : Nat) (hn : n ≤ X.size) (W : World) :
    (Instr.slice 9 (.string X) none (some (.int .i64 (n : Int))) none).run Tryd.prog W = .ok (.string (X.extract 0 n)) W := by
  rw [run_slice_string_to_if (P := Tryd.prog) W 9 X .i64 (n : Int) Tryd.underlying9]
  rw [if_pos (by omega)]
  rfl
theorem wrap_id (z : Int) (h : -9223372036854775808 ≤ z ∧ z ≤ 9223372036854775807) : IntKind.i64.wrap z = z := by
  simp [IntKind.wrap, IntKind.bits, IntKind.signed]
  omega
theorem tmod_low (z : Int) (n : Nat) (hn : 0 < n) : -(n : Int) ≤ Int.tmod z n := by
  rw [Int.tmod_eq_emod, Int.natAbs_natCast]
  have h := Int.emod_nonneg z (show (n : Int) ≠ 0 by omega)
  split <;> omega

end Dk
end Go.Proofs.YtogpigfepebibaaDoor
