/-
  Layer 6 (blobs): a blob built of a digest and bytes.
-/
import Derived.Test.YtiilmgbobjagkaaDoorBI
import Derived.Laws.Tables
namespace Go.Proofs.YtiilmgbobjagkaaDoor
namespace Bl
open Go.RowKit Kr

theorem fold_set : ∀ (vs : List Value) (o k : Nat) (cells : Array Value), o + k + vs.length ≤ cells.size →
    (vs.zipIdx k).foldl (fun cs (p : Value × Nat) => cs.setIfInBounds (o + p.2) p.1) cells = (cells.toList.take (o + k) ++ vs ++ cells.toList.drop (o + k + vs.length)).toArray
  | [], o, k, cells, _ => by simp
  | v :: vs, o, k, cells, h => by
    rw [List.zipIdx_cons, List.foldl_cons, fold_set vs o (k + 1) (cells.setIfInBounds (o + k) v) (by rw [Array.size_setIfInBounds]; simp at h; omega)]
    have e := list_put (xs := cells.toList) (r := vs) (o := o + k) (v := v) (by simp at h ⊢; omega)
    rw [Array.toList_setIfInBounds, show o + (k + 1) = o + k + 1 by omega, e]
theorem built_blob (parts : List (Nat × Value)) : Tryd.prog.built 37 parts = Instr.fill ((#[(0, 32), (32, 1)] : Array (Nat × Nat))[·]?) (encB (List.replicate 32 0, [])).toArray parts := by kernel_rfl
theorem fill_step (place : Nat → Option (Nat × Nat)) (cells : Array Value) (i off size : Nat) (v : Value) (rest : List (Nat × Value)) (hp : place i = some (off, size)) (hs : v.cells.size = size) (hf : off + size ≤ cells.size) :
    Instr.fill place cells ((i, v) :: rest) = Instr.fill place (cells.toList.take off ++ v.cells.toList ++ cells.toList.drop (off + size)).toArray rest := by
  have h1 := fold_set v.cells.toList off 0 cells (by rw [Array.length_toList, hs]; omega)
  rw [Array.length_toList, hs, Nat.add_zero] at h1
  rw [← h1]
  show (match place i with | none => none | some (off, size) => if v.cells.size ≠ size || off + v.cells.size > cells.size then none else Instr.fill place (v.cells.zipIdx.foldl (fun cs (c, j) => cs.setIfInBounds (off + j) c) cells) rest) = _
  rw [hp]
  simp only
  rw [if_neg (by simp [hs]; omega)]
  congr 1
  rw [← Array.foldl_toList, Array.toList_zipIdx]
theorem build_blob (D : Bs) (X : ByteArray) (h : D.length = 32) (W : World) : (Instr.build 37 #[(0, dv D), (1, .string X)]).run Tryd.prog W = .ok (.agg (encB (D, X.data.toList)).toArray) W := by
  refine run_build W 37 _ _ ?_
  have hb : (Sh.bvals D).length = 32 := by rw [Sh.bvals_length, h]
  have hz : (encB (List.replicate 32 0, [])).length = 33 := encB_length _
  have hc : (dv D).cells.toList = Sh.bvals D := by simp [Value.cells]
  have e3 : (encB (List.replicate 32 0, [])).drop 32 = [SV []] := by
    unfold encB
    rw [List.drop_left' (by rw [Sh.bvals_length, fix32_length])]
  rw [show (#[(0, dv D), (1, .string X)] : Array (Nat × Value)).toList = [(0, dv D), (1, .string X)] from rfl, built_blob]
  rw [fill_step _ _ 0 0 32 _ _ rfl (by rw [← Array.length_toList, hc, hb]) (by rw [List.size_toArray, hz]; omega), hc]
  rw [show (List.take 0 (encB (List.replicate 32 0, [])).toArray.toList ++ Sh.bvals D ++ List.drop (0 + 32) (encB (List.replicate 32 0, [])).toArray.toList) = Sh.bvals D ++ [SV []] from by rw [List.take_zero, List.nil_append, Nat.zero_add]; exact congrArg (Sh.bvals D ++ ·) e3]
  rw [fill_step _ _ 1 32 1 _ _ rfl rfl (by rw [List.size_toArray, List.length_append, hb]; exact Nat.le_refl _)]
  show some _ = _
  congr 1
  have e5 : List.take 32 (Sh.bvals D ++ [SV []]) = Sh.bvals D := List.take_left' hb
  have e6 : List.drop (32 + 1) (Sh.bvals D ++ [SV []]) = [] := List.drop_eq_nil_of_le (by rw [List.length_append, hb]; exact Nat.le_refl _)
  show (List.take 32 (Sh.bvals D ++ [SV []]) ++ [Value.string X] ++ List.drop (32 + 1) (Sh.bvals D ++ [SV []])).toArray = _
  rw [e5, e6, List.append_nil]
  unfold encB
  rw [fix32_id h, SV_str]
/-- A blob built, under a name that the walk doesn't lay open. -/
noncomputable def blobBuild (parts : Array (Nat × Value)) : Sem Next := do pure (.value (← Instr.build 37 parts))
theorem build_pre (ρ : Operand → Value) (dst : Option Tmp) (parts : Array (Nat × Operand)) (ty : TypeId) (pos : String) (after : Array Edge) (guard : Option (Nat × Bool)) :
    execOp ρ { dst, op := .build 37 parts, type := ty, pos, after, guard } = blobBuild (parts.map fun (i, x) => (i, ρ x)) := rfl
theorem build_is (D : Bs) (X : ByteArray) (h : D.length = 32) (W : World) : (blobBuild #[(0, dv D), (1, .string X)]).run Tryd.prog W = .ok (.value (.agg (encB (D, X.data.toList)).toArray)) W := by
  unfold blobBuild
  simp only [Sem.run_bind, build_blob D X h W, Sem.run_pure, Result.andThen]
end Bl
end Go.Proofs.YtiilmgbobjagkaaDoor
