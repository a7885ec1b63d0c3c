/-
  Elements of k cells inside a fence: a load, a store, a slice literal of one. Of no program.
-/
import Derived.Test.YtiilmgbobjagkaaDoorKR
import Derived.Test.YtiilmgbobjagkaaDoorSB
import Derived.OwnWalkIn
namespace Go.Proofs.YtiilmgbobjagkaaDoor
namespace Kr
open Go.RowKit
section
variable {F : Fence} {n : Nat} {P : Program} {ops : Array Oper} {rest : List Oper} {o : Oper} {a : Act} {w : World} {Q : Exit → Act → World → Prop}
theorem wpListIn_load_at (hgd : o.guard = none) (ty : TypeId) (x : Operand) (ho : o.op = .load ty x) (p : Addr) (hx : a.eval x = .pointer (some p)) (cs : List Value) (k : Nat)
    (hagg : (isAgg ty).run P w = .ok true w) (hsz : (sizeOf ty).run P w = .ok k w) (hk : cs.length = k) (hc : ∀ j v, cs[j]? = some v → w.cell? (p.add j) = some v)
    (h : wpListIn F n P ops Q rest (a.put o.dst (.agg cs.toArray)) w) : wpListIn F n P ops Q (o :: rest) a w := by
  refine wpListIn_plain hgd fun K hK => ?_
  subst hk
  have hl := run_loadCells_list (P := P) w p cs hc
  unfold Oper.wpIn
  refine ⟨by simp [Oper.about, ho], ?_⟩
  rw [Oper.semAt_plain F _ _ (by rw [ho]; intro c hc'; cases hc')]
  unfold execOp
  simp only [ho, hx, Instr.loadAt, Instr.sureAddr, Sem.run_bind, Sem.run_pure, Result.andThen_ok, loadVar, hagg, if_true, hsz, hl]
  exact hK _ _ h
theorem wpListIn_store_all (hgd : o.guard = none) (ty : TypeId) (x y : Operand) (ho : o.op = .store ty x y)
    (g : Nat) (L : List Value) (hx : a.eval x = .pointer (some ⟨g, 0, none⟩)) (hy : a.eval y = .agg L.toArray)
    (t : TypeId) (old : List Value) (hg : Sh.Row w g t old) (hi : (P.info? ty).map (·.size) = some L.length) (hold : old.length = L.length) (h1 : L.toArray.all (·.oneCell') = true)
    (h : ∀ w', Hid (Sh.Row w' g t L) → Hid (Sh.Turn g w w') → wpListIn F n P ops Q rest (a.put o.dst undef) w') : wpListIn F n P ops Q (o :: rest) a w := by
  refine wpListIn_plain hgd fun K hK => ?_
  unfold Oper.wpIn
  refine ⟨by simp [Oper.about, ho], ?_⟩
  rw [Oper.semAt_plain F _ _ (by rw [ho]; intro c hc'; cases hc')]
  unfold execOp
  simp only [ho, hx, hy, Instr.storeAt, Instr.sureAddr, Sem.run_bind, Sem.run_pure, Result.andThen_ok, run_storeVar_row w g t ty old.toArray L.toArray hg (by simpa using hi) (by simpa using hold) h1]
  exact hK _ _ (h _ (Sh.Row.laid hg L) ⟨rfl, rfl, rfl, by simp, fun k hk => setRow_other w g k _ hk⟩)
theorem wpListIn_lit_one (hgd : o.guard = none) (t e : TypeId) (x : Operand) (ho : o.op = .buildSlice t 1 #[(0, x)]) (cs : List Value) (k : Nat) (hx : a.eval x = .agg cs.toArray)
    (ie : TypeInfo) (z : Value) (hu : P.underlying t = some (.slice e)) (hie : P.info? e = some ie) (hz : ie.zero = some z) (hk : ie.size = k) (hcs : cs.length = k) (hpos : 0 < k) (hsmall : k ≤ 2 ^ 24)
    (h : wpListIn F n P ops Q rest (a.put o.dst (.slice (some ⟨w.heap.size, 0, none⟩) 1 1)) (w.alloc (.cells cs.toArray e))) : wpListIn F n P ops Q (o :: rest) a w := by
  refine wpListIn_plain hgd fun K hK => ?_
  have hw := Great.fill_whole (s := k) hpos [.agg cs.toArray] ((Array.range (1 * ie.size)).map (z.cells[· % z.cells.size]!)) (by intro v hv; obtain rfl := List.mem_singleton.1 hv; simp [Value.cells, hcs]) (by simp [hk])
  have hrun := run_buildSlice (P := P) w t e 1 #[(0, .agg cs.toArray)] cs.toArray ie z hu hie hz (by omega) (by omega) (by simpa [hk, Value.cells] using hw)
  unfold Oper.wpIn
  refine ⟨by simp [Oper.about, ho], ?_⟩
  rw [Oper.semAt_plain F _ _ (by rw [ho]; intro c hc'; cases hc')]
  unfold execOp
  have e1 : (#[(0, x)] : Array (Nat × Operand)).map (fun p => (p.1, a.eval p.2)) = #[(0, .agg cs.toArray)] := by simp [hx]
  simp only [ho, Sem.run_bind]
  first
    | (rw [show (#[(0, x)] : Array (Nat × Operand)).map (fun (i, x) => (i, a.eval x)) = #[(0, .agg cs.toArray)] from e1, hrun])
    | (simp [hx, hrun])
  exact hK _ _ h
end
end Kr
end Go.Proofs.YtiilmgbobjagkaaDoor
