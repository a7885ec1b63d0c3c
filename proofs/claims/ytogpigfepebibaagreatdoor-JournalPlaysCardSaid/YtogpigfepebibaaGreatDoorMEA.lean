/-
  Layer 7 (disk): a map of files by their names, and the landed disk in memory.
-/
import Derived.Test.YtogpigfepebibaaGreatDoorMDA
import Derived.Maps.Own
import Derived.Maps.OwnOps
import Derived.Maps.OwnSet
import Derived.Lib.AppendStr
import Derived.Test.YtogpigfepebibaaGreatDoorMKR
namespace Go.Proofs.YtogpigfepebibaaGreatDoor
namespace Dk
open Go.RowKit Go.ChangeShapes Go.ChangeMaps Kr Go.Maps

theorem withF_len_eq (l : List FF) (f : FF) : (withF l f).length = (dropF l f.name).length + 1 := by
  have h : ∀ t : List FF, (t.filter (fun x => decide (nm x < nm f))).length + (t.filter (fun x => decide (nm f < nm x))).length = (dropF t f.name).length := fun t => by
    unfold dropF
    induction t with
    | nil => simp
    | cons x t ih =>
      simp only [List.filter_cons]
      rcases tri (nm x) (nm f) with h1 | h1 | h1
      · have h2 : ¬ nm f < nm x := fun h2 => lt_no (lt_lt h1 h2)
        have h3 : x.name ≠ f.name := fun e => ne_of h1 (by unfold nm; rw [e])
        rw [decide_eq_true h1, decide_eq_false h2, decide_eq_true h3]
        simp only [if_true, Bool.false_eq_true, if_false, List.length_cons]
        omega
      · have h3 : ¬ x.name ≠ f.name := fun h => h (ba_eq h1)
        have h2 : ¬ nm f < nm x := fun h => ne_of h h1.symm
        have h4 : ¬ nm x < nm f := fun h => ne_of h h1
        rw [decide_eq_false h2, decide_eq_false h3, decide_eq_false h4]
        simpa using ih
      · have h2 : ¬ nm x < nm f := fun h2 => lt_no (lt_lt h1 h2)
        have h3 : x.name ≠ f.name := fun e => ne_of h1 (by unfold nm; rw [e])
        rw [decide_eq_false h2, decide_eq_true h1, decide_eq_true h3]
        simp only [if_true, Bool.false_eq_true, if_false, List.length_cons]
        omega
  have := h l
  unfold withF
  simp only [List.length_append, List.length_singleton]
  omega
theorem dropF_len_eq : ∀ {l : List FF} (p : ByteArray), Rise l → (dropF l p).length + (if (at? l p).isSome = true then 1 else 0) = l.length
  | [], p, _ => rfl
  | f :: l, p, h => by
    obtain ⟨h1, h2⟩ := List.pairwise_cons.1 h
    have ih := dropF_len_eq p h2
    unfold dropF at ih ⊢
    rw [at_cons]
    by_cases e : f.name = p
    · subst e
      rw [List.filter_cons_of_neg (by simp), if_pos rfl]
      have hn : at? l f.name = none := at_none.2 fun x hx e => ne_of (h1 x hx) (by unfold nm; rw [e])
      rw [hn] at ih
      rw [show (none : Option FF).isSome = false from rfl, if_neg (by simp), Nat.add_zero] at ih
      rw [ih]; rfl
    · rw [List.filter_cons_of_pos (by simpa using e), if_neg e, List.length_cons, List.length_cons]
      omega

/-! A map of files. -/
abbrev hold : Value → Option (DataW Value × List MemPlace) := fun v => some (.held v, [])
/-- A file as an element: the slice of its bytes, and how many of them are sure. -/
def fval (v : Value) (k : Nat) : Value := .agg #[v, .int .i64 (k : Int)]
theorem keyed : Keyed Tryz.prog 9 := string_keyed Tryz.underlying9
theorem key_name {p : ByteArray} (h : NB p) : keyOf Tryz.prog 9 (.string p) = some (.string p.data.toList) := WideMaps.keyOf_string_mk Tryz.underlying9 (Nat.le_trans h (by decide))
theorem map_und : Tryz.prog.underlying 60 = some (.map 9 87) := Tryz.underlying60
theorem zeroFile (w : World) : (zeroValue 87).run Tryz.prog w = .ok (fval (.slice none 0 0) 0) w := by kernel_rfl
theorem isKey (x : Bs) : WideAt.IsKeyLit (.string x) := by trivial
theorem lit_ne {x y : ByteArray} (h : x ≠ y) : (Lit.string x.data.toList) ≠ .string y.data.toList := fun e => h (ba_eq (by injection e))
def upd (pl : ByteArray → Value) (p : ByteArray) (v : Value) : ByteArray → Value := fun q => if q = p then v else pl q
theorem upd_same (pl : ByteArray → Value) (p : ByteArray) (v : Value) : upd pl p v p = v := if_pos rfl
theorem upd_other {pl : ByteArray → Value} {p q : ByteArray} (h : q ≠ p) (v : Value) : upd pl p v q = pl q := if_neg h
def ent (pl : ByteArray → Value) (f : FF) : Value := fval (pl f.name) f.sure
/-- What a datum has. -/
def MapOf (D : DataW Value) (l : List FF) (pl : ByteArray → Value) : Prop :=
  (∀ p : ByteArray, Maps.has D (.string p.data.toList) = (at? l p).isSome) ∧ (∀ (p : ByteArray) z, D.atKey (.string p.data.toList) z = match at? l p with | none => z | some f => .held (ent pl f)) ∧ Maps.size D = l.length
theorem mapOf_nil (pl : ByteArray → Value) : MapOf (.map []) [] pl := ⟨fun _ => rfl, fun _ _ => rfl, rfl⟩
theorem MapOf.put {D : DataW Value} {l : List FF} {pl : ByteArray → Value} (h : MapOf D l pl) (ht : Tidy D) (hr : Rise l) (f : FF) (v : Value) : MapOf (D.put (.string f.name.data.toList) (.held (fval v f.sure))) (withF l f) (upd pl f.name v) := by
  obtain ⟨h1, h2, h3⟩ := h
  refine ⟨fun p => ?_, fun p z => ?_, ?_⟩
  · rw [withF_at hr]
    by_cases e : f.name = p
    · subst e
      rw [has_put_same ht.isMap (isKey _), if_pos rfl]; rfl
    · rw [has_put_other (lit_ne (Ne.symm e)), h1, if_neg e]
  · rw [withF_at hr]
    by_cases e : f.name = p
    · subst e
      rw [atKey_put_same ht.isMap (isKey _), if_pos rfl]
      show _ = DataW.held (fval (upd pl f.name v f.name) f.sure)
      rw [upd_same]
    · rw [atKey_put_other (lit_ne (Ne.symm e)), h2, if_neg e]
      cases ha : at? l p with
      | none => rfl
      | some g =>
        show DataW.held (fval (pl g.name) g.sure) = .held (fval (upd pl f.name v g.name) g.sure)
        rw [upd_other (by rw [at_name ha]; exact Ne.symm e)]
  · have h4 := dropF_len_eq f.name hr
    rw [size_put ht, h1, h3, withF_len_eq]
    split
    · rename_i hs; rw [if_pos hs] at h4; omega
    · rename_i hs; rw [if_neg hs] at h4; omega
theorem MapOf.drop {D : DataW Value} {l : List FF} {pl : ByteArray → Value} (h : MapOf D l pl) (ht : Tidy D) (hr : Rise l) (p : ByteArray) : MapOf (D.del (.string p.data.toList)) (dropF l p) pl := by
  obtain ⟨h1, h2, h3⟩ := h
  refine ⟨fun y => ?_, fun y z => ?_, ?_⟩
  · rw [dropF_at hr]
    by_cases e : p = y
    · subst e
      rw [has_del_same, if_pos rfl]; rfl
    · rw [has_del_other (lit_ne (Ne.symm e)), h1, if_neg e]
  · rw [dropF_at hr]
    by_cases e : p = y
    · subst e
      rw [atKey_del_same, if_pos rfl]
    · rw [atKey_del_other (lit_ne (Ne.symm e)), h2, if_neg e]
  · have e1 := size_del (k := .string p.data.toList) ht
    have e2 := dropF_len_eq p hr
    rw [h1, h3] at e1
    omega

/-- Block b is a map that holds just the files l; their bytes lie where pl says. -/
def SMap (w : World) (b : Nat) (l : List FF) (pl : ByteArray → Value) : Prop := ∃ D : DataW Value, w.ownsMap Tryz.prog 9 hold b l.length D ∧ MapOf D l pl
theorem owns_tight {P : Program} {k : TypeId} {R : Value → Option (DataW Value × List MemPlace)} {w : World} {b n z : Nat} {D : DataW Value} (h : w.ownsMap P k R b n D) (hz : Maps.size D = z) : w.ownsMap P k R b z D := by
  obtain ⟨es, clock, hb, F, hs, rfl⟩ := h
  refine ⟨es, clock, hb, F, ?_, rfl⟩
  rw [← hz]
  simp [Maps.size, length_sorted]
section
variable {w w' : World} {b : Nat} {l : List FF} {pl : ByteArray → Value}
theorem SMap.lt (h : SMap w b l pl) : b < w.heap.size := by
  obtain ⟨D, h, _⟩ := h
  exact h.lt
theorem SMap.same (h : SMap w b l pl) (hb : w'.heap[b]? = w.heap[b]?) : SMap w' b l pl := by
  obtain ⟨D, ⟨es, clock, h1, h2⟩, h3⟩ := h
  exact ⟨D, ⟨es, clock, hb.trans h1, h2⟩, h3⟩
theorem SMap.made (w : World) (pl : ByteArray → Value) : SMap (w.alloc (.map #[] 0)) w.heap.size [] pl := ⟨.map [], World.ownsMap_made w _ _ _, mapOf_nil pl⟩
theorem SMap.obj (h : SMap w b l pl) : ∃ es clock, w.heap[b]? = some (.map es clock) := by
  obtain ⟨D, ⟨es, clock, h1, _⟩, _⟩ := h
  exact ⟨es, clock, h1⟩
theorem SMap.put (h : SMap w b l pl) (hr : Rise l) (f : FF) (hf : NB f.name) (hn : l.length ≤ 100000) (v : Value) :
    ∃ w', (Instr.mapUpdate 60 (.map (some b)) (.string f.name) (fval v f.sure)).run Tryz.prog w = .ok () w' ∧ SMap w' b (withF l f) (upd pl f.name v) ∧ w.grownBy w' (some b) := by
  obtain ⟨D, h1, h2⟩ := h
  obtain ⟨w', hrun, h3, h4⟩ := h1.update keyed map_und (Nat.lt_of_le_of_lt hn (by decide)) (key_name hf) (d := .held (fval v f.sure)) (ps := []) rfl
  have h5 := h2.put (h1.tidy keyed) hr f v
  exact ⟨w', hrun, ⟨_, owns_tight h3 h5.2.2, h5⟩, h4⟩
theorem SMap.drop (h : SMap w b l pl) (hr : Rise l) (p : ByteArray) (hp : NB p) (ty : TypeId) :
    ∃ w', (Builtin.delete_ #[60, 9] ty #[.map (some b), .string p]).run Tryz.prog w = .ok (.tuple #[]) w' ∧ SMap w' b (dropF l p) pl ∧ w.grownBy w' (some b) := by
  obtain ⟨D, h1, h2⟩ := h
  obtain ⟨w', hrun, h3, h4⟩ := h1.drop keyed map_und (key_name hp) ty
  have h5 := h2.drop (h1.tidy keyed) hr p
  exact ⟨w', hrun, ⟨_, owns_tight h3 h5.2.2, h5⟩, h4.grown⟩
/-- What a look-up finds. -/
def foundV (l : List FF) (pl : ByteArray → Value) (p : ByteArray) : Value := match at? l p with | none => fval (.slice none 0 0) 0 | some f => ent pl f
theorem SMap.look (h : SMap w b l pl) (p : ByteArray) (hp : NB p) :
    (Instr.lookup 60 (.map (some b)) (.string p) true).run Tryz.prog w = .ok (.tuple #[foundV l pl p, .bool (at? l p).isSome]) w ∧
    (Instr.lookup 60 (.map (some b)) (.string p) false).run Tryz.prog w = .ok (foundV l pl p) w := by
  obtain ⟨D, h1, h2⟩ := h
  have h3 := h2.2.1 p (.held (fval (.slice none 0 0) 0))
  have key : ∀ {v : Value} {ps : List MemPlace}, hold v = some (D.atKey (.string p.data.toList) (.held (fval (.slice none 0 0) 0)), ps) → v = foundV l pl p := fun {v ps} hv => by
    rw [h3] at hv
    unfold foundV
    injection hv with hv
    injection hv with hv _
    cases ha : at? l p with
    | none => rw [ha] at hv; injection hv
    | some f => rw [ha] at hv; injection hv
  constructor
  · obtain ⟨v, ps, hrun, hv⟩ := h1.look_ok keyed map_und (zeroFile w) (zd := .held (fval (.slice none 0 0) 0)) (zp := []) rfl (key_name hp)
    rw [hrun, h2.1, key hv]
  · obtain ⟨v, ps, hrun, hv⟩ := h1.lookup keyed map_und (zeroFile w) (zd := .held (fval (.slice none 0 0) 0)) (zp := []) rfl (key_name hp)
    rw [hrun, key hv]
end

/-- m[p] = f, at the operation. -/
theorem wpList_put_s (w : World) {ops : Array Oper} {rest : List Oper} {o : Oper} {a : Act} {Q : Exit → Act → World → Prop} (hg : o.guard = none) (m k x : Operand) (hop : o.op = Op.mapUpdate 60 m k x)
    (b : Nat) (l : List FF) (pl : ByteArray → Value) (f : FF) (v : Value) (hm : a.eval m = .map (some b)) (hown : SMap w b l pl) (hk : a.eval k = .string f.name) (hv : a.eval x = fval v f.sure) (hr : Rise l) (hf : NB f.name) (hn : l.length ≤ 100000)
    (hK : ∀ w', Hid (SMap w' b (withF l f) (upd pl f.name v)) → Hid (w.grownBy w' (some b)) → wpList Tryz.prog ops Q rest (a.put o.dst undef) w') : wpList Tryz.prog ops Q (o :: rest) a w := by
  refine wpList_plain hg fun K' hK' => ?_
  obtain ⟨w', hrun, h1, h2⟩ := hown.put hr f hf hn v
  unfold Oper.wp
  simp [execOp, hop, hm, hk, hv, hrun, Result.andThen]
  exact hK' _ _ (hK w' h1 h2)
/-- delete(m, p), at the operation. -/
theorem wpList_del_s (w : World) {ops : Array Oper} {rest : List Oper} {o : Oper} {a : Act} {Q : Exit → Act → World → Prop} (hg : o.guard = none) (m k : Operand) (hop : o.op = Op.call { callee := Callee.builtin Builtin.delete, args := #[m, k], argTypes := #[60, 9] })
    (b : Nat) (l : List FF) (pl : ByteArray → Value) (p : ByteArray) (hm : a.eval m = .map (some b)) (hown : SMap w b l pl) (hk : a.eval k = .string p) (hr : Rise l) (hp : NB p)
    (hK : ∀ w', Hid (SMap w' b (dropF l p) pl) → Hid (w.grownBy w' (some b)) → wpList Tryz.prog ops Q rest (a.put o.dst (.tuple #[])) w') : wpList Tryz.prog ops Q (o :: rest) a w := by
  refine wpList_plain hg fun K' hK' => ?_
  obtain ⟨w', hrun, h1, h2⟩ := hown.drop hr p hp o.type
  unfold Oper.wp
  simp [execOp, hop, resolve, invoke, builtin, hm, hk, hrun, Result.andThen]
  exact hK' _ _ (hK w' h1 h2)

/-! A disk in memory. -/
/-- A slice value holds these bytes, in a row of its own. -/
abbrev Bytes (w : World) (v : Value) (d : ByteArray) : Prop := w.ownsRow 0 5 1 v d.size (Lib.strCells d)
theorem Bytes.same {w w' : World} {v : Value} {d : ByteArray} (h : Bytes w v d) (hs : ∀ g, v.ownBlock = some g → w'.heap[g]? = w.heap[g]?) : Bytes w' v d := by
  refine ⟨h.1, h.2.imp id ?_⟩
  rintro ⟨g, cap, cur, rfl, h2, h3, h4⟩
  exact ⟨g, cap, cur, rfl, h2, (hs g rfl).trans h3, h4⟩
theorem Bytes.block {w : World} {v : Value} {d : ByteArray} (h : Bytes w v d) {g : Nat} (hg : v.ownBlock = some g) : ∃ cur, w.heap[g]? = some (.cells cur 5 (0, 0)) := by
  rcases h.2 with ⟨rfl, _⟩ | ⟨g', cap, cur, rfl, _, h3, _⟩
  · cases hg
  · injection hg with hg
    subst hg
    exact ⟨cur, h3⟩
theorem Bytes.lt {w : World} {v : Value} {d : ByteArray} (h : Bytes w v d) {g : Nat} (hg : v.ownBlock = some g) : g < w.heap.size := by
  obtain ⟨cur, h⟩ := h.block hg
  exact (Array.getElem?_eq_some_iff.1 h).1
theorem Bytes.form {w : World} {v : Value} {d : ByteArray} (h : Bytes w v d) : ∃ A cap, v = .slice A d.size cap := by
  rcases h.2 with ⟨hv, h0⟩ | ⟨g, cap, cur, hv, _⟩
  · exact ⟨none, 0, by rw [hv, h0]⟩
  · exact ⟨_, _, hv⟩

/-- The blocks of a disk. -/
def Blk (b m : Nat) (pl : ByteArray → Value) (l : List FF) (q : Nat) : Prop := q = b ∨ q = m ∨ ∃ f ∈ l, (pl f.name).ownBlock = some q
/-- Two slices lie in no row together. -/
def Apart (u v : Value) : Prop := u.ownBlock = none ∨ u.ownBlock ≠ v.ownBlock
/-- Block b is a disk: its map at block m; the bytes of all files, but one's of the name 'hole', lie where pl says. -/
structure Kept (w : World) (b m : Nat) (pl : ByteArray → Value) (z : Int) (l : List FF) (hole : Option ByteArray) : Prop where
  cell : w.heap[b]? = some (.cells #[.map (some m), .int .i64 z] 62 (0, 0))
  map : SMap w m l pl
  rows : ∀ f ∈ l, hole ≠ some f.name → Bytes w (pl f.name) f.data
  apart : ∀ f ∈ l, ∀ g ∈ l, f.name ≠ g.name → Apart (pl f.name) (pl g.name)
  names : ∀ f ∈ l, NB f.name
section
variable {w w' : World} {b m : Nat} {pl : ByteArray → Value} {z : Int} {l : List FF}
theorem Kept.lt (h : Kept w b m pl z l none) : ∀ q, Blk b m pl l q → q < w.heap.size := by
  rintro q (rfl | rfl | ⟨f, hf, hq⟩)
  · exact (Array.getElem?_eq_some_iff.1 h.cell).1
  · exact h.map.lt
  · exact (h.rows f hf (by simp)).lt hq
theorem Kept.same (h : Kept w b m pl z l none) (hs : ∀ q, Blk b m pl l q → w'.heap[q]? = w.heap[q]?) : Kept w' b m pl z l none :=
  ⟨(hs b (.inl rfl)).trans h.cell, h.map.same (hs m (.inr (.inl rfl))), fun f hf _ => (h.rows f hf (by simp)).same fun g hg => hs g (.inr (.inr ⟨f, hf, hg⟩)), h.apart, h.names⟩
theorem Kept.ne {hole : Option ByteArray} (h : Kept w b m pl z l hole) : b ≠ m := fun e => by
  obtain ⟨es, clock, h1⟩ := h.map.obj
  have h2 := h.cell
  rw [e, h1] at h2
  cases h2
/-- A row of bytes is neither the disk's block nor its map's. -/
theorem Kept.off {hole : Option ByteArray} (h : Kept w b m pl z l hole) {v : Value} {d : ByteArray} (hv : Bytes w v d) {g : Nat} (hg : v.ownBlock = some g) : g ≠ b ∧ g ≠ m := by
  obtain ⟨cur, h1⟩ := hv.block hg
  constructor
  · rintro rfl
    have h2 := h.cell
    rw [h1] at h2
    injection h2 with h2
    injection h2 with _ h2
    exact absurd h2 (by decide)
  · rintro rfl
    obtain ⟨es, clock, h2⟩ := h.map.obj
    rw [h1] at h2
    cases h2
/-- Behind what is done to one file's row alone. -/
theorem Kept.but (h : Kept w b m pl z l none) {p : ByteArray} {row : Option Nat} (hg : w.grownBy w' row) (hrow : row = none ∨ ∃ f ∈ l, f.name = p ∧ row = (pl p).ownBlock) : Kept w' b m pl z l (some p) := by
  have hne : ∀ q, q = b ∨ q = m ∨ (∃ f ∈ l, f.name ≠ p ∧ (pl f.name).ownBlock = some q) → some q ≠ row := fun q hq e => by
    rcases hrow with rfl | ⟨f, hf, rfl, rfl⟩
    · cases e
    · have ho := h.off (h.rows f hf (by simp)) e.symm
      rcases hq with rfl | rfl | ⟨g, hgl, hgn, hgq⟩
      · exact ho.1 rfl
      · exact ho.2 rfl
      · rcases h.apart g hgl f hf hgn with h1 | h1
        · rw [h1] at hgq; cases hgq
        · exact h1 (hgq.trans e)
  refine ⟨?_, h.map.same (hg.block m h.map.lt (hne m (.inr (.inl rfl)))), fun f hf hh => (h.rows f hf (by simp)).same fun g hgq => hg.block g ((h.rows f hf (by simp)).lt hgq) (hne g (.inr (.inr ⟨f, hf, fun e => hh (by rw [e]), hgq⟩))), h.apart, h.names⟩
  exact (hg.block b (Array.getElem?_eq_some_iff.1 h.cell).1 (hne b (.inl rfl))).trans h.cell
/-- Behind blocks that are new, and stores into them. -/
theorem Kept.below {hole : Option ByteArray} (h : Kept w b m pl z l hole) (hb : Below w.heap.size w w') : Kept w' b m pl z l hole :=
  ⟨(hb.block b (Array.getElem?_eq_some_iff.1 h.cell).1).trans h.cell, h.map.same (hb.block m h.map.lt), fun f hf hh => (h.rows f hf hh).same fun g hg => hb.block g ((h.rows f hf hh).lt hg), h.apart, h.names⟩
/-- Behind m[f.name] = f. -/
theorem Kept.put {hole : Option ByteArray} {f : FF} {v : Value} (h : Kept w b m pl z l hole) (hh : hole = none ∨ hole = some f.name) (hv : Bytes w v f.data) (hap : ∀ g ∈ l, g.name ≠ f.name → Apart (pl g.name) v) (hf : NB f.name)
    (hm : SMap w' m (withF l f) (upd pl f.name v)) (hg : w.grownBy w' (some m)) : Kept w' b m (upd pl f.name v) z (withF l f) none := by
  have hne : ∀ {u : Value} {d : ByteArray}, Bytes w u d → Bytes w' u d := fun {u d} hu => hu.same fun g hq => hg.block g (hu.lt hq) (fun e => (h.off hu hq).2 (by injection e))
  refine ⟨(hg.block b (Array.getElem?_eq_some_iff.1 h.cell).1 (fun e => h.ne (by injection e))).trans h.cell, hm, fun x hx _ => ?_, fun x hx y hy hxy => ?_, fun x hx => ?_⟩
  · rcases (withF_mem l f x).1 hx with rfl | ⟨h1, h2⟩
    · rw [upd_same]; exact hne hv
    · rw [upd_other h2]
      refine hne (h.rows x h1 ?_)
      rcases hh with rfl | rfl
      · simp
      · exact fun e => h2 (by injection e with e; exact e.symm)
  · rcases (withF_mem l f x).1 hx with rfl | ⟨h1, h2⟩
    · rcases (withF_mem l x y).1 hy with rfl | ⟨h3, h4⟩
      · exact absurd rfl hxy
      · rw [upd_same, upd_other h4]
        rcases hap y h3 h4 with h5 | h5
        · cases ho : v.ownBlock with
          | none => exact .inl ho
          | some q => exact .inr (by rw [ho, h5]; simp)
        · exact .inr (Ne.symm h5)
    · rcases (withF_mem l f y).1 hy with rfl | ⟨h3, h4⟩
      · rw [upd_same, upd_other h2]; exact hap x h1 h2
      · rw [upd_other h2, upd_other h4]; exact h.apart x h1 y h3 hxy
  · rcases (withF_mem l f x).1 hx with rfl | ⟨h1, _⟩
    · exact hf
    · exact h.names x h1
/-- Behind delete(m, p). -/
theorem Kept.drop {p : ByteArray} (h : Kept w b m pl z l none) (hm : SMap w' m (dropF l p) pl) (hg : w.grownBy w' (some m)) : Kept w' b m pl z (dropF l p) none := by
  refine ⟨(hg.block b (Array.getElem?_eq_some_iff.1 h.cell).1 (fun e => h.ne (by injection e))).trans h.cell, hm, fun x hx _ => ?_, fun x hx y hy => h.apart x ((dropF_mem _ _ _).1 hx).1 y ((dropF_mem _ _ _).1 hy).1, fun x hx => h.names x ((dropF_mem _ _ _).1 hx).1⟩
  have hu := h.rows x ((dropF_mem _ _ _).1 hx).1 (by simp)
  exact hu.same fun g hq => hg.block g (hu.lt hq) (fun e => (h.off hu hq).2 (by injection e))
/-- Behind a store of the budget. -/
theorem Kept.left {hole : Option ByteArray} (h : Kept w b m pl z l hole) (z' : Int) : Kept (w.setCell ⟨b, 1, none⟩ (.int .i64 z')) b m pl z' l hole := by
  have hne : ∀ q, q ≠ b → (w.setCell ⟨b, 1, none⟩ (.int .i64 z')).heap[q]? = w.heap[q]? := fun q hq => Below.heap_setCell w ⟨b, 1, none⟩ _ q hq
  refine ⟨?_, h.map.same (hne m (Ne.symm h.ne)), fun f hf hh => (h.rows f hf hh).same fun g hg => hne g (h.off (h.rows f hf hh) hg).1, h.apart, h.names⟩
  exact (Row.set (l := [.map (some m), .int .i64 z]) h.cell 1 _)
end
/-- The landed disk: R of the laws. -/
def Rd (w : World) (S : Nat → Prop) (b : Nat) (D : DD) : Prop :=
  ∃ m pl z, (∀ q, S q ↔ Blk b m pl D.files q) ∧ (D.left = if z < 0 then -1 else z) ∧ Kept w b m pl z D.files none
theorem rd_keep {w w' : World} {S : Nat → Prop} {b : Nat} {D : DD} (h : Rd w S b D) (hs : ∀ q, S q → w'.heap[q]? = w.heap[q]?) : Rd w' S b D := by
  obtain ⟨m, pl, z, h1, h2, h3⟩ := h
  exact ⟨m, pl, z, h1, h2, h3.same fun q hq => hs q ((h1 q).2 hq)⟩
theorem rd_inside {w : World} {S : Nat → Prop} {b : Nat} {D : DD} (h : Rd w S b D) : ∀ q, S q → q < w.heap.size := by
  obtain ⟨m, pl, z, h1, _, h3⟩ := h
  exact fun q hq => h3.lt q ((h1 q).1 hq)
theorem rd_bound {w : World} {S : Nat → Prop} {b : Nat} {D : DD} (h : Rd w S b D) : ∀ f ∈ D.files, NB f.name := by
  obtain ⟨m, pl, z, _, _, h3⟩ := h
  exact h3.names
theorem cell_of {w : World} {b : Nat} {u v : Value} {t : TypeId} (h : w.heap[b]? = some (.cells #[u, v] t (0, 0))) : w.cell? ⟨b, 0, none⟩ = some u ∧ w.cell? ⟨b, 1, none⟩ = some v := by simp [World.cell?, h]
end Dk
end Go.Proofs.YtogpigfepebibaaGreatDoor
