/-
  Layer 6 (blobs): a map keyed by digests, held by the list of what is kept.
-/
import Derived.Test.YtiilmgbobjagkaaDoorBF
import Derived.Maps.Own
import Derived.Maps.OwnOps
import Derived.Maps.OwnSet
import Derived.Maps.RangeWalk
import Derived.WideKeyArr
import Derived.Sort.KeysCollected
namespace Go.Proofs.YtiilmgbobjagkaaDoor
namespace Bl
open Go.RowKit Kr Go.Maps

theorem arrKey : WideMaps.ArrKey Tryd.prog 29 5 32 := ⟨by kernel_rfl, by kernel_rfl, by kernel_rfl, by kernel_rfl⟩
theorem digKeyed : Keyed Tryd.prog 29 := Keyed.of_law arrKey.law
theorem types_pos : ∃ m, Tryd.prog.types.size = m + 1 := ⟨Tryd.prog.types.size - 1, by kernel_rfl⟩
theorem byte_und : Tryd.prog.underlying 5 = some (.int .u8) := by kernel_rfl
theorem dig_und : Tryd.prog.underlying 29 = some (.array 32 5) := by kernel_rfl
theorem map_und : Tryd.prog.underlying 53 = some (.map 29 9) := by kernel_rfl
theorem str_und : Tryd.prog.underlying 9 = some .string := by kernel_rfl
theorem zeroStr (w : World) : (zeroValue 9).run Tryd.prog w = .ok (.string ⟨#[]⟩) w := by kernel_rfl

theorem mapM_shift {α β : Type} (f : Nat → Option β) (g : α → Nat) : ∀ l : List α, (l.map g).mapM f = l.mapM (fun x => f (g x))
  | [] => rfl
  | x :: l => by rw [List.map_cons, List.mapM_cons, List.mapM_cons, mapM_shift f g l]
theorem mapM_ones (f : List Value → Option (List Lit)) : ∀ cs : List Value, (List.range cs.length).mapM (fun i => f ((cs.drop (i * 1)).take 1)) = cs.mapM (fun c => f [c])
  | [] => rfl
  | c :: cs => by
    rw [List.length_cons, List.range_succ_eq_map, List.mapM_cons, List.mapM_cons, mapM_shift, ← mapM_ones f cs]
    simp
/-- One byte. -/
theorem lits_one (D : Nat) (v : Value) (L : List Lit) : Tryd.prog.keyLits (D + 1) 5 [v] = some L ↔ ∃ x : UInt8, v = .int .u8 (x.toNat : Int) ∧ L = [.int .u8 (x.toNat : Int)] := by
  unfold Program.keyLits
  simp only [byte_und]
  constructor
  · intro h
    cases v <;> simp at h
    rename_i q n
    obtain ⟨⟨rfl, hw⟩, rfl⟩ := h
    simp only [Lit.wf, Bool.and_eq_true, decide_eq_true_eq] at hw
    have h1 : (0 : Int) ≤ n := hw.1
    have h2 : n ≤ 255 := hw.2
    have hx : ((UInt8.ofNat n.toNat).toNat : Int) = n := by
      rw [UInt8.toNat_ofNat']
      omega
    exact ⟨UInt8.ofNat n.toNat, by rw [hx], by rw [hx]⟩
  · rintro ⟨x, rfl, rfl⟩
    have : (Lit.int .u8 (x.toNat : Int)).wf = true := by
      have := x.toNat_lt
      simp [Lit.wf, IntKind.min, IntKind.max, IntKind.bits, IntKind.signed]
      omega
    simp [this]
theorem lits_bytes (D : Nat) : ∀ d : Bs, (Sh.bvals d).mapM (fun c => Tryd.prog.keyLits (D + 1) 5 [c]) = some (d.map fun x => [Lit.int .u8 (x.toNat : Int)])
  | [] => rfl
  | x :: d => by
    show (Value.int .u8 (x.toNat : Int) :: Sh.bvals d).mapM _ = _
    rw [List.mapM_cons, lits_bytes D d, (lits_one D _ _).2 ⟨x, rfl, rfl⟩]
    rfl
theorem lits_inv (D : Nat) (cs : List Value) : ∀ asL : List (List Lit), cs.mapM (fun c => Tryd.prog.keyLits (D + 1) 5 [c]) = some asL → ∃ d : Bs, cs = Sh.bvals d ∧ asL = d.map fun x => [Lit.int .u8 (x.toNat : Int)] := by
  have key := lits_one D
  generalize Tryd.prog.keyLits (D + 1) 5 = f at key
  induction cs with
  | nil =>
    intro asL h
    rw [List.mapM_nil] at h
    have h2 : some ([] : List (List Lit)) = some asL := h
    injection h2 with h2
    exact ⟨[], rfl, h2.symm⟩
  | cons c cs ih =>
    intro asL h
    rw [List.mapM_cons] at h
    simp only [bind, Option.bind_eq_some_iff, pure, Option.some.injEq] at h
    obtain ⟨a, h1, asM, h2, rfl⟩ := h
    obtain ⟨x, rfl, rfl⟩ := (key _ _).1 h1
    obtain ⟨d, rfl, rfl⟩ := ih asM h2
    exact ⟨x :: d, rfl, rfl⟩
theorem byte_key (x : UInt8) : (Lit.int .u8 (x.toNat : Int)).keyBytes = [x] := by
  have h : ((x.toNat : Int) % 256).toNat = x.toNat := by have := x.toNat_lt; omega
  show (bytesLE 1 ((x.toNat : Int) % 256).toNat).reverse = [x]
  rw [h]
  simp [bytesLE]
theorem key_bytes : ∀ d : Bs, keyBytes (d.map fun x => [Lit.int .u8 (x.toNat : Int)]).flatten = d
  | [] => rfl
  | x :: d => by
    show (Lit.int .u8 (x.toNat : Int)).keyBytes ++ keyBytes (d.map fun x => [Lit.int .u8 (x.toNat : Int)]).flatten = _
    rw [key_bytes d, byte_key]; rfl
/-- A digest, as a key. -/
theorem key_dig {d : Bs} (hd : d.length = 32) : keyOf Tryd.prog 29 (dv d) = some (.string d) := by
  have hkt := arrKey.keyType types_pos
  obtain ⟨m, hm⟩ := types_pos
  have hb : (Sh.bvals d).length = 32 := by rw [Sh.bvals_length, hd]
  unfold keyOf
  simp only [dig_und]
  rw [if_pos (by simp [hkt, Value.formed, dig_und, arrKey.size, hb]), hm]
  unfold Program.keyLits
  simp only [dig_und, Value.cells]
  rw [if_pos (by rw [arrKey.size]; exact hb), arrKey.one]
  have h2 := mapM_ones (fun cs => Tryd.prog.keyLits (m + 1) 5 cs) (Sh.bvals d)
  rw [hb] at h2
  rw [h2, lits_bytes]
  simp only [Option.map_some, key_bytes]
/-- What reads as a digest's key is that digest. -/
theorem key_inv {v : Value} {kl : Lit} (h : keyOf Tryd.prog 29 v = some kl) : ∃ d : Bs, d.length = 32 ∧ v = dv d ∧ kl = .string d := by
  obtain ⟨xs, L, rfl, h1, rfl⟩ := keyOf_top arrKey.wide h
  obtain ⟨m, hm⟩ := types_pos
  rw [hm] at h1
  unfold Program.keyLits at h1
  simp only [dig_und] at h1
  split at h1
  · rename_i hl
    rw [arrKey.size] at hl
    rw [arrKey.one] at h1
    have h2 := mapM_ones (fun cs => Tryd.prog.keyLits (m + 1) 5 cs) xs.toList
    rw [hl] at h2
    rw [h2] at h1
    simp only [Option.map_eq_some_iff] at h1
    obtain ⟨asL, h3, rfl⟩ := h1
    obtain ⟨d, h4, rfl⟩ := lits_inv m _ _ h3
    refine ⟨d, by rw [← hl, h4, Sh.bvals_length], ?_, by rw [key_bytes]⟩
    show _ = Value.agg (Sh.bvals d).toArray
    rw [← h4]
  · cases h1
theorem isKey (x : Bs) : WideAt.IsKeyLit (.string x) := by trivial
theorem lit_ne {x y : Bs} (h : x ≠ y) : (Lit.string x) ≠ .string y := fun e => h (by injection e)

/-! What a datum has. -/
def MapOf (D : DataW Unit) (l : List Bb) : Prop :=
  (∀ d, Maps.has D (.string d) = (Bl.get l d).isSome) ∧ (∀ d, D.atKey (.string d) (.lit (.string [])) = .lit (.string ((Bl.get l d).getD []))) ∧ Maps.size D = l.length
theorem mapOf_nil : MapOf (.map []) [] := ⟨fun _ => rfl, fun _ => rfl, rfl⟩
theorem put_count (l : List Bb) (f : Bb) (h : Rise l) : (putV l f).length = if (Bl.get l f.1).isSome = true then l.length else l.length + 1 := by
  unfold putV
  by_cases hg : (Bl.get l f.1).isSome = true
  · rw [if_pos hg, if_pos hg]
  · rw [if_neg hg, if_neg hg, insV_eq f h]
    unfold insAt
    have h1 := filter_both f l
    rw [List.length_append, List.length_cons]
    omega
theorem drop_count : ∀ {l : List Bb} (d : Bs), Rise l → (dropV l d).length + (if (Bl.get l d).isSome = true then 1 else 0) = l.length
  | [], d, _ => rfl
  | f :: l, d, h => by
    obtain ⟨h1, h2⟩ := List.pairwise_cons.1 h
    have ih := drop_count d h2
    unfold dropV at ih ⊢
    rw [get_cons]
    by_cases e : f.1 = d
    · subst e
      rw [List.filter_cons_of_neg (by simp), if_pos rfl]
      have hn : Bl.get l f.1 = none := get_none.2 fun x hx e => ne_of (h1 x hx) e.symm
      rw [hn] at ih
      rw [show (none : Option Bs).isSome = false from rfl, if_neg (by simp), Nat.add_zero] at ih
      rw [ih]; rfl
    · rw [List.filter_cons_of_pos (by simpa using e), if_neg e, List.length_cons, List.length_cons]
      omega
theorem MapOf.put {D : DataW Unit} {l : List Bb} {d x : Bs} (h : MapOf D l) (ht : Tidy D) (hr : Rise l) (hy : ∀ y, Bl.get l d = some y → y = x) : MapOf (D.put (.string d) (.lit (.string x))) (putV l (d, x)) := by
  obtain ⟨h1, h2, h3⟩ := h
  refine ⟨fun y => ?_, fun y => ?_, ?_⟩
  · rw [put_get (d, x) hr]
    by_cases e : y = d
    · subst e
      rw [has_put_same ht.isMap (isKey y)]
      cases hg : Bl.get l y with
      | none => rw [if_pos ⟨rfl, rfl⟩]; rfl
      | some z => rw [if_neg (by rintro ⟨_, h⟩; cases h)]; rfl
    · rw [has_put_other (lit_ne e), h1, if_neg (fun h => e h.1.symm)]
  · rw [put_get (d, x) hr]
    by_cases e : y = d
    · subst e
      rw [atKey_put_same ht.isMap (isKey y)]
      cases hg : Bl.get l y with
      | none => rw [if_pos ⟨rfl, rfl⟩]; rfl
      | some z => rw [if_neg (by rintro ⟨_, h⟩; cases h), hy z hg]; rfl
    · rw [atKey_put_other (lit_ne e), h2, if_neg (fun h => e h.1.symm)]
  · rw [size_put ht, h1, h3, put_count l (d, x) hr]
theorem MapOf.drop {D : DataW Unit} {l : List Bb} {d : Bs} (h : MapOf D l) (ht : Tidy D) (hr : Rise l) : MapOf (D.del (.string d)) (dropV l d) := by
  obtain ⟨h1, h2, h3⟩ := h
  refine ⟨fun y => ?_, fun y => ?_, ?_⟩
  · rw [drop_get hr]
    by_cases e : y = d
    · subst e
      rw [has_del_same, if_pos rfl]; rfl
    · rw [has_del_other (lit_ne e), h1, if_neg (fun h => e h.symm)]
  · rw [drop_get hr]
    by_cases e : y = d
    · subst e
      rw [atKey_del_same, if_pos rfl]; rfl
    · rw [atKey_del_other (lit_ne e), h2, if_neg (fun h => e h.symm)]
  · have e1 := size_del (k := .string d) ht
    have e2 := drop_count d hr
    rw [h1, h3] at e1
    omega

/-- Block b is a map that holds just the list l. -/
def SMap (w : World) (b : Nat) (l : List Bb) : Prop := ∃ D : DataW Unit, w.ownsMap Tryd.prog 29 (plainElem Tryd.prog 9) b l.length D ∧ MapOf D l
theorem owns_tight {P : Program} {k : TypeId} {R : Value → Option (DataW Unit × List MemPlace)} {w : World} {b n z : Nat} {D : DataW Unit} (h : w.ownsMap P k R b n D) (hz : Maps.size D = z) : w.ownsMap P k R b z D := by
  obtain ⟨es, clock, hb, F, hs, rfl⟩ := h
  refine ⟨es, clock, hb, F, ?_, rfl⟩
  rw [← hz]
  simp [Maps.size, length_sorted]
theorem SMap.lt {w : World} {b : Nat} {l : List Bb} (h : SMap w b l) : b < w.heap.size := by
  obtain ⟨D, h, _⟩ := h
  exact h.lt
theorem SMap.same {w w' : World} {b : Nat} {l : List Bb} (h : SMap w b l) (hb : w'.heap[b]? = w.heap[b]?) : SMap w' b l := by
  obtain ⟨D, ⟨es, clock, h1, h2⟩, h3⟩ := h
  exact ⟨D, ⟨es, clock, hb.trans h1, h2⟩, h3⟩
theorem SMap.made (w : World) : SMap (w.alloc (.map #[] 0)) w.heap.size [] := ⟨.map [], World.ownsMap_made w _ _ _, mapOf_nil⟩
theorem SMap.put {w : World} {b : Nat} {l : List Bb} {d x : Bs} (h : SMap w b l) (hr : Rise l) (hy : ∀ y, Bl.get l d = some y → y = x) (hd : d.length = 32) (hn : l.length < maxLen) (X : ByteArray) (hX : X.data.toList = x) (hx : X.size ≤ maxLen) :
    ∃ w', (Instr.mapUpdate 53 (.map (some b)) (dv d) (.string X)).run Tryd.prog w = .ok () w' ∧ SMap w' b (putV l (d, x)) ∧ w.grownBy w' (some b) := by
  obtain ⟨D, h1, h2⟩ := h
  have hp := plainElem_string (H := Unit) str_und hx
  rw [hX] at hp
  obtain ⟨w', hrun, h3, h4⟩ := h1.update digKeyed map_und hn (key_dig hd) hp
  have h5 := h2.put (h1.tidy digKeyed) hr hy
  exact ⟨w', hrun, ⟨_, owns_tight h3 h5.2.2, h5⟩, h4⟩
theorem SMap.drop {w : World} {b : Nat} {l : List Bb} {d : Bs} (h : SMap w b l) (hr : Rise l) (hd : d.length = 32) (ty : TypeId) :
    ∃ w', (Builtin.delete_ #[53, 29] ty #[.map (some b), dv d]).run Tryd.prog w = .ok (.tuple #[]) w' ∧ SMap w' b (dropV l d) ∧ w.grownBy w' (some b) := by
  obtain ⟨D, h1, h2⟩ := h
  obtain ⟨w', hrun, h3, h4⟩ := h1.drop digKeyed map_und (key_dig hd) ty
  have h5 := h2.drop (d := d) (h1.tidy digKeyed) hr
  exact ⟨w', hrun, ⟨_, owns_tight h3 h5.2.2, h5⟩, h4.grown⟩
theorem plain_string_inv {P : Program} {e : TypeId} (he : P.underlying e = some .string) {v : Value} {z : DataW Unit × List MemPlace} (h : plainElem P e v = some z) : ∃ s : ByteArray, v = .string s ∧ z = (.lit (.string s.data.toList), []) := by
  unfold plainElem at h
  rw [he] at h
  cases v <;> simp at h
  exact ⟨_, rfl, h.2.symm⟩
theorem SMap.look {w : World} {b : Nat} {l : List Bb} {d : Bs} (h : SMap w b l) (hd : d.length = 32) (Y : ByteArray) (t : Bool) (hY : Y.data.toList = (Bl.get l d).getD []) (ht : (Bl.get l d).isSome = t) :
    (Instr.lookup 53 (.map (some b)) (dv d) true).run Tryd.prog w = .ok (.tuple #[.string Y, .bool t]) w := by
  obtain ⟨D, h1, h2⟩ := h
  obtain ⟨v, ps, hrun, hv⟩ := h1.look_ok digKeyed map_und (zeroStr w) (plainElem_string str_und (by decide)) (key_dig hd)
  obtain ⟨s, rfl, he⟩ := plain_string_inv str_und hv
  have h3 := h2.2.1 d
  have h4 := congrArg Prod.fst he
  simp only at h4
  rw [show (DataW.lit (.string (ByteArray.mk #[]).data.toList) : DataW Unit) = .lit (.string []) from rfl, h3] at h4
  injection h4 with h4
  injection h4 with h4
  have : s = Y := ByteArray.ext (Array.toList_inj.1 (by rw [← h4, hY]))
  rw [hrun, h2.1, ht, this]

/-- m[d] = x, at the operation. -/
theorem wpList_put_s (w : World) {ops : Array Oper} {rest : List Oper} {o : Oper} {a : Act} {Q : Exit → Act → World → Prop} (hg : o.guard = none) (m k v : Operand) (hop : o.op = Op.mapUpdate 53 m k v)
    (b : Nat) (l : List Bb) (d x : Bs) (X : ByteArray) (hm : a.eval m = .map (some b)) (hown : SMap w b l) (hk : a.eval k = dv d) (hv : a.eval v = .string X) (hr : Rise l) (hy : ∀ y, Bl.get l d = some y → y = x) (hd : d.length = 32) (hn : l.length < maxLen) (hX : X.data.toList = x) (hx : X.size ≤ maxLen)
    (hK : ∀ w', Hid (SMap w' b (putV l (d, x))) → Hid (w.grownBy w' (some b)) → wpList Tryd.prog ops Q rest (a.put o.dst undef) w') : wpList Tryd.prog ops Q (o :: rest) a w := by
  refine wpList_plain hg fun K' hK' => ?_
  obtain ⟨w', hrun, h1, h2⟩ := hown.put hr hy hd hn X hX hx
  unfold Oper.wp
  simp [execOp, hop, hm, hk, hv, hrun, Result.andThen]
  exact hK' _ _ (hK w' h1 h2)
/-- delete(m, d), at the operation. -/
theorem wpList_del_s (w : World) {ops : Array Oper} {rest : List Oper} {o : Oper} {a : Act} {Q : Exit → Act → World → Prop} (hg : o.guard = none) (m k : Operand) (hop : o.op = Op.call { callee := Callee.builtin Builtin.delete, args := #[m, k], argTypes := #[53, 29] })
    (b : Nat) (l : List Bb) (d : Bs) (hm : a.eval m = .map (some b)) (hown : SMap w b l) (hk : a.eval k = dv d) (hr : Rise l) (hd : d.length = 32)
    (hK : ∀ w', Hid (SMap w' b (dropV l d)) → Hid (w.grownBy w' (some b)) → wpList Tryd.prog ops Q rest (a.put o.dst (.tuple #[])) w') : wpList Tryd.prog ops Q (o :: rest) a w := by
  refine wpList_plain hg fun K' hK' => ?_
  obtain ⟨w', hrun, h1, h2⟩ := hown.drop hr hd o.type
  unfold Oper.wp
  simp [execOp, hop, resolve, invoke, builtin, hm, hk, hrun, Result.andThen]
  exact hK' _ _ (hK w' h1 h2)
end Bl
end Go.Proofs.YtiilmgbobjagkaaDoor
