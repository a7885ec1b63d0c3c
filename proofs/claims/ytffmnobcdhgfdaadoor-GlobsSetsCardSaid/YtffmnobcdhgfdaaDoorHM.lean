/-
  Layer 4 (globs): a set of texts that a call has made (a map of bools), and what the law GlobsSets says of what is picked.
-/
import Derived.Test.YtffmnobcdhgfdaaDoorGW
import Derived.Maps.Own
import Derived.Maps.OwnOps
import Derived.Maps.OwnSet
namespace Go.Proofs.YtffmnobcdhgfdaaDoor
namespace Gl
open Go.RowKit Pt Go.Maps

theorem keyLaw : Keyed Tryd.prog 9 := string_keyed Tryd.underlying9
theorem zeroBool (w : World) : (zeroValue 4).run Tryd.prog w = .ok (.bool false) w := by kernel_rfl

/-- Block b is a map that holds just the texts S, each with true. -/
def BMap (w : World) (b n : Nat) (S : List Bs) : Prop :=
  ∃ D : DataW Unit, w.ownsMap Tryd.prog 9 (plainElem Tryd.prog 4) b n D ∧ (∀ x, Maps.has D (.string x) = decide (x ∈ S)) ∧ (∀ x, D.atKey (.string x) (.lit (.bool false)) = .lit (.bool (decide (x ∈ S)))) ∧ Maps.size D = S.length ∧ S.Nodup

theorem BMap.lt {w : World} {b n : Nat} {S : List Bs} (h : BMap w b n S) : b < w.heap.size := by
  obtain ⟨D, h, _⟩ := h
  exact h.lt
theorem BMap.made (w : World) : BMap (w.alloc (.map #[] 0)) w.heap.size 0 [] :=
  ⟨.map [], World.ownsMap_made w _ _ _, fun x => rfl, fun x => rfl, rfl, List.nodup_nil⟩
theorem BMap.later {w w' : World} {b n : Nat} {S : List Bs} (h : BMap w b n S) (hb : Below w.heap.size w w') : BMap w' b n S := by
  obtain ⟨D, h1, h2⟩ := h
  exact ⟨D, h1.kept (row := none) ⟨hb.os, hb.tape, hb.output, hb.size, fun k hk _ => hb.block k hk⟩ (by simp), h2⟩
theorem BMap.drewN {w : World} {b n : Nat} {S : List Bs} (h : BMap w b n S) (q : Nat) : BMap (w.drewN q) b n S := h.later (below_drewN (Below.refl _ _) q)

def addS (S : List Bs) (x : Bs) : List Bs := if x ∈ S then S else S ++ [x]
def delS (S : List Bs) (x : Bs) : List Bs := S.filter (fun y => decide (y ≠ x))
theorem addS_mem (S : List Bs) (x y : Bs) : y ∈ addS S x ↔ y = x ∨ y ∈ S := by
  unfold addS
  split
  · rename_i h
    constructor
    · exact .inr
    · rintro (rfl | h2)
      · exact h
      · exact h2
  · rw [List.mem_append, List.mem_singleton]; exact Or.comm
theorem addS_nodup {S : List Bs} (x : Bs) (h : S.Nodup) : (addS S x).Nodup := by
  unfold addS
  split
  · exact h
  · rename_i hx
    refine List.nodup_append.2 ⟨h, by simp, ?_⟩
    intro a ha b hb
    rw [List.mem_singleton] at hb
    subst hb
    exact fun e => hx (e ▸ ha)
theorem addS_len (S : List Bs) (x : Bs) : (addS S x).length = if decide (x ∈ S) = true then S.length else S.length + 1 := by
  unfold addS
  by_cases h : x ∈ S
  · rw [if_pos h, decide_eq_true h, if_pos rfl]
  · rw [if_neg h, decide_eq_false h, if_neg (by simp)]; simp
theorem delS_mem (S : List Bs) (x y : Bs) : y ∈ delS S x ↔ y ≠ x ∧ y ∈ S := by
  unfold delS
  rw [List.mem_filter, decide_eq_true_eq]; exact And.comm
theorem delS_len : ∀ {S : List Bs} (x : Bs), S.Nodup → (delS S x).length + (if decide (x ∈ S) = true then 1 else 0) = S.length
  | [], x, _ => rfl
  | y :: S, x, h => by
    obtain ⟨h1, h2⟩ := List.nodup_cons.1 h
    have ih := delS_len x h2
    unfold delS at ih ⊢
    by_cases e : y = x
    · subst e
      rw [List.filter_cons_of_neg (by simp)]
      rw [decide_eq_false h1, if_neg (by simp), Nat.add_zero] at ih
      rw [ih, decide_eq_true (by simp), if_pos rfl]; rfl
    · rw [List.filter_cons_of_pos (by simpa using e), List.length_cons, List.length_cons]
      have : decide (x ∈ y :: S) = decide (x ∈ S) := decide_eq_decide.2 ⟨fun h => by
        rcases List.mem_cons.1 h with h | h
        · exact absurd h.symm e
        · exact h, fun h => List.mem_cons_of_mem _ h⟩
      rw [this]
      omega
theorem key_of (s : ByteArray) (hs : s.size ≤ maxLen) : keyOf Tryd.prog 9 (.string s) = some (.string s.data.toList) := Go.WideMaps.keyOf_string_mk Tryd.underlying9 hs
theorem isKey (x : Bs) : WideAt.IsKeyLit (.string x) := by trivial
theorem lit_ne {x y : Bs} (h : x ≠ y) : (Lit.string x) ≠ .string y := fun e => h (by injection e)

theorem BMap.put {w : World} {b n : Nat} {S : List Bs} {D : DataW Unit} {w' : World} {x : Bs} (hS : S.Nodup) (hh : ∀ x, Maps.has D (.string x) = decide (x ∈ S)) (ha : ∀ x, D.atKey (.string x) (.lit (.bool false)) = .lit (.bool (decide (x ∈ S)))) (hz : Maps.size D = S.length)
    (ho : w.ownsMap Tryd.prog 9 (plainElem Tryd.prog 4) b n D) (ho' : w'.ownsMap Tryd.prog 9 (plainElem Tryd.prog 4) b (n + 1) (D.put (.string x) (.lit (.bool true)))) : BMap w' b (n + 1) (addS S x) := by
  have ht := ho.tidy keyLaw
  refine ⟨_, ho', fun y => ?_, fun y => ?_, ?_, addS_nodup x hS⟩
  · by_cases e : y = x
    · subst e
      rw [has_put_same ht.isMap (isKey y)]
      exact (decide_eq_true ((addS_mem S y y).2 (.inl rfl))).symm
    · rw [has_put_other (lit_ne e), hh]
      exact decide_eq_decide.2 (by rw [addS_mem]; exact ⟨.inr, fun h => h.resolve_left e⟩)
  · by_cases e : y = x
    · subst e
      rw [atKey_put_same ht.isMap (isKey y), decide_eq_true ((addS_mem S y y).2 (.inl rfl))]
    · rw [atKey_put_other (lit_ne e), ha]
      have hd : decide (y ∈ S) = decide (y ∈ addS S x) := decide_eq_decide.2 (by rw [addS_mem]; exact ⟨.inr, fun h => h.resolve_left e⟩)
      rw [hd]
  · rw [size_put ht, hh, hz, addS_len]
theorem BMap.drop {w : World} {b n : Nat} {S : List Bs} {D : DataW Unit} {w' : World} {x : Bs} (hS : S.Nodup) (hh : ∀ x, Maps.has D (.string x) = decide (x ∈ S)) (ha : ∀ x, D.atKey (.string x) (.lit (.bool false)) = .lit (.bool (decide (x ∈ S)))) (hz : Maps.size D = S.length)
    (ho : w.ownsMap Tryd.prog 9 (plainElem Tryd.prog 4) b n D) (ho' : w'.ownsMap Tryd.prog 9 (plainElem Tryd.prog 4) b n (D.del (.string x))) : BMap w' b n (delS S x) := by
  have ht := ho.tidy keyLaw
  refine ⟨_, ho', fun y => ?_, fun y => ?_, ?_, hS.filter _⟩
  · by_cases e : y = x
    · subst e
      rw [has_del_same]
      exact (decide_eq_false (fun h => ((delS_mem S y y).1 h).1 rfl)).symm
    · rw [has_del_other (lit_ne e), hh]
      exact decide_eq_decide.2 (by rw [delS_mem]; exact ⟨fun h => ⟨e, h⟩, fun h => h.2⟩)
  · by_cases e : y = x
    · subst e
      rw [atKey_del_same, decide_eq_false (fun h => ((delS_mem S y y).1 h).1 rfl)]
    · rw [atKey_del_other (lit_ne e), ha]
      have hd : decide (y ∈ S) = decide (y ∈ delS S x) := decide_eq_decide.2 (by rw [delS_mem]; exact ⟨fun h => ⟨e, h⟩, fun h => h.2⟩)
      rw [hd]
  · have h1 := size_del (k := .string x) ht
    have h2 := delS_len x hS
    rw [hh, hz] at h1
    omega

/-- m[s] = true, at the operation. -/
theorem wpList_put_b (w : World) {ops : Array Oper} {rest : List Oper} {o : Oper} {a : Act} {Q : Exit → Act → World → Prop} (hg : o.guard = none) (m x v : Operand) (hop : o.op = Op.mapUpdate 34 m x v)
    (b n : Nat) (S : List Bs) (hm : a.eval m = .map (some b)) (hown : BMap w b n S) (hn : n < maxLen) (s : ByteArray) (hx : a.eval x = .string s) (hv : a.eval v = .bool true) (hs : s.size ≤ maxLen)
    (hK : ∀ w', Hid (BMap w' b (n + 1) (addS S s.data.toList)) → Hid (w.grownBy w' (some b)) → wpList Tryd.prog ops Q rest (a.put o.dst undef) w') :
    wpList Tryd.prog ops Q (o :: rest) a w := by
  obtain ⟨D, h1, h2, h3, h4, h5⟩ := hown
  exact wpList_mapUpdate_own w hg m x v 34 hop 9 4 keyLaw Tryd.underlying34 _ b n D hm h1 hn _ _ _ hx hv (key_of s hs) _ [] (plainElem_bool Tryd.underlying4 true)
    (fun w' ho hgr => hK w' (BMap.put h5 h2 h3 h4 h1 ho) hgr)
/-- delete, at the operation. -/
theorem wpList_del_b (w : World) {ops : Array Oper} {rest : List Oper} {o : Oper} {a : Act} {Q : Exit → Act → World → Prop} (hg : o.guard = none) (m x : Operand) (hop : o.op = Op.call { callee := Callee.builtin Builtin.delete, args := #[m, x], argTypes := #[34, 9] })
    (b n : Nat) (S : List Bs) (hm : a.eval m = .map (some b)) (hown : BMap w b n S) (s : ByteArray) (hx : a.eval x = .string s) (hs : s.size ≤ maxLen)
    (hK : ∀ w', Hid (BMap w' b n (delS S s.data.toList)) → Hid (w.grownBy w' (some b)) → wpList Tryd.prog ops Q rest (a.put o.dst (.tuple #[])) w') :
    wpList Tryd.prog ops Q (o :: rest) a w := by
  obtain ⟨D, h1, h2, h3, h4, h5⟩ := hown
  exact wpList_delete_own (w := w) hg m x 34 9 hop 4 keyLaw Tryd.underlying34 _ b n D hm h1 _ _ hx (key_of s hs)
    (fun w' ho ht => hK w' (BMap.drop h5 h2 h3 h4 h1 ho) ht.grown)
theorem plain_bool_inv {P : Program} {e : TypeId} (he : P.underlying e = some .bool) {v : Value} {z : DataW Unit × List MemPlace} (h : plainElem P e v = some z) : ∃ x, v = .bool x ∧ z = (.lit (.bool x), []) := by
  unfold plainElem at h
  rw [he] at h
  cases v <;> simp at h
  exact ⟨_, rfl, h.symm⟩
theorem wpList_look {P : Program} (w : World) {ops : Array Oper} {rest : List Oper} {o : Oper} {a : Act} {Q : Exit → Act → World → Prop} (hg : o.guard = none) (m x : Operand) (t : TypeId) (hop : o.op = Op.lookup t m x false)
    (mv key v : Value) (hm : a.eval m = mv) (hx : a.eval x = key) (hrun : (Instr.lookup t mv key false).run P w = .ok v w) (hK : wpList P ops Q rest (a.put o.dst v) w) : wpList P ops Q (o :: rest) a w := by
  refine wpList_plain hg fun K' hK' => ?_
  unfold Oper.wp
  simp [execOp, hop, hm, hx, hrun, Result.andThen]
  exact hK' _ _ hK
/-- m[s], at the operation. -/
theorem wpList_get_b (w : World) {ops : Array Oper} {rest : List Oper} {o : Oper} {a : Act} {Q : Exit → Act → World → Prop} (hg : o.guard = none) (m x : Operand) (hop : o.op = Op.lookup 34 m x false)
    (b n : Nat) (S : List Bs) (hm : a.eval m = .map (some b)) (hown : BMap w b n S) (s : ByteArray) (hx : a.eval x = .string s) (hs : s.size ≤ maxLen) (r : Bool) (hr : decide (s.data.toList ∈ S) = r)
    (hK : wpList Tryd.prog ops Q rest (a.put o.dst (.bool r)) w) :
    wpList Tryd.prog ops Q (o :: rest) a w := by
  obtain ⟨D, h1, h2, h3, h4, h5⟩ := hown
  obtain ⟨v, ps, hrun, hv⟩ := h1.lookup keyLaw Tryd.underlying34 (zeroBool w) (plainElem_bool Tryd.underlying4 false) (key_of s hs)
  rw [h3, hr] at hv
  obtain ⟨x0, rfl, hv1⟩ := plain_bool_inv Tryd.underlying4 hv
  have hv2 : DataW.lit (H := Unit) (.bool r) = .lit (.bool x0) := congrArg Prod.fst hv1
  have hv3 : r = x0 := Lit.bool.inj (DataW.lit.inj hv2)
  subst hv3
  exact wpList_look w hg m x 34 hop _ _ _ hm hx hrun hK
/-- len(m), at the operation. -/
theorem wpList_len_b (w : World) {ops : Array Oper} {rest : List Oper} {o : Oper} {a : Act} {Q : Exit → Act → World → Prop} (hg : o.guard = none) (m : Operand) (hop : o.op = Op.call { callee := Callee.builtin Builtin.len, args := #[m], argTypes := #[34] })
    (b n : Nat) (S : List Bs) (hm : a.eval m = .map (some b)) (hown : BMap w b n S) (z : Nat) (hz : S.length = z)
    (hK : wpList Tryd.prog ops Q rest (a.put o.dst (.int .i64 z)) w) :
    wpList Tryd.prog ops Q (o :: rest) a w := by
  obtain ⟨D, h1, h2, h3, h4, h5⟩ := hown
  refine wpList_len_own (w := w) hg m 34 hop 9 4 Tryd.underlying34 _ b n D hm h1 ?_
  rw [h4, hz]; exact hK

/-- All of a list added, one by one; all of a list struck. -/
def addAll (S l : List Bs) : List Bs := l.foldl addS S
def delAll (S l : List Bs) : List Bs := l.foldl delS S
theorem addAll_snoc (S l : List Bs) (k : Nat) (x : Bs) (h : l[k]? = some x) : addAll S (l.take (k + 1)) = addS (addAll S (l.take k)) x := by
  unfold addAll; rw [take_snoc l k x h, List.foldl_append]; rfl
theorem delAll_snoc (S l : List Bs) (k : Nat) (x : Bs) (h : l[k]? = some x) : delAll S (l.take (k + 1)) = delS (delAll S (l.take k)) x := by
  unfold delAll; rw [take_snoc l k x h, List.foldl_append]; rfl
theorem addAll_mem : ∀ (l S : List Bs) (y : Bs), y ∈ addAll S l ↔ y ∈ S ∨ y ∈ l
  | [], S, y => by simp [addAll]
  | x :: l, S, y => by
    show y ∈ addAll (addS S x) l ↔ _
    rw [addAll_mem l, addS_mem, List.mem_cons]
    constructor
    · rintro ((h | h) | h)
      · exact .inr (.inl h)
      · exact .inl h
      · exact .inr (.inr h)
    · rintro (h | h | h)
      · exact .inl (.inr h)
      · exact .inl (.inl h)
      · exact .inr h
theorem delAll_mem : ∀ (l S : List Bs) (y : Bs), y ∈ delAll S l ↔ y ∈ S ∧ y ∉ l
  | [], S, y => by simp [delAll]
  | x :: l, S, y => by
    show y ∈ delAll (delS S x) l ↔ _
    rw [delAll_mem l, delS_mem, List.mem_cons]
    constructor
    · rintro ⟨⟨h1, h2⟩, h3⟩
      exact ⟨h2, fun h => h.elim h1 h3⟩
    · rintro ⟨h1, h2⟩
      exact ⟨⟨fun h => h2 (.inl h), h1⟩, fun h => h2 (.inr h)⟩

/-- What is picked by several, by what each picks. -/
theorem pickL_mem (paths yes no : List Bs) (x : Bs) : x ∈ pickL paths yes no ↔ x ∈ paths ∧ anyM yes x = true ∧ anyM no x = false := by
  unfold pickL
  rw [(pickR_spec _).2, List.mem_filter]
  unfold sel
  rw [Bool.and_eq_true, Bool.not_eq_true']
theorem pickL_rising (paths yes no : List Bs) : Rising (pickL paths yes no) := (pickR_spec _).1
theorem rising_nodup {l : List Bs} (h : Rising l) : l.Nodup := h.imp (fun hab e => by subst e; exact lt_no hab)
theorem sets_mem (paths : List Bs) (p q t : Bs) (x : Bs) : x ∈ delAll (addAll (addAll [] (pickL paths [p] [])) (pickL paths [q] [])) (pickL paths [t] []) ↔ x ∈ pickL paths [p, q] [t] := by
  rw [delAll_mem, addAll_mem, addAll_mem, pickL_mem, pickL_mem, pickL_mem, pickL_mem]
  unfold anyM
  simp only [List.any_cons, List.any_nil, Bool.or_false, List.not_mem_nil, false_or, and_true]
  rw [Bool.or_eq_true]
  cases mtch t x <;> simp
  · constructor
    · rintro (⟨h1, h2⟩ | ⟨h1, h2⟩)
      · exact ⟨h1, .inl h2⟩
      · exact ⟨h1, .inr h2⟩
    · rintro ⟨h1, h2 | h2⟩
      · exact .inl ⟨h1, h2⟩
      · exact .inr ⟨h1, h2⟩
  · rintro (⟨h1, h2⟩ | ⟨h1, h2⟩) <;> exact h1
theorem mtch_may {p x : Bs} (h : mtch p x = true) : may x = true := by
  unfold mtch at h
  rw [Bool.and_eq_true, Bool.and_eq_true] at h
  exact h.1.2
theorem again_same (paths yes no : List Bs) : pickL (pickL paths yes no) [star] [] = pickL paths yes no := by
  refine rising_one (pickL_rising _ _ _) (pickL_rising _ _ _) fun x => ?_
  rw [pickL_mem]
  constructor
  · exact fun h => h.1
  · intro h
    refine ⟨h, ?_, rfl⟩
    have h2 := ((pickL_mem paths yes no x).1 h).2.1
    unfold anyM at h2
    rw [List.any_eq_true] at h2
    obtain ⟨p, _, hp⟩ := h2
    unfold anyM
    rw [List.any_cons, mtch_all (mtch_may hp)]; rfl
theorem len_same {S l : List Bs} (h1 : S.Nodup) (h2 : l.Nodup) (h : ∀ x, x ∈ S ↔ x ∈ l) : S.length = l.length := ((List.perm_ext_iff_of_nodup h1 h2).2 h).length_eq
theorem pickL_len (paths yes no : List Bs) : (pickL paths yes no).length ≤ paths.length := Nat.le_trans (pickR_len _) (List.length_filter_le _ _)
theorem pickL_size {paths : List Bs} (yes no : List Bs) {m : Nat} (h : ∀ x ∈ paths, x.length ≤ m) : ∀ x ∈ pickL paths yes no, x.length ≤ m := fun x hx => h x ((pickL_mem _ _ _ _).1 hx).1
end Gl
end Go.Proofs.YtffmnobcdhgfdaaDoor
