/-
  Layer 5 (tree): the walk of slices.Insert of one file.
-/
import Derived.Test.YtkldgfdfpanelaaUC
import Derived.Lib.Overlaps
import Derived.Lib.AppendZerosOnto
import Derived.Laws.Externs
import Derived.Deep.RegionLaw
import Derived.Shelf.Spec.SlicesInsert
namespace Go.Proofs.Ytkldgfdfpanelaa
namespace Tr
open Go.RowKit Go.ChangeShapes Pt

theorem run_copy_k {P : Program} (w : World) (dT sT ty elem : TypeId) (size b o dLen dCap : Nat) (a : Addr) (sLen sCap : Nat) (cs : List Value)
    (hu : P.underlying dT = some (.slice elem)) (hs : (P.info? elem).map (·.size) = some size) (hn : cs.length = Nat.min sLen dLen * size)
    (hsrc : ∀ j v, cs[j]? = some v → w.cell? (a.add j) = some v) (hc : ∀ j, j < cs.length → (w.cell? ⟨b, o + j, none⟩).isSome = true) (hf : ∀ j, j < cs.length → w.frozen? ⟨b, o + j, none⟩ = false) (h1 : ∀ v ∈ cs, v.oneCell' = true) :
    (Builtin.copy_ #[dT, sT] ty #[.slice (some ⟨b, o, none⟩) dLen dCap, .slice (some a) sLen sCap]).run P w = .ok (goInt (Nat.min sLen dLen)) (w.setCells b o cs) := by
  have hl := run_loadCells_list (P := P) w a cs hsrc
  have hst := run_storeCells_cells (P := P) b o cs 0 w (by simpa using hc) (by simpa using hf) h1
  cases hq : P.info? elem with
  | none => simp [hq] at hs
  | some i =>
    have hi : i.size = size := by simpa [hq] using hs
    simp [Builtin.copy_, run_underlying hu, Builtin.lenOf, Builtin.firstCells, sizeOf, typeInfo, hq, hi, ← hn, hl, hst]

theorem fileSize : (Try.prog.info? 29).map (·.size) = some 2 := by
  obtain ⟨i0, hi, hz0, hz1, hz2⟩ := info_parts fileInfo
  rw [hi]; simp [hz1]

/-- copy into a row that a call has made. -/
theorem copy_own {w : World} {B g n cap : Nat} {xs : List Value} (hown : w.ownsRow B 29 2 (.slice (some ⟨g, 0, none⟩) n cap) n xs) (o dLen : Nat) (a : Addr) (sLen : Nat) (cs : List Value)
    (hn : cs.length = Nat.min sLen dLen * 2) (hfit : o + cs.length ≤ n * 2) (hsrc : ∀ j v, cs[j]? = some v → w.cell? (a.add j) = some v) (h1 : ∀ v ∈ cs, v.oneCell' = true) :
    (∀ ty dCap sCap, (Builtin.copy_ #[22, 22] ty #[.slice (some ⟨g, o, none⟩) dLen dCap, .slice (some a) sLen sCap]).run Try.prog w = .ok (goInt (Nat.min sLen dLen)) (w.setCells g o cs)) ∧
    (w.setCells g o cs).ownsRow B 29 2 (.slice (some ⟨g, 0, none⟩) n cap) n (xs.take o ++ cs ++ xs.drop (o + cs.length)) ∧ w.grownBy (w.setCells g o cs) (some g) := by
  refine ⟨fun ty dCap sCap => run_copy_k w _ _ ty _ 2 g o dLen dCap a sLen sCap cs Try.underlying22 fileSize hn hsrc (fun j hj => ?_) (fun j _ => hown.frozenAt _) h1, row_stores cs o xs w hown hfit⟩
  rw [hown.cellAt (o + j) (by omega), List.getElem?_eq_getElem (by rw [hown.1]; omega)]
  rfl
/-- More of a row's elements, where there is room. -/
theorem row_more {w : World} {B g n cap m : Nat} {e : TypeId} {size : Nat} {xs : List Value} (h : w.ownsRow B e size (.slice (some ⟨g, 0, none⟩) n cap) n xs) (hm : n ≤ m) (hc : m ≤ cap) : ∃ ys, ys.length = (m - n) * size ∧ w.ownsRow B e size (.slice (some ⟨g, 0, none⟩) m cap) m (xs ++ ys) := by
  have hms : n * size ≤ m * size := Nat.mul_le_mul_right _ hm
  have hcs' : m * size ≤ cap * size := Nat.mul_le_mul_right _ hc
  rcases h.2 with ⟨h', _⟩ | ⟨g', cap', cur, h', hb, hg, hnc, hcm, hcs, htake⟩
  · simp at h'
  · simp only [Value.slice.injEq, Option.some.injEq, Addr.mk.injEq, and_true, true_and] at h'
    obtain ⟨rfl, rfl⟩ := h'
    refine ⟨(cur.toList.drop (n * size)).take ((m - n) * size), ?_, ?_, .inr ⟨g, cap, cur, rfl, hb, hg, hc, hcm, hcs, ?_⟩⟩
    · rw [List.length_take, List.length_drop, Array.length_toList, hcs, Nat.sub_mul]; omega
    · rw [List.length_append, h.1, List.length_take, List.length_drop, Array.length_toList, hcs, Nat.sub_mul]; omega
    · rw [← htake, Nat.sub_mul, show m * size = n * size + (m * size - n * size) by omega, List.take_add]
      congr 2
      omega

theorem list_shift {α : Type} {xs ys p : List α} {a b c : Nat} (ha : a ≤ xs.length) (hy : ys.length = 2) (hb : b = a + 2) (hc : xs.length + 2 ≤ c) :
    ((xs ++ ys).take b ++ xs.drop a ++ (xs ++ ys).drop c).take a ++ p ++ ((xs ++ ys).take b ++ xs.drop a ++ (xs ++ ys).drop c).drop b = xs.take a ++ p ++ xs.drop a := by
  subst hb
  have h1 : ((xs ++ ys).take (a + 2)).length = a + 2 := by simp; omega
  have h2 : (xs ++ ys).drop c = [] := List.drop_of_length_le (by simp; omega)
  rw [h2, List.append_nil]
  congr 1
  · congr 1
    rw [List.take_append_of_le_length (by omega), List.take_take, Nat.min_eq_left (by omega), List.take_append_of_le_length ha]
  · exact List.drop_left' h1

theorem list_grow {α : Type} {xs zs p q : List α} {a b c k : Nat} (ha : xs.length = a) (hp : p.length = 2) (hb : b = a + 2) (hk : k = a + p.length) (hz : 2 ≤ zs.length) (hc : xs.length + zs.length ≤ c) :
    ((xs ++ zs).take a ++ p ++ (xs ++ zs).drop k).take b ++ q ++ ((xs ++ zs).take a ++ p ++ (xs ++ zs).drop k).drop c = xs ++ p ++ q := by
  subst hb hk ha
  have h1 : (xs ++ zs).take xs.length = xs := List.take_left
  rw [h1]
  have h2 : (xs ++ p ++ (xs ++ zs).drop (xs.length + p.length)).drop c = [] := List.drop_of_length_le (by simp; omega)
  have h3 : (xs ++ p ++ (xs ++ zs).drop (xs.length + p.length)).take (xs.length + 2) = xs ++ p := List.take_left' (by simp [hp])
  rw [h2, h3, List.append_nil]
/-- A file's place among files: in its place. -/
def putAt (t : List Fl) (i : Nat) (f : Fl) : List Fl := t.take i ++ f :: t.drop i
theorem putAt_length {t : List Fl} {i : Nat} {f : Fl} (h : i ≤ t.length) : (putAt t i f).length = t.length + 1 := by unfold putAt; simp; omega

set_option maxRecDepth 100000 in
set_option maxHeartbeats 4000000 in
theorem insert_room (g cap B n i vb : Nat) (t : List Fl) (s d : ByteArray) (w : World) (hin : i < n) (hroom : n + 1 ≤ cap) (hn : t.length = n) (hnm : n ≤ 100000) (ho : OwnsF w B (.slice (some ⟨g, 0, none⟩) n cap) t) (hB : B ≤ w.heap.size) (hv : w.heap[vb]? = some (.cells #[.string s, .string d] 29 (0, 0))) (hvg : vb ≠ g) :
    Calls Try.prog 31 #[.slice (some ⟨g, 0, none⟩) n cap, .int .i64 i, .slice (some ⟨vb, 0, none⟩) 1 1] w fun e w' => e = .returned (.slice (some ⟨g, 0, none⟩) (n + 1) cap) ∧ OwnsF w' B (.slice (some ⟨g, 0, none⟩) (n + 1) cap) (putAt t i (s.data.toList, d.data.toList)) ∧ Below B w w' := by
  have ho0 := ho
  unfold OwnsF at ho0
  rw [hn] at ho0
  have hgB := ho0.lt g rfl
  obtain ⟨ys, hys, hm⟩ := row_more ho0 (m := n + 1) (Nat.le_succ _) hroom
  have hcl : (cellsF t).length = n * 2 := by rw [cellsF_length, hn]
  have hdl : ((cellsF t).drop (i * 2)).length = (n - i) * 2 := by rw [List.length_drop, hcl]; omega
  have hc63 : cap ≤ 9223372036854775807 := by
    rcases ho0.2 with ⟨h, _⟩ | ⟨g', cap', cur, h, _, _, _, h5, _⟩
    · simp at h
    · injection h with h1 h2 h3
      subst h3
      unfold maxLen at h5
      omega
  -- the shift
  have hm' : (w.drew).ownsRow B 29 2 (.slice (some ⟨g, 0, none⟩) (n + 1) cap) (n + 1) (cellsF t ++ ys) := hm
  obtain ⟨c1, o1, g1⟩ := copy_own hm' ((i + 1) * 2) (n - i) ⟨g, i * 2, none⟩ (n + 1 - i) ((cellsF t).drop (i * 2)) (by rw [hdl]; simp only [Nat.min_def]; split <;> omega) (by rw [hdl]; omega)
    (fun j v hj => by
      rw [Addr.add_lit]
      show w.cell? _ = _
      rw [List.getElem?_drop] at hj
      have := (List.getElem?_eq_some_iff.1 hj).1
      rw [ho0.cellAt (i * 2 + j) (by omega)]
      exact hj) (fun v hv => cellsF_one t v (List.mem_of_mem_drop hv))
  obtain ⟨W1, hW1⟩ : ∃ W, W = w.drew.setCells g ((i + 1) * 2) ((cellsF t).drop (i * 2)) := ⟨_, rfl⟩
  rw [← hW1] at c1 o1 g1
  have hv1 : W1.heap[vb]? = some (.cells #[.string s, .string d] 29 (0, 0)) := by
    rw [g1.block vb (Array.getElem?_eq_some_iff.1 hv).1 (fun e => by injection e with e; exact hvg e)]
    exact hv
  obtain ⟨c2, o2, g2⟩ := copy_own o1 (i * 2) (n + 1 - i) ⟨vb, 0, none⟩ 1 [.string s, .string d] (by simp only [Nat.min_def]; split <;> simp <;> omega) (by simp; omega)
    (fun j v hj => by
      rw [Addr.add_lit, Nat.zero_add, cell_of_row W1 vb j _ _ _ hv1]
      simpa using hj) (by simp [Value.oneCell'])
  obtain ⟨W2, hW2⟩ : ∃ W, W = W1.setCells g (i * 2) [.string s, .string d] := ⟨_, rfl⟩
  rw [← hW2] at c2 o2 g2
  have HO2 : Hid (OwnsF W2 B (.slice (some ⟨g, 0, none⟩) (n + 1) cap) (putAt t i (s.data.toList, d.data.toList))) := by
    show OwnsF _ _ _ _
    unfold OwnsF
    rw [putAt_length (by omega), hn]
    have e := list_shift (xs := cellsF t) (ys := ys) (p := [.string s, .string d]) (a := i * 2) (b := i * 2 + [Value.string s, Value.string d].length) (c := (i + 1) * 2 + ((cellsF t).drop (i * 2)).length) (by omega) (by rw [hys]; omega) rfl (by rw [hdl, hcl]; omega)
    rw [show (i + 1) * 2 = i * 2 + [Value.string s, Value.string d].length by simp; omega] at o2 e
    rw [e] at o2
    unfold putAt
    rw [cellsF_append, cellsF_take]
    simp only [cellsF, cellsF_drop, ← SV_str]
    simpa using o2
  have HB2 : Hid (Below B w W2) := ((Below.refl B w).drew.grown g1 hB (fun k hk => by cases hk; exact hgB.1)).grown g2 (Nat.le_trans hB g1.size) (fun k hk => by cases hk; exact hgB.1)
  have hov : ∀ lb cb, (callFunc 43 #[.slice (some ⟨vb, 0, none⟩) 1 1, .slice (some ⟨g, (i + 1) * 2, none⟩) lb cb]).run Try.prog w = .ok (.value (.bool false)) w := fun lb cb => by
    obtain ⟨cur, hcur, hcs⟩ : ∃ cur, w.heap[g]? = some (.cells cur 29 (0, 0)) ∧ cur.size = cap * 2 := by
      rcases ho0.2 with ⟨h, _⟩ | ⟨g', cap', cur, h, _, h2, _, _, h5, _⟩
      · simp at h
      · injection h with h1 _ h3
        injection h1 with h1
        injection h1 with h1
        subst h1 h3
        exact ⟨cur, h2, h5⟩
    rw [run_callFunc_extern Try.func43 (by kernel_rfl) (by kernel_rfl) (by kernel_rfl) (e := Extern.SlicesOverlaps.overlaps #[22, 22] #[4]) (by kernel_rfl),
      Lib.run_overlaps_apart w 22 4 29 Try.underlying22 2 Try.sizeOf29 ⟨vb, 0, none⟩ ⟨g, (i + 1) * 2, none⟩ 1 1 lb cb hvg 29 29 2 (cap * 2) (by unfold World.shape?; rw [hv]; rfl) (by unfold World.shape?; rw [hcur, ← hcs]) (by omega) (by unfold World.frozen?; rw [hv]; rfl) (by unfold World.frozen?; rw [hv]; rfl)]
    rfl
  have hw1 : IntKind.i64.wrap ((i : Int) + 1) = (i : Int) + 1 := by rw [IntKind.wrap_i64]; omega
  have hb1 : (0 : Int) ≤ (i : Int) + 1 := by omega
  have hb0 : (i : Int) + 1 ≤ (n : Int) + 1 := by omega
  have htn : ((i : Int) + 1).toNat = i + 1 := by omega
  have hb2 : ¬ (cap = i + 1) := by omega
  have hb3 : (i : Int) ≤ (n : Int) + 1 := by omega
  have hb4 : ¬ (cap = i) := by omega
  clear hW1 hW2 hv1 o1 o2 g1 g2 hm hm' hys ho0 ho hdl hcl hn
  go_enter Try.func31, Try.ntmps31
  go_wp2_with (simp only [hov])
  go_region_law (refine step_copy_runI rfl _ _ 22 22 rfl _ _ (by simp [Act.eval, Act.put]) (by simp [Act.eval, Act.put]) (c1 _ _ _) ?_)
  go_wp2_with (at_builtin; refine wpList_copy_runI _ rfl _ _ 22 22 rfl _ _ rfl rfl (c2 _ _ _) ?_)
  go_ret
  exact ⟨rfl, HO2.out, HB2.out⟩

set_option maxRecDepth 100000 in
set_option maxHeartbeats 4000000 in
theorem insert_end (A : Option Addr) (cap B n vb : Nat) (t : List Fl) (s d : ByteArray) (w : World) (hn : t.length = n) (hnm : n ≤ 100000) (ho : OwnsF w B (.slice A n cap) t) (hB : B ≤ w.heap.size) (hv : w.heap[vb]? = some (.cells #[.string s, .string d] 29 (0, 0))) :
    Calls Try.prog 31 #[.slice A n cap, .int .i64 n, .slice (some ⟨vb, 0, none⟩) 1 1] w fun e w' => ∃ A' cap', e = .returned (.slice A' (n + 1) cap') ∧ OwnsF w' B (.slice A' (n + 1) cap') (t ++ [(s.data.toList, d.data.toList)]) ∧ Below B w w' := by
  obtain ⟨i0, hi, hz0, hz1, hz2⟩ := info_parts fileInfo
  have HO := Lib.hid ho
  have HN := Lib.hid hn
  have HV := Lib.hid hv
  clear ho hn hv
  by_cases hcn' : cap = n
  · have hcn := hcn'.symm
    clear hcn'
    subst hcn
    go_enter Try.func31, Try.ntmps31
    go_wp2_with (at_builtin; refine wpList_append_own _ rfl _ _ 22 rfl B 29 i0 (.agg #[.string ⟨#[]⟩, .string ⟨#[]⟩]) 2 32 Try.underlying22 hi hz0 hz1 hz2 rfl (by decide) _ n (cellsF t) rfl ?c0a ⟨vb, 0, none⟩ 1 1 [.string s, .string d] rfl rfl ?c1a ?c2a ?c3a ?c4a ?c5a ?_)
    case c0a => have := HO.out; unfold OwnsF at this; rw [HN.out] at this; exact this
    case c1a => intro j u hj; rw [Addr.add_lit, Nat.zero_add, cell_of_row w vb j _ _ _ HV.out]; simpa using hj
    case c2a => intro u hu; simp only [List.mem_cons, List.mem_nil_iff, or_false] at hu; rcases hu with rfl | rfl <;> rfl
    case c3a => simp only [maxLen]; omega
    case c4a => omega
    case c5a => exact hB
    intro v' w2 hown' hgrow _
    obtain ⟨g2, cap2, rfl, _, _⟩ := hown'.form (by omega)
    have HW2 := Lib.hid ((Below.refl B w).grown hgrow hB (fun q hq => (HO.out.lt q hq).1))
    have HO2 : Hid (OwnsF w2 B (.slice (some ⟨g2, 0, none⟩) (n + 1) cap2) (t ++ [(s.data.toList, d.data.toList)])) := by
      show OwnsF _ _ _ _
      unfold OwnsF
      rw [List.length_append, HN.out, cellsF_append]
      simp only [SV_str] at hown'
      exact hown'
    clear hown' hgrow
    go_wp2
    go_ret
    exact ⟨_, cap2, rfl, HO2.out, HW2.out⟩
  · go_enter Try.func31, Try.ntmps31
    go_wp2_with (at_builtin; refine wpList_append_own _ rfl _ _ 22 rfl B 29 i0 (.agg #[.string ⟨#[]⟩, .string ⟨#[]⟩]) 2 32 Try.underlying22 hi hz0 hz1 hz2 rfl (by decide) _ n (cellsF t) rfl ?c0b ⟨vb, 0, none⟩ 1 1 [.string s, .string d] rfl rfl ?c1b ?c2b ?c3b ?c4b ?c5b ?_)
    case c0b => have := HO.out; unfold OwnsF at this; rw [HN.out] at this; exact this
    case c1b => intro j u hj; rw [Addr.add_lit, Nat.zero_add, cell_of_row w vb j _ _ _ HV.out]; simpa using hj
    case c2b => intro u hu; simp only [List.mem_cons, List.mem_nil_iff, or_false] at hu; rcases hu with rfl | rfl <;> rfl
    case c3b => simp only [maxLen]; omega
    case c4b => omega
    case c5b => exact hB
    intro v' w2 hown' hgrow _
    obtain ⟨g2, cap2, rfl, _, _⟩ := hown'.form (by omega)
    have HW2 := Lib.hid ((Below.refl B w).grown hgrow hB (fun q hq => (HO.out.lt q hq).1))
    have HO2 : Hid (OwnsF w2 B (.slice (some ⟨g2, 0, none⟩) (n + 1) cap2) (t ++ [(s.data.toList, d.data.toList)])) := by
      show OwnsF _ _ _ _
      unfold OwnsF
      rw [List.length_append, HN.out, cellsF_append]
      simp only [SV_str] at hown'
      exact hown'
    clear hown' hgrow
    go_wp2
    go_ret
    exact ⟨_, cap2, rfl, HO2.out, HW2.out⟩

set_option maxRecDepth 100000 in
set_option maxHeartbeats 4000000 in
theorem insert_grow (g B n i vb : Nat) (t : List Fl) (s d : ByteArray) (w : World) (hin : i < n) (hn : t.length = n) (hnm : n ≤ 100000) (ho : OwnsF w B (.slice (some ⟨g, 0, none⟩) n n) t) (hB : B ≤ w.heap.size) (hv : w.heap[vb]? = some (.cells #[.string s, .string d] 29 (0, 0))) :
    Calls Try.prog 31 #[.slice (some ⟨g, 0, none⟩) n n, .int .i64 i, .slice (some ⟨vb, 0, none⟩) 1 1] w fun e w' => ∃ A' cap', e = .returned (.slice A' (n + 1) cap') ∧ OwnsF w' B (.slice A' (n + 1) cap') (putAt t i (s.data.toList, d.data.toList)) ∧ Below B w w' := by
  obtain ⟨i0, hi, hz0, hz1, hz2⟩ := info_parts fileInfo
  have ho0 := ho
  unfold OwnsF at ho0
  rw [hn] at ho0
  have hgB := ho0.lt g rfl
  have hcl : (cellsF t).length = n * 2 := by rw [cellsF_length, hn]
  have hdl : ((cellsF t).drop (i * 2)).length = (n - i) * 2 := by rw [List.length_drop, hcl]; omega
  have hzl := zeros_len (n + 1 - i)
  have hold : (Builtin.firstCells i0.size i (.slice (some ⟨g, 0, none⟩) i n)).run Try.prog w.drew = .ok ((cellsF t).take (i * 2)).toArray w.drew := by
    rw [hz1]
    exact run_firstCells_some w.drew 2 i ⟨g, 0, none⟩ i n ((cellsF t).take (i * 2)) (by rw [List.length_take]; omega) (fun j v hj => by
      rw [Addr.add_lit, Nat.zero_add]
      show w.cell? _ = _
      rw [List.getElem?_take] at hj
      split at hj
      · have := (List.getElem?_eq_some_iff.1 hj).1
        rw [ho0.cellAt j (by omega), hj]
      · cases hj)
  obtain ⟨G, hG⟩ : ∃ G, G = grownCap w (n + 1) n 29 := ⟨_, rfl⟩
  obtain ⟨ROW, hROW⟩ : ∃ ROW, ROW = ((cellsF t).take (i * 2)).toArray ++ Builtin.zeroCells noFile.cells (n + 1 - i) ++ Builtin.zeroCells noFile.cells (G - (n + 1)) := ⟨_, rfl⟩
  obtain ⟨W1, hW1⟩ : ∃ W, W = w.drew.alloc (.cells ROW 29) := ⟨_, rfl⟩
  have hGn : n + 1 ≤ G := by rw [hG]; exact grownCap_ge w _ _ _
  have hGm : G ≤ maxLen := by rw [hG]; exact grownCap_le_maxLen w (n + 1) n 29 (by unfold maxLen; omega)
  have hG63 : G ≤ 9223372036854775807 := by unfold maxLen at hGm; omega
  have hrz : ∀ ty, (Builtin.append_ #[22, 3] ty #[.slice (some ⟨g, 0, none⟩) i n, .int .i64 ((n : Int) + 1 - (i : Int))]).run Try.prog w = .ok (.slice (some ⟨w.heap.size, 0, none⟩) (n + 1) G) W1 := fun ty => by
    have h := Lib.run_append_grow_zeros w 22 3 ty 29 i0 noFile .i64 .i64 Try.underlying22 Try.underlying3 hi hz0 (some ⟨g, 0, none⟩) i n ((cellsF t).take (i * 2)) hold (n + 1 - i) (by omega) (by omega) (by omega) (by omega) (by rw [hz2]; omega) (by rw [hz2]; exact growslice_fits (by omega) (by omega))
    rw [show i + (n + 1 - i) = n + 1 by omega, ← hG, ← hROW, ← hW1] at h
    rw [show ((n : Int) + 1 - (i : Int)) = ((n + 1 - i : Nat) : Int) by omega, h]
  have hxl : ((cellsF t).take (i * 2)).length = i * 2 := by rw [List.length_take]; omega
  have o1 : W1.ownsRow B 29 2 (.slice (some ⟨w.heap.size, 0, none⟩) (n + 1) G) (n + 1) ((cellsF t).take (i * 2) ++ (Builtin.zeroCells noFile.cells (n + 1 - i)).toList) := by
    refine ⟨by rw [List.length_append, hxl, hzl]; omega, .inr ⟨w.heap.size, G, ROW, rfl, hB, by rw [hW1]; exact heap_alloc_new w.drew _, hGn, hGm, ?_, ?_⟩⟩
    · have h1 : ROW.toList.length = G * 2 := by
        rw [hROW, Array.toList_append, Array.toList_append, List.length_append, List.length_append, zeros_len, zeros_len, List.toList_toArray, hxl]; omega
      simpa using h1
    · rw [hROW, Array.toList_append, Array.toList_append, List.toList_toArray]
      exact List.take_left' (by rw [List.length_append, hxl, hzl]; omega)
  have hB1 : Below B w W1 := by rw [hW1]; exact (Below.refl B w).drew.alloc hB _
  have hb1 : Below w.heap.size w W1 := by rw [hW1]; exact (Below.refl _ w).drew.alloc (Nat.le_refl _) _
  have hvl := (Array.getElem?_eq_some_iff.1 hv).1
  obtain ⟨c1, o2, g2⟩ := copy_own o1 (i * 2) (n + 1 - i) ⟨vb, 0, none⟩ 1 [.string s, .string d] (by simp only [Nat.min_def]; split <;> simp <;> omega) (by simp; omega)
    (fun j v hj => by
      rw [Addr.add_lit, Nat.zero_add, cell_of_row W1 vb j _ _ _ ((hb1.block vb hvl).trans hv)]
      simpa using hj) (by simp [Value.oneCell'])
  obtain ⟨W2, hW2⟩ : ∃ W, W = W1.setCells w.heap.size (i * 2) [.string s, .string d] := ⟨_, rfl⟩
  rw [← hW2] at c1 o2 g2
  have o2' : W2.drew.ownsRow B 29 2 (.slice (some ⟨w.heap.size, 0, none⟩) (n + 1) G) (n + 1) _ := o2
  obtain ⟨c2, o3, g3⟩ := copy_own o2' ((i + 1) * 2) (n - i) ⟨g, i * 2, none⟩ (n - i) ((cellsF t).drop (i * 2)) (by rw [hdl]; simp only [Nat.min_def]; split <;> omega) (by rw [hdl]; omega)
    (fun j v hj => by
      rw [Addr.add_lit]
      show W2.cell? _ = _
      have e1 : W2.cell? ⟨g, i * 2 + j, none⟩ = W1.cell? ⟨g, i * 2 + j, none⟩ := World.cell?_of_block (g2.block g (Nat.lt_of_lt_of_le hgB.2 hb1.size) (fun e => by injection e with e; omega))
      rw [e1, hb1.cell (p := ⟨g, i * 2 + j, none⟩) hgB.2]
      rw [List.getElem?_drop] at hj
      have := (List.getElem?_eq_some_iff.1 hj).1
      rw [ho0.cellAt (i * 2 + j) (by omega)]
      exact hj) (fun v hv => cellsF_one t v (List.mem_of_mem_drop hv))
  obtain ⟨W3, hW3⟩ : ∃ W, W = W2.drew.setCells w.heap.size ((i + 1) * 2) ((cellsF t).drop (i * 2)) := ⟨_, rfl⟩
  rw [← hW3] at c2 o3 g3
  have HO3 : Hid (OwnsF W3 B (.slice (some ⟨w.heap.size, 0, none⟩) (n + 1) G) (putAt t i (s.data.toList, d.data.toList))) := by
    show OwnsF _ _ _ _
    unfold OwnsF
    rw [putAt_length (by omega), hn]
    have e := list_grow (xs := (cellsF t).take (i * 2)) (zs := (Builtin.zeroCells noFile.cells (n + 1 - i)).toList) (p := [.string s, .string d]) (q := (cellsF t).drop (i * 2)) (a := i * 2) (b := (i + 1) * 2) (k := i * 2 + [Value.string s, Value.string d].length) (c := (i + 1) * 2 + ((cellsF t).drop (i * 2)).length) hxl rfl (by omega) rfl (by rw [hzl]; omega) (by rw [hzl, hdl, hxl]; omega)
    rw [e] at o3
    unfold putAt
    rw [cellsF_append, cellsF_take]
    simp only [cellsF, cellsF_drop, ← SV_str]
    simpa using o3
  have HB3 : Hid (Below B w W3) := (hB1.grown g2 (Nat.le_trans hB hB1.size) (fun k hk => by cases hk; exact hB)).drew.grown g3 (Nat.le_trans (Nat.le_trans hB hB1.size) g2.size) (fun k hk => by cases hk; exact hB)
  have hw1 : IntKind.i64.wrap ((i : Int) + 1) = (i : Int) + 1 := by rw [IntKind.wrap_i64]; omega
  have hb1' : (0 : Int) ≤ (i : Int) + 1 := by omega
  have hb0 : (i : Int) + 1 ≤ (n : Int) + 1 := by omega
  have htn : ((i : Int) + 1).toNat = i + 1 := by omega
  have hb2 : ¬ (G = i + 1) := by omega
  have hb3 : (i : Int) ≤ (n : Int) + 1 := by omega
  have hb4 : ¬ (G = i) := by omega
  have hb5 : ¬ (n = i) := by omega
  have hb6 : (i : Int) ≤ (n : Int) := by omega
  clear hG hROW hW1 hW2 hW3 o1 o2 o2' o3 g2 g3 hB1 hb1 hvl hxl hzl hold ho0 ho hdl hcl hn hv
  go_enter Try.func31, Try.ntmps31
  go_wp2_with (first
    | (at_builtin; refine Lib.wpList_append_run _ rfl _ _ _ _ rfl _ _ rfl rfl _ _ (hrz _) ?_)
    | (at_builtin; refine wpList_copy_runI _ rfl _ _ 22 22 rfl _ _ rfl rfl (c1 _ _ _) ?_))
  go_region_law (refine step_copy_runI rfl _ _ 22 22 rfl _ _ (by simp [Act.eval, Act.put]) (by simp [Act.eval, Act.put]) (c2 _ _ _) ?_)
  go_wp2
  go_ret
  exact ⟨_, G, rfl, HO3.out, HB3.out⟩

theorem insert_any (A : Option Addr) (cap B n i vb : Nat) (t : List Fl) (s d : ByteArray) (w : World) (hi : i ≤ n) (hn : t.length = n) (hnm : n ≤ 100000) (ho : OwnsF w B (.slice A n cap) t) (hB : B ≤ w.heap.size) (hv : w.heap[vb]? = some (.cells #[.string s, .string d] 29 (0, 0))) (hvg : ∀ g, A = some ⟨g, 0, none⟩ → vb ≠ g) :
    Calls Try.prog 31 #[.slice A n cap, .int .i64 i, .slice (some ⟨vb, 0, none⟩) 1 1] w fun e w' => ∃ A' cap', e = .returned (.slice A' (n + 1) cap') ∧ OwnsF w' B (.slice A' (n + 1) cap') (putAt t i (s.data.toList, d.data.toList)) ∧ Below B w w' := by
  by_cases he : i = n
  · subst he
    have e : putAt t i (s.data.toList, d.data.toList) = t ++ [(s.data.toList, d.data.toList)] := by
      unfold putAt; rw [List.take_of_length_le (by omega), List.drop_of_length_le (by omega)]
    rw [e]
    exact insert_end A cap B i vb t s d w hn hnm ho hB hv
  · rcases ho.2 with ⟨h, _⟩ | ⟨g, cap', cur, h, _, _, hnc, _⟩
    · injection h with _ h1 _
      omega
    · injection h with h1 h2 h3
      subst h1 h3
      rw [hn] at hnc
      by_cases hr : n + 1 ≤ cap
      · exact (insert_room g cap B n i vb t s d w (by omega) hr hn hnm ho hB hv (hvg g rfl)).mono fun e w' h => ⟨_, cap, h.1, h.2.1, h.2.2⟩
      · obtain rfl : cap = n := by omega
        exact insert_grow g B cap i vb t s d w (by omega) hn hnm ho hB hv
end Tr
end Go.Proofs.Ytkldgfdfpanelaa
