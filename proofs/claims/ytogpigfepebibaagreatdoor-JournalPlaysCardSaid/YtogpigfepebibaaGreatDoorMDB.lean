/-
  Layer 7 (disk): the walks of the document's At, Read. Layer 7 (disk): the walks of the document's New, Budget, Names, without.
-/
import Derived.Test.YtogpigfepebibaaGreatDoorMDA
import Derived.OwnWalk
import Derived.Handy
import Derived.Laws.NewBlocks
namespace Go.Proofs.YtogpigfepebibaaGreatDoor
namespace Dk
open Go.RowKit Go.ChangeShapes Kr

abbrev dval (A : Option Addr) (n cap : Nat) (left : Int) : Value := .agg #[.slice A n cap, .int .i64 left]
/-- The place of a name's file. -/
def idx (l : List FF) (p : ByteArray) : Int := match l.findIdx? (fun f => decide (f.name = p)) with
  | none => -1
  | some i => i
theorem idx_none {l : List FF} {p : ByteArray} : at? l p = none ↔ idx l p = -1 := by
  unfold at? idx
  rw [List.find?_eq_none]
  cases h : l.findIdx? (fun f => decide (f.name = p)) with
  | none =>
    rw [List.findIdx?_eq_none_iff] at h
    simp only [iff_true]
    exact fun x hx => by rw [h x hx]; exact Bool.false_ne_true
  | some i =>
    constructor
    · intro h2
      obtain ⟨h3, h4, _⟩ := List.findIdx?_eq_some_iff_getElem.1 h
      exact absurd h4 (h2 _ (List.getElem_mem _))
    · intro h2
      have : (i : Int) = -1 := h2
      omega
theorem idx_some {l : List FF} {p : ByteArray} {k : Nat} {f : FF} (ho : ∀ j g, j < k → l[j]? = some g → g.name ≠ p) (hx : l[k]? = some f) (hf : f.name = p) : at? l p = some f ∧ idx l p = k := by
  have h : l.findIdx? (fun f => decide (f.name = p)) = some k := by
    rw [List.findIdx?_eq_some_iff_getElem]
    obtain ⟨hk, rfl⟩ := List.getElem?_eq_some_iff.1 hx
    refine ⟨hk, decide_eq_true hf, fun j hj => ?_⟩
    have := ho j l[j] hj (List.getElem?_eq_getElem _)
    simpa using this
  refine ⟨?_, by unfold idx; rw [h]⟩
  unfold at?
  rw [List.find?_eq_some_iff_getElem]
  obtain ⟨hk, rfl⟩ := List.getElem?_eq_some_iff.1 hx
  refine ⟨decide_eq_true hf, k, hk, rfl, fun j hj => ?_⟩
  have := ho j l[j] hj (List.getElem?_eq_getElem _)
  simpa using this
theorem idx_no {l : List FF} {p : ByteArray} {n : Nat} (hn : l.length = n) (ho : ∀ j g, j < n → l[j]? = some g → g.name ≠ p) : at? l p = none ∧ idx l p = -1 := by
  have h : at? l p = none := at_none.2 fun f hf => by
    obtain ⟨j, hj⟩ := List.getElem?_of_mem hf
    exact ho j f (by have := (List.getElem?_eq_some_iff.1 hj).1; omega) hj
  exact ⟨h, idx_none.1 h⟩
/-- Where a file stands. -/
theorem idx_at {l : List FF} {p : ByteArray} : (at? l p = none ∧ idx l p = -1) ∨ ∃ k f, at? l p = some f ∧ idx l p = (k : Nat) ∧ l[k]? = some f := by
  cases h : at? l p with
  | none => exact .inl ⟨rfl, idx_none.1 h⟩
  | some f =>
    refine .inr ?_
    unfold at? at h
    obtain ⟨h1, k, hk, h2, h3⟩ := List.find?_eq_some_iff_getElem.1 h
    have hx : l[k]? = some f := by rw [List.getElem?_eq_getElem hk, h2]
    obtain ⟨h4, h5⟩ := idx_some (l := l) (p := p) (fun j g hj hg => by
      obtain ⟨hjl, rfl⟩ := List.getElem?_eq_some_iff.1 hg
      have := h3 j hj
      simpa using this) hx (by simpa using h1)
    exact ⟨k, f, rfl, h5, hx⟩

set_option maxRecDepth 100000 in
set_option maxHeartbeats 4000000 in
theorem at_any (A : Option Addr) (cap B n : Nat) (l : List FF) (left : Int) (p : ByteArray) (z : Int) (hz : idx l p = z) (w : World) (hn : l.length = n) (hnm : n ≤ 1000000) (hx : FRow w B A l) (hB : B ≤ w.heap.size) :
    Calls Tryz.prog 45 #[dval A n cap left, .string p] w fun e w' => e = .returned (.int .i64 z) ∧ Below w.heap.size w w' := by
  have HX := Lib.hid (hx.more hB)
  have HN := Lib.hid hn
  have HZ := Lib.hid hz
  clear hx hn hz
  obtain ⟨w0, hw0⟩ : ∃ w0, w0 = w.alloc (.cells #[.slice A n cap, .int .i64 left] 30) := ⟨_, rfl⟩
  have HX0 : Hid (FRow w0 w.heap.size A l) := by rw [hw0]; exact HX.out.alloc (Nat.le_refl _) _
  have HB0 : Hid (Below w.heap.size w w0) := by rw [hw0]; exact (Below.refl _ _).alloc (Nat.le_refl _) _
  have hs0 : w0.heap.size = w.heap.size + 1 := by rw [hw0]; simp
  clear HX
  go_enter Tryz.func45, Tryz.ntmps45
  go_wp2
  rw [← hw0]
  clear hw0
  go_loopw [10] (fun i wr => ∃ k : Nat, k ≤ n ∧ i = .int .i64 k ∧ Hid (∀ j g, j < k → l[j]? = some g → g.name ≠ p) ∧ Hid (Below (w.heap.size + 1) w0 wr)) (fun i _ => n - (intOf i).toNat)
  case atStart => exact ⟨0, Nat.zero_le _, rfl, fun j g hj => absurd hj (Nat.not_lt_zero _), Below.refl _ _⟩
  case round =>
    obtain ⟨k, hk, rfl, HA, HB⟩ := hrel
    by_cases hlt : k < n
    · have hki : (k : Int) < n := by omega
      have hxk : l[k]? = some (l[k]'(by rw [HN.out]; exact hlt)) := List.getElem?_eq_getElem _
      generalize l[k]'(by rw [HN.out]; exact hlt) = x at hxk
      obtain ⟨b1, o1, rfl, hb1, hcs⟩ := (HX0.out.below HB.out (by omega)) k x hxk
      have c0 := hcs 0 _ (f_name x)
      rw [Nat.add_zero] at c0
      have c1 := hcs 1 _ (f_data x)
      have c2 := hcs 2 _ (f_sure x)
      have he := eqB x.name p
      have hwr : w.heap.size + 1 ≤ wr.heap.size := by have := HB.out.size; omega
      by_cases hp : x.name = p
      · rw [decide_eq_true hp] at he
        have HE := Lib.hid (idx_some HA.out hxk hp).2
        clear hcs hxk hp
        go_wp2
        go_ret
        refine ⟨by rw [← HZ.out, HE.out]; rfl, ?_⟩
        exact HB0.out.trans ((HB.out.alloc hwr _).mono (by omega))
      · rw [decide_eq_false hp] at he
        have HNO : Hid (∀ j g, j < k + 1 → l[j]? = some g → g.name ≠ p) := fun j g hj hg => by
          by_cases hjk : j = k
          · subst hjk; rw [hxk] at hg; cases hg; exact hp
          · exact HA.out j g (by omega) hg
        clear hcs hxk hp
        go_wp2
        go_roundw
        case rel => exact ⟨k + 1, by omega, by go_num, HNO.out, HB.out.alloc hwr _⟩
        case measure => simp [intOf]; omega
    · obtain rfl : k = n := by omega
      have HE := Lib.hid (idx_no HN.out HA.out).2
      go_wp2
      go_ret
      exact ⟨by rw [← HZ.out, HE.out]; rfl, HB0.out.trans (HB.out.mono (by omega))⟩

set_option maxRecDepth 100000 in
set_option maxHeartbeats 4000000 in
theorem refread_any (A : Option Addr) (cap B n : Nat) (l : List FF) (left : Int) (p : ByteArray) (w : World) (hn : l.length = n) (hnm : n ≤ 1000000) (hx : FRow w B A l) (hB : B ≤ w.heap.size) :
    Calls Tryz.prog 30 #[dval A n cap left, .string p] w fun e w' => e = .returned (.tuple #[.string (readV ⟨l, left⟩ p).1, .int .i64 ((readV ⟨l, left⟩ p).2 : Int)]) ∧ Below w.heap.size w w' := by
  have HX := Lib.hid (hx.more hB)
  have HN := Lib.hid hn
  clear hx hn
  obtain ⟨z, hz⟩ : ∃ z, idx l p = z := ⟨_, rfl⟩
  have HAT := Lib.hid (fun W (h : FRow W w.heap.size A l) (hW : w.heap.size ≤ W.heap.size) => at_any A cap w.heap.size n l left p z hz W HN.out hnm h hW)
  obtain ⟨w0, hw0⟩ : ∃ w0, w0 = w.alloc (.cells #[.slice A n cap, .int .i64 left] 30) := ⟨_, rfl⟩
  have HX0 : Hid (FRow w0 w.heap.size A l) := by rw [hw0]; exact HX.out.alloc (Nat.le_refl _) _
  have HB0 : Hid (Below w.heap.size w w0) := by rw [hw0]; exact (Below.refl _ _).alloc (Nat.le_refl _) _
  have HC0 : Hid (w0.cell? ⟨w.heap.size, 0, none⟩ = some (.slice A n cap)) := by show _ = _; rw [hw0]; simp
  have HC1 : Hid (w0.cell? ⟨w.heap.size, 1, none⟩ = some (.int .i64 left)) := by show _ = _; rw [hw0]; simp
  have hs0 : w0.heap.size = w.heap.size + 1 := by rw [hw0]; simp
  rcases idx_at (l := l) (p := p) with ⟨h1, h2⟩ | ⟨k, f, h1, h2, h3⟩
  · obtain rfl : z = -1 := hz.symm.trans h2
    have HR : Hid (readV ⟨l, left⟩ p = (nul, 10)) := by show _ = _; unfold readV; rw [h1]
    clear HX hz h1 h2
    go_enter Tryz.func30, Tryz.ntmps30
    go_wp2_with fail
    rw [← hw0]
    clear hw0
    have c0 := HC0.out
    have c1 := HC1.out
    go_wp2_with fail
    refine (HAT.out _ HX0.out (by omega)).mono ?_
    rintro e w1 ⟨rfl, hb1⟩
    have HB1 := Lib.hid (HB0.out.trans (hb1.mono (by omega)))
    clear hb1
    go_wp2_with fail
    go_ret2
    rw [HR.out]
    exact ⟨rfl, HB1.out⟩
  · obtain rfl : z = k := hz.symm.trans h2
    have hR : readV ⟨l, left⟩ p = (f.data, 0) := by unfold readV; rw [h1]
    have HR := Lib.hid hR
    have hkn : k < n := by have := (List.getElem?_eq_some_iff.1 h3).1; have := HN.out; omega
    have hki : (k : Int) < n := by omega
    have hk0 : ((k : Int) < 0) = False := by simp
    have H3 := Lib.hid h3
    clear HX hz h1 h2 hR h3
    go_enter Tryz.func30, Tryz.ntmps30
    go_wp2_with fail
    rw [← hw0]
    clear hw0
    have c0 := HC0.out
    have c1 := HC1.out
    go_wp2_with fail
    refine (HAT.out _ HX0.out (by omega)).mono ?_
    rintro e w1 ⟨rfl, hb1⟩
    have HB1 := Lib.hid (HB0.out.trans (hb1.mono (by omega)))
    have HX1 : Hid (FRow w1 w.heap.size A l) := HX0.out.below hb1 (by omega)
    have d0 := (hb1.cell (p := ⟨w.heap.size, 0, none⟩) (by show w.heap.size < _; omega)).trans HC0.out
    clear hb1 c0 c1
    obtain ⟨b1, o1, rfl, hbl, hcs⟩ := HX1.out k f H3.out
    have e1 := hcs 1 _ (f_data f)
    clear hcs
    go_wp2_with fail
    go_ret2
    rw [HR.out]
    exact ⟨rfl, HB1.out⟩
end Dk
end Go.Proofs.YtogpigfepebibaaGreatDoor

namespace Go.Proofs.YtogpigfepebibaaGreatDoor
namespace Dk
open Go.RowKit Go.ChangeShapes Kr

theorem fileInfo : (Tryz.prog.info? 91).map (fun i => (i.zero, i.size, i.bytes)) = some (some (.agg (encF ⟨nul, nul, 0⟩).toArray), 3, 40) := by kernel_rfl
theorem strInfo : (Tryz.prog.info? 9).map (fun i => (i.zero, i.size, i.bytes)) = some (some (.string ⟨#[]⟩), 1, 16) := by kernel_rfl
abbrev OwnsF (w : World) (base : Nat) (v : Value) (l : List FF) : Prop := OwnsK encF 3 91 w base v l
abbrev OwnsN (w : World) (base : Nat) (v : Value) (l : List ByteArray) : Prop := OwnsK encN 1 9 w base v l
theorem encF_one (f : FF) : ∀ u ∈ encF f, u.oneCell' = true := by
  intro u hu
  unfold encF at hu
  simp at hu
  rcases hu with rfl | rfl | rfl <;> rfl
theorem new_cell (W : World) (cs : List Value) (T : TypeId) {g j : Nat} {v : Value} (hg : g = W.heap.size) (h : cs[j]? = some v) : (W.alloc (.cells cs.toArray T)).cell? ⟨g, j, none⟩ = some v := by
  rw [World.cell?_alloc_at _ _ _ _ hg]
  simpa using h
theorem made_at {α : Type} {enc : α → List Value} {k : Nat} {T : TypeId} (W : World) (base : Nat) {g : Nat} (hg : W.heap.size = g) (hb : base ≤ W.heap.size) : OwnsK enc k T (W.alloc (.cells #[] T)) base (.slice (some ⟨g, 0, none⟩) 0 0) [] := by
  subst hg
  exact OwnsK.made W base hb
theorem drop_snoc {l : List FF} {k : Nat} {x : FF} (hx : l[k]? = some x) (p : ByteArray) : dropF (l.take (k + 1)) p = dropF (l.take k) p ++ if x.name = p then [] else [x] := by
  unfold dropF
  rw [take_snoc l k x hx, List.filter_append]
  by_cases h : x.name = p <;> simp [h]

set_option maxRecDepth 100000 in
set_option maxHeartbeats 4000000 in
theorem refnew_any (w : World) : Calls Tryz.prog 7 #[] w fun e w' => e = .returned (dval none 0 0 (-1)) ∧ Below w.heap.size w w' := by
  go_enter Tryz.func7, Tryz.ntmps7
  go_wp2
  go_returns
  exact ⟨rfl, (Below.refl _ _).alloc (Nat.le_refl _) _⟩

set_option maxRecDepth 100000 in
set_option maxHeartbeats 4000000 in
theorem refbudget_any (A : Option Addr) (n cap : Nat) (left z : Int) (w : World) :
    Calls Tryz.prog 15 #[dval A n cap left, .int .i64 z] w fun e w' => e = .returned (dval A n cap (if z < 0 then -1 else z)) ∧ Below w.heap.size w w' := by
  by_cases hz : z < 0
  · rw [if_pos hz]
    go_enter Tryz.func15, Tryz.ntmps15
    go_wp2
    go_returns
    exact ⟨rfl, ((Below.refl _ _).alloc (Nat.le_refl _) _).alloc (by simp) _⟩
  · rw [if_neg hz]
    go_enter Tryz.func15, Tryz.ntmps15
    go_wp2
    go_returns
    exact ⟨rfl, ((Below.refl _ _).alloc (Nat.le_refl _) _).alloc (by simp) _⟩

theorem names_snoc {l : List FF} {k : Nat} {x : FF} (hx : l[k]? = some x) : (l.take (k + 1)).map (·.name) = (l.take k).map (·.name) ++ [x.name] := by
  rw [take_snoc l k x hx, List.map_append]; rfl

set_option maxRecDepth 100000 in
set_option maxHeartbeats 4000000 in
theorem refnames_any (A : Option Addr) (cap B n : Nat) (l : List FF) (left : Int) (w : World) (hn : l.length = n) (hnm : n ≤ 100000) (hx : FRow w B A l) (hB : B ≤ w.heap.size) :
    Calls Tryz.prog 48 #[dval A n cap left] w fun e w' => ∃ A' cap', e = .returned (.slice A' n cap') ∧ NRow w' w'.heap.size A' (l.map (·.name)) ∧ Below w.heap.size w w' := by
  obtain ⟨i0, hi, hz0, hz1, hz2⟩ := info_parts strInfo
  have HX := Lib.hid (hx.more hB)
  have HN := Lib.hid hn
  clear hx hn
  obtain ⟨w0, hw0⟩ : ∃ w0, w0 = w.alloc (.cells #[.slice A n cap, .int .i64 left] 30) := ⟨_, rfl⟩
  have HX0 : Hid (FRow w0 w.heap.size A l) := by rw [hw0]; exact HX.out.alloc (Nat.le_refl _) _
  have HB0 : Hid (Below w.heap.size w w0) := by rw [hw0]; exact (Below.refl _ _).alloc (Nat.le_refl _) _
  have hs0 : w0.heap.size = w.heap.size + 1 := by rw [hw0]; simp
  have HC0 : Hid (w0.cell? ⟨w.heap.size, 0, none⟩ = some (.slice A n cap)) := by show _ = _; rw [hw0]; simp
  have ho0 : OwnsN (w0.alloc (.cells #[] 9)) (w.heap.size + 1) (.slice (some ⟨w.heap.size + 1, 0, none⟩) 0 0) [] := made_at w0 _ hs0 (by omega)
  have HO0 := Lib.hid ho0
  have HBA : Hid (Below (w.heap.size + 1) w0 (w0.alloc (.cells #[] 9))) := (Below.refl _ _).alloc (by omega) _
  clear HX ho0
  go_enter Tryz.func48, Tryz.ntmps48
  go_wp2_with (at_builtin; fail)
  rw [← hw0]
  clear hw0
  have c0 := HC0.out
  go_wp2
  clear c0
  go_loopw [3, 10] (fun v i wr => ∃ (k cp : Nat) (A' : Option Addr), k ≤ n ∧ i = .int .i64 k ∧ v = .slice A' k cp ∧ Hid (OwnsN wr (w.heap.size + 1) (.slice A' k cp) ((l.take k).map (·.name))) ∧ Hid (Below (w.heap.size + 1) w0 wr)) (fun _ i _ => n - (intOf i).toNat)
  case atStart => exact ⟨0, 0, _, Nat.zero_le _, rfl, rfl, HO0.out, HBA.out⟩
  case round =>
    obtain ⟨k, cp, A', hk, rfl, rfl, HO, HB⟩ := hrel
    clear HO0 HBA
    have hwr : w.heap.size + 1 ≤ wr.heap.size := by have := HB.out.size; omega
    by_cases hlt : k < n
    · have hki : (k : Int) < n := by omega
      have hxk : l[k]? = some (l[k]'(by rw [HN.out]; exact hlt)) := List.getElem?_eq_getElem _
      generalize l[k]'(by rw [HN.out]; exact hlt) = x at hxk
      obtain ⟨b1, o1, rfl, hb1, hcs⟩ := (HX0.out.below HB.out (by omega)) k x hxk
      have c0 := hcs 0 _ (f_name x)
      rw [Nat.add_zero] at c0
      have c1 := hcs 1 _ (f_data x)
      have c2 := hcs 2 _ (f_sure x)
      have HSN := Lib.hid (names_snoc hxk)
      obtain ⟨L, hL⟩ : ∃ L, (l.take k).map (·.name) = L := ⟨_, rfl⟩
      have hlen : L.length = k := by rw [← hL, List.length_map, List.length_take, HN.out]; omega
      rw [hL] at HO HSN
      have HLN := Lib.hid hlen
      clear hcs hxk hL hlen
      go_wp2_with (at_builtin; refine wpList_append_own _ rfl _ _ 34 rfl (w.heap.size + 1) 9 i0 (.string ⟨#[]⟩) 1 16 Tryz.underlying34 hi hz0 hz1 hz2 rfl (by decide) _ k (L.flatMap encN) rfl ?c0a ⟨wr.heap.size + 1, 0, none⟩ 1 1 [.string x.name] rfl rfl ?c1a ?c2a ?c3a ?c4a ?c5a ?_)
      case c0a => have := fun o1 o2 => (HO.out.alloc o1).alloc o2; unfold OwnsK at this; simp only [HLN.out] at this; exact this _ _
      case c2a => intro u hu; obtain rfl := List.mem_singleton.1 hu; rfl
      case c3a => simp only [maxLen]; omega
      case c4a => omega
      case c5a => simp; omega
      · intro j u hj
        rw [Addr.add_lit, Nat.zero_add]
        exact new_cell (wr.alloc _) (encN x.name) _ (by simp) hj
      intro v' w2 hown' hgrow _
      have hO2 : OwnsN w2 (w.heap.size + 1) v' (L ++ [x.name]) := OwnsK.appended HLN.out hown'
      obtain ⟨A2, cap2, e⟩ := hO2.form
      rw [List.length_append, HLN.out] at e
      subst e
      have HW2 := Lib.hid (((HB.out.alloc hwr _).alloc (by simp; omega) _).grown hgrow (by simp; omega) (fun q hq => (World.ownsRow.lt HO.out q hq).1))
      have HO2 := Lib.hid hO2
      clear hO2 hown' hgrow
      go_wp2
      go_roundw
      case rel => exact ⟨k + 1, cap2, A2, by omega, by go_num, rfl, by rw [HSN.out]; exact HO2.out, HW2.out⟩
      case measure => simp [intOf]; omega
    · obtain rfl : k = n := by omega
      rw [List.take_of_length_le (by rw [HN.out]; omega)] at HO
      go_wp2
      go_ret
      exact ⟨A', cp, rfl, OwnsK.row encN_length HO.out, HB0.out.trans (HB.out.mono (by omega))⟩

set_option maxRecDepth 100000 in
set_option maxHeartbeats 4000000 in
theorem without_any (A : Option Addr) (cap B n : Nat) (l : List FF) (left : Int) (p : ByteArray) (w : World) (hn : l.length = n) (hnm : n ≤ 100000) (hx : FRow w B A l) (hB : B ≤ w.heap.size) :
    Calls Tryz.prog 65 #[dval A n cap left, .string p] w fun e w' => ∃ A' m cap', e = .returned (.slice A' m cap') ∧ (dropF l p).length = m ∧ OwnsF w' w.heap.size (.slice A' m cap') (dropF l p) ∧ Below w.heap.size w w' := by
  obtain ⟨i0, hi, hz0, hz1, hz2⟩ := info_parts fileInfo
  have HX := Lib.hid (hx.more hB)
  have HN := Lib.hid hn
  clear hx hn
  obtain ⟨w0, hw0⟩ : ∃ w0, w0 = w.alloc (.cells #[.slice A n cap, .int .i64 left] 30) := ⟨_, rfl⟩
  have HX0 : Hid (FRow w0 w.heap.size A l) := by rw [hw0]; exact HX.out.alloc (Nat.le_refl _) _
  have HB0 : Hid (Below w.heap.size w w0) := by rw [hw0]; exact (Below.refl _ _).alloc (Nat.le_refl _) _
  have hs0 : w0.heap.size = w.heap.size + 1 := by rw [hw0]; simp
  have HC0 : Hid (w0.cell? ⟨w.heap.size, 0, none⟩ = some (.slice A n cap)) := by show _ = _; rw [hw0]; simp
  have ho0 : OwnsF (w0.alloc (.cells #[] 91)) (w.heap.size + 1) (.slice (some ⟨w.heap.size + 1, 0, none⟩) 0 0) [] := made_at w0 _ hs0 (by omega)
  have HO0 := Lib.hid ho0
  have HBA : Hid (Below (w.heap.size + 1) w0 (w0.alloc (.cells #[] 91))) := (Below.refl _ _).alloc (by omega) _
  clear HX ho0
  go_enter Tryz.func65, Tryz.ntmps65
  go_wp2_with (at_builtin; fail)
  rw [← hw0]
  clear hw0
  have c0 := HC0.out
  go_wp2
  clear c0
  go_loopw [5, 12] (fun v i wr => ∃ (k m cp : Nat) (A' : Option Addr), k ≤ n ∧ i = .int .i64 k ∧ v = .slice A' m cp ∧ m ≤ k ∧ Hid ((dropF (l.take k) p).length = m) ∧ Hid (OwnsF wr (w.heap.size + 1) (.slice A' m cp) (dropF (l.take k) p)) ∧ Hid (Below (w.heap.size + 1) w0 wr)) (fun _ i _ => n - (intOf i).toNat)
  case atStart => exact ⟨0, 0, 0, _, Nat.zero_le _, rfl, rfl, Nat.le_refl _, rfl, HO0.out, HBA.out⟩
  case round =>
    obtain ⟨k, m, cp, A', hk, rfl, rfl, hm, HL, HO, HB⟩ := hrel
    clear HO0 HBA
    have hwr : w.heap.size + 1 ≤ wr.heap.size := by have := HB.out.size; omega
    by_cases hlt : k < n
    · have hki : (k : Int) < n := by omega
      have hxk : l[k]? = some (l[k]'(by rw [HN.out]; exact hlt)) := List.getElem?_eq_getElem _
      generalize l[k]'(by rw [HN.out]; exact hlt) = x at hxk
      obtain ⟨b1, o1, rfl, hb1, hcs⟩ := (HX0.out.below HB.out (by omega)) k x hxk
      have c0 := hcs 0 _ (f_name x)
      rw [Nat.add_zero] at c0
      have c1 := hcs 1 _ (f_data x)
      have c2 := hcs 2 _ (f_sure x)
      have he := eqB x.name p
      have hds := drop_snoc hxk p
      obtain ⟨L, hL⟩ : ∃ L, dropF (l.take k) p = L := ⟨_, rfl⟩
      rw [hL] at HO HL hds
      clear hcs hxk hL
      by_cases hp : x.name = p
      · rw [decide_eq_true hp] at he
        rw [if_pos hp, List.append_nil] at hds
        have HDS := Lib.hid hds
        clear hp hds
        go_wp2
        go_roundw
        case rel => exact ⟨k + 1, m, cp, A', by omega, by go_num, rfl, by omega, by rw [HDS.out]; exact HL.out, by rw [HDS.out]; exact HO.out.alloc _, HB.out.alloc hwr _⟩
        case measure => simp [intOf]; omega
      · rw [decide_eq_false hp] at he
        rw [if_neg hp] at hds
        have HDS := Lib.hid hds
        clear hp hds
        go_wp2_with (at_builtin; refine wpList_append_own _ rfl _ _ 28 rfl (w.heap.size + 1) 91 i0 (.agg (encF ⟨nul, nul, 0⟩).toArray) 3 40 Tryz.underlying28 hi hz0 hz1 hz2 rfl (by decide) _ m (L.flatMap encF) rfl ?c0a ⟨wr.heap.size + 1, 0, none⟩ 1 1 (encF x) rfl rfl ?c1a (encF_one x) ?c3a ?c4a ?c5a ?_)
        case c0a => have := fun o1 o2 => (HO.out.alloc o1).alloc o2; unfold OwnsK at this; simp only [HL.out] at this; exact this _ _
        case c3a => simp only [maxLen]; omega
        case c4a => omega
        case c5a => simp; omega
        · intro j u hj
          rw [Addr.add_lit, Nat.zero_add]
          exact new_cell (wr.alloc _) (encF x) _ (by simp) hj
        intro v' w2 hown' hgrow _
        have hO2 := OwnsK.appended HL.out hown'
        have HL2 : Hid ((L ++ [x]).length = m + 1) := by show _ = _; rw [List.length_append, HL.out]; rfl
        obtain ⟨A2, cap2, e⟩ := hO2.form
        rw [HL2.out] at e
        subst e
        have HW2 := Lib.hid (((HB.out.alloc hwr _).alloc (by simp; omega) _).grown hgrow (by simp; omega) (fun q hq => (World.ownsRow.lt HO.out q hq).1))
        have HO2 := Lib.hid hO2
        clear hO2 hown' hgrow
        go_wp2
        go_roundw
        case rel => exact ⟨k + 1, m + 1, cap2, A2, by omega, by go_num, rfl, by omega, by rw [HDS.out]; exact HL2.out, by rw [HDS.out]; exact HO2.out, HW2.out⟩
        case measure => simp [intOf]; omega
    · obtain rfl : k = n := by omega
      rw [List.take_of_length_le (by rw [HN.out]; omega)] at HL HO
      go_wp2
      go_ret
      exact ⟨A', m, cp, rfl, HL.out, HO.out.less (by omega), HB0.out.trans (HB.out.mono (by omega))⟩
end Dk
end Go.Proofs.YtogpigfepebibaaGreatDoor
