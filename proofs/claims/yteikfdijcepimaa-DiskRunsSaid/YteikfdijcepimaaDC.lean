/-
  Layer 7 (disk): the walks of the document's New, Budget, Names, without.
-/
import Derived.Test.YteikfdijcepimaaDB
import Derived.Handy
import Derived.Laws.NewBlocks
namespace Go.Proofs.Yteikfdijcepimaa
namespace Dk
open Go.RowKit Go.ChangeShapes Kr

theorem fileInfo : (Try.prog.info? 69).map (fun i => (i.zero, i.size, i.bytes)) = some (some (.agg (encF ⟨nul, nul, 0⟩).toArray), 3, 40) := by kernel_rfl
theorem strInfo : (Try.prog.info? 9).map (fun i => (i.zero, i.size, i.bytes)) = some (some (.string ⟨#[]⟩), 1, 16) := by kernel_rfl
abbrev OwnsF (w : World) (base : Nat) (v : Value) (l : List FF) : Prop := OwnsK encF 3 69 w base v l
abbrev OwnsN (w : World) (base : Nat) (v : Value) (l : List ByteArray) : Prop := OwnsK encN 1 9 w base v l
theorem encF_one (f : FF) : ∀ u ∈ encF f, u.oneCell' = true := by
  intro u hu
  unfold encF at hu
  simp at hu
  rcases hu with rfl | rfl | rfl <;> rfl
theorem new_cell (W : World) (cs : List Value) (T : TypeId) {g j : Nat} {v : Value} (hg : g = W.heap.size) (h : cs[j]? = some v) : (W.alloc (.cells cs.toArray T)).cell? ⟨g, j, none⟩ = some v := by
  rw [World.cell?_alloc_at _ _ _ _ hg]
  simpa using h
theorem made_at {α : Type} {enc : α → List Value} {k : Nat} {T : TypeId} (W : World) (base : Nat) {g : Nat} (hg : W.heap.size = g) (hb : base ≤ W.heap.size) : OwnsK enc k T (W.alloc (.cells #[] T)) base (.slice (some ⟨g, 0, none⟩) 0 0) [] := by
  subst hg
  exact OwnsK.made W base hb
theorem drop_snoc {l : List FF} {k : Nat} {x : FF} (hx : l[k]? = some x) (p : ByteArray) : dropF (l.take (k + 1)) p = dropF (l.take k) p ++ if x.name = p then [] else [x] := by
  unfold dropF
  rw [take_snoc l k x hx, List.filter_append]
  by_cases h : x.name = p <;> simp [h]

set_option maxRecDepth 100000 in
set_option maxHeartbeats 4000000 in
theorem refnew_any (w : World) : Calls Try.prog 10 #[] w fun e w' => e = .returned (dval none 0 0 (-1)) ∧ Below w.heap.size w w' := by
  go_enter Try.func10, Try.ntmps10
  go_wp2
  go_returns
  exact ⟨rfl, (Below.refl _ _).alloc (Nat.le_refl _) _⟩

set_option maxRecDepth 100000 in
set_option maxHeartbeats 4000000 in
theorem refbudget_any (A : Option Addr) (n cap : Nat) (left z : Int) (w : World) :
    Calls Try.prog 29 #[dval A n cap left, .int .i64 z] w fun e w' => e = .returned (dval A n cap (if z < 0 then -1 else z)) ∧ Below w.heap.size w w' := by
  by_cases hz : z < 0
  · rw [if_pos hz]
    go_enter Try.func29, Try.ntmps29
    go_wp2
    go_returns
    exact ⟨rfl, ((Below.refl _ _).alloc (Nat.le_refl _) _).alloc (by simp) _⟩
  · rw [if_neg hz]
    go_enter Try.func29, Try.ntmps29
    go_wp2
    go_returns
    exact ⟨rfl, ((Below.refl _ _).alloc (Nat.le_refl _) _).alloc (by simp) _⟩

theorem names_snoc {l : List FF} {k : Nat} {x : FF} (hx : l[k]? = some x) : (l.take (k + 1)).map (·.name) = (l.take k).map (·.name) ++ [x.name] := by
  rw [take_snoc l k x hx, List.map_append]; rfl

set_option maxRecDepth 100000 in
set_option maxHeartbeats 4000000 in
theorem refnames_any (A : Option Addr) (cap B n : Nat) (l : List FF) (left : Int) (w : World) (hn : l.length = n) (hnm : n ≤ 100000) (hx : FRow w B A l) (hB : B ≤ w.heap.size) :
    Calls Try.prog 32 #[dval A n cap left] w fun e w' => ∃ A' cap', e = .returned (.slice A' n cap') ∧ NRow w' w'.heap.size A' (l.map (·.name)) ∧ Below w.heap.size w w' := by
  obtain ⟨i0, hi, hz0, hz1, hz2⟩ := info_parts strInfo
  have HX := Lib.hid (hx.more hB)
  have HN := Lib.hid hn
  clear hx hn
  obtain ⟨w0, hw0⟩ : ∃ w0, w0 = w.alloc (.cells #[.slice A n cap, .int .i64 left] 29) := ⟨_, rfl⟩
  have HX0 : Hid (FRow w0 w.heap.size A l) := by rw [hw0]; exact HX.out.alloc (Nat.le_refl _) _
  have HB0 : Hid (Below w.heap.size w w0) := by rw [hw0]; exact (Below.refl _ _).alloc (Nat.le_refl _) _
  have hs0 : w0.heap.size = w.heap.size + 1 := by rw [hw0]; simp
  have HC0 : Hid (w0.cell? ⟨w.heap.size, 0, none⟩ = some (.slice A n cap)) := by show _ = _; rw [hw0]; simp
  have ho0 : OwnsN (w0.alloc (.cells #[] 9)) (w.heap.size + 1) (.slice (some ⟨w.heap.size + 1, 0, none⟩) 0 0) [] := made_at w0 _ hs0 (by omega)
  have HO0 := Lib.hid ho0
  have HBA : Hid (Below (w.heap.size + 1) w0 (w0.alloc (.cells #[] 9))) := (Below.refl _ _).alloc (by omega) _
  clear HX ho0
  go_enter Try.func32, Try.ntmps32
  go_wp2_with (at_builtin; fail)
  rw [← hw0]
  clear hw0
  have c0 := HC0.out
  go_wp2
  clear c0
  go_loopw [3, 10] (fun v i wr => ∃ (k cp : Nat) (A' : Option Addr), k ≤ n ∧ i = .int .i64 k ∧ v = .slice A' k cp ∧ Hid (OwnsN wr (w.heap.size + 1) (.slice A' k cp) ((l.take k).map (·.name))) ∧ Hid (Below (w.heap.size + 1) w0 wr)) (fun _ i _ => n - (intOf i).toNat)
  case atStart => exact ⟨0, 0, _, Nat.zero_le _, rfl, rfl, HO0.out, HBA.out⟩
  case round =>
    obtain ⟨k, cp, A', hk, rfl, rfl, HO, HB⟩ := hrel
    clear HO0 HBA
    have hwr : w.heap.size + 1 ≤ wr.heap.size := by have := HB.out.size; omega
    by_cases hlt : k < n
    · have hki : (k : Int) < n := by omega
      have hxk : l[k]? = some (l[k]'(by rw [HN.out]; exact hlt)) := List.getElem?_eq_getElem _
      generalize l[k]'(by rw [HN.out]; exact hlt) = x at hxk
      obtain ⟨b1, o1, rfl, hb1, hcs⟩ := (HX0.out.below HB.out (by omega)) k x hxk
      have c0 := hcs 0 _ (f_name x)
      rw [Nat.add_zero] at c0
      have c1 := hcs 1 _ (f_data x)
      have c2 := hcs 2 _ (f_sure x)
      have HSN := Lib.hid (names_snoc hxk)
      obtain ⟨L, hL⟩ : ∃ L, (l.take k).map (·.name) = L := ⟨_, rfl⟩
      have hlen : L.length = k := by rw [← hL, List.length_map, List.length_take, HN.out]; omega
      rw [hL] at HO HSN
      have HLN := Lib.hid hlen
      clear hcs hxk hL hlen
      go_wp2_with (at_builtin; refine wpList_append_own _ rfl _ _ 50 rfl (w.heap.size + 1) 9 i0 (.string ⟨#[]⟩) 1 16 Try.underlying50 hi hz0 hz1 hz2 rfl (by decide) _ k (L.flatMap encN) rfl ?c0a ⟨wr.heap.size + 1, 0, none⟩ 1 1 [.string x.name] rfl rfl ?c1a ?c2a ?c3a ?c4a ?c5a ?_)
      case c0a => have := fun o1 o2 => (HO.out.alloc o1).alloc o2; unfold OwnsK at this; simp only [HLN.out] at this; exact this _ _
      case c2a => intro u hu; obtain rfl := List.mem_singleton.1 hu; rfl
      case c3a => simp only [maxLen]; omega
      case c4a => omega
      case c5a => simp; omega
      · intro j u hj
        rw [Addr.add_lit, Nat.zero_add]
        exact new_cell (wr.alloc _) (encN x.name) _ (by simp) hj
      intro v' w2 hown' hgrow _
      have hO2 : OwnsN w2 (w.heap.size + 1) v' (L ++ [x.name]) := OwnsK.appended HLN.out hown'
      obtain ⟨A2, cap2, e⟩ := hO2.form
      rw [List.length_append, HLN.out] at e
      subst e
      have HW2 := Lib.hid (((HB.out.alloc hwr _).alloc (by simp; omega) _).grown hgrow (by simp; omega) (fun q hq => (World.ownsRow.lt HO.out q hq).1))
      have HO2 := Lib.hid hO2
      clear hO2 hown' hgrow
      go_wp2
      go_roundw
      case rel => exact ⟨k + 1, cap2, A2, by omega, by go_num, rfl, by rw [HSN.out]; exact HO2.out, HW2.out⟩
      case measure => simp [intOf]; omega
    · obtain rfl : k = n := by omega
      rw [List.take_of_length_le (by rw [HN.out]; omega)] at HO
      go_wp2
      go_ret
      exact ⟨A', cp, rfl, OwnsK.row encN_length HO.out, HB0.out.trans (HB.out.mono (by omega))⟩

set_option maxRecDepth 100000 in
set_option maxHeartbeats 4000000 in
theorem without_any (A : Option Addr) (cap B n : Nat) (l : List FF) (left : Int) (p : ByteArray) (w : World) (hn : l.length = n) (hnm : n ≤ 100000) (hx : FRow w B A l) (hB : B ≤ w.heap.size) :
    Calls Try.prog 41 #[dval A n cap left, .string p] w fun e w' => ∃ A' m cap', e = .returned (.slice A' m cap') ∧ (dropF l p).length = m ∧ OwnsF w' w.heap.size (.slice A' m cap') (dropF l p) ∧ Below w.heap.size w w' := by
  obtain ⟨i0, hi, hz0, hz1, hz2⟩ := info_parts fileInfo
  have HX := Lib.hid (hx.more hB)
  have HN := Lib.hid hn
  clear hx hn
  obtain ⟨w0, hw0⟩ : ∃ w0, w0 = w.alloc (.cells #[.slice A n cap, .int .i64 left] 29) := ⟨_, rfl⟩
  have HX0 : Hid (FRow w0 w.heap.size A l) := by rw [hw0]; exact HX.out.alloc (Nat.le_refl _) _
  have HB0 : Hid (Below w.heap.size w w0) := by rw [hw0]; exact (Below.refl _ _).alloc (Nat.le_refl _) _
  have hs0 : w0.heap.size = w.heap.size + 1 := by rw [hw0]; simp
  have HC0 : Hid (w0.cell? ⟨w.heap.size, 0, none⟩ = some (.slice A n cap)) := by show _ = _; rw [hw0]; simp
  have ho0 : OwnsF (w0.alloc (.cells #[] 69)) (w.heap.size + 1) (.slice (some ⟨w.heap.size + 1, 0, none⟩) 0 0) [] := made_at w0 _ hs0 (by omega)
  have HO0 := Lib.hid ho0
  have HBA : Hid (Below (w.heap.size + 1) w0 (w0.alloc (.cells #[] 69))) := (Below.refl _ _).alloc (by omega) _
  clear HX ho0
  go_enter Try.func41, Try.ntmps41
  go_wp2_with (at_builtin; fail)
  rw [← hw0]
  clear hw0
  have c0 := HC0.out
  go_wp2
  clear c0
  go_loopw [5, 12] (fun v i wr => ∃ (k m cp : Nat) (A' : Option Addr), k ≤ n ∧ i = .int .i64 k ∧ v = .slice A' m cp ∧ m ≤ k ∧ Hid ((dropF (l.take k) p).length = m) ∧ Hid (OwnsF wr (w.heap.size + 1) (.slice A' m cp) (dropF (l.take k) p)) ∧ Hid (Below (w.heap.size + 1) w0 wr)) (fun _ i _ => n - (intOf i).toNat)
  case atStart => exact ⟨0, 0, 0, _, Nat.zero_le _, rfl, rfl, Nat.le_refl _, rfl, HO0.out, HBA.out⟩
  case round =>
    obtain ⟨k, m, cp, A', hk, rfl, rfl, hm, HL, HO, HB⟩ := hrel
    clear HO0 HBA
    have hwr : w.heap.size + 1 ≤ wr.heap.size := by have := HB.out.size; omega
    by_cases hlt : k < n
    · have hki : (k : Int) < n := by omega
      have hxk : l[k]? = some (l[k]'(by rw [HN.out]; exact hlt)) := List.getElem?_eq_getElem _
      generalize l[k]'(by rw [HN.out]; exact hlt) = x at hxk
      obtain ⟨b1, o1, rfl, hb1, hcs⟩ := (HX0.out.below HB.out (by omega)) k x hxk
      have c0 := hcs 0 _ (f_name x)
      rw [Nat.add_zero] at c0
      have c1 := hcs 1 _ (f_data x)
      have c2 := hcs 2 _ (f_sure x)
      have he := eqB x.name p
      have hds := drop_snoc hxk p
      obtain ⟨L, hL⟩ : ∃ L, dropF (l.take k) p = L := ⟨_, rfl⟩
      rw [hL] at HO HL hds
      clear hcs hxk hL
      by_cases hp : x.name = p
      · rw [decide_eq_true hp] at he
        rw [if_pos hp, List.append_nil] at hds
        have HDS := Lib.hid hds
        clear hp hds
        go_wp2
        go_roundw
        case rel => exact ⟨k + 1, m, cp, A', by omega, by go_num, rfl, by omega, by rw [HDS.out]; exact HL.out, by rw [HDS.out]; exact HO.out.alloc _, HB.out.alloc hwr _⟩
        case measure => simp [intOf]; omega
      · rw [decide_eq_false hp] at he
        rw [if_neg hp] at hds
        have HDS := Lib.hid hds
        clear hp hds
        go_wp2_with (at_builtin; refine wpList_append_own _ rfl _ _ 27 rfl (w.heap.size + 1) 69 i0 (.agg (encF ⟨nul, nul, 0⟩).toArray) 3 40 Try.underlying27 hi hz0 hz1 hz2 rfl (by decide) _ m (L.flatMap encF) rfl ?c0a ⟨wr.heap.size + 1, 0, none⟩ 1 1 (encF x) rfl rfl ?c1a (encF_one x) ?c3a ?c4a ?c5a ?_)
        case c0a => have := fun o1 o2 => (HO.out.alloc o1).alloc o2; unfold OwnsK at this; simp only [HL.out] at this; exact this _ _
        case c3a => simp only [maxLen]; omega
        case c4a => omega
        case c5a => simp; omega
        · intro j u hj
          rw [Addr.add_lit, Nat.zero_add]
          exact new_cell (wr.alloc _) (encF x) _ (by simp) hj
        intro v' w2 hown' hgrow _
        have hO2 := OwnsK.appended HL.out hown'
        have HL2 : Hid ((L ++ [x]).length = m + 1) := by show _ = _; rw [List.length_append, HL.out]; rfl
        obtain ⟨A2, cap2, e⟩ := hO2.form
        rw [HL2.out] at e
        subst e
        have HW2 := Lib.hid (((HB.out.alloc hwr _).alloc (by simp; omega) _).grown hgrow (by simp; omega) (fun q hq => (World.ownsRow.lt HO.out q hq).1))
        have HO2 := Lib.hid hO2
        clear hO2 hown' hgrow
        go_wp2
        go_roundw
        case rel => exact ⟨k + 1, m + 1, cap2, A2, by omega, by go_num, rfl, by omega, by rw [HDS.out]; exact HL2.out, by rw [HDS.out]; exact HO2.out, HW2.out⟩
        case measure => simp [intOf]; omega
    · obtain rfl : k = n := by omega
      rw [List.take_of_length_le (by rw [HN.out]; omega)] at HL HO
      go_wp2
      go_ret
      exact ⟨A', m, cp, rfl, HL.out, HO.out.less (by omega), HB0.out.trans (HB.out.mono (by omega))⟩
end Dk
end Go.Proofs.Yteikfdijcepimaa
