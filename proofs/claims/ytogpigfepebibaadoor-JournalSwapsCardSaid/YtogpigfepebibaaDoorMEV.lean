/-
  Layer 7 (disk): what the rows' arguments read as. Layer 8 (journal): what the rows' arguments read as; and what the listed tables give.
-/
import Derived.Test.YtogpigfepebibaaDoorRows
import Derived.Test.YtogpigfepebibaaDoorMEF
import Derived.WalkKit
import Derived.ProofKit
import Derived.OpenShut
import Derived.SizedLaws
import Derived.SliceStrings
import Derived.Carry
import Derived.Deep.DeepHandedRow
import Derived.MakeChecks
import Derived.Deep.Slices
import Derived.Test.YtogpigfepebibaaDoorMJR
import Derived.Lib.LaidTab
import Derived.Lib.AppendIntMem
namespace Go.Proofs.YtogpigfepebibaaDoor
namespace Dk
open Go.ChangeShapes Go.WideShapes Go.ChangeAt Go.RowKit Go.Deep Kr

theorem own : ownKnob Tryd.prog.godebug = none := by kernel_rfl
theorem laidOut : laidOutB Tryd.prog = true := by kernel_rfl
theorem weights_of {H : Type} {ts : List TypeId} {ds : List (DataW H)} (h : (DataW.weightsEach Tryd.prog ts ds).all (· ≤ reachBytes) = true) {j : Nat} {t : TypeId} {d : DataW H} (ht : ts[j]? = some t) (hd : ds[j]? = some d) :
    ∀ n ∈ d.weights Tryd.prog t, n ≤ reachBytes := fun n hn => by
  have := List.all_eq_true.1 h _ (DataW.weights_mem_each ht hd n hn)
  simpa using this
theorem wf_u8 {z : Int} (h : (Lit.int .u8 z).wf = true) : 0 ≤ z ∧ z ≤ 255 := by
  have h1 : IntKind.u8.min = 0 := rfl
  have h2 : IntKind.u8.max = 255 := rfl
  simp only [Lit.wf, Bool.and_eq_true, decide_eq_true_eq] at h
  omega
theorem wf_i64 {z : Int} (h : (Lit.int .i64 z).wf = true) : -9223372036854775808 ≤ z ∧ z ≤ 9223372036854775807 := by
  have h1 : IntKind.i64.min = -9223372036854775808 := rfl
  have h2 : IntKind.i64.max = 9223372036854775807 := rfl
  simp only [Lit.wf, Bool.and_eq_true, decide_eq_true_eq] at h
  omega
theorem u8_nat {z : Int} (h : (Lit.int .u8 z).wf = true) : ∃ n : Nat, z = n ∧ n ≤ 255 := ⟨z.toNat, by have := wf_u8 h; omega, by have := wf_u8 h; omega⟩

theorem cells_int : Tryd.prog.cellsOf 3 = 1 := by kernel_rfl
theorem cells_string : Tryd.prog.cellsOf 9 = 1 := by kernel_rfl
theorem cells_ints : Tryd.prog.cellsOf 39 = 1 := by kernel_rfl
theorem bytes_int : Tryd.prog.bytesOf 3 = 8 := by kernel_rfl
theorem reach_is : reachBytes = 140737488351232 := rfl
theorem weights_all {H : Type} {e : TypeId} : ∀ (L : List (DataW H)) (d : DataW H), d ∈ L → ∀ n ∈ d.weights Tryd.prog e, n ∈ DataW.weightsAll Tryd.prog e L
  | [], _, h, _, _ => by cases h
  | a :: L, d, h, n, hn => by
    simp only [DataW.weightsAll]
    rcases List.mem_cons.1 h with rfl | h
    · exact List.mem_append_left _ hn
    · exact List.mem_append_right _ (weights_all L d h n hn)

section
variable {H : Type} {enc : TypeId × Value → H} {W : World} {fuel : Nat} {cs : List Value} {x : DataW H × List MemPlace}
theorem int_cell (h : DataW.trod enc Tryd.prog W 0 (fun _ => true) true fuel 3 cs = some x) : ∃ z : Int, cs = [.int .i64 z] ∧ -9223372036854775808 ≤ z ∧ z ≤ 9223372036854775807 := by
  obtain ⟨z, hz, _, hwf⟩ := DataW.trod_int Tryd.underlying3 h
  exact ⟨z, hz, wf_i64 hwf⟩
theorem string_cell (h : DataW.trod enc Tryd.prog W 0 (fun _ => true) true fuel 9 cs = some x) (hw : ∀ n ∈ x.1.weights Tryd.prog 9, n ≤ reachBytes) : ∃ s : ByteArray, cs = [.string s] ∧ s.size ≤ 140737488355328 := by
  obtain ⟨s, hs, hx, _⟩ := DataW.trod_string Tryd.underlying9 h
  refine ⟨s, hs, ?_⟩
  have h1 := hw s.data.toList.length (by rw [hx]; simp [DataW.weights])
  rw [reach_is] at h1
  have : s.data.toList.length = s.size := rfl
  omega
/-- A slice of ints, wherever it lies. -/
theorem ints_cell (h : DataW.trod enc Tryd.prog W 0 (fun _ => true) true fuel 39 cs = some x) (hw : ∀ n ∈ x.1.weights Tryd.prog 39, n ≤ reachBytes) :
    ∃ (A : Option Addr) (n cap : Nat) (ps : List Int), cs = [.slice A n cap] ∧ ps.length = n ∧ n ≤ cap ∧ n ≤ 140737488355328 ∧ PRow W W.heap.size A ps ∧ ∀ z ∈ ps, -9223372036854775808 ≤ z ∧ z ≤ 9223372036854775807 := by
  rcases open_slice1 Tryd.underlying39 cells_int h with ⟨hcs, hx⟩ | ⟨a, len, cap, m, k, V, D, Pl, hcs, _, hl, hm, hmm, hx, hall⟩
  · exact ⟨none, 0, 0, [], hcs, rfl, Nat.le_refl _, by omega, KRow.none_ _ _ _, by simp⟩
  · have hml : len ≤ m := by rw [hmm]; split <;> omega
    have hlen : len ≤ 140737488355328 := by
      have h1 := hw ((((List.range len).map D).length + ((List.range (m - len)).map fun j => D (len + j)).length) * Tryd.prog.bytesOf 3) (by
        rw [hx]
        simp only [DataW.weights, Tryd.underlying39]
        exact List.mem_cons_self)
      rw [bytes_int, reach_is] at h1
      simp only [List.length_map, List.length_range] at h1
      omega
    have each : ∀ i, i < len → ∃ z : Int, W.cell? (a.add i) = some (.int .i64 z) ∧ -9223372036854775808 ≤ z ∧ z ≤ 9223372036854775807 := fun i hi => by
      obtain ⟨h1, h2⟩ := hall i (by omega)
      obtain ⟨z, hz, hb⟩ := int_cell h2
      injection hz with hz
      exact ⟨z, by rw [h1, hz], hb⟩
    obtain ⟨f, hfx⟩ := choose_lt each
    refine ⟨some a, len, cap, (List.range len).map f, hcs, by simp, hl, hlen, ?_, fun z hz => ?_⟩
    · intro j z hj
      rw [List.getElem?_map, Option.map_eq_some_iff] at hj
      obtain ⟨i, hi, rfl⟩ := hj
      obtain ⟨hji, hi2⟩ := List.getElem?_eq_some_iff.1 hi
      rw [List.getElem_range] at hi2
      subst hi2
      rw [List.length_range] at hji
      have h01 := (hfx 0 (by omega)).1
      have hj1 := (hfx j hji).1
      have hblk := World.block_lt_of_cell? _ _ h01
      obtain ⟨b, off, spot⟩ := a
      have hspot : spot = none := by simpa [Addr.add] using World.cell?_spot h01
      subst hspot
      rw [Addr.add_lit] at hblk hj1
      refine ⟨b, off, rfl, hblk, fun i v hv => ?_⟩
      cases i with
      | zero => injection hv with hv; subst hv; rw [Nat.mul_one, Nat.add_zero]; exact hj1
      | succ i => simp [encI] at hv
    · obtain ⟨i, hi, rfl⟩ := List.mem_map.1 hz
      exact (hfx i (List.mem_range.1 hi)).2
end


set_option maxRecDepth 100000 in
/-- A slice of ints among the arguments. -/
theorem open_ints {H : Type} {enc : TypeId × Value → H} {W : World} {base : Nat} {v : Value} {d : DataW H} {ps : List MemPlace}
    (hok : Value.okWide Tryd.prog W .any base 39 v) (h : DataW.Trod enc Tryd.prog W 0 (fun _ => true) true 39 v d ps) (hw : ∀ n ∈ d.weights Tryd.prog 39, n ≤ reachBytes) :
    ∃ (A : Option Addr) (cap n : Nat) (t : List Int), v = .slice A n cap ∧ t.length = n ∧ n ≤ cap ∧ n ≤ 140737488355328 ∧ PRow W W.heap.size A t ∧ ∀ z ∈ t, -9223372036854775808 ≤ z ∧ z ≤ 9223372036854775807 := by
  obtain ⟨a0, len, cap, rfl⟩ := okWide_slice Tryd.underlying39 hok
  obtain ⟨fuel, hf⟩ := h
  obtain ⟨A, n, cap', t, hcs, r⟩ := ints_cell (x := (d, ps)) (by simpa [Value.cells] using hf) hw
  injection hcs with hcs
  exact ⟨A, cap', n, t, hcs, r⟩

end Dk
end Go.Proofs.YtogpigfepebibaaDoor

namespace Go.Proofs.YtogpigfepebibaaDoor
namespace Jl
open Go.ChangeShapes Go.WideShapes Go.ChangeAt Go.RowKit Go.Deep Kr Dk

theorem data_length (s : ByteArray) : s.data.toList.length = s.size := rfl
theorem wf_u16 {z : Int} (h : (Lit.int .u16 z).wf = true) : 0 ≤ z ∧ z ≤ 65535 := by
  have h1 : IntKind.u16.min = 0 := rfl
  have h2 : IntKind.u16.max = 65535 := rfl
  simp only [Lit.wf, Bool.and_eq_true, decide_eq_true_eq] at h
  omega
theorem u16_nat {z : Int} (h : (Lit.int .u16 z).wf = true) : ∃ n : Nat, z = n ∧ n ≤ 65535 := ⟨z.toNat, by have := wf_u16 h; omega, by have := wf_u16 h; omega⟩
theorem cells_strs : Tryd.prog.cellsOf 30 = 1 := by kernel_rfl
theorem bytes_str : Tryd.prog.bytesOf 9 = 16 := by kernel_rfl
/-- One cell an element: a row. -/
theorem one_row {α : Type} {enc : α → List Value} {W : World} {a : Addr} {len : Nat} (f : Nat → α) (g : α → Value) (hg : ∀ x, enc x = [g x]) (h : ∀ i, i < len → W.cell? (a.add i) = some (g (f i))) : KRow enc 1 W W.heap.size (some a) ((List.range len).map f) := by
  intro j x hj
  rw [List.getElem?_map, Option.map_eq_some_iff] at hj
  obtain ⟨i, hi, rfl⟩ := hj
  obtain ⟨hji, hi2⟩ := List.getElem?_eq_some_iff.1 hi
  rw [List.getElem_range] at hi2
  subst hi2
  rw [List.length_range] at hji
  have h01 := h 0 (by omega)
  have hj1 := h j hji
  have hblk := World.block_lt_of_cell? _ _ h01
  obtain ⟨b, off, spot⟩ := a
  have hspot : spot = none := by simpa [Addr.add] using World.cell?_spot h01
  subst hspot
  rw [Addr.add_lit] at hblk hj1
  refine ⟨b, off, rfl, hblk, fun i v hv => ?_⟩
  rw [hg] at hv
  cases i with
  | zero => injection hv with hv; subst hv; rw [Nat.mul_one, Nat.add_zero]; exact hj1
  | succ i => simp at hv

section
variable {H : Type} {enc : TypeId × Value → H} {W : World} {fuel : Nat} {cs : List Value} {x : DataW H × List MemPlace}
/-- A slice of strings, wherever it lies. -/
theorem strs_cell (h : DataW.trod enc Tryd.prog W 0 (fun _ => true) true fuel 30 cs = some x) (hw : ∀ n ∈ x.1.weights Tryd.prog 30, n ≤ reachBytes) :
    ∃ (A : Option Addr) (n cap : Nat) (l : List ByteArray), cs = [.slice A n cap] ∧ l.length = n ∧ n ≤ cap ∧ n ≤ 140737488355328 ∧ NRow W W.heap.size A l ∧ ∀ r ∈ l, r.size ≤ 140737488355328 := by
  rcases open_slice1 Tryd.underlying30 cells_string h with ⟨hcs, hx⟩ | ⟨a, len, cap, m, k, V, D, Pl, hcs, _, hl, hm, hmm, hx, hall⟩
  · exact ⟨none, 0, 0, [], hcs, rfl, Nat.le_refl _, by omega, KRow.none_ _ _ _, by simp⟩
  · have hml : len ≤ m := by rw [hmm]; split <;> omega
    have hlen : len ≤ 140737488355328 := by
      have h1 := hw ((((List.range len).map D).length + ((List.range (m - len)).map fun j => D (len + j)).length) * Tryd.prog.bytesOf 9) (by
        rw [hx]
        simp only [DataW.weights, Tryd.underlying30]
        exact List.mem_cons_self)
      rw [bytes_str, reach_is] at h1
      simp only [List.length_map, List.length_range] at h1
      omega
    have each : ∀ i, i < len → ∃ s : ByteArray, W.cell? (a.add i) = some (.string s) ∧ s.size ≤ 140737488355328 := fun i hi => by
      obtain ⟨h1, h2⟩ := hall i (by omega)
      obtain ⟨s, hs, hb⟩ := string_cell h2 (fun n hn => hw n (by
        rw [hx]
        simp only [DataW.weights, Tryd.underlying30]
        exact List.mem_cons_of_mem _ (List.mem_append_left _ (weights_all _ (D i) (List.mem_map.2 ⟨i, List.mem_range.2 hi, rfl⟩) n hn))))
      injection hs with hs
      exact ⟨s, by rw [h1, hs], hb⟩
    obtain ⟨f, hfx⟩ := choose_lt each
    refine ⟨some a, len, cap, (List.range len).map f, hcs, by simp, hl, hlen, one_row f (fun s => .string s) (fun _ => rfl) (fun i hi => (hfx i hi).1), fun z hz => ?_⟩
    obtain ⟨i, hi, rfl⟩ := List.mem_map.1 hz
    exact (hfx i (List.mem_range.1 hi)).2
end
set_option maxRecDepth 100000 in
/-- A slice of strings among the arguments. -/
theorem open_strs {H : Type} {enc : TypeId × Value → H} {W : World} {base : Nat} {v : Value} {d : DataW H} {ps : List MemPlace}
    (hok : Value.okWide Tryd.prog W .any base 30 v) (h : DataW.Trod enc Tryd.prog W 0 (fun _ => true) true 30 v d ps) (hw : ∀ n ∈ d.weights Tryd.prog 30, n ≤ reachBytes) :
    ∃ (A : Option Addr) (cap n : Nat) (t : List ByteArray), v = .slice A n cap ∧ t.length = n ∧ n ≤ cap ∧ n ≤ 140737488355328 ∧ NRow W W.heap.size A t ∧ ∀ r ∈ t, r.size ≤ 140737488355328 := by
  obtain ⟨a0, len, cap, rfl⟩ := okWide_slice Tryd.underlying30 hok
  obtain ⟨fuel, hf⟩ := h
  obtain ⟨A, n, cap', t, hcs, r⟩ := strs_cell (x := (d, ps)) (by simpa [Value.cells] using hf) hw
  injection hcs with hcs
  exact ⟨A, cap', n, t, hcs, r⟩
instance : Inhabited Rr := ⟨⟨none, 0, 0, []⟩⟩
set_option maxRecDepth 100000 in
/-- Rows of strings among the arguments. -/
theorem open_rrows {H : Type} {enc : TypeId × Value → H} {W : World} {base : Nat} {v : Value} {d : DataW H} {ps : List MemPlace}
    (hok : Value.okWide Tryd.prog W .any base 51 v) (h : DataW.Trod enc Tryd.prog W 0 (fun _ => true) true 51 v d ps) (hw : ∀ n ∈ d.weights Tryd.prog 51, n ≤ reachBytes) :
    ∃ (A : Option Addr) (cap n : Nat) (t : List Rr), v = .slice A n cap ∧ t.length = n ∧ n ≤ 9223372036854775807 ∧ RRow W W.heap.size A t ∧ ∀ r ∈ t, ROk r := by
  obtain ⟨a0, len, cap, rfl⟩ := okWide_slice Tryd.underlying51 hok
  obtain ⟨fuel, hf⟩ := h
  rcases open_slice1 Tryd.underlying51 cells_strs hf with ⟨hcs, hx⟩ | ⟨a, len', cap', m, k, V, D, Pl, hcs, _, hl, hm, hmm, hx, hall⟩
  · have e : Value.slice a0 len cap = .slice none 0 0 := by simpa [Value.cells] using hcs
    injection e with e1 e2 e3
    subst e1 e2 e3
    exact ⟨none, 0, 0, [], rfl, rfl, by omega, ⟨KRow.none_ _ _ _, fun r hr => by simp at hr⟩, fun r hr => by simp at hr⟩
  · have e : Value.slice a0 len cap = .slice (some a) len' cap' := by simpa [Value.cells] using hcs
    injection e with e1 e2 e3
    subst e1 e2 e3
    injection hx with hx _
    subst hx
    have hml : len ≤ m := by rw [hmm]; split <;> omega
    have each : ∀ i, i < len → ∃ r : Rr, W.cell? (a.add i) = some (.slice r.a r.n r.cap) ∧ ROk r ∧ NRow W W.heap.size r.a r.l := fun i hi => by
      obtain ⟨h1, h2⟩ := hall i (by omega)
      obtain ⟨A, n, c, l, hs, hl1, hl2, hl3, hl4, hl5⟩ := strs_cell h2 (fun n hn => hw n (by
        simp only [DataW.weights, Tryd.underlying51]
        exact List.mem_cons_of_mem _ (List.mem_append_left _ (weights_all _ (D i) (List.mem_map.2 ⟨i, List.mem_range.2 hi, rfl⟩) n hn))))
      injection hs with hs
      exact ⟨⟨A, n, c, l⟩, by rw [h1, hs], ⟨hl1, hl2, by show n ≤ _; omega, fun x hx => by have := hl5 x hx; omega⟩, hl4⟩
    obtain ⟨f, hfx⟩ := choose_lt each
    refine ⟨some a, cap, len, (List.range len).map f, rfl, by simp, by unfold maxLen at hm; omega, ⟨one_row f (fun r => .slice r.a r.n r.cap) (fun _ => rfl) (fun i hi => (hfx i hi).1), fun r hr => ?_⟩, fun r hr => ?_⟩
    · obtain ⟨i, hi, rfl⟩ := List.mem_map.1 hr
      exact (hfx i (List.mem_range.1 hi)).2.2
    · obtain ⟨i, hi, rfl⟩ := List.mem_map.1 hr
      exact (hfx i (List.mem_range.1 hi)).2.1
instance : Inhabited Ja := ⟨⟨0, 0, nul, nul, none, 0, 0, [], none, 0, 0, []⟩⟩
theorem gTab : Tryd.prog.globalNamed "bloomery/sha.roundKeys" = some 0 := by kernel_rfl
theorem gTabType : (Tryd.prog.globals[0]?).map (·.type) = some 128 := by kernel_rfl
theorem sha_tab {W : World} {rest : List (String × DataW Unit)} (h : laidMet Tryd.prog (("bloomery/sha.roundKeys", Rows.laid_bloomery_sha_roundKeys) :: rest) W) : Ok W.heap.size W := by
  have e : (Rows.laid_bloomery_sha_roundKeys : DataW Unit) = Lib.tabData .u32 (Sh.K.map fun x => (x.toNat : Int)) := by kernel_rfl
  rw [e] at h
  have ht := Lib.tabIs_of_head gTab gTabType Tryd.underlying128 Tryd.underlying90 (by kernel_rfl) (by kernel_rfl) h
  have hT : Sh.Tab W := fun k hk => by
    have hc := ht.cell gTab k (by rw [List.length_map, Sh.K_length]; exact hk)
    rw [hc]
    congr 2
    rw [List.getD_eq_getElem?_getD, List.getElem?_map, List.getElem?_eq_getElem (by rw [Sh.K_length]; exact hk), List.getD_eq_getElem?_getD, List.getElem?_eq_getElem (by rw [Sh.K_length]; exact hk)]
    rfl
  exact ⟨hT, World.block_lt_of_cell? _ _ (hT 0 (by decide)), Nat.le_refl _⟩
/-- What the rows' list gives. -/
theorem tab_of {W : World} (h : laidMetH Tryd.prog [("bloomery/sha.roundKeys", Rows.laid_bloomery_sha_roundKeys)] W)
    (hp : ([("bloomery/sha.roundKeys", (Rows.laid_bloomery_sha_roundKeys : DataW Unit))].all fun x => x.2.handleName?.isNone) = true) : Ok W.heap.size W := by
  rw [MakeChecks.laidMetH_plain _ _ _ hp] at h
  exact sha_tab h
end Jl
end Go.Proofs.YtogpigfepebibaaDoor
