/-
  Layer 7 (disk): what the rows' arguments read as. Layer 8 (journal): what the rows' arguments read as; and what the listed tables give.
-/
import Derived.Test.YtogpigfepebibaaGreatDoorRows
import Derived.Test.YtogpigfepebibaaGreatDoorMEF
import Derived.WalkKit
import Derived.ProofKit
import Derived.OpenShut
import Derived.SizedLaws
import Derived.SliceStrings
import Derived.Carry
import Derived.Deep.DeepHandedRow
import Derived.MakeChecks
import Derived.Deep.Slices
import Derived.Test.YtogpigfepebibaaGreatDoorMJR
import Derived.Lib.LaidTab
import Derived.Lib.AppendIntMem
namespace Go.Proofs.YtogpigfepebibaaGreatDoor
namespace Dk
open Go.ChangeShapes Go.WideShapes Go.ChangeAt Go.RowKit Go.Deep Kr

theorem own : ownKnob Tryz.prog.godebug = none := by kernel_rfl
theorem laidOut : laidOutB Tryz.prog = true := by kernel_rfl
theorem weights_of {H : Type} {ts : List TypeId} {ds : List (DataW H)} (h : (DataW.weightsEach Tryz.prog ts ds).all (· ≤ reachBytes) = true) {j : Nat} {t : TypeId} {d : DataW H} (ht : ts[j]? = some t) (hd : ds[j]? = some d) :
    ∀ n ∈ d.weights Tryz.prog t, n ≤ reachBytes := fun n hn => by
  have := List.all_eq_true.1 h _ (DataW.weights_mem_each ht hd n hn)
  simpa using this
theorem wf_u8 {z : Int} (h : (Lit.int .u8 z).wf = true) : 0 ≤ z ∧ z ≤ 255 := by
  have h1 : IntKind.u8.min = 0 := rfl
  have h2 : IntKind.u8.max = 255 := rfl
  simp only [Lit.wf, Bool.and_eq_true, decide_eq_true_eq] at h
  omega
theorem wf_i64 {z : Int} (h : (Lit.int .i64 z).wf = true) : -9223372036854775808 ≤ z ∧ z ≤ 9223372036854775807 := by
  have h1 : IntKind.i64.min = -9223372036854775808 := rfl
  have h2 : IntKind.i64.max = 9223372036854775807 := rfl
  simp only [Lit.wf, Bool.and_eq_true, decide_eq_true_eq] at h
  omega
theorem u8_nat {z : Int} (h : (Lit.int .u8 z).wf = true) : ∃ n : Nat, z = n ∧ n ≤ 255 := ⟨z.toNat, by have := wf_u8 h; omega, by have := wf_u8 h; omega⟩

theorem cells_int : Tryz.prog.cellsOf 3 = 1 := by kernel_rfl
theorem cells_string : Tryz.prog.cellsOf 9 = 1 := by kernel_rfl
theorem cells_ints : Tryz.prog.cellsOf 35 = 1 := by kernel_rfl
theorem bytes_int : Tryz.prog.bytesOf 3 = 8 := by kernel_rfl
theorem reach_is : reachBytes = 140737488351232 := rfl
theorem weights_all {H : Type} {e : TypeId} : ∀ (L : List (DataW H)) (d : DataW H), d ∈ L → ∀ n ∈ d.weights Tryz.prog e, n ∈ DataW.weightsAll Tryz.prog e L
  | [], _, h, _, _ => by cases h
  | a :: L, d, h, n, hn => by
    simp only [DataW.weightsAll]
    rcases List.mem_cons.1 h with rfl | h
    · exact List.mem_append_left _ hn
    · exact List.mem_append_right _ (weights_all L d h n hn)

section
variable {H : Type} {enc : TypeId × Value → H} {W : World} {fuel : Nat} {cs : List Value} {x : DataW H × List MemPlace}
theorem int_cell (h : DataW.trod enc Tryz.prog W 0 (fun _ => true) true fuel 3 cs = some x) : ∃ z : Int, cs = [.int .i64 z] ∧ -9223372036854775808 ≤ z ∧ z ≤ 9223372036854775807 := by
  obtain ⟨z, hz, _, hwf⟩ := DataW.trod_int Tryz.underlying3 h
  exact ⟨z, hz, wf_i64 hwf⟩
theorem string_cell (h : DataW.trod enc Tryz.prog W 0 (fun _ => true) true fuel 9 cs = some x) (hw : ∀ n ∈ x.1.weights Tryz.prog 9, n ≤ reachBytes) : ∃ s : ByteArray, cs = [.string s] ∧ s.size ≤ 140737488355328 := by
  obtain ⟨s, hs, hx, _⟩ := DataW.trod_string Tryz.underlying9 h
  refine ⟨s, hs, ?_⟩
  have h1 := hw s.data.toList.length (by rw [hx]; simp [DataW.weights])
  rw [reach_is] at h1
  have : s.data.toList.length = s.size := rfl
  omega
/-- A slice of ints, wherever it lies. -/
theorem ints_cell (h : DataW.trod enc Tryz.prog W 0 (fun _ => true) true fuel 35 cs = some x) (hw : ∀ n ∈ x.1.weights Tryz.prog 35, n ≤ reachBytes) :
    ∃ (A : Option Addr) (n cap : Nat) (ps : List Int), cs = [.slice A n cap] ∧ ps.length = n ∧ n ≤ cap ∧ n ≤ 140737488355328 ∧ PRow W W.heap.size A ps ∧ ∀ z ∈ ps, -9223372036854775808 ≤ z ∧ z ≤ 9223372036854775807 := by
  rcases open_slice1 Tryz.underlying35 cells_int h with ⟨hcs, hx⟩ | ⟨a, len, cap, m, k, V, D, Pl, hcs, _, hl, hm, hmm, hx, hall⟩
  · exact ⟨none, 0, 0, [], hcs, rfl, Nat.le_refl _, by omega, KRow.none_ _ _ _, by simp⟩
  · have hml : len ≤ m := by rw [hmm]; split <;> omega
    have hlen : len ≤ 140737488355328 := by
      have h1 := hw ((((List.range len).map D).length + ((List.range (m - len)).map fun j => D (len + j)).length) * Tryz.prog.bytesOf 3) (by
        rw [hx]
        simp only [DataW.weights, Tryz.underlying35]
        exact List.mem_cons_self)
      rw [bytes_int, reach_is] at h1
      simp only [List.length_map, List.length_range] at h1
      omega
    have each : ∀ i, i < len → ∃ z : Int, W.cell? (a.add i) = some (.int .i64 z) ∧ -9223372036854775808 ≤ z ∧ z ≤ 9223372036854775807 := fun i hi => by
      obtain ⟨h1, h2⟩ := hall i (by omega)
      obtain ⟨z, hz, hb⟩ := int_cell h2
      injection hz with hz
      exact ⟨z, by rw [h1, hz], hb⟩
    obtain ⟨f, hfx⟩ := choose_lt each
    refine ⟨some a, len, cap, (List.range len).map f, hcs, by simp, hl, hlen, ?_, fun z hz => ?_⟩
    · intro j z hj
      rw [List.getElem?_map, Option.map_eq_some_iff] at hj
      obtain ⟨i, hi, rfl⟩ := hj
      obtain ⟨hji, hi2⟩ := List.getElem?_eq_some_iff.1 hi
      rw [List.getElem_range] at hi2
      subst hi2
      rw [List.length_range] at hji
      have h01 := (hfx 0 (by omega)).1
      have hj1 := (hfx j hji).1
      have hblk := World.block_lt_of_cell? _ _ h01
      obtain ⟨b, off, spot⟩ := a
      have hspot : spot = none := by simpa [Addr.add] using World.cell?_spot h01
      subst hspot
      rw [Addr.add_lit] at hblk hj1
      refine ⟨b, off, rfl, hblk, fun i v hv => ?_⟩
      cases i with
      | zero => injection hv with hv; subst hv; rw [Nat.mul_one, Nat.add_zero]; exact hj1
      | succ i => simp [encI] at hv
    · obtain ⟨i, hi, rfl⟩ := List.mem_map.1 hz
      exact (hfx i (List.mem_range.1 hi)).2
end


set_option maxRecDepth 100000 in
/-- A slice of ints among the arguments. -/
theorem open_ints {H : Type} {enc : TypeId × Value → H} {W : World} {base : Nat} {v : Value} {d : DataW H} {ps : List MemPlace}
    (hok : Value.okWide Tryz.prog W .any base 35 v) (h : DataW.Trod enc Tryz.prog W 0 (fun _ => true) true 35 v d ps) (hw : ∀ n ∈ d.weights Tryz.prog 35, n ≤ reachBytes) :
    ∃ (A : Option Addr) (cap n : Nat) (t : List Int), v = .slice A n cap ∧ t.length = n ∧ n ≤ cap ∧ n ≤ 140737488355328 ∧ PRow W W.heap.size A t ∧ ∀ z ∈ t, -9223372036854775808 ≤ z ∧ z ≤ 9223372036854775807 := by
  obtain ⟨a0, len, cap, rfl⟩ := okWide_slice Tryz.underlying35 hok
  obtain ⟨fuel, hf⟩ := h
  obtain ⟨A, n, cap', t, hcs, r⟩ := ints_cell (x := (d, ps)) (by simpa [Value.cells] using hf) hw
  injection hcs with hcs
  exact ⟨A, cap', n, t, hcs, r⟩

end Dk
end Go.Proofs.YtogpigfepebibaaGreatDoor

namespace Go.Proofs.YtogpigfepebibaaGreatDoor
namespace Jl
open Go.ChangeShapes Go.WideShapes Go.ChangeAt Go.RowKit Go.Deep Kr Dk

theorem data_length (s : ByteArray) : s.data.toList.length = s.size := rfl
theorem wf_u16 {z : Int} (h : (Lit.int .u16 z).wf = true) : 0 ≤ z ∧ z ≤ 65535 := by
  have h1 : IntKind.u16.min = 0 := rfl
  have h2 : IntKind.u16.max = 65535 := rfl
  simp only [Lit.wf, Bool.and_eq_true, decide_eq_true_eq] at h
  omega
theorem u16_nat {z : Int} (h : (Lit.int .u16 z).wf = true) : ∃ n : Nat, z = n ∧ n ≤ 65535 := ⟨z.toNat, by have := wf_u16 h; omega, by have := wf_u16 h; omega⟩
theorem cells_strs : Tryz.prog.cellsOf 34 = 1 := by kernel_rfl
theorem bytes_str : Tryz.prog.bytesOf 9 = 16 := by kernel_rfl
theorem cells_jact : Tryz.prog.cellsOf 37 = 6 := by kernel_rfl
/-- One cell an element: a row. -/
theorem one_row {α : Type} {enc : α → List Value} {W : World} {a : Addr} {len : Nat} (f : Nat → α) (g : α → Value) (hg : ∀ x, enc x = [g x]) (h : ∀ i, i < len → W.cell? (a.add i) = some (g (f i))) : KRow enc 1 W W.heap.size (some a) ((List.range len).map f) := by
  intro j x hj
  rw [List.getElem?_map, Option.map_eq_some_iff] at hj
  obtain ⟨i, hi, rfl⟩ := hj
  obtain ⟨hji, hi2⟩ := List.getElem?_eq_some_iff.1 hi
  rw [List.getElem_range] at hi2
  subst hi2
  rw [List.length_range] at hji
  have h01 := h 0 (by omega)
  have hj1 := h j hji
  have hblk := World.block_lt_of_cell? _ _ h01
  obtain ⟨b, off, spot⟩ := a
  have hspot : spot = none := by simpa [Addr.add] using World.cell?_spot h01
  subst hspot
  rw [Addr.add_lit] at hblk hj1
  refine ⟨b, off, rfl, hblk, fun i v hv => ?_⟩
  rw [hg] at hv
  cases i with
  | zero => injection hv with hv; subst hv; rw [Nat.mul_one, Nat.add_zero]; exact hj1
  | succ i => simp at hv

section
variable {H : Type} {enc : TypeId × Value → H} {W : World} {fuel : Nat} {cs : List Value} {x : DataW H × List MemPlace}
/-- A slice of strings, wherever it lies. -/
theorem strs_cell (h : DataW.trod enc Tryz.prog W 0 (fun _ => true) true fuel 34 cs = some x) (hw : ∀ n ∈ x.1.weights Tryz.prog 34, n ≤ reachBytes) :
    ∃ (A : Option Addr) (n cap : Nat) (l : List ByteArray), cs = [.slice A n cap] ∧ l.length = n ∧ n ≤ cap ∧ n ≤ 140737488355328 ∧ NRow W W.heap.size A l ∧ ∀ r ∈ l, r.size ≤ 140737488355328 := by
  rcases open_slice1 Tryz.underlying34 cells_string h with ⟨hcs, hx⟩ | ⟨a, len, cap, m, k, V, D, Pl, hcs, _, hl, hm, hmm, hx, hall⟩
  · exact ⟨none, 0, 0, [], hcs, rfl, Nat.le_refl _, by omega, KRow.none_ _ _ _, by simp⟩
  · have hml : len ≤ m := by rw [hmm]; split <;> omega
    have hlen : len ≤ 140737488355328 := by
      have h1 := hw ((((List.range len).map D).length + ((List.range (m - len)).map fun j => D (len + j)).length) * Tryz.prog.bytesOf 9) (by
        rw [hx]
        simp only [DataW.weights, Tryz.underlying34]
        exact List.mem_cons_self)
      rw [bytes_str, reach_is] at h1
      simp only [List.length_map, List.length_range] at h1
      omega
    have each : ∀ i, i < len → ∃ s : ByteArray, W.cell? (a.add i) = some (.string s) ∧ s.size ≤ 140737488355328 := fun i hi => by
      obtain ⟨h1, h2⟩ := hall i (by omega)
      obtain ⟨s, hs, hb⟩ := string_cell h2 (fun n hn => hw n (by
        rw [hx]
        simp only [DataW.weights, Tryz.underlying34]
        exact List.mem_cons_of_mem _ (List.mem_append_left _ (weights_all _ (D i) (List.mem_map.2 ⟨i, List.mem_range.2 hi, rfl⟩) n hn))))
      injection hs with hs
      exact ⟨s, by rw [h1, hs], hb⟩
    obtain ⟨f, hfx⟩ := choose_lt each
    refine ⟨some a, len, cap, (List.range len).map f, hcs, by simp, hl, hlen, one_row f (fun s => .string s) (fun _ => rfl) (fun i hi => (hfx i hi).1), fun z hz => ?_⟩
    obtain ⟨i, hi, rfl⟩ := List.mem_map.1 hz
    exact (hfx i (List.mem_range.1 hi)).2
theorem jact_cells (h : DataW.trod enc Tryz.prog W 0 (fun _ => true) true fuel 37 cs = some x) (hw : ∀ n ∈ x.1.weights Tryz.prog 37, n ≤ reachBytes) : ∃ a : Ja, cs = encJ a ∧ JOk a ∧ NRow W W.heap.size a.ra a.recs ∧ PRow W W.heap.size a.pa a.picks := by
  obtain ⟨ys, m, _, hx, hl, hyl, hf⟩ := DataW.trod_struct Tryz.underlying37 h
  rw [cells_jact] at hl
  have hy : ∀ i, i < 6 → ∃ y, ys[i]? = some y := fun i hi => ⟨_, List.getElem?_eq_getElem (by rw [hyl]; exact hi)⟩
  obtain ⟨y0, e0⟩ := hy 0 (by decide)
  obtain ⟨y1, e1⟩ := hy 1 (by decide)
  obtain ⟨y2, e2⟩ := hy 2 (by decide)
  obtain ⟨y3, e3⟩ := hy 3 (by decide)
  obtain ⟨y4, e4⟩ := hy 4 (by decide)
  obtain ⟨y5, e5⟩ := hy 5 (by decide)
  have gen : ∀ {f : Field} {t : TypeId} {o k : Nat} {q : Option (DataW H × List MemPlace)}, f.type = t → f.offset = o → Tryz.prog.cellsOf t = k →
      DataW.trod enc Tryz.prog W 0 (fun _ => true) true m f.type ((cs.drop f.offset).take (Tryz.prog.cellsOf f.type)) = q → DataW.trod enc Tryz.prog W 0 (fun _ => true) true m t ((cs.drop o).take k) = q := by
    rintro f t o k q rfl rfl rfl h
    exact h
  have hwt : ∀ (i : Nat) (t : TypeId) (y : DataW H × List MemPlace), ([3, 3, 9, 9, 34, 35] : List TypeId)[i]? = some t → ys[i]? = some y → ∀ n ∈ y.1.weights Tryz.prog t, n ≤ reachBytes := fun i t y ht hy n hn => hw n (by
    rw [hx]
    simp only [DataW.weights, Tryz.underlying37]
    exact DataW.weights_mem_each (j := i) (ts := [3, 3, 9, 9, 34, 35]) ht (by rw [List.getElem?_map, hy]; rfl) n hn)
  have g0 := gen (t := 3) (o := 0) rfl rfl cells_int (hf 0 _ rfl)
  have g1 := gen (t := 3) (o := 1) rfl rfl cells_int (hf 1 _ rfl)
  have g2 := gen (t := 9) (o := 2) rfl rfl cells_string (hf 2 _ rfl)
  have g3 := gen (t := 9) (o := 3) rfl rfl cells_string (hf 3 _ rfl)
  have g4 := gen (t := 34) (o := 4) rfl rfl cells_strs (hf 4 _ rfl)
  have g5 := gen (t := 35) (o := 5) rfl rfl cells_ints (hf 5 _ rfl)
  rw [e0] at g0
  rw [e1] at g1
  rw [e2] at g2
  rw [e3] at g3
  rw [e4] at g4
  rw [e5] at g5
  obtain ⟨z0, hz0, _⟩ := int_cell g0
  obtain ⟨z1, hz1, hb1⟩ := int_cell g1
  obtain ⟨s2, hs2, hb2⟩ := string_cell g2 (hwt 2 _ _ rfl e2)
  obtain ⟨s3, hs3, hb3⟩ := string_cell g3 (hwt 3 _ _ rfl e3)
  obtain ⟨A4, n4, cap4, l4, hs4, hl4, hc4, hn4, hp4, hb4⟩ := strs_cell g4 (hwt 4 _ _ rfl e4)
  obtain ⟨A, n, cap, ps, hs5, hl5, hc5, hn5, hp5, hb5⟩ := ints_cell g5 (hwt 5 _ _ rfl e5)
  refine ⟨⟨z0, z1, s2, s3, A4, n4, cap4, l4, A, n, cap, ps⟩, ?_, ⟨hb2, hb3, by show n4 ≤ _; omega, hc4, hl4, fun r hr => by have := hb4 r hr; omega, by show n ≤ _; omega, hc5, hl5, hb1, hb5⟩, hp4, hp5⟩
  have e : cs = (cs.drop 0).take 1 ++ ((cs.drop 1).take 1 ++ ((cs.drop 2).take 1 ++ ((cs.drop 3).take 1 ++ ((cs.drop 4).take 1 ++ (cs.drop 5).take 1)))) := by
    have k5 : (cs.drop 5).take 1 = cs.drop 5 := List.take_of_length_le (by rw [List.length_drop]; omega)
    have k : ∀ i, (cs.drop i).take 1 ++ cs.drop (i + 1) = cs.drop i := fun i => by
      have := List.take_append_drop 1 (cs.drop i)
      rwa [List.drop_drop] at this
    rw [k5, k 4, k 3, k 2, k 1, k 0, List.drop_zero]
  rw [e, hz0, hz1, hs2, hs3, hs4, hs5]
  rfl
end
set_option maxRecDepth 100000 in
/-- A slice of strings among the arguments. -/
theorem open_strs {H : Type} {enc : TypeId × Value → H} {W : World} {base : Nat} {v : Value} {d : DataW H} {ps : List MemPlace}
    (hok : Value.okWide Tryz.prog W .any base 34 v) (h : DataW.Trod enc Tryz.prog W 0 (fun _ => true) true 34 v d ps) (hw : ∀ n ∈ d.weights Tryz.prog 34, n ≤ reachBytes) :
    ∃ (A : Option Addr) (cap n : Nat) (t : List ByteArray), v = .slice A n cap ∧ t.length = n ∧ n ≤ cap ∧ n ≤ 140737488355328 ∧ NRow W W.heap.size A t ∧ ∀ r ∈ t, r.size ≤ 140737488355328 := by
  obtain ⟨a0, len, cap, rfl⟩ := okWide_slice Tryz.underlying34 hok
  obtain ⟨fuel, hf⟩ := h
  obtain ⟨A, n, cap', t, hcs, r⟩ := strs_cell (x := (d, ps)) (by simpa [Value.cells] using hf) hw
  injection hcs with hcs
  exact ⟨A, cap', n, t, hcs, r⟩
instance : Inhabited Rr := ⟨⟨none, 0, 0, []⟩⟩
instance : Inhabited Ja := ⟨⟨0, 0, nul, nul, none, 0, 0, [], none, 0, 0, []⟩⟩
set_option maxRecDepth 100000 in
/-- A slice of acts among the arguments: what a walk asks of it. -/
theorem open_jacts {H : Type} {enc : TypeId × Value → H} {W : World} {base : Nat} {v : Value} {d : DataW H} {ps : List MemPlace}
    (hok : Value.okWide Tryz.prog W .any base 22 v) (h : DataW.Trod enc Tryz.prog W 0 (fun _ => true) true 22 v d ps) (hw : ∀ n ∈ d.weights Tryz.prog 22, n ≤ reachBytes) :
    ∃ (A : Option Addr) (cap n : Nat) (t : List Ja), v = .slice A n cap ∧ t.length = n ∧ JRow W W.heap.size A t ∧ n ≤ 9223372036854775807 ∧ ∀ a ∈ t, JOk a := by
  obtain ⟨a0, len, cap, rfl⟩ := okWide_slice Tryz.underlying22 hok
  obtain ⟨fuel, hf⟩ := h
  rcases open_slice Tryz.underlying22 hf with ⟨hcs, hx⟩ | ⟨a, len', cap', m, k, D, Pl, hcs, _, hl, hm, hmm, hx, hall⟩
  · have e : Value.slice a0 len cap = .slice none 0 0 := by simpa [Value.cells] using hcs
    injection e with e1 e2 e3
    subst e1 e2 e3
    exact ⟨none, 0, 0, [], rfl, rfl, ⟨fun j x hj => by simp at hj, fun a ha => by simp at ha⟩, by omega, fun a ha => by simp at ha⟩
  · have e : Value.slice a0 len cap = .slice (some a) len' cap' := by simpa [Value.cells] using hcs
    injection e with e1 e2 e3
    subst e1 e2 e3
    injection hx with hx _
    subst hx
    have hml : len ≤ m := by rw [hmm]; split <;> omega
    have each : ∀ i, i < len → ∃ x : Ja, (∀ j v, (encJ x)[j]? = some v → W.cell? ((a.add (i * 6)).add j) = some v) ∧ JOk x ∧ NRow W W.heap.size x.ra x.recs ∧ PRow W W.heap.size x.pa x.picks := fun i hi => by
      obtain ⟨cs', h1, h2⟩ := hall i (by omega)
      rw [cells_jact] at h1
      obtain ⟨_, hlen, hcell⟩ := World.cells?_some h1
      obtain ⟨x, rfl, hx⟩ := jact_cells h2 (fun n hn => hw n (by
        simp only [DataW.weights, Tryz.underlying22]
        exact List.mem_cons_of_mem _ (List.mem_append_left _ (weights_all _ (D i) (List.mem_map.2 ⟨i, List.mem_range.2 hi, rfl⟩) n hn))))
      refine ⟨x, fun j v hv => ?_, hx⟩
      have hj : j < 6 := by rw [← hlen]; exact (List.getElem?_eq_some_iff.1 hv).1
      rw [hcell j hj]; exact hv
    obtain ⟨f, hfx⟩ := choose_lt each
    refine ⟨some a, cap, len, (List.range len).map f, rfl, by simp, ⟨?_, fun x hx => ?_⟩, by unfold maxLen at hm; omega, fun x hx => ?_⟩
    · intro j x hj
      rw [List.getElem?_map, Option.map_eq_some_iff] at hj
      obtain ⟨i, hi, rfl⟩ := hj
      obtain ⟨hji, hi2⟩ := List.getElem?_eq_some_iff.1 hi
      rw [List.getElem_range] at hi2
      subst hi2
      rw [List.length_range] at hji
      have h01 := (hfx 0 (by omega)).1 0 _ (show (encJ (f 0))[0]? = some (.int .i64 (f 0).kind) from rfl)
      have hj1 := (hfx j hji).1
      have hblk := World.block_lt_of_cell? _ _ h01
      obtain ⟨b, off, spot⟩ := a
      have hspot : spot = none := by simpa [Addr.add] using World.cell?_spot h01
      subst hspot
      rw [Addr.add_lit, Addr.add_lit] at hblk
      refine ⟨b, off, rfl, hblk, fun q v hv => ?_⟩
      have h3 := hj1 q v hv
      rw [Addr.add_lit, Addr.add_lit] at h3
      exact h3
    · obtain ⟨i, hi, rfl⟩ := List.mem_map.1 hx
      exact (hfx i (List.mem_range.1 hi)).2.2
    · obtain ⟨i, hi, rfl⟩ := List.mem_map.1 hx
      exact (hfx i (List.mem_range.1 hi)).2.1
theorem gTab : Tryz.prog.globalNamed "bloomery/sha.roundKeys" = some 0 := by kernel_rfl
theorem gTabType : (Tryz.prog.globals[0]?).map (·.type) = some 148 := by kernel_rfl
theorem sha_tab {W : World} {rest : List (String × DataW Unit)} (h : laidMet Tryz.prog (("bloomery/sha.roundKeys", Rows.laid_bloomery_sha_roundKeys) :: rest) W) : Ok W.heap.size W := by
  have e : (Rows.laid_bloomery_sha_roundKeys : DataW Unit) = Lib.tabData .u32 (Sh.K.map fun x => (x.toNat : Int)) := by kernel_rfl
  rw [e] at h
  have ht := Lib.tabIs_of_head gTab gTabType Tryz.underlying148 Tryz.underlying111 (by kernel_rfl) (by kernel_rfl) h
  have hT : Sh.Tab W := fun k hk => by
    have hc := ht.cell gTab k (by rw [List.length_map, Sh.K_length]; exact hk)
    rw [hc]
    congr 2
    rw [List.getD_eq_getElem?_getD, List.getElem?_map, List.getElem?_eq_getElem (by rw [Sh.K_length]; exact hk), List.getD_eq_getElem?_getD, List.getElem?_eq_getElem (by rw [Sh.K_length]; exact hk)]
    rfl
  exact ⟨hT, World.block_lt_of_cell? _ _ (hT 0 (by decide)), Nat.le_refl _⟩
/-- What the rows' list gives. -/
theorem tab_of {W : World} (h : laidMetH Tryz.prog [("bloomery/sha.roundKeys", Rows.laid_bloomery_sha_roundKeys)] W)
    (hp : ([("bloomery/sha.roundKeys", (Rows.laid_bloomery_sha_roundKeys : DataW Unit))].all fun x => x.2.handleName?.isNone) = true) : Ok W.heap.size W := by
  rw [MakeChecks.laidMetH_plain _ _ _ hp] at h
  exact sha_tab h
end Jl
end Go.Proofs.YtogpigfepebibaaGreatDoor
