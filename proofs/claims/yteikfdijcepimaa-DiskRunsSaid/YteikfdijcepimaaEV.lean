/-
  Layer 7 (disk): what the rows' arguments read as.
-/
import Derived.Test.YteikfdijcepimaaRows
import Derived.Test.YteikfdijcepimaaEI
import Derived.Test.YteikfdijcepimaaDP
import Derived.WalkKit
import Derived.ProofKit
import Derived.OpenShut
import Derived.SizedLaws
import Derived.SliceStrings
import Derived.Carry
import Derived.Deep.DeepHandedRow
import Derived.MakeChecks
import Derived.Deep.Slices
namespace Go.Proofs.Yteikfdijcepimaa
namespace Dk
open Go.ChangeShapes Go.WideShapes Go.ChangeAt Go.RowKit Go.Deep Kr

theorem own : ownKnob Try.prog.godebug = none := by kernel_rfl
theorem laidOut : laidOutB Try.prog = true := by kernel_rfl
theorem weights_of {H : Type} {ts : List TypeId} {ds : List (DataW H)} (h : (DataW.weightsEach Try.prog ts ds).all (· ≤ reachBytes) = true) {j : Nat} {t : TypeId} {d : DataW H} (ht : ts[j]? = some t) (hd : ds[j]? = some d) :
    ∀ n ∈ d.weights Try.prog t, n ≤ reachBytes := fun n hn => by
  have := List.all_eq_true.1 h _ (DataW.weights_mem_each ht hd n hn)
  simpa using this
theorem wf_u8 {z : Int} (h : (Lit.int .u8 z).wf = true) : 0 ≤ z ∧ z ≤ 255 := by
  have h1 : IntKind.u8.min = 0 := rfl
  have h2 : IntKind.u8.max = 255 := rfl
  simp only [Lit.wf, Bool.and_eq_true, decide_eq_true_eq] at h
  omega
theorem wf_i64 {z : Int} (h : (Lit.int .i64 z).wf = true) : -9223372036854775808 ≤ z ∧ z ≤ 9223372036854775807 := by
  have h1 : IntKind.i64.min = -9223372036854775808 := rfl
  have h2 : IntKind.i64.max = 9223372036854775807 := rfl
  simp only [Lit.wf, Bool.and_eq_true, decide_eq_true_eq] at h
  omega
theorem u8_nat {z : Int} (h : (Lit.int .u8 z).wf = true) : ∃ n : Nat, z = n ∧ n ≤ 255 := ⟨z.toNat, by have := wf_u8 h; omega, by have := wf_u8 h; omega⟩

theorem cells_act : Try.prog.cellsOf 33 = 6 := by kernel_rfl
theorem cells_int : Try.prog.cellsOf 3 = 1 := by kernel_rfl
theorem cells_string : Try.prog.cellsOf 9 = 1 := by kernel_rfl
theorem cells_ints : Try.prog.cellsOf 31 = 1 := by kernel_rfl
theorem cells_pair : Try.prog.cellsOf 46 = 2 := by kernel_rfl
theorem bytes_int : Try.prog.bytesOf 3 = 8 := by kernel_rfl
theorem reach_is : reachBytes = 140737488351232 := rfl
theorem weights_all {H : Type} {e : TypeId} : ∀ (L : List (DataW H)) (d : DataW H), d ∈ L → ∀ n ∈ d.weights Try.prog e, n ∈ DataW.weightsAll Try.prog e L
  | [], _, h, _, _ => by cases h
  | a :: L, d, h, n, hn => by
    simp only [DataW.weightsAll]
    rcases List.mem_cons.1 h with rfl | h
    · exact List.mem_append_left _ hn
    · exact List.mem_append_right _ (weights_all L d h n hn)

section
variable {H : Type} {enc : TypeId × Value → H} {W : World} {fuel : Nat} {cs : List Value} {x : DataW H × List MemPlace}
theorem int_cell (h : DataW.trod enc Try.prog W 0 (fun _ => true) true fuel 3 cs = some x) : ∃ z : Int, cs = [.int .i64 z] ∧ -9223372036854775808 ≤ z ∧ z ≤ 9223372036854775807 := by
  obtain ⟨z, hz, _, hwf⟩ := DataW.trod_int Try.underlying3 h
  exact ⟨z, hz, wf_i64 hwf⟩
theorem string_cell (h : DataW.trod enc Try.prog W 0 (fun _ => true) true fuel 9 cs = some x) (hw : ∀ n ∈ x.1.weights Try.prog 9, n ≤ reachBytes) : ∃ s : ByteArray, cs = [.string s] ∧ s.size ≤ 140737488355328 := by
  obtain ⟨s, hs, hx, _⟩ := DataW.trod_string Try.underlying9 h
  refine ⟨s, hs, ?_⟩
  have h1 := hw s.data.toList.length (by rw [hx]; simp [DataW.weights])
  rw [reach_is] at h1
  have : s.data.toList.length = s.size := rfl
  omega
/-- A slice of ints, wherever it lies. -/
theorem ints_cell (h : DataW.trod enc Try.prog W 0 (fun _ => true) true fuel 31 cs = some x) (hw : ∀ n ∈ x.1.weights Try.prog 31, n ≤ reachBytes) :
    ∃ (A : Option Addr) (n cap : Nat) (ps : List Int), cs = [.slice A n cap] ∧ ps.length = n ∧ n ≤ cap ∧ n ≤ 140737488355328 ∧ PRow W W.heap.size A ps ∧ ∀ z ∈ ps, -9223372036854775808 ≤ z ∧ z ≤ 9223372036854775807 := by
  rcases open_slice1 Try.underlying31 cells_int h with ⟨hcs, hx⟩ | ⟨a, len, cap, m, k, V, D, Pl, hcs, _, hl, hm, hmm, hx, hall⟩
  · exact ⟨none, 0, 0, [], hcs, rfl, Nat.le_refl _, by omega, KRow.none_ _ _ _, by simp⟩
  · have hml : len ≤ m := by rw [hmm]; split <;> omega
    have hlen : len ≤ 140737488355328 := by
      have h1 := hw ((((List.range len).map D).length + ((List.range (m - len)).map fun j => D (len + j)).length) * Try.prog.bytesOf 3) (by
        rw [hx]
        simp only [DataW.weights, Try.underlying31]
        exact List.mem_cons_self)
      rw [bytes_int, reach_is] at h1
      simp only [List.length_map, List.length_range] at h1
      omega
    have each : ∀ i, i < len → ∃ z : Int, W.cell? (a.add i) = some (.int .i64 z) ∧ -9223372036854775808 ≤ z ∧ z ≤ 9223372036854775807 := fun i hi => by
      obtain ⟨h1, h2⟩ := hall i (by omega)
      obtain ⟨z, hz, hb⟩ := int_cell h2
      injection hz with hz
      exact ⟨z, by rw [h1, hz], hb⟩
    obtain ⟨f, hfx⟩ := choose_lt each
    refine ⟨some a, len, cap, (List.range len).map f, hcs, by simp, hl, hlen, ?_, fun z hz => ?_⟩
    · intro j z hj
      rw [List.getElem?_map, Option.map_eq_some_iff] at hj
      obtain ⟨i, hi, rfl⟩ := hj
      obtain ⟨hji, hi2⟩ := List.getElem?_eq_some_iff.1 hi
      rw [List.getElem_range] at hi2
      subst hi2
      rw [List.length_range] at hji
      have h01 := (hfx 0 (by omega)).1
      have hj1 := (hfx j hji).1
      have hblk := World.block_lt_of_cell? _ _ h01
      obtain ⟨b, off, spot⟩ := a
      have hspot : spot = none := by simpa [Addr.add] using World.cell?_spot h01
      subst hspot
      rw [Addr.add_lit] at hblk hj1
      refine ⟨b, off, rfl, hblk, fun i v hv => ?_⟩
      cases i with
      | zero => injection hv with hv; subst hv; rw [Nat.mul_one, Nat.add_zero]; exact hj1
      | succ i => simp [encI] at hv
    · obtain ⟨i, hi, rfl⟩ := List.mem_map.1 hz
      exact (hfx i (List.mem_range.1 hi)).2
theorem act_cells (h : DataW.trod enc Try.prog W 0 (fun _ => true) true fuel 33 cs = some x) (hw : ∀ n ∈ x.1.weights Try.prog 33, n ≤ reachBytes) : ∃ a : Ac, cs = encA a ∧ Ok a ∧ PRow W W.heap.size a.pa a.picks := by
  obtain ⟨ys, m, _, hx, hl, hyl, hf⟩ := DataW.trod_struct Try.underlying33 h
  rw [cells_act] at hl
  have hy : ∀ i, i < 6 → ∃ y, ys[i]? = some y := fun i hi => ⟨_, List.getElem?_eq_getElem (by rw [hyl]; exact hi)⟩
  obtain ⟨y0, e0⟩ := hy 0 (by decide)
  obtain ⟨y1, e1⟩ := hy 1 (by decide)
  obtain ⟨y2, e2⟩ := hy 2 (by decide)
  obtain ⟨y3, e3⟩ := hy 3 (by decide)
  obtain ⟨y4, e4⟩ := hy 4 (by decide)
  obtain ⟨y5, e5⟩ := hy 5 (by decide)
  have gen : ∀ {f : Field} {t : TypeId} {o k : Nat} {q : Option (DataW H × List MemPlace)}, f.type = t → f.offset = o → Try.prog.cellsOf t = k →
      DataW.trod enc Try.prog W 0 (fun _ => true) true m f.type ((cs.drop f.offset).take (Try.prog.cellsOf f.type)) = q → DataW.trod enc Try.prog W 0 (fun _ => true) true m t ((cs.drop o).take k) = q := by
    rintro f t o k q rfl rfl rfl h
    exact h
  have hwt : ∀ (i : Nat) (t : TypeId) (y : DataW H × List MemPlace), ([3, 3, 9, 9, 9, 31] : List TypeId)[i]? = some t → ys[i]? = some y → ∀ n ∈ y.1.weights Try.prog t, n ≤ reachBytes := fun i t y ht hy n hn => hw n (by
    rw [hx]
    simp only [DataW.weights, Try.underlying33]
    exact DataW.weights_mem_each (j := i) (ts := [3, 3, 9, 9, 9, 31]) ht (by rw [List.getElem?_map, hy]; rfl) n hn)
  have g0 := gen (t := 3) (o := 0) rfl rfl cells_int (hf 0 _ rfl)
  have g1 := gen (t := 3) (o := 1) rfl rfl cells_int (hf 1 _ rfl)
  have g2 := gen (t := 9) (o := 2) rfl rfl cells_string (hf 2 _ rfl)
  have g3 := gen (t := 9) (o := 3) rfl rfl cells_string (hf 3 _ rfl)
  have g4 := gen (t := 9) (o := 4) rfl rfl cells_string (hf 4 _ rfl)
  have g5 := gen (t := 31) (o := 5) rfl rfl cells_ints (hf 5 _ rfl)
  rw [e0] at g0
  rw [e1] at g1
  rw [e2] at g2
  rw [e3] at g3
  rw [e4] at g4
  rw [e5] at g5
  obtain ⟨z0, hz0, _⟩ := int_cell g0
  obtain ⟨z1, hz1, hb1⟩ := int_cell g1
  obtain ⟨s2, hs2, hb2⟩ := string_cell g2 (hwt 2 _ _ rfl e2)
  obtain ⟨s3, hs3, hb3⟩ := string_cell g3 (hwt 3 _ _ rfl e3)
  obtain ⟨s4, hs4, hb4⟩ := string_cell g4 (hwt 4 _ _ rfl e4)
  obtain ⟨A, n, cap, ps, hs5, hl5, hc5, hn5, hp5, hb5⟩ := ints_cell g5 (hwt 5 _ _ rfl e5)
  refine ⟨⟨z0, z1, s2, s3, s4, A, n, cap, ps⟩, ?_, ⟨hb2, hb3, hb4, hn5, hl5, hb1, hb5⟩, hp5⟩
  have e : cs = (cs.drop 0).take 1 ++ ((cs.drop 1).take 1 ++ ((cs.drop 2).take 1 ++ ((cs.drop 3).take 1 ++ ((cs.drop 4).take 1 ++ (cs.drop 5).take 1)))) := by
    have k5 : (cs.drop 5).take 1 = cs.drop 5 := List.take_of_length_le (by rw [List.length_drop]; omega)
    have k : ∀ i, (cs.drop i).take 1 ++ cs.drop (i + 1) = cs.drop i := fun i => by
      have := List.take_append_drop 1 (cs.drop i)
      rwa [List.drop_drop] at this
    rw [k5, k 4, k 3, k 2, k 1, k 0, List.drop_zero]
  rw [e, hz0, hz1, hs2, hs3, hs4, hs5]
  rfl
end

instance : Inhabited Ac := ⟨⟨0, 0, nul, nul, nul, none, 0, 0, []⟩⟩

set_option maxRecDepth 100000 in
/-- A slice of acts among the arguments: what a walk asks of it. -/
theorem open_acts {H : Type} {enc : TypeId × Value → H} {W : World} {base : Nat} {v : Value} {d : DataW H} {ps : List MemPlace}
    (hok : Value.okWide Try.prog W .any base 22 v) (h : DataW.Trod enc Try.prog W 0 (fun _ => true) true 22 v d ps) (hw : ∀ n ∈ d.weights Try.prog 22, n ≤ reachBytes) :
    ∃ (A : Option Addr) (cap n : Nat) (t : List Ac), v = .slice A n cap ∧ t.length = n ∧ ARow W W.heap.size A t ∧ n ≤ 9223372036854775807 ∧ ∀ a ∈ t, Ok a := by
  obtain ⟨a0, len, cap, rfl⟩ := okWide_slice Try.underlying22 hok
  obtain ⟨fuel, hf⟩ := h
  rcases open_slice Try.underlying22 hf with ⟨hcs, hx⟩ | ⟨a, len', cap', m, k, D, Pl, hcs, _, hl, hm, hmm, hx, hall⟩
  · have e : Value.slice a0 len cap = .slice none 0 0 := by simpa [Value.cells] using hcs
    injection e with e1 e2 e3
    subst e1 e2 e3
    exact ⟨none, 0, 0, [], rfl, rfl, ⟨fun j x hj => by simp at hj, fun a ha => by simp at ha⟩, by omega, fun a ha => by simp at ha⟩
  · have e : Value.slice a0 len cap = .slice (some a) len' cap' := by simpa [Value.cells] using hcs
    injection e with e1 e2 e3
    subst e1 e2 e3
    injection hx with hx _
    subst hx
    have hml : len ≤ m := by rw [hmm]; split <;> omega
    have each : ∀ i, i < len → ∃ x : Ac, (∀ j v, (encA x)[j]? = some v → W.cell? ((a.add (i * 6)).add j) = some v) ∧ Ok x ∧ PRow W W.heap.size x.pa x.picks := fun i hi => by
      obtain ⟨cs', h1, h2⟩ := hall i (by omega)
      rw [cells_act] at h1
      obtain ⟨_, hlen, hcell⟩ := World.cells?_some h1
      obtain ⟨x, rfl, hx⟩ := act_cells h2 (fun n hn => hw n (by
        simp only [DataW.weights, Try.underlying22]
        exact List.mem_cons_of_mem _ (List.mem_append_left _ (weights_all _ (D i) (List.mem_map.2 ⟨i, List.mem_range.2 hi, rfl⟩) n hn))))
      refine ⟨x, fun j v hv => ?_, hx⟩
      have hj : j < 6 := by rw [← hlen]; exact (List.getElem?_eq_some_iff.1 hv).1
      rw [hcell j hj]; exact hv
    obtain ⟨f, hfx⟩ := choose_lt each
    refine ⟨some a, cap, len, (List.range len).map f, rfl, by simp, ⟨?_, fun x hx => ?_⟩, by unfold maxLen at hm; omega, fun x hx => ?_⟩
    · intro j x hj
      rw [List.getElem?_map, Option.map_eq_some_iff] at hj
      obtain ⟨i, hi, rfl⟩ := hj
      obtain ⟨hji, hi2⟩ := List.getElem?_eq_some_iff.1 hi
      rw [List.getElem_range] at hi2
      subst hi2
      rw [List.length_range] at hji
      have h01 := (hfx 0 (by omega)).1 0 _ (show (encA (f 0))[0]? = some (.int .i64 (f 0).kind) from rfl)
      have hj1 := (hfx j hji).1
      have hblk := World.block_lt_of_cell? _ _ h01
      obtain ⟨b, off, spot⟩ := a
      have hspot : spot = none := by simpa [Addr.add] using World.cell?_spot h01
      subst hspot
      rw [Addr.add_lit, Addr.add_lit] at hblk
      refine ⟨b, off, rfl, hblk, fun q v hv => ?_⟩
      have h3 := hj1 q v hv
      rw [Addr.add_lit, Addr.add_lit] at h3
      exact h3
    · obtain ⟨i, hi, rfl⟩ := List.mem_map.1 hx
      exact (hfx i (List.mem_range.1 hi)).2.2
    · obtain ⟨i, hi, rfl⟩ := List.mem_map.1 hx
      exact (hfx i (List.mem_range.1 hi)).2.1

set_option maxRecDepth 100000 in
/-- A slice of ints among the arguments. -/
theorem open_ints {H : Type} {enc : TypeId × Value → H} {W : World} {base : Nat} {v : Value} {d : DataW H} {ps : List MemPlace}
    (hok : Value.okWide Try.prog W .any base 31 v) (h : DataW.Trod enc Try.prog W 0 (fun _ => true) true 31 v d ps) (hw : ∀ n ∈ d.weights Try.prog 31, n ≤ reachBytes) :
    ∃ (A : Option Addr) (cap n : Nat) (t : List Int), v = .slice A n cap ∧ t.length = n ∧ n ≤ cap ∧ n ≤ 140737488355328 ∧ PRow W W.heap.size A t ∧ ∀ z ∈ t, -9223372036854775808 ≤ z ∧ z ≤ 9223372036854775807 := by
  obtain ⟨a0, len, cap, rfl⟩ := okWide_slice Try.underlying31 hok
  obtain ⟨fuel, hf⟩ := h
  obtain ⟨A, n, cap', t, hcs, r⟩ := ints_cell (x := (d, ps)) (by simpa [Value.cells] using hf) hw
  injection hcs with hcs
  exact ⟨A, cap', n, t, hcs, r⟩

set_option maxRecDepth 100000 in
/-- Two strings among the arguments. -/
theorem open_pair {H : Type} {enc : TypeId × Value → H} {W : World} {base : Nat} {v : Value} {d : DataW H} {ps : List MemPlace}
    (hok : Value.okWide Try.prog W .any base 46 v) (h : DataW.Trod enc Try.prog W 0 (fun _ => true) true 46 v d ps) (hw : ∀ n ∈ d.weights Try.prog 46, n ≤ reachBytes) :
    ∃ x y : ByteArray, v = .agg #[.string x, .string y] ∧ x.size ≤ 140737488355328 ∧ y.size ≤ 140737488355328 := by
  unfold Value.okWide at hok
  rw [Try.underlying46] at hok
  obtain ⟨cs, rfl, hsz, _⟩ := hok
  rw [cells_pair] at hsz
  obtain ⟨fuel, hf⟩ := h
  obtain ⟨ys, m, _, hx, hl, hyl, hat⟩ := DataW.trod_array Try.underlying46 hf
  injection hx with hx _
  have hy : ∀ i, i < 2 → ∃ y, ys[i]? = some y := fun i hi => ⟨_, List.getElem?_eq_getElem (by rw [hyl]; exact hi)⟩
  obtain ⟨y0, e0⟩ := hy 0 (by decide)
  obtain ⟨y1, e1⟩ := hy 1 (by decide)
  have hwt : ∀ (i : Nat) (y : DataW H × List MemPlace), ys[i]? = some y → ∀ n ∈ y.1.weights Try.prog 9, n ≤ reachBytes := fun i y hy n hn => hw n (by
    rw [hx]
    simp only [DataW.weights, Try.underlying46]
    exact weights_all _ y.1 (List.mem_map.2 ⟨y, List.mem_of_getElem? hy, rfl⟩) n hn)
  have g0 := hat 0 (by decide)
  have g1 := hat 1 (by decide)
  rw [cells_string, e0] at g0
  rw [cells_string, e1] at g1
  obtain ⟨x, hx0, hb0⟩ := string_cell g0 (hwt 0 _ e0)
  obtain ⟨y, hx1, hb1⟩ := string_cell g1 (hwt 1 _ e1)
  refine ⟨x, y, ?_, hb0, hb1⟩
  congr 1
  apply Array.toList_inj.1
  have hl2 : cs.toList.length = 2 := by simpa using hsz
  have hx0' : (cs.toList.drop (0 * 1)).take 1 = [.string x] := by simpa [Value.cells] using hx0
  have hx1' : (cs.toList.drop (1 * 1)).take 1 = [.string y] := by simpa [Value.cells] using hx1
  match hcs : cs.toList, hl2 with
  | [u, v], _ =>
    rw [hcs] at hx0' hx1'
    simp at hx0' hx1'
    rw [hx0', hx1']
end Dk
end Go.Proofs.Yteikfdijcepimaa
