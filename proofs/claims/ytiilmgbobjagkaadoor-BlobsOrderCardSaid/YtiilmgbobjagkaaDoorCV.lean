/-
  Layer 6 (blobs): what the rows' arguments read as.
-/
import Derived.Test.YtiilmgbobjagkaaDoorSV
import Derived.Test.YtiilmgbobjagkaaDoorCN
import Derived.Deep.Slices
namespace Go.Proofs.YtiilmgbobjagkaaDoor
namespace Bl
open Go.ChangeShapes Go.WideShapes Go.ChangeAt Go.RowKit Go.Deep Kr

theorem cells_act : Tryd.prog.cellsOf 31 = 35 := by kernel_rfl
theorem cells_dig : Tryd.prog.cellsOf 29 = 32 := by kernel_rfl
theorem cells_u8 : Tryd.prog.cellsOf 5 = 1 := by kernel_rfl
theorem cells_bool : Tryd.prog.cellsOf 4 = 1 := by kernel_rfl
theorem cells_str : Tryd.prog.cellsOf 9 = 1 := by kernel_rfl

section
variable {H : Type} {enc : TypeId × Value → H} {W : World} {fuel : Nat} {cs : List Value} {x : DataW H × List MemPlace}
theorem byte_cell (h : DataW.trod enc Tryd.prog W 0 (fun _ => true) true fuel 5 cs = some x) : ∃ c : UInt8, cs = [.int .u8 (c.toNat : Int)] := by
  obtain ⟨z, hz, _, hwf⟩ := DataW.trod_int Tryd.underlying5 h
  have hb := Sh.wf_u8 hwf
  refine ⟨UInt8.ofNat z.toNat, ?_⟩
  rw [hz, UInt8.toNat_ofNat']
  congr 2
  omega
theorem dig_cells (h : DataW.trod enc Tryd.prog W 0 (fun _ => true) true fuel 29 cs = some x) : ∃ d : Bs, cs = Sh.bvals d ∧ d.length = 32 := by
  obtain ⟨ys, m, _, _, hl, hxl, hat⟩ := DataW.trod_array Tryd.underlying29 h
  rw [cells_dig] at hl
  refine ⟨cs.map fun v => (match v with | .int _ z => UInt8.ofNat z.toNat | _ => 0), ?_, by simp [hl]⟩
  apply List.ext_getElem?
  intro i
  by_cases hi : i < 32
  · have h1 := hat i hi
    rw [cells_u8, List.getElem?_eq_getElem (by omega)] at h1
    obtain ⟨c, hc⟩ := byte_cell h1
    have h2 : cs[i]? = some (.int .u8 (c.toNat : Int)) := by
      have := congrArg (·[0]?) hc
      simpa [List.getElem?_take, List.getElem?_drop] using this
    simp only [Sh.bvals, List.getElem?_map, h2, Option.map_some]
    congr 2
    simp
  · rw [List.getElem?_eq_none (by omega), List.getElem?_eq_none (by simp [Sh.bvals]; omega)]
theorem act_cells (h : DataW.trod enc Tryd.prog W 0 (fun _ => true) true fuel 31 cs = some x) : ∃ a : Ac, cs = encA a ∧ a.data.size ≤ 9223372036854775807 := by
  obtain ⟨ys, m, _, _, hl, hyl, hf⟩ := DataW.trod_struct Tryd.underlying31 h
  rw [cells_act] at hl
  have hy : ∀ i, i < 4 → ∃ y, ys[i]? = some y := fun i hi => ⟨_, List.getElem?_eq_getElem (by rw [hyl]; exact hi)⟩
  obtain ⟨y0, e0⟩ := hy 0 (by decide)
  obtain ⟨y1, e1⟩ := hy 1 (by decide)
  obtain ⟨y2, e2⟩ := hy 2 (by decide)
  obtain ⟨y3, e3⟩ := hy 3 (by decide)
  have gen : ∀ {f : Field} {t : TypeId} {o k : Nat} {q : Option (DataW H × List MemPlace)}, f.type = t → f.offset = o → Tryd.prog.cellsOf t = k →
      DataW.trod enc Tryd.prog W 0 (fun _ => true) true m f.type ((cs.drop f.offset).take (Tryd.prog.cellsOf f.type)) = q → DataW.trod enc Tryd.prog W 0 (fun _ => true) true m t ((cs.drop o).take k) = q := by
    rintro f t o k q rfl rfl rfl h
    exact h
  have g0 := gen (t := 5) (o := 0) rfl rfl cells_u8 (hf 0 _ rfl)
  have g1 := gen (t := 9) (o := 1) rfl rfl cells_str (hf 1 _ rfl)
  have g2 := gen (t := 4) (o := 2) rfl rfl cells_bool (hf 2 _ rfl)
  have g3 := gen (t := 29) (o := 3) rfl rfl cells_dig (hf 3 _ rfl)
  rw [e0] at g0
  rw [e1] at g1
  rw [e2] at g2
  rw [e3] at g3
  obtain ⟨c, hc⟩ := byte_cell g0
  obtain ⟨s, hs, _, hsz⟩ := DataW.trod_string Tryd.underlying9 g1
  obtain ⟨b, hb, _⟩ := DataW.trod_bool Tryd.underlying4 g2
  obtain ⟨d, hd, hd32⟩ := dig_cells g3
  refine ⟨⟨c, s, b, d⟩, ?_, by unfold maxLen at hsz; show s.size ≤ _; omega⟩
  have e : cs = (cs.drop 0).take 1 ++ ((cs.drop 1).take 1 ++ ((cs.drop 2).take 1 ++ (cs.drop 3).take 32)) := by
    have k3 : (cs.drop 3).take 32 = cs.drop 3 := List.take_of_length_le (by rw [List.length_drop]; omega)
    have k2 : (cs.drop 2).take 1 ++ cs.drop 3 = cs.drop 2 := by
      have := List.take_append_drop 1 (cs.drop 2)
      rwa [List.drop_drop] at this
    have k1 : (cs.drop 1).take 1 ++ cs.drop 2 = cs.drop 1 := by
      have := List.take_append_drop 1 (cs.drop 1)
      rwa [List.drop_drop] at this
    have k0 : (cs.drop 0).take 1 ++ cs.drop 1 = cs := by
      rw [List.drop_zero]
      exact List.take_append_drop 1 cs
    rw [k3, k2, k1, k0]
  rw [e, hc, hs, hb, hd]
  unfold encA
  simp [fix32_id hd32]
end

instance : Inhabited Ac := ⟨zeroAc⟩

/-- A slice of acts among the arguments: what a walk asks of it. -/
theorem open_acts {H : Type} {enc : TypeId × Value → H} {W : World} {base : Nat} {v : Value} {d : DataW H} {ps : List MemPlace}
    (hok : Value.okWide Tryd.prog W .any base 22 v) (h : DataW.Trod enc Tryd.prog W 0 (fun _ => true) true 22 v d ps) :
    ∃ (A : Option Addr) (cap n : Nat) (t : List Ac), v = .slice A n cap ∧ t.length = n ∧ ARow W W.heap.size A t ∧ n ≤ 9223372036854775807 ∧ ∀ a ∈ t, a.data.size ≤ 9223372036854775807 := by
  obtain ⟨a0, len, cap, rfl⟩ := okWide_slice Tryd.underlying22 hok
  obtain ⟨fuel, hf⟩ := h
  rcases open_slice Tryd.underlying22 hf with ⟨hcs, hx⟩ | ⟨a, len', cap', m, k, D, Pl, hcs, _, hl, hm, hmm, _, hall⟩
  · have e : Value.slice a0 len cap = .slice none 0 0 := by simpa [Value.cells] using hcs
    injection e with e1 e2 e3
    subst e1 e2 e3
    exact ⟨none, 0, 0, [], rfl, rfl, (fun j x hj => by simp at hj), by omega, fun a ha => by simp at ha⟩
  · have e : Value.slice a0 len cap = .slice (some a) len' cap' := by simpa [Value.cells] using hcs
    injection e with e1 e2 e3
    subst e1 e2 e3
    have hml : len ≤ m := by rw [hmm]; split <;> omega
    have each : ∀ i, i < len → ∃ x : Ac, (∀ j v, (encA x)[j]? = some v → W.cell? ((a.add (i * 35)).add j) = some v) ∧ x.data.size ≤ 9223372036854775807 := fun i hi => by
      obtain ⟨cs', h1, h2⟩ := hall i (by omega)
      rw [cells_act] at h1
      obtain ⟨_, hlen, hcell⟩ := World.cells?_some h1
      obtain ⟨x, rfl, hx⟩ := act_cells h2
      refine ⟨x, fun j v hv => ?_, hx⟩
      have hj : j < 35 := by rw [← hlen]; exact (List.getElem?_eq_some_iff.1 hv).1
      rw [hcell j hj]; exact hv
    obtain ⟨f, hfx⟩ := choose_lt each
    refine ⟨some a, cap, len, (List.range len).map f, rfl, by simp, ?_, by unfold maxLen at hm; omega, fun x hx => ?_⟩
    · intro j x hj
      rw [List.getElem?_map, Option.map_eq_some_iff] at hj
      obtain ⟨i, hi, rfl⟩ := hj
      obtain ⟨hji, hi2⟩ := List.getElem?_eq_some_iff.1 hi
      rw [List.getElem_range] at hi2
      subst hi2
      rw [List.length_range] at hji
      have h01 := (hfx 0 (by omega)).1 0 _ (act_kind (f 0))
      have hj1 := (hfx j hji).1
      have hblk := World.block_lt_of_cell? _ _ h01
      obtain ⟨b, off, spot⟩ := a
      have hspot : spot = none := by simpa [Addr.add] using World.cell?_spot h01
      subst hspot
      rw [Addr.add_lit, Addr.add_lit] at hblk
      refine ⟨b, off, rfl, hblk, fun q v hv => ?_⟩
      have h3 := hj1 q v hv
      rw [Addr.add_lit, Addr.add_lit] at h3
      exact h3
    · obtain ⟨i, hi, rfl⟩ := List.mem_map.1 hx
      exact (hfx i (List.mem_range.1 hi)).2

/-- A slice of bytes among the arguments. -/
theorem open_bytes {H : Type} {enc : TypeId × Value → H} {W : World} {base : Nat} {v : Value} {d : DataW H} {ps : List MemPlace}
    (hok : Value.okWide Tryd.prog W .any base 47 v) (h : DataW.Trod enc Tryd.prog W 0 (fun _ => true) true 47 v d ps) :
    ∃ (A : Option Addr) (cap n : Nat) (t : List UInt8), v = .slice A n cap ∧ t.length = n ∧ URow W W.heap.size A t ∧ n ≤ 9223372036854775807 := by
  obtain ⟨a0, len, cap, rfl⟩ := okWide_slice Tryd.underlying47 hok
  obtain ⟨fuel, hf⟩ := h
  rcases open_slice1 Tryd.underlying47 cells_u8 hf with ⟨hcs, hx⟩ | ⟨a, len', cap', m, k, V, D, Pl, hcs, _, hl, hm, hmm, _, hall⟩
  · have e : Value.slice a0 len cap = .slice none 0 0 := by simpa [Value.cells] using hcs
    injection e with e1 e2 e3
    subst e1 e2 e3
    exact ⟨none, 0, 0, [], rfl, rfl, (fun j x hj => by simp at hj), by omega⟩
  · have e : Value.slice a0 len cap = .slice (some a) len' cap' := by simpa [Value.cells] using hcs
    injection e with e1 e2 e3
    subst e1 e2 e3
    have hml : len ≤ m := by rw [hmm]; split <;> omega
    have each : ∀ i, i < len → ∃ c : UInt8, W.cell? (a.add i) = some (.int .u8 (c.toNat : Int)) := fun i hi => by
      obtain ⟨h1, h2⟩ := hall i (by omega)
      obtain ⟨c, hc⟩ := byte_cell h2
      injection hc with hc
      exact ⟨c, by rw [h1, hc]⟩
    obtain ⟨f, hfx⟩ := choose_lt each
    refine ⟨some a, cap, len, (List.range len).map f, rfl, by simp, ?_, by unfold maxLen at hm; omega⟩
    intro j x hj
    rw [List.getElem?_map, Option.map_eq_some_iff] at hj
    obtain ⟨i, hi, rfl⟩ := hj
    obtain ⟨hji, hi2⟩ := List.getElem?_eq_some_iff.1 hi
    rw [List.getElem_range] at hi2
    subst hi2
    rw [List.length_range] at hji
    have h01 := hfx 0 (by omega)
    have hj1 := hfx j hji
    have hblk := World.block_lt_of_cell? _ _ h01
    obtain ⟨b, off, spot⟩ := a
    have hspot : spot = none := by simpa [Addr.add] using World.cell?_spot h01
    subst hspot
    rw [Addr.add_lit] at hblk hj1
    exact ⟨b, off, rfl, hblk, hj1⟩
end Bl
end Go.Proofs.YtiilmgbobjagkaaDoor
