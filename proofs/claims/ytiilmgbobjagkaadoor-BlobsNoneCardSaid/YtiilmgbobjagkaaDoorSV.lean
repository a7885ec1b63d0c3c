/-
  Layer 2 (sha): what the rows' arguments read as; and what the listed table gives.
-/
import Derived.Test.YtiilmgbobjagkaaDoorRows
import Derived.Test.YtiilmgbobjagkaaDoorSI
import Derived.WalkKit
import Derived.ProofKit
import Derived.OpenShut
import Derived.SizedLaws
import Derived.SliceStrings
import Derived.Carry
import Derived.Deep.DeepHandedRow
import Derived.Lib.LaidTab
import Derived.MakeChecks
import Derived.Deep.Slices
namespace Go.Proofs.YtiilmgbobjagkaaDoor
namespace Sh
open Go.ChangeShapes Go.WideShapes Go.ChangeAt Go.RowKit

theorem own : ownKnob Tryd.prog.godebug = none := by kernel_rfl
theorem laidOut : laidOutB Tryd.prog = true := by kernel_rfl
theorem cells_str : Tryd.prog.cellsOf 9 = 1 := by kernel_rfl
theorem bytes_str : Tryd.prog.bytesOf 9 = 16 := by kernel_rfl

theorem weights_strs {H : Type} : ∀ (L : List ByteArray) (s : ByteArray), s ∈ L → s.data.toList.length ∈ DataW.weightsAll Tryd.prog 9 (strs (H := H) L)
  | [], _, h => by cases h
  | a :: L, s, h => by
    simp only [strs, List.map_cons, DataW.weightsAll, DataW.weights]
    rcases List.mem_cons.1 h with rfl | h
    · simp
    · exact List.mem_append_right _ (weights_strs L s h)

theorem open_row_core {H : Type} {enc : TypeId × Value → H} {W : World} {fuel : Nat} {v : Value} {y : DataW H × List MemPlace}
    (hf : DataW.trod enc Tryd.prog W 0 (fun _ => true) true fuel 46 [v] = some y) (hw : ∀ n ∈ y.1.weights Tryd.prog 46, n ≤ reachBytes) :
    ∃ (A : Option Addr) (cap : Nat) (xs : List Bs), v = .slice A xs.length cap ∧ SRow W W.heap.size A xs ∧ xs.length ≤ 140737488355328 ∧ (∀ x ∈ xs, x.length ≤ 140737488355328) ∧ (A = none → cap = 0) := by
  rcases open_strings Tryd.underlying46 Tryd.underlying9 cells_str hf with ⟨hcs, hx⟩ | ⟨a, len, cap, ss, hcs, _, hl, hm, hz, hx, hcell, hws⟩
  · obtain rfl : v = .slice none 0 0 := by simpa using hcs
    exact ⟨none, 0, [], rfl, SRow.none_ _ _ _, by simp, by simp, fun _ => rfl⟩
  · obtain rfl : v = .slice (some a) len cap := by simpa using hcs
    subst hx
    simp only [if_true] at hz
    have hr : reachBytes = 140737488351232 := rfl
    have hxl : ((ss.take len).map (·.data.toList)).length = len := by rw [List.length_map, List.length_take]; omega
    refine ⟨some a, cap, (ss.take len).map (·.data.toList), by rw [hxl], ?_, ?_, ?_, fun h => by cases h⟩
    · intro j x hj
      have hjl : j < len := by have := (List.getElem?_eq_some_iff.1 hj).1; rw [hxl] at this; exact this
      have hc0 := hcell 0 (by omega)
      have hcj := hcell j (by omega)
      have hblk := World.block_lt_of_cell? _ _ hc0
      obtain ⟨b, off, spot⟩ := a
      have hspot : spot = none := by simpa [Addr.add] using World.cell?_spot hc0
      subst hspot
      refine ⟨b, off, ss.getD j ByteArray.empty, rfl, ?_, ?_, ?_⟩
      · rw [block_add] at hblk
        exact hblk
      · rw [List.getElem?_map, List.getElem?_take_of_lt hjl, Option.map_eq_some_iff] at hj
        obtain ⟨s, hs, rfl⟩ := hj
        rw [List.getD_eq_getElem?_getD, hs]; rfl
      · rw [show (⟨b, off, none⟩ : Addr).add j = ⟨b, off + j, none⟩ from by unfold Addr.add; split <;> simp_all] at hcj
        exact hcj
    · rw [hxl]
      have := hw _ (by simp only [DataW.weights, Tryd.underlying46]; exact List.mem_cons_self)
      rw [bytes_str] at this
      simp only [strs, List.length_map, List.length_take, List.length_drop] at this
      omega
    · intro x hxm
      obtain ⟨s, hs, rfl⟩ := List.mem_map.1 hxm
      have := hw s.data.toList.length (by
        simp only [DataW.weights, Tryd.underlying46]
        exact List.mem_cons_of_mem _ (List.mem_append_left _ (weights_strs _ s hs)))
      omega

/-- A slice of strings among the arguments: what a walk asks of it. -/
theorem open_row {H : Type} {enc : TypeId × Value → H} {W : World} {base : Nat} {v : Value} {d : DataW H} {ps : List MemPlace}
    (hok : Value.okWide Tryd.prog W .any base 46 v) (h : DataW.Trod enc Tryd.prog W 0 (fun _ => true) true 46 v d ps)
    (hw : ∀ n ∈ d.weights Tryd.prog 46, n ≤ reachBytes) :
    ∃ (A : Option Addr) (cap : Nat) (xs : List Bs), v = .slice A xs.length cap ∧ SRow W W.heap.size A xs ∧ xs.length ≤ 140737488355328 ∧ (∀ x ∈ xs, x.length ≤ 140737488355328) ∧ (A = none → cap = 0) := by
  obtain ⟨a0, len, cap, rfl⟩ := okWide_slice Tryd.underlying46 hok
  obtain ⟨fuel, hf⟩ := h
  exact open_row_core (y := (d, ps)) (by simpa [Value.cells] using hf) hw

theorem weights_of {H : Type} {ts : List TypeId} {ds : List (DataW H)} (h : (DataW.weightsEach Tryd.prog ts ds).all (· ≤ reachBytes) = true) {j : Nat} {t : TypeId} {d : DataW H} (ht : ts[j]? = some t) (hd : ds[j]? = some d) :
    ∀ n ∈ d.weights Tryd.prog t, n ≤ reachBytes := fun n hn => by
  have := List.all_eq_true.1 h _ (DataW.weights_mem_each ht hd n hn)
  simpa using this

theorem wf_u8 {z : Int} (h : (Lit.int .u8 z).wf = true) : 0 ≤ z ∧ z ≤ 255 := by
  have h1 : IntKind.u8.min = 0 := rfl
  have h2 : IntKind.u8.max = 255 := rfl
  simp only [Lit.wf, Bool.and_eq_true, decide_eq_true_eq] at h
  omega
theorem wf_u16 {z : Int} (h : (Lit.int .u16 z).wf = true) : 0 ≤ z ∧ z ≤ 65535 := by
  have h1 : IntKind.u16.min = 0 := rfl
  have h2 : IntKind.u16.max = 65535 := rfl
  simp only [Lit.wf, Bool.and_eq_true, decide_eq_true_eq] at h
  omega
theorem wf_i64 {z : Int} (h : (Lit.int .i64 z).wf = true) : -9223372036854775808 ≤ z ∧ z ≤ 9223372036854775807 := by
  have h1 : IntKind.i64.min = -9223372036854775808 := rfl
  have h2 : IntKind.i64.max = 9223372036854775807 := rfl
  simp only [Lit.wf, Bool.and_eq_true, decide_eq_true_eq] at h
  omega


/-- A digest among the arguments. -/
theorem open_digest {H : Type} {enc : TypeId × Value → H} {W : World} {base : Nat} {v : Value} {d : DataW H} {ps : List MemPlace}
    (hok : Value.okWide Tryd.prog W .any base 29 v) (h : DataW.Trod enc Tryd.prog W 0 (fun _ => true) true 29 v d ps) :
    ∃ l : Bs, v = .agg (bvals l).toArray ∧ l.length = 32 := by
  unfold Value.okWide at hok
  rw [Tryd.underlying29] at hok
  obtain ⟨cs, rfl, hsz, _⟩ := hok
  have hc32 : Tryd.prog.cellsOf 29 = 32 := by kernel_rfl
  have hc1 : Tryd.prog.cellsOf 5 = 1 := by kernel_rfl
  rw [hc32] at hsz
  obtain ⟨fuel, hf⟩ := h
  obtain ⟨xs, m, rfl, hx, hl, hxl, hat⟩ := DataW.trod_array Tryd.underlying29 hf
  refine ⟨cs.toList.map fun v => match v with | .int _ z => UInt8.ofNat z.toNat | _ => 0, ?_, by simp [hsz]⟩
  congr 1
  apply Array.toList_inj.1
  rw [List.toList_toArray]
  apply List.ext_getElem?
  intro i
  by_cases hi : i < 32
  · have h1 := hat i hi
    rw [hc1, List.getElem?_eq_getElem (by omega)] at h1
    obtain ⟨z, hz, _, hwf⟩ := DataW.trod_int Tryd.underlying5 h1
    have h2 : cs.toList[i]? = some (.int .u8 z) := by
      have := congrArg (·[0]?) hz
      simpa [List.getElem?_take, List.getElem?_drop, Value.cells] using this
    have hb := wf_u8 hwf
    simp only [bvals, List.getElem?_map, h2, Option.map_some]
    congr 2
    rw [UInt8.toNat_ofNat']
    omega
  · rw [List.getElem?_eq_none (by simp; omega), List.getElem?_eq_none (by simp [bvals]; omega)]

theorem gTab : Tryd.prog.globalNamed "bloomery/sha.roundKeys" = some 0 := by kernel_rfl
theorem gTabType : (Tryd.prog.globals[0]?).map (·.type) = some 76 := by kernel_rfl
/-- What the rows' list gives. -/
theorem tab_of {W : World} (h : laidMetH Tryd.prog [("bloomery/sha.roundKeys", Rows.laid_bloomery_sha_roundKeys)] W)
    (hp : ([("bloomery/sha.roundKeys", (Rows.laid_bloomery_sha_roundKeys : DataW Unit))].all fun x => x.2.handleName?.isNone) = true) : Tab W ∧ 0 < W.heap.size := by
  rw [MakeChecks.laidMetH_plain _ _ _ hp] at h
  have e : (Rows.laid_bloomery_sha_roundKeys : DataW Unit) = Lib.tabData .u32 (K.map fun x => (x.toNat : Int)) := by kernel_rfl
  rw [e] at h
  have ht := Lib.tabIs_of_head gTab gTabType Tryd.underlying76 Tryd.underlying66 (by kernel_rfl) (by kernel_rfl) h
  have hT : Tab W := fun k hk => by
    have hc := ht.cell gTab k (by rw [List.length_map, K_length]; exact hk)
    rw [hc]
    congr 2
    rw [List.getD_eq_getElem?_getD, List.getElem?_map, List.getElem?_eq_getElem (by rw [K_length]; exact hk), List.getD_eq_getElem?_getD, List.getElem?_eq_getElem (by rw [K_length]; exact hk)]
    rfl
  exact ⟨hT, World.block_lt_of_cell? _ _ (hT 0 (by decide))⟩
end Sh
end Go.Proofs.YtiilmgbobjagkaaDoor
