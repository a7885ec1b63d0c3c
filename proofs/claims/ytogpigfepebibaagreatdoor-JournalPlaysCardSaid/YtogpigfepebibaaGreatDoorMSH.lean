/-
  Layer 2 (sha): the walks of New and of a hash's Sum. Layer 2 (sha): slices of strings in memory; the walk of Sum, and of a nil hash's. Layer 2 (sha): the document's answer: constants; a text, and what stands behind it.
-/
import Derived.Test.YtogpigfepebibaaGreatDoorMSF
import Derived.Test.YtogpigfepebibaaGreatDoorMSMathD
import Derived.Great.BuildSlice
import Derived.DataElems
import Derived.ChangeSlices
namespace Go.Proofs.YtogpigfepebibaaGreatDoor
namespace Sh
open Go.RowKit

set_option maxRecDepth 100000 in
theorem new_any (w : World) :
    Calls Tryz.prog 71 #[] w fun e w' => e = .returned (.pointer (some ⟨w.heap.size, 0, none⟩)) ∧ HashAt w' w.heap.size [] ∧ Below w.heap.size w w' ∧ w.heap.size < w'.heap.size := by
  go_enter Tryz.func71, Tryz.ntmps71
  go_wp2_with (first
    | (refine wpList_buildTo rfl 128 _ rfl (some 1) rfl (vals init.list).toArray (by kernel_rfl) ?_)
    | (refine wpList_buildTo rfl 132 _ rfl (some 2) rfl (HC init.list 0 (List.replicate 64 0)).toArray (by kernel_rfl) ?_))
  go_ret
  refine ⟨rfl, ⟨List.replicate 64 0, has_nil _ (by simp), ?_⟩, (Below.refl _ _).alloc (Nat.le_refl _) _, by simp⟩
  exact Row.new_at w _ _ _ rfl rfl

set_option maxRecDepth 100000 in
set_option maxHeartbeats 2000000 in
theorem hsum_any (b : Nat) (L : Bs) (w : World) (hh : HashAt w b L) (htab : Tab w) (hb0 : 0 < w.heap.size) (hl : L.length ≤ 100000) :
    Calls Tryz.prog 73 #[.pointer (some ⟨b, 0, none⟩)] w fun e w' => e = .returned (.agg (bvals (dig L)).toArray) ∧ Below w.heap.size w w' := by
  obtain ⟨r, hhas, hrow⟩ := hh
  have HHAS := Lib.hid hhas
  have HR := Lib.hid hrow
  have HT := Lib.hid htab
  have hbl := hrow.lt
  have hc8 := hrow.cell 8
  rw [HC_size _ _ _ rfl] at hc8
  generalize hM : L.length = M at hc8 hl
  have HM := Lib.hid hM
  clear hhas hrow htab hM
  go_enter Tryz.func73, Tryz.ntmps73
  have hz50 : ∀ W, (zeroValue 132).run Tryz.prog W = .ok (.agg (HC (List.replicate 8 0) 0 (List.replicate 64 0)).toArray) W := fun W => by kernel_rfl
  go_wp2_with (first
    | (refine wpList_load_all rfl 132 (.tmp 10) rfl b rfl 132 (HC (st L).list L.length r) _ ((HR.out.alloc _)) Tryz.underlying132 rfl ?l1 ?_)
    | (refine wpList_store_all rfl 132 (.tmp 3) (.tmp 11) rfl (w.heap.size + 1) (HC (st L).list L.length r) rfl rfl 132 (HC (List.replicate 8 0) 0 (List.replicate 64 0)) (Row.new_at _ _ _ _ (by simp) rfl) ?s1 ?s2 ?s3 ?_))
  case l1 => rw [HC_length _ _ _ rfl HHAS.out.1]; kernel_rfl
  case s1 => rw [HC_length _ _ _ rfl HHAS.out.1]; kernel_rfl
  case s2 => rw [HC_length _ _ _ rfl HHAS.out.1, HC_length _ _ _ rfl (by simp)]
  case s3 => exact HC_one _ _ _
  intro w3 HR3 HT3
  have hb3 : Below w.heap.size w w3 := below_turn (((Below.refl _ _).alloc (Nat.le_refl _) _).alloc (by simp) _) HT3.out (by omega)
  have hres3 : Row w3 w.heap.size 109 (bvals (List.replicate 32 0)) := ((Row.new_at w _ _ _ rfl rfl).alloc _).turn HT3.out (by omega)
  have hs3 := hb3.size
  have hs3' : w.heap.size + 1 < w3.heap.size := HR3.out.lt
  have hc8' : w3.cell? ⟨b, 8, none⟩ = some (.int .u64 (M : Int)) := (hb3.cell (p := ⟨b, 8, none⟩) hbl).trans hc8
  have HB3 := Lib.hid hb3
  have HRS3 := Lib.hid hres3
  clear hb3 hres3 HT3 hz50
  go_wp2_with fail
  refine (ending_any M w3 (by omega)).mono ?_
  rintro e w4 ⟨rfl, hb4⟩
  have hs4 := hb4.size
  have hh4 : HashAt w4 (w.heap.size + 1) L := ⟨r, HHAS.out, HR3.out.below hb4 hs3'⟩
  have hb4' : Below w.heap.size w w4 := HB3.out.trans (hb4.mono hs3)
  have hres4 := HRS3.out.below hb4 (by omega)
  have htab4 := HT.out.below hb4' hb0
  have hadd := add_any (w.heap.size + 1) L ⟨(tail M).toArray⟩ w4 (w.heap.size + 1) hh4 htab4 (Nat.le_refl _) (by omega) (by
    rw [HM.out, show (⟨(tail M).toArray⟩ : ByteArray).size = (tail M).length from rfl, tail_length]; unfold padZ; omega)
  rw [show L ++ (⟨(tail M).toArray⟩ : ByteArray).data.toList = L ++ tail L.length by rw [HM.out]] at hadd
  have HADD := Lib.hid hadd
  have HB4 := Lib.hid hb4'
  have HRS4 := Lib.hid hres4
  clear hb4 hh4 hb4' hres4 htab4 hadd hc8 hc8' HB3 HRS3 HR3
  go_wp2_with fail
  refine HADD.out.mono ?_
  rintro e w5 ⟨rfl, ⟨r', _, hrow5⟩, hb5⟩
  have hs5 := hb5.size
  have hb5' : Below w.heap.size w w5 := HB4.out.trans (hb5.mono (by omega))
  have hres5 := HRS4.out.below hb5 (by omega)
  obtain ⟨N, hN⟩ : ∃ N, N = (L ++ tail L.length).length := ⟨_, rfl⟩
  rw [← hN] at hrow5
  obtain ⟨s, hs⟩ : ∃ s, s = st (L ++ tail L.length) := ⟨_, rfl⟩
  rw [← hs] at hrow5
  have HS := Lib.hid hs
  have HR5 := Lib.hid hrow5
  have HB5 := Lib.hid hb5'
  have HRS5 := Lib.hid hres5
  clear hb5 hrow5 hb5' hres5 hN hs HADD HB4 HRS4
  go_wp2
  go_loopw [18] (fun i wr => ∃ k : Nat, k ≤ 32 ∧ i = .int .i64 k ∧ Hid (Row wr w5.heap.size 109 (bvals (part (dByte s) 0 32 k))) ∧ Hid (Row wr (w.heap.size + 1) 132 (HC s.list N r')) ∧ Hid (Row wr w.heap.size 109 (bvals (List.replicate 32 0))) ∧ Hid (Below w.heap.size w wr)) (fun i _ => 32 - (intOf i).toNat)
  case atStart =>
    refine ⟨0, by omega, rfl, ?_, HR5.out.alloc _, HRS5.out.alloc _, HB5.out.alloc HB5.out.size _⟩
    rw [part_zero]
    exact Row.new_at w5 _ _ _ rfl rfl
  case round =>
    obtain ⟨k, hk, rfl, HD, HH, HRS, HB⟩ := hrel
    by_cases hlt : k < 32
    · have hki : (k : Int) < 32 := by omega
      have hcw := HH.out.cell (k / 4)
      rw [HC_word _ _ _ rfl _ (by omega)] at hcw
      have hcd := HD.out.cell k
      rw [bvals_get _ _ (by rw [part_length]; exact hlt)] at hcd
      have hfd := HD.out.frozen k
      have hps := part_succ (dByte s) 0 32 k hlt
      have hdb : dByte s k = UInt8.ofNat ((s.list.getD (k / 4) 0).toNat / 2 ^ (24 - k % 4 * 8)) := rfl
      generalize s.list.getD (k / 4) 0 = x at hcw hdb
      generalize (part (dByte s) 0 32 k).getD k 0 = y at hcd
      have HPS := Lib.hid hps
      have HDB := Lib.hid hdb
      clear hps hdb
      go_wp2
      go_roundw
      case rel =>
        refine ⟨k + 1, by omega, by go_num, ?_, ?_, ?_, ?_⟩
        · rw [dbyte_val, ← HDB.out, HPS.out, ← bvals_set]
          exact HD.out.set _ _
        · exact HH.out.far (by simp; omega) _
        · exact HRS.out.far (by simp; omega) _
        · exact HB.out.setCell (by simp; omega) _
      case measure => simp [intOf]; omega
    · have hk32 : k = 32 := by omega
      have hfin : Row wr w5.heap.size 109 (bvals (dig L)) := by
        have h := HD.out
        rw [hk32, part_all] at h
        unfold dig digest
        rw [← HS.out]
        exact h
      have HF := Lib.hid hfin
      clear hfin hk32 HD
      go_wp2_with (first
        | (refine wpList_load_all rfl 109 (.tmp 4) rfl w5.heap.size rfl 109 (bvals (dig L)) _ HF.out Tryz.underlying109 rfl ?l1 ?_)
        | (refine wpList_store_all rfl 109 (.tmp 2) (.tmp 35) rfl w.heap.size (bvals (dig L)) rfl rfl 109 (bvals (List.replicate 32 0)) HRS.out ?s1 ?s2 (bvals_one _) ?_))
      case l1 => rw [bvals_length, dig_length]; kernel_rfl
      case s1 => rw [bvals_length, dig_length]; kernel_rfl
      case s2 => rw [bvals_length, bvals_length, dig_length, List.length_replicate]
      intro w7 HR7 HT7
      go_wp2
      refine bodyPost_ret (results_cell_row rfl _ _ w.heap.size 109 (bvals (dig L)).toArray (0, 0) _ rfl HR7.out Tryz.underlying109 rfl ?r1) rfl ⟨rfl, below_turn HB.out HT7.out (Nat.le_refl _)⟩
      case r1 => rw [List.size_toArray, bvals_length, dig_length]; kernel_rfl
end Sh
end Go.Proofs.YtogpigfepebibaaGreatDoor

namespace Go.Proofs.YtogpigfepebibaaGreatDoor
namespace Sh
open Go.RowKit Go.ChangeShapes

theorem data_length (s : ByteArray) : s.data.toList.length = s.size := by simp
/-- A slice's address under which strings stand, below block B: the rows of bytes xs. -/
def SRow (w : World) (B : Nat) (A : Option Addr) (xs : List Bs) : Prop :=
  ∀ j x, xs[j]? = some x → ∃ b o s, A = some ⟨b, o, none⟩ ∧ b < B ∧ s.data.toList = x ∧ w.cell? ⟨b, o + j, none⟩ = some (.string s)
theorem SRow.none_ (w : World) (B : Nat) (A : Option Addr) : SRow w B A [] := fun j x h => by simp at h
theorem SRow.keep {w w' : World} {B : Nat} {A : Option Addr} {xs : List Bs} (h : SRow w B A xs) (hk : ∀ p : Addr, p.block < B → w'.cell? p = w.cell? p) : SRow w' B A xs := fun j x hx => by
  obtain ⟨b, o, s, h1, h2, h3, h4⟩ := h j x hx
  exact ⟨b, o, s, h1, h2, h3, (hk _ h2).trans h4⟩
theorem SRow.below {w w' : World} {B B' : Nat} {A : Option Addr} {xs : List Bs} (h : SRow w B A xs) (hb : Below B' w w') (hB : B ≤ B') : SRow w' B A xs := h.keep fun _ hp => (hb.mono hB).cell hp
theorem SRow.more {w : World} {B B' : Nat} {A : Option Addr} {xs : List Bs} (h : SRow w B A xs) (hB : B ≤ B') : SRow w B' A xs := fun j x hx => by
  obtain ⟨b, o, s, h1, h2, h3, h4⟩ := h j x hx
  exact ⟨b, o, s, h1, by omega, h3, h4⟩
theorem take_snoc {α : Type} (xs : List α) (k : Nat) (x : α) (h : xs[k]? = some x) : xs.take (k + 1) = xs.take k ++ [x] := by
  obtain ⟨hk, rfl⟩ := List.getElem?_eq_some_iff.1 h
  rw [List.take_succ_eq_append_getElem hk]
theorem flat_snoc (xs : List Bs) (k : Nat) (x : Bs) (h : xs[k]? = some x) : (xs.take (k + 1)).flatten = (xs.take k).flatten ++ x := by
  rw [take_snoc xs k x h]; simp
theorem flat_take (xs : List Bs) (k : Nat) : (xs.take k).flatten.length ≤ xs.flatten.length := by
  have h : xs.flatten = (xs.take k).flatten ++ (xs.drop k).flatten := by rw [← List.flatten_append, List.take_append_drop]
  rw [h, List.length_append]; omega
theorem flat_all (xs : List Bs) (k : Nat) (h : xs.length ≤ k) : (xs.take k).flatten = xs.flatten := by rw [List.take_of_length_le h]

set_option maxRecDepth 100000 in
set_option maxHeartbeats 2000000 in
theorem sum_any (A : Option Addr) (cap : Nat) (xs : List Bs) (w : World) (hx : SRow w w.heap.size A xs) (hn : xs.length ≤ 100000) (hl : xs.flatten.length ≤ 100000) (htab : Tab w) (hb0 : 0 < w.heap.size) :
    Calls Tryz.prog 62 #[.slice A xs.length cap] w fun e w' => e = .returned (.agg (bvals (dig xs.flatten)).toArray) ∧ Below w.heap.size w w' := by
  have HX := Lib.hid hx
  have HT := Lib.hid htab
  have HFL := Lib.hid hl
  generalize hln : xs.length = n at *
  have HN := Lib.hid hln
  clear hx htab hln hl
  go_enter Tryz.func62, Tryz.ntmps62
  go_wp2_with fail
  refine (new_any _).mono ?_
  rintro e w1 ⟨rfl, hh1, hb1, hs1⟩
  simp only [World.size_alloc] at hh1 hb1 hs1
  have hres1 : Row w1 w.heap.size 109 (bvals (List.replicate 32 0)) := (Row.new_at w _ _ _ rfl rfl).below hb1 (by omega)
  have hb1' : Below w.heap.size w w1 := ((Below.refl _ _).alloc (Nat.le_refl _) _).trans (hb1.mono (by omega))
  have HH1 := Lib.hid hh1
  have HR1 := Lib.hid hres1
  have HB1 := Lib.hid hb1'
  clear hh1 hb1 hres1 hb1'
  go_wp2
  go_loopw [9] (fun i wr => ∃ k : Nat, k ≤ n ∧ i = .int .i64 k ∧ Hid (HashAt wr (w.heap.size + 1) (xs.take k).flatten) ∧ Hid (Row wr w.heap.size 109 (bvals (List.replicate 32 0))) ∧ Hid (Below w.heap.size w wr)) (fun i _ => n - (intOf i).toNat)
  case atStart => exact ⟨0, Nat.zero_le _, rfl, HH1, HR1, HB1⟩
  case round =>
    obtain ⟨k, hk, rfl, HH, HR, HB⟩ := hrel
    by_cases hlt : k < n
    · have hki : (k : Int) < n := by omega
      have hxk : xs[k]? = some (xs[k]'(by rw [HN.out]; exact hlt)) := List.getElem?_eq_getElem _
      generalize xs[k]'(by rw [HN.out]; exact hlt) = x at hxk
      obtain ⟨b, o, s, rfl, hbl, hsx, hc0⟩ := HX.out k x hxk
      have hc : wr.cell? ⟨b, o + k, none⟩ = some (.string s) := (HB.out.cell (p := ⟨b, o + k, none⟩) hbl).trans hc0
      have hfs := flat_snoc xs k x hxk
      have hft := flat_take xs (k + 1)
      rw [hfs, List.length_append, ← hsx, data_length] at hft
      rw [← hsx] at hfs
      have hadd := add_any (w.heap.size + 1) (xs.take k).flatten s wr (w.heap.size + 1) HH.out (HT.out.below HB.out hb0) (Nat.le_refl _) (by omega) (by have := HFL.out; omega)
      rw [← hfs] at hadd
      have HADD := Lib.hid hadd
      clear hc0 hfs hft hadd hxk hsx
      go_wp2_with fail
      refine HADD.out.mono ?_
      rintro e w2 ⟨rfl, hh2, hb2⟩
      have hb2' : Below w.heap.size w w2 := HB.out.trans (hb2.mono (by omega))
      have hr2 := HR.out.below hb2 (by omega)
      have HH2 := Lib.hid hh2
      have HB2 := Lib.hid hb2'
      have HR2 := Lib.hid hr2
      clear hh2 hb2 hb2' hr2 HADD
      go_wp2
      go_roundw
      case rel => exact ⟨k + 1, by omega, by go_num, HH2, HR2, HB2⟩
      case measure => simp [intOf]; omega
    · have hh2 := HH.out
      rw [flat_all xs k (by have := HN.out; omega)] at hh2
      have hsz := HB.out.size
      have hsum := hsum_any (w.heap.size + 1) xs.flatten wr hh2 (HT.out.below HB.out hb0) (by omega) HFL.out
      have HSUM := Lib.hid hsum
      clear hh2 hsum
      go_wp2_with fail
      refine HSUM.out.mono ?_
      rintro e w2 ⟨rfl, hb2⟩
      have hb2' : Below w.heap.size w w2 := HB.out.trans (hb2.mono hsz)
      have hr2 := HR.out.below hb2 (by have := HR.out.lt; omega)
      have HB2 := Lib.hid hb2'
      have HR2 := Lib.hid hr2
      clear hb2 hb2' hr2 HSUM
      go_wp2_with (refine wpList_store_all rfl 109 (.tmp 2) (.tmp 18) rfl w.heap.size (bvals (dig xs.flatten)) rfl rfl 109 (bvals (List.replicate 32 0)) HR2.out ?s1 ?s2 (bvals_one _) ?_)
      case s1 => rw [bvals_length, dig_length]; kernel_rfl
      case s2 => rw [bvals_length, bvals_length, dig_length, List.length_replicate]
      intro w7 HR7 HT7
      go_wp2
      refine bodyPost_ret (results_cell_row rfl _ _ w.heap.size 109 (bvals (dig xs.flatten)).toArray (0, 0) _ rfl HR7.out Tryz.underlying109 rfl ?r1) rfl ⟨rfl, below_turn HB2.out HT7.out (Nat.le_refl _)⟩
      case r1 => rw [List.size_toArray, bvals_length, dig_length]; kernel_rfl

set_option maxRecDepth 100000 in
theorem nilsum_any (w : World) (htab : Tab w) (hb0 : 0 < w.heap.size) :
    Calls Tryz.prog 73 #[.pointer none] w fun e w' => e = .returned (.agg (bvals (dig [])).toArray) ∧ Below w.heap.size w w' := by
  have HT := Lib.hid htab
  clear htab
  go_enter Tryz.func73, Tryz.ntmps73
  go_wp2_with fail
  refine (sum_any none 0 [] _ (SRow.none_ _ _ _) (by simp) (by simp) (HT.out.below ((Below.refl _ _).alloc (Nat.le_refl _) _) hb0) (by simp)).mono ?_
  rintro e w1 ⟨rfl, hb1⟩
  simp only [World.size_alloc] at hb1
  have hres1 : Row w1 w.heap.size 109 (bvals (List.replicate 32 0)) := (Row.new_at w _ _ _ rfl rfl).below hb1 (by omega)
  have hb1' : Below w.heap.size w w1 := ((Below.refl _ _).alloc (Nat.le_refl _) _).trans (hb1.mono (by omega))
  have HR1 := Lib.hid hres1
  have HB1 := Lib.hid hb1'
  clear hb1 hres1 hb1'
  go_wp2_with (refine wpList_store_all rfl 109 (.tmp 2) (.tmp 8) rfl w.heap.size (bvals (dig [])) rfl rfl 109 (bvals (List.replicate 32 0)) HR1.out ?s1 ?s2 (bvals_one _) ?_)
  case s1 => rw [bvals_length, dig_length]; kernel_rfl
  case s2 => rw [bvals_length, bvals_length, dig_length, List.length_replicate]
  intro w7 HR7 HT7
  go_wp2
  refine bodyPost_ret (results_cell_row rfl _ _ w.heap.size 109 (bvals (dig [])).toArray (0, 0) _ rfl HR7.out Tryz.underlying109 rfl ?r1) rfl ⟨rfl, below_turn HB1.out HT7.out (Nat.le_refl _)⟩
  case r1 => rw [List.size_toArray, bvals_length, dig_length]; kernel_rfl

set_option maxRecDepth 100000 in
theorem niladd_any (s : ByteArray) (w : World) :
    Calls Tryz.prog 72 #[.pointer none, .string s] w fun e w' => e = .returned (.tuple #[]) ∧ w = w' := by
  go_enter Tryz.func72, Tryz.ntmps72
  go_wp2
  refine bodyPost_ret (results_none rfl _ _ _) rfl ?_
  exact ⟨rfl, rfl⟩
end Sh
end Go.Proofs.YtogpigfepebibaaGreatDoor

namespace Go.Proofs.YtogpigfepebibaaGreatDoor
namespace Sh
open Go.RowKit

theorem wordInfo : (Tryz.prog.info? 111).map (fun i => (i.zero, i.size, i.bytes)) = some (some (.int .u32 0), 1, 4) := by kernel_rfl

section
variable {ops : Array Oper} {rest : List Oper} {o : Oper} {a : Act} {w : World} {Q : Exit → Act → World → Prop}
/-- append of one byte. -/
theorem append_byte (hgd : o.guard = none) (s x : Operand) (ho : o.op = .call { callee := .builtin .append, args := #[s, x], argTypes := #[76, 76] })
    (B g cap n : Nat) (L : Bs) (hs : a.eval s = .slice (some ⟨g, 0, none⟩) n cap) (hn : L.length = n) (hown : Sl w B g cap (bvals L))
    (b : Nat) (z : Int) (c : UInt8) (hz : z = (c.toNat : Int)) (hx : a.eval x = .slice (some ⟨b, 0, none⟩) 1 1) (hc : w.cell? ⟨b, 0, none⟩ = some (.int .u8 z)) (hlen : n + 1 ≤ 1000000000)
    (h : ∀ g' cap' w', Hid (Sl w' B g' cap' (bvals (L ++ [c]))) → Hid (w.grownBy w' (some g)) → wpList Tryz.prog ops Q rest (a.put o.dst (.slice (some ⟨g', 0, none⟩) (n + 1) cap')) w') : wpList Tryz.prog ops Q (o :: rest) a w := by
  obtain ⟨i0, hi, hz0, hz1, hz2⟩ := info_parts byteInfo
  subst hz
  refine wpList_append_sl _ hgd s x 76 ho 5 i0 (.int .u8 0) 1 Tryz.underlying76 hi hz0 hz1 hz2 rfl (by decide) B g cap n (bvals L) hs (by rw [bvals_length]; exact hn) hown ⟨b, 0, none⟩ 1 1 [.int .u8 (c.toNat : Int)] hx rfl ?_ ?_ (by decide) hlen ?_
  · rintro (_ | j) u hj
    · simp only [List.getElem?_cons_zero, Option.some.injEq] at hj
      subst hj
      exact hc
    · simp at hj
  · intro u hu; obtain rfl := List.mem_singleton.1 hu; rfl
  · intro g' cap' w' h1 h2 _
    exact h g' cap' w' (by rw [bvals_append]; exact h1) h2
/-- append of one word. -/
theorem append_word (hgd : o.guard = none) (s x : Operand) (ho : o.op = .call { callee := .builtin .append, args := #[s, x], argTypes := #[122, 122] })
    (B g cap n : Nat) (L : List W) (hs : a.eval s = .slice (some ⟨g, 0, none⟩) n cap) (hn : L.length = n) (hown : Sl w B g cap (vals L))
    (b : Nat) (z : Int) (c : W) (hz : z = (c.toNat : Int)) (hx : a.eval x = .slice (some ⟨b, 0, none⟩) 1 1) (hc : w.cell? ⟨b, 0, none⟩ = some (.int .u32 z)) (hlen : n + 1 ≤ 1000000000)
    (h : ∀ g' cap' w', Hid (Sl w' B g' cap' (vals (L ++ [c]))) → Hid (w.grownBy w' (some g)) → Hid (g' = g ∨ w.heap.size ≤ g') → wpList Tryz.prog ops Q rest (a.put o.dst (.slice (some ⟨g', 0, none⟩) (n + 1) cap')) w') : wpList Tryz.prog ops Q (o :: rest) a w := by
  obtain ⟨i0, hi, hz0, hz1, hz2⟩ := info_parts wordInfo
  subst hz
  refine wpList_append_sl _ hgd s x 122 ho 111 i0 (.int .u32 0) 4 Tryz.underlying122 hi hz0 hz1 hz2 rfl (by decide) B g cap n (vals L) hs (by rw [vals_length]; exact hn) hown ⟨b, 0, none⟩ 1 1 [.int .u32 (c.toNat : Int)] hx rfl ?_ ?_ (by decide) hlen ?_
  · rintro (_ | j) u hj
    · simp only [List.getElem?_cons_zero, Option.some.injEq] at hj
      subst hj
      exact hc
    · simp at hj
  · intro u hu; obtain rfl := List.mem_singleton.1 hu; rfl
  · intro g' cap' w' h1 h2 h3
    exact h g' cap' w' (by rw [vals_append]; exact h1) h2 h3
end

set_option maxRecDepth 100000 in
theorem ks_any (w : World) :
    Calls Tryz.prog 81 #[] w fun e w' => e = .returned (.slice (some ⟨w.heap.size, 0, none⟩) 64 64) ∧ Sl w' w.heap.size w.heap.size 64 (vals K) ∧ Below w.heap.size w w' := by
  go_enter Tryz.func81, Tryz.ntmps81
  go_wp2_with (refine wpList_buildFlat rfl 122 111 64 _ rfl .u32 (K.map fun x => (x.toNat : Int)) Tryz.underlying122 (by kernel_rfl) (by kernel_rfl) (by kernel_rfl) (by decide) (by decide) (by kernel_rfl) ?_)
  go_ret
  exact ⟨rfl, Sl.of_cells w _ _ (vals K) 64 (Nat.le_refl _) (by simp [vals]) rfl (by decide), (Below.refl _ _).alloc (Nat.le_refl _) _⟩

def slLen : Value → Nat | .slice _ n _ => n | _ => 0
theorem zero_step (n z : Nat) (h : z ≤ padZ n) (h2 : (n + 1 + z) % 64 = 56) : z = padZ n := by
  unfold padZ at *; omega
theorem zero_more (n z : Nat) (h : z ≤ padZ n) (h2 : ¬ (n + 1 + z) % 64 = 56) : z + 1 ≤ padZ n := by
  unfold padZ at *; omega

set_option maxRecDepth 100000 in
set_option maxHeartbeats 2000000 in
theorem whole_any (s : ByteArray) (w : World) (hl : s.size ≤ 100000) :
    Calls Tryz.prog 74 #[.string s] w fun e w' => ∃ g cap, e = .returned (.slice (some ⟨g, 0, none⟩) (s.size + 9 + padZ s.size) cap) ∧ Sl w' w.heap.size g cap (bvals (s.data.toList ++ tail s.size)) ∧ Below w.heap.size w w' := by
  go_enter Tryz.func74, Tryz.ntmps74
  go_wp2_with (refine wpList_bytes_sl _ rfl (.tmp 6) 9 76 5 rfl Tryz.underlying9 Tryz.underlying76 Tryz.underlying5 w.heap.size s rfl (Nat.le_refl _) (by omega) ?_)
  intro cap1 w1 HS1 HB1
  have hdl := data_length s
  have HDL := Lib.hid hdl
  clear hdl
  go_wp2_with (at_builtin; refine append_byte rfl (.tmp 8) (.tmp 9) rfl w.heap.size w.heap.size cap1 s.size s.data.toList rfl HDL.out (HS1.out.alloc _) w1.heap.size 128 128 rfl rfl (by simp) (by omega) ?_)
  intro g2 cap2 w2 HS2 HG2
  have hb2 : Below w.heap.size w w2 := (HB1.out.alloc HB1.out.size _).grown HG2.out (by have := HB1.out.size; simp; omega) (fun k hk => by injection hk with hk; omega)
  have HB2 := Lib.hid hb2
  clear hb2 HG2
  obtain ⟨n, hn⟩ : ∃ n, n = s.size := ⟨_, rfl⟩
  have HN := Lib.hid hn
  have hls := hl
  rw [← hn] at hl ⊢
  have hpz : padZ n ≤ 63 := by unfold padZ; omega
  clear hn HS1 HB1
  go_wp2
  go_loopw [3] (fun v wr => ∃ z g cap : Nat, z ≤ padZ n ∧ v = .slice (some ⟨g, 0, none⟩) (n + 1 + z) cap ∧ Hid (Sl wr w.heap.size g cap (bvals (s.data.toList ++ [128] ++ List.replicate z 0))) ∧ Hid (Below w.heap.size w wr)) (fun v _ => n + 1 + padZ n - slLen v)
  case atStart => exact ⟨0, _, _, Nat.zero_le _, rfl, by simpa using HS2, HB2⟩
  case round =>
    obtain ⟨z, g, cap, hz, rfl, HS, HB⟩ := hrel
    by_cases h56 : (n + 1 + z) % 64 = 56
    · have hzz := zero_step n z hz h56
      subst hzz
      have hb : (((n : Int) + 1 + (padZ n : Nat)) % 64 != 56) = false := by rw [bne_eq_false_iff_eq]; omega
      have hs0 : Sl wr w.heap.size g cap (bvals ((s.data.toList ++ pad n) ++ lenB n 0)) := by
        have h := HS.out
        simpa [pad, lenB] using h
      have HS0 := Lib.hid hs0
      clear h56 hs0 hz HS
      go_wp2
      go_loopw [3, 5] (fun v i wr => ∃ k g cap : Nat, k ≤ 8 ∧ i = .int .i64 (7 - (k : Int)) ∧ v = .slice (some ⟨g, 0, none⟩) (n + 1 + padZ n + k) cap ∧ Hid (Sl wr w.heap.size g cap (bvals ((s.data.toList ++ pad n) ++ lenB n k))) ∧ Hid (Below w.heap.size w wr)) (fun _ i _ => (intOf i + 1).toNat)
      case atStart => exact ⟨0, _, _, by omega, rfl, rfl, HS0, HB⟩
      case round =>
        obtain ⟨k, g, cap, hk, rfl, rfl, HS, HB⟩ := hrel
        by_cases hlt : k < 8
        · have hki : (0 : Int) ≤ 7 - k := by omega
          have hki2 : (k : Int) ≤ 7 := by omega
          have hlen : ((s.data.toList ++ pad n) ++ lenB n k).length = n + 1 + padZ n + k := by
            rw [List.length_append, List.length_append, HDL.out, ← HN.out, pad_length, lenB_length]; omega
          have hlsc := lenB_succ n k
          have hbv := byte_val n (8 * (7 - k))
          rw [show 56 - k * 8 = 8 * (7 - k) by omega] at hlsc
          generalize UInt8.ofNat (n * 8 / 2 ^ (8 * (7 - k))) = c at hlsc hbv
          rw [HN.out] at hbv
          have HLN := Lib.hid hlen
          have HLS := Lib.hid hlsc
          have HBV := Lib.hid hbv
          clear hlen hlsc hbv
          go_wp2_with (at_builtin; refine append_byte rfl (.tmp 26) (.tmp 32) rfl w.heap.size g cap (n + 1 + padZ n + k) ((s.data.toList ++ pad n) ++ lenB n k) rfl HLN.out (HS.out.alloc _) wr.heap.size _ c HBV.out rfl (by simp) (by omega) ?_)
          intro g2 cap2 w2 HS2 HG2
          have hb2 : Below w.heap.size w w2 := (HB.out.alloc HB.out.size _).grown HG2.out (by have := HB.out.size; simp; omega) (fun k hk => by injection hk with hk; subst hk; exact HS.out.1)
          have hs2 : Sl w2 w.heap.size g2 cap2 (bvals ((s.data.toList ++ pad n) ++ lenB n (k + 1))) := by
            rw [HLS.out, ← List.append_assoc]
            simpa using HS2.out
          have HB2 := Lib.hid hb2
          have HS3 := Lib.hid hs2
          clear hb2 hs2 HS2 HG2
          go_wp2
          go_roundw
          case rel => exact ⟨k + 1, g2, cap2, by omega, by congr 1; omega, rfl, HS3, HB2⟩
          case measure => simp [intOf]; omega
        · have hk8 : k = 8 := by omega
          subst hk8
          have hs8 : Sl wr w.heap.size g cap (bvals (s.data.toList ++ tail n)) := by
            have h := HS.out
            rw [List.append_assoc] at h
            exact h
          have HS8 := Lib.hid hs8
          clear hs8 HS
          go_wp2
          go_ret
          rw [← HN.out]
          refine ⟨g, cap, ?_, HS8.out, HB.out⟩
          have e : n + 9 + padZ n = n + 1 + padZ n + 8 := by omega
          rw [e]
          rfl
    · have hz2 := zero_more n z hz h56
      have hb : (((n : Int) + 1 + z) % 64 != 56) = true := by rw [bne_iff_ne]; omega
      have hlz : (s.data.toList ++ [128] ++ List.replicate z 0).length = n + 1 + z := by
        rw [List.length_append, List.length_append, HDL.out, ← HN.out, List.length_replicate]; rfl
      have HLZ := Lib.hid hlz
      clear h56 hlz
      go_wp2_with (at_builtin; refine append_byte rfl (.tmp 15) (.tmp 16) rfl w.heap.size g cap (n + 1 + z) (s.data.toList ++ [128] ++ List.replicate z 0) rfl HLZ.out (HS.out.alloc _) wr.heap.size 0 0 rfl rfl (by simp) (by omega) ?_)
      intro g2 cap2 w2 HS2 HG2
      have hb2 : Below w.heap.size w w2 := (HB.out.alloc HB.out.size _).grown HG2.out (by have := HB.out.size; simp; omega) (fun k hk => by injection hk with hk; subst hk; exact HS.out.1)
      have hs2 : Sl w2 w.heap.size g2 cap2 (bvals (s.data.toList ++ [128] ++ List.replicate (z + 1) 0)) := by
        rw [show s.data.toList ++ [128] ++ List.replicate (z + 1) 0 = s.data.toList ++ 128 :: (List.replicate z 0 ++ [0]) by simp [List.replicate_succ']]
        exact HS2.out
      have HB2 := Lib.hid hb2
      have HS3 := Lib.hid hs2
      clear hb2 hs2 HS2 HG2
      go_wp2
      go_roundw
      case rel => exact ⟨z + 1, g2, cap2, hz2, rfl, HS3, HB2⟩
      case measure => simp [slLen]; omega
end Sh
end Go.Proofs.YtogpigfepebibaaGreatDoor
