/-
  Layer 2 (sha): the walk of Of.
-/
import Derived.Test.YtkdnkcdjmcimbaaDoorN
import Derived.Test.YtkdnkcdjmcimbaaDoorMathG
import Derived.Test.YtkdnkcdjmcimbaaDoorShelf
import Derived.Laws.ResultCell
namespace Go.Proofs.YtkdnkcdjmcimbaaDoor
namespace Sh
open Go.RowKit

/-- Two results, the first one an array that lies in a block. -/
theorem results_row_tmp {P : Program} {fn : Func} {p u : Tmp} {ty : TypeId} (h : fn.results = #[.cell p ty, .tmp u]) (tmps : Array Value) (w : World) (g : Nat) (t : TypeId) (L : List Value) (d : TypeDesc)
    (hp : tmps.getD p undef = .pointer (some ⟨g, 0, none⟩)) (hg : Row w g t L) (hu : P.underlying ty = some d) (hd : (match d with | .struct _ | .array _ _ => true | _ => false) = true) (hi : (P.info? ty).map (·.size) = some L.length) :
    (results fn tmps).run P w = .ok (.tuple #[.agg L.toArray, tmps.getD u undef]) w := by
  rw [results_cell_tmp h, hp]
  have hl := run_loadVar_row (P := P) w g t ty L.toArray (0, 0) d hg hu hd (by simpa using hi)
  simp [asAddr, Result.andThen, hl]

theorem or8 (x : UInt8) (v : Nat) (hv : v < 16) : bits .or .u8 ((x.toNat : Int) * 16 % 256) (v : Int) = ((more x v).toNat : Int) := by
  have hx := x.toNat_lt
  have e : (x.toNat : Int) * 16 % 256 = ((x.toNat * 16 % 256 : Nat) : Int) := by omega
  rw [e]
  show IntKind.u8.wrap ((BitVec.ofInt 8 ((x.toNat * 16 % 256 : Nat) : Int) ||| BitVec.ofInt 8 (v : Int)).toNat : Int) = _
  rw [BitVec.ofInt_natCast, BitVec.ofInt_natCast, BitVec.toNat_or, BitVec.toNat_ofNat, BitVec.toNat_ofNat]
  rw [Nat.mod_eq_of_lt (a := x.toNat * 16 % 256) (by omega), Nat.mod_eq_of_lt (a := v) (by omega)]
  have e2 : x.toNat * 16 % 256 = (x.toNat % 16) * 2 ^ 4 := by omega
  have e3 := or_low (x.toNat % 16) v 4 (by omega)
  rw [e2, e3]
  unfold more
  rw [UInt8.toNat_ofNat', show (2 : Nat) ^ 8 = 256 from rfl, ← e2]
  simp [IntKind.wrap, IntKind.bits, IntKind.signed]

theorem idx_val (c : UInt8) : Lib.indexByte [48, 49, 50, 51, 52, 53, 54, 55, 56, 57, 97, 98, 99, 100, 101, 102] c = (if isH c then (hval c : Int) else -1) := by
  have := all_bytes (fun c => Lib.indexByte [48, 49, 50, 51, 52, 53, 54, 55, 56, 57, 97, 98, 99, 100, 101, 102] c == (if isH c then (hval c : Int) else -1)) (by decide +kernel) c
  simpa using this
theorem idx_any (c : UInt8) (z : Int) (hz : z = (if isH c then (hval c : Int) else -1)) (w : World) :
    Calls Tryd.prog 23 #[.string ⟨#[48, 49, 50, 51, 52, 53, 54, 55, 56, 57, 97, 98, 99, 100, 101, 102]⟩, .int .u8 (c.toNat : Int)] w fun e w' => e = .returned (.int .i64 z) ∧ w = w' := by
  refine (Tryd.strings_IndexByte ⟨#[48, 49, 50, 51, 52, 53, 54, 55, 56, 57, 97, 98, 99, 100, 101, 102]⟩ (c.toNat : Int) w).mono ?_
  rintro e w' ⟨rfl, rfl⟩
  refine ⟨?_, rfl⟩
  have e1 : ((c.toNat : Int).toNat).toUInt8 = c := by simp
  rw [hz, ← idx_val, e1]

set_option maxRecDepth 100000 in
set_option maxHeartbeats 4000000 in
theorem of_any (s : ByteArray) (w : World) (hs : s.size ≤ 100000) :
    Calls Tryd.prog 15 #[.string s] w fun e w' => e = .returned (.tuple #[.agg (bvals (dOf s.data.toList)).toArray, .bool (okOf s.data.toList)]) ∧ Below w.heap.size w w' := by
  have HDL := Lib.hid (data_length s)
  by_cases h64 : s.size = 64
  · go_enter Tryd.func15, Tryd.ntmps15
    have hb64 : ((s.size : Int) != 64) = false := by rw [bne_eq_false_iff_eq]; omega
    have H64 := Lib.hid h64
    clear h64
    go_wp2
    go_loopw [13] (fun i wr => ∃ k : Nat, k ≤ 64 ∧ i = .int .i64 k ∧ Hid (∀ j, j < k → isH (s.data.toList.getD j 0) = true) ∧ Hid (Row wr (w.heap.size + 1) 27 (bvals (dAt s.data.toList k))) ∧ Hid (Row wr w.heap.size 27 (bvals (List.replicate 32 0))) ∧ Hid (Below w.heap.size w wr)) (fun i _ => 64 - (intOf i).toNat)
    case atStart =>
      refine ⟨0, by omega, rfl, fun j hj => by omega, ?_, (Row.new_at w _ _ _ rfl rfl).alloc _, ((Below.refl _ _).alloc (Nat.le_refl _) _).alloc (by simp) _⟩
      rw [dAt_zero]
      exact Row.new_at _ _ _ _ (by simp) rfl
    case round =>
      obtain ⟨k, hk, rfl, HG, HD, HRS, HW⟩ := hrel
      by_cases hlt : k < 64
      · have hki : (k : Int) < s.size := by have := H64.out; omega
        have hks : k < s.size := by have := H64.out; omega
        have hsk : s.data.toList.getD k 0 = s[k] := by
          rw [List.getD_eq_getElem?_getD, List.getElem?_eq_getElem (by rw [HDL.out]; exact hks)]; rfl
        cases hH : isH s[k]
        · have hix := idx_any s[k] (-1) (by rw [hH]; rfl)
          have hbad := okOf_bad s.data.toList k (by rw [HDL.out]; exact hks) (by rw [hsk]; exact hH)
          have hd := dOf_bad _ hbad
          have HIX := Lib.hid hix
          have HBAD := Lib.hid hbad
          have HDB := Lib.hid hd
          clear hix hbad hd hH hsk
          go_wp2_with fail
          refine (HIX.out _).mono ?_
          rintro e w' ⟨rfl, rfl⟩
          go_wp2_with (first
            | (refine wpList_buildTo rfl 27 _ rfl (some 22) rfl (bvals (List.replicate 32 0)).toArray (by kernel_rfl) ?_)
            | (refine wpList_store_all rfl 27 (.tmp 2) (.tmp 22) rfl w.heap.size (bvals (List.replicate 32 0)) rfl rfl 27 (bvals (List.replicate 32 0)) HRS.out (by kernel_rfl) rfl (bvals_one _) ?_))
          intro w7 HR7 HT7
          go_wp2
          refine bodyPost_ret (results_row_tmp rfl _ _ w.heap.size 27 (bvals (List.replicate 32 0)) _ rfl HR7.out Tryd.underlying27 rfl (by kernel_rfl)) rfl ⟨?_, below_turn HW.out HT7.out (Nat.le_refl _)⟩
          rw [HDB.out, HBAD.out]
          rfl
        · have hix := idx_any s[k] (hval s[k] : Int) (by rw [hH]; rfl)
          have hv16 := hval_lt _ hH
          have hgood : ∀ j, j < k + 1 → isH (s.data.toList.getD j 0) = true := fun j hj => by
            by_cases he : j = k
            · subst he; rw [hsk]; exact hH
            · exact HG.out j (by omega)
          have hds := dAt_succ s.data.toList k hlt (fun j hj => by
            by_cases he : j < k + 1
            · exact .inl (hgood j he)
            · exact .inr (by omega))
          rw [hsk] at hds
          have hc := HD.out.cell (k / 2)
          rw [bvals_get _ _ (by rw [dAt_length]; omega)] at hc
          have hf := HD.out.frozen (k / 2)
          generalize (dAt s.data.toList k).getD (k / 2) 0 = x at hc hds
          generalize hval s[k] = v at hix hv16 hds
          have hv : (v : Int) ≤ 15 := by omega
          have HIX := Lib.hid hix
          have HGD := Lib.hid hgood
          have HDS := Lib.hid hds
          clear hix hgood hds hH hsk
          go_wp2_with fail
          refine (HIX.out _).mono ?_
          rintro e w' ⟨rfl, rfl⟩
          go_wp2
          go_roundw
          case rel =>
            refine ⟨k + 1, by omega, by go_num, HGD, ?_, ?_, ?_⟩
            · rw [or8 x v hv16, HDS.out, ← bvals_set]
              exact HD.out.set _ _
            · exact HRS.out.far (by simp) _
            · exact HW.out.setCell (by simp) _
          case measure => simp [intOf]; omega
      · have hk64 : k = 64 := by omega
        subst hk64
        have hki : ((s.size : Nat) : Int) ≤ (64 : Nat) := by have := H64.out; omega
        have hok := okOf_good s.data.toList (by rw [HDL.out, H64.out]) HG.out
        have hd := dOf_good _ hok
        have HOK := Lib.hid hok
        have HDF := Lib.hid hd
        clear hok hd
        go_wp2_with (first
          | (refine wpList_load_all rfl 27 (.tmp 4) rfl (w.heap.size + 1) rfl 27 (bvals (dAt s.data.toList 64)) _ HD.out Tryd.underlying27 rfl ?l1 ?_)
          | (refine wpList_store_all rfl 27 (.tmp 2) (.tmp 35) rfl w.heap.size (bvals (dAt s.data.toList 64)) rfl rfl 27 (bvals (List.replicate 32 0)) HRS.out ?s1 ?s2 (bvals_one _) ?_))
        case l1 => rw [bvals_length, dAt_length]; kernel_rfl
        case s1 => rw [bvals_length, dAt_length]; kernel_rfl
        case s2 => rw [bvals_length, bvals_length, dAt_length, List.length_replicate]
        intro w7 HR7 HT7
        go_wp2
        refine bodyPost_ret (results_row_tmp rfl _ _ w.heap.size 27 (bvals (dAt s.data.toList 64)) _ rfl HR7.out Tryd.underlying27 rfl ?r1) rfl ⟨?_, below_turn HW.out HT7.out (Nat.le_refl _)⟩
        case r1 => rw [bvals_length, dAt_length]; kernel_rfl
        rw [HDF.out, HOK.out]
        rfl
  · have hb64 : ((s.size : Int) != 64) = true := by rw [bne_iff_ne]; omega
    have hbad := okOf_short s.data.toList (by rw [HDL.out]; exact h64)
    have hd := dOf_bad _ hbad
    have HBAD := Lib.hid hbad
    have HDB := Lib.hid hd
    clear hbad hd h64
    go_enter Tryd.func15, Tryd.ntmps15
    go_wp2_with (first
      | (refine wpList_buildTo rfl 27 _ rfl (some 10) rfl (bvals (List.replicate 32 0)).toArray (by kernel_rfl) ?_)
      | (refine wpList_store_all rfl 27 (.tmp 2) (.tmp 10) rfl w.heap.size (bvals (List.replicate 32 0)) rfl rfl 27 (bvals (List.replicate 32 0)) ((Row.new_at w _ _ _ rfl rfl).alloc _) (by kernel_rfl) rfl (bvals_one _) ?_))
    intro w7 HR7 HT7
    go_wp2
    refine bodyPost_ret (results_row_tmp rfl _ _ w.heap.size 27 (bvals (List.replicate 32 0)) _ rfl HR7.out Tryd.underlying27 rfl (by kernel_rfl)) rfl ⟨?_, below_turn (((Below.refl _ _).alloc (Nat.le_refl _) _).alloc (by simp) _) HT7.out (Nat.le_refl _)⟩
    rw [HDB.out, HBAD.out]
    rfl
end Sh
end Go.Proofs.YtkdnkcdjmcimbaaDoor
