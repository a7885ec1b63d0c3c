/-
  Layer 2 (sha): the walks of Hex, the program's and the document's.
-/
import Derived.Test.YtkdnkcdjmcimbaaDoorK
import Derived.Test.YtkdnkcdjmcimbaaDoorMathF
import Derived.Laws.DeepStrings4
namespace Go.Proofs.YtkdnkcdjmcimbaaDoor
namespace Sh
open Go.RowKit

def digits : ByteArray := ⟨#[48, 49, 50, 51, 52, 53, 54, 55, 56, 57, 97, 98, 99, 100, 101, 102]⟩
theorem digits_at : ∀ n, n < 16 → digits[n]? = some (hexD n) := by decide
theorem digit_run (n : Nat) (h : n < 16) (W : World) :
    (Instr.index 9 (.string ⟨#[48, 49, 50, 51, 52, 53, 54, 55, 56, 57, 97, 98, 99, 100, 101, 102]⟩) (.int .u8 (n : Int))).run Tryd.prog W = .ok (.int .u8 ((hexD n).toNat : Int)) W := by
  have hd := digits_at n h
  unfold digits at hd
  simp [Instr.index, asIntOf, run_underlying Tryd.underlying9, hd]
theorem and15 (c : UInt8) : bits .and .u8 (c.toNat : Int) 15 = ((c.toNat % 16 : Nat) : Int) := by
  show IntKind.u8.wrap ((BitVec.ofInt 8 (c.toNat : Int) &&& BitVec.ofInt 8 ((15 : Nat) : Int)).toNat : Int) = _
  have hc := c.toNat_lt
  rw [BitVec.ofInt_natCast, BitVec.ofInt_natCast, BitVec.toNat_and, BitVec.toNat_ofNat, BitVec.toNat_ofNat]
  rw [Nat.mod_eq_of_lt (a := c.toNat) (by omega), Nat.mod_eq_of_lt (a := 15) (by omega), show (15 : Nat) = 2 ^ 4 - 1 from rfl, Nat.and_two_pow_sub_one_eq_mod]
  have : c.toNat % 2 ^ 4 < 16 := Nat.mod_lt _ (by decide)
  simp [IntKind.wrap, IntKind.bits, IntKind.signed]; omega

section
variable {ops : Array Oper} {o : Oper} {a : Act} {w : World} {K : Act → World → Prop} {Q : Exit → Act → World → Prop} {E : Prop}
/-- append of bytes, as a step of a region that draws its order. -/
theorem step_append_bytes (hgd : o.guard = none) (s x : Operand) (ho : o.op = .call { callee := .builtin .append, args := #[s, x], argTypes := #[35, 35] })
    (B g cap n : Nat) (L : Bs) (hs : a.eval s = .slice (some ⟨g, 0, none⟩) n cap) (hn : L.length = n) (hown : Sl w B g cap (bvals L))
    (b m : Nat) (N : Bs) (hm : N.length = m) (hm0 : 0 < m) (hx : a.eval x = .slice (some ⟨b, 0, none⟩) m m) (hc : Row w b 5 (bvals N)) (hlen : n + m ≤ 1000000000)
    (h : ∀ g' cap' w', Hid (Sl w' B g' cap' (bvals (L ++ N))) → Hid (w.grownBy w' (some g)) → K (a.put o.dst (.slice (some ⟨g', 0, none⟩) (n + m) cap')) w') :
    if Region.wanted o (yielded ops a.tmps) = true then Oper.wp Tryd.prog o a w K Q else E := by
  have hw : Region.wanted o (yielded ops a.tmps) = true := by simp [Region.wanted, hgd]
  rw [if_pos hw]
  obtain ⟨i0, hi, hz0, hz1, hz2⟩ := info_parts byteInfo
  obtain ⟨g', cap', w', hr, h2, h3, h4, h5⟩ := run_append_sl (P := Tryd.prog) w 35 o.type 5 i0 (.int .u8 0) 1 Tryd.underlying35 hi hz0 hz1 hz2 rfl (by decide) B g cap n (bvals L) (by rw [bvals_length]; exact hn) hown ⟨b, 0, none⟩ m m (bvals N) (by rw [bvals_length]; exact hm) (by
    intro j u hj
    rw [show (⟨b, 0, none⟩ : Addr).add j = ⟨b, j, none⟩ by unfold Addr.add; split <;> simp_all, hc.cell]
    exact hj) (by intro u hu; obtain ⟨x, _, rfl⟩ := List.mem_map.1 hu; rfl) hm0 hlen
  unfold Oper.wp execOp
  simp only [ho, resolve, invoke, builtin, Sem.run_bind, Sem.run_pure, Result.andThen_ok, List.map_toArray, List.map_cons, List.map_nil, hs, hx, hr]
  exact h g' cap' w' (by rw [bvals_append]; exact h2) h3
end

set_option maxRecDepth 100000 in
set_option maxHeartbeats 4000000 in
theorem hex_any (l : Bs) (w : World) (hl : l.length = 32) :
    Calls Tryd.prog 17 #[.agg (bvals l).toArray] w fun e w' => e = .returned (.string ⟨(hexs l).toArray⟩) ∧ Below w.heap.size w w' := by
  obtain ⟨i0, hi, hz0, hz1, hz2⟩ := info_parts byteInfo
  have HL := Lib.hid hl
  clear hl
  go_enter Tryd.func17, Tryd.ntmps17
  go_wp2_with (first
    | (at_make; refine wpList_make_sl _ rfl (.const (.int .i64 0)) (.const (.int .i64 64)) 35 rfl 5 i0 (.int .u8 0) Tryd.underlying35 hi hz0 hz1 (by rw [hz2]; decide) rfl (w.heap.size + 1) .i64 .i64 0 64 0 64 rfl rfl rfl rfl (by decide) (by decide) (by simp) ?_))
  intro w1 HS1 HB1
  have hrow : Row w1 w.heap.size 27 (bvals l) := (Row.new_at w _ _ _ rfl rfl).below HB1.out (by omega)
  have hb1 : Below w.heap.size w w1 := ((Below.refl _ _).alloc (Nat.le_refl _) _).trans (HB1.out.mono (by omega))
  have HR := Lib.hid hrow
  have HB := Lib.hid hb1
  clear hrow hb1 HB1
  go_wp2_with (refine wpList_load_all rfl 27 (.tmp 1) rfl w.heap.size rfl 27 (bvals l) _ HR.out Tryd.underlying27 rfl ?l1 ?_)
  case l1 => rw [bvals_length, HL.out]; kernel_rfl
  go_loopw [3, 8] (fun v i wr => ∃ k g cap : Nat, k ≤ 32 ∧ i = .int .i64 k ∧ v = .slice (some ⟨g, 0, none⟩) (2 * k) cap ∧ Hid (Sl wr (w.heap.size + 1) g cap (bvals (hexs (l.take k)))) ∧ Hid (Below w.heap.size w wr)) (fun _ i _ => 32 - (intOf i).toNat)
  case atStart => exact ⟨0, _, _, by omega, rfl, rfl, HS1, HB⟩
  case round =>
    obtain ⟨k, g, cap, hk, rfl, rfl, HS, HW⟩ := hrel
    have hwr := HW.out.size
    by_cases hlt : k < 32
    · have hki : (k : Int) < 32 := by omega
      have hix := fun W : World => index_run (P := Tryd.prog) 27 5 32 (bvals l) k _ Tryd.underlying27 (by rw [bvals_length, HL.out]) (bvals_get l k (by rw [HL.out]; exact hlt)) _ Tryd.underlying5 rfl (by kernel_rfl) W
      have hxk : l[k]? = some (l.getD k 0) := by rw [List.getD_eq_getElem?_getD, List.getElem?_eq_getElem (by rw [HL.out]; exact hlt)]; rfl
      generalize l.getD k 0 = c at hix hxk
      have hts := take_snoc l k c hxk
      have hhs := hexs_snoc (l.take k) c
      rw [← hts] at hhs
      have hhl : (hexs (l.take k)).length = 2 * k := by rw [hexs_length, List.length_take, HL.out]; omega
      have hcl := c.toNat_lt
      have hd1 := digit_run (c.toNat / 16) (by omega)
      have hd2 := digit_run (c.toNat % 16) (by omega)
      have h15 := and15 c
      rw [← h15] at hd2
      rw [show ((c.toNat / 16 : Nat) : Int) = (c.toNat : Int) / 16 by omega] at hd1
      generalize hexD (c.toNat / 16) = x at hd1 hhs
      generalize hexD (c.toNat % 16) = y at hd2 hhs
      have HHS := Lib.hid hhs
      have HHL := Lib.hid hhl
      clear hxk hts hhs hhl h15
      go_wp2
      go_region_law (refine step_append_bytes rfl (.tmp 11) (.tmp 18) rfl (w.heap.size + 1) g cap (2 * k) (hexs (l.take k)) rfl HHL.out (Sl.alloc (Sl.same HS.out rfl) _) wr.heap.size 2 [x, y] rfl (by decide) rfl (Row.new_at _ _ _ _ rfl rfl) (by omega) ?_; intro g2 cap2 w2 HS2 HG2)
      all_goals
        have hb2 : Below w.heap.size w w2 := by
          refine Below.grown ?_ HG2.out ?_ (fun k hk => by injection hk with hk; subst hk; have := HS.out.1; omega)
          · exact Below.alloc HW.out.drew hwr _
          · simp; omega
        have hs2 : Sl w2 (w.heap.size + 1) g2 cap2 (bvals (hexs (l.take (k + 1)))) := by
          rw [HHS.out]; exact HS2.out
        have HB2 := Lib.hid hb2
        have HS3 := Lib.hid hs2
        clear hb2 hs2 HS2 HG2 hd1 hd2 hix
        go_wp2
        go_roundw
        case rel => exact ⟨k + 1, g2, cap2, by omega, by go_num, rfl, HS3, HB2⟩
        case measure => simp [intOf]; omega
    · have hk32 : k = 32 := by omega
      subst hk32
      have hhl : (hexs l).length = 64 := by rw [hexs_length, HL.out]
      have hs : Sl wr (w.heap.size + 1) g cap (bvals (hexs l)) := by
        have h := HS.out
        rw [List.take_of_length_le (by rw [HL.out]; omega)] at h
        exact h
      have hcv : (convert 35 9 (.slice (some ⟨g, 0, none⟩) 64 cap)).run Tryd.prog wr = .ok (.string ⟨(hexs l).toArray⟩) wr := by
        have h := run_convert_bytes_back (P := Tryd.prog) wr 35 9 5 ⟨g, 0, none⟩ cap (hexs l) Tryd.underlying35 Tryd.underlying5 Tryd.underlying9 (fun j hj => by
          rw [show (⟨g, 0, none⟩ : Addr).add j = ⟨g, j, none⟩ by unfold Addr.add; split <;> simp_all]
          refine hs.2.2.2.2.2.2 j _ ?_
          rw [bvals_get _ _ hj, List.getD_eq_getElem?_getD, List.getElem?_eq_getElem hj]; rfl)
        rw [hhl] at h
        exact h
      clear hs hhl HS
      go_wp2
      go_ret
      exact ⟨rfl, HW.out⟩
end Sh
end Go.Proofs.YtkdnkcdjmcimbaaDoor
