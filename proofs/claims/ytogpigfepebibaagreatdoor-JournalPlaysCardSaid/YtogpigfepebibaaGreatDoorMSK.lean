/-
  Layer 2 (sha): the document's answer: a block, first part: its 64 words. Layer 2 (sha): the document's answer: Sum.
-/
import Derived.Test.YtogpigfepebibaaGreatDoorMSH
import Derived.Test.YtogpigfepebibaaGreatDoorMSMathD
import Derived.Deep.RegionHeld3
import Derived.Deep.RegionLaw
namespace Go.Proofs.YtogpigfepebibaaGreatDoor
namespace Sh
open Go.RowKit

section
variable {ops : Array Oper} {o : Oper} {a : Act} {w : World} {K : Act → World → Prop} {Q : Exit → Act → World → Prop} {E : Prop}
/-- append of one word, as a step of a region that draws its order. -/
theorem step_append_word (hgd : o.guard = none) (s x : Operand) (ho : o.op = .call { callee := .builtin .append, args := #[s, x], argTypes := #[122, 122] })
    (B g cap n : Nat) (L : List W) (hs : a.eval s = .slice (some ⟨g, 0, none⟩) n cap) (hn : L.length = n) (hown : Sl w B g cap (vals L))
    (b : Nat) (z : Int) (c : W) (hz : z = (c.toNat : Int)) (hx : a.eval x = .slice (some ⟨b, 0, none⟩) 1 1) (hc : w.cell? ⟨b, 0, none⟩ = some (.int .u32 z)) (hlen : n + 1 ≤ 1000000000)
    (h : ∀ g' cap' w', Hid (Sl w' B g' cap' (vals (L ++ [c]))) → Hid (w.grownBy w' (some g)) → Hid (∀ j, j < n → w'.cell? ⟨g, j, none⟩ = w.cell? ⟨g, j, none⟩) → K (a.put o.dst (.slice (some ⟨g', 0, none⟩) (n + 1) cap')) w') :
    if Region.wanted o (yielded ops a.tmps) = true then Oper.wp Tryz.prog o a w K Q else E := by
  have hw : Region.wanted o (yielded ops a.tmps) = true := by simp [Region.wanted, hgd]
  rw [if_pos hw]
  obtain ⟨i0, hi, hz0, hz1, hz2⟩ := info_parts wordInfo
  subst hz
  obtain ⟨g', cap', w', hr, h2, h3, h4, h5⟩ := run_append_sl (P := Tryz.prog) w 122 o.type 111 i0 (.int .u32 0) 4 Tryz.underlying122 hi hz0 hz1 hz2 rfl (by decide) B g cap n (vals L) (by rw [vals_length]; exact hn) hown ⟨b, 0, none⟩ 1 1 [.int .u32 (c.toNat : Int)] rfl (by
    rintro (_ | j) u hj
    · simp only [List.getElem?_cons_zero, Option.some.injEq] at hj
      subst hj
      exact hc
    · simp at hj) (by intro u hu; obtain rfl := List.mem_singleton.1 hu; rfl) (by decide) hlen
  unfold Oper.wp execOp
  simp only [ho, resolve, invoke, builtin, Sem.run_bind, Sem.run_pure, Result.andThen_ok, List.map_toArray, List.map_cons, List.map_nil, hs, hx, hr]
  exact h g' cap' w' (by rw [vals_append]; exact h2) h3 h5
end

theorem Sl.same {w X : World} {B g cap : Nat} {xs : List Value} (h : Sl w B g cap xs) (hh : X.heap = w.heap) : Sl X B g cap xs := h.keep (by rw [hh])
theorem below_same {w a X : World} {B : Nat} (h : Below B a w) (h1 : X.heap = w.heap) (h2 : X.os = w.os) (h3 : X.tape = w.tape) (h4 : X.output = w.output) : Below B a X :=
  ⟨h2.trans h.os, h3.trans h.tape, h4.trans h.output, by rw [h1]; exact h.size, fun k hk => by rw [h1]; exact h.block k hk⟩
theorem slice_four (g o cap k : Nat) (hk : k < 16) (hc : 64 ≤ cap) (W : World) :
    (Instr.slice 76 (.slice (some ⟨g, o, none⟩) 64 cap) (some (.int .i64 (4 * (k : Int)))) (some (.int .i64 (4 * (k : Int) + 4))) none).run Tryz.prog W = .ok (.slice (some ⟨g, o + 4 * k, none⟩) 4 (cap - 4 * k)) W := by
  have e2 : Tryz.prog.elem 76 = 5 := by kernel_rfl
  have e3 : (sizeOf 5).run Tryz.prog W = .ok 1 W := by kernel_rfl
  rw [run_slice_lh (P := Tryz.prog) W 76 _ 64 cap (by kernel_rfl) .i64 .i64 (4 * (k : Int)) (4 * (k : Int) + 4) (by omega) (by omega) (by omega), e2, e3]
  simp only [Result.andThen, sliced]
  rw [show (4 * (k : Int)).toNat = 4 * k by omega, show (4 * (k : Int) + 4).toNat = 4 * k + 4 by omega, if_neg (by omega), show 4 * k + 4 - 4 * k = 4 by omega]
  simp only [Option.map_some, Nat.mul_one]
  unfold Addr.add
  split <;> simp_all

theorem cell_new (w : World) (v : Value) (t : TypeId) (b : Nat) (hb : w.heap.size = b) : (w.alloc (.cells #[v] t)).cell? ⟨b, 0, none⟩ = some v := by
  subst hb
  have h : Row (w.alloc (.cells #[v] t)) w.heap.size t [v] := Row.new_at w t _ _ rfl rfl
  rw [h.cell]; rfl

/-- Words, bytes, where a call may read them. -/
def WAt (w : World) (g : Nat) (l : List W) : Prop := ∀ j x, l[j]? = some x → w.cell? ⟨g, j, none⟩ = some (.int .u32 (x.toNat : Int))
def BAt (w : World) (g o : Nat) (l : Bs) : Prop := ∀ j x, l[j]? = some x → w.cell? ⟨g, o + j, none⟩ = some (.int .u8 (x.toNat : Int))
theorem WAt.below {w w' : World} {g B : Nat} {l : List W} (h : WAt w g l) (hb : Below B w w') (hg : g < B) : WAt w' g l := fun j x hx => (hb.cell (p := ⟨g, j, none⟩) hg).trans (h j x hx)
theorem BAt.below {w w' : World} {g o B : Nat} {l : Bs} (h : BAt w g o l) (hb : Below B w w') (hg : g < B) : BAt w' g o l := fun j x hx => (hb.cell (p := ⟨g, o + j, none⟩) hg).trans (h j x hx)
theorem Sl.words {w : World} {B g cap : Nat} {l : List W} (h : Sl w B g cap (vals l)) : WAt w g l := fun j x hx => h.2.2.2.2.2.2 j _ (by simp [vals, hx])
theorem WAt.get {w : World} {g : Nat} {l : List W} (h : WAt w g l) (j : Nat) (hj : j < l.length) : w.cell? ⟨g, j, none⟩ = some (.int .u32 ((l.getD j 0).toNat : Int)) := h j _ (by simp [hj])
theorem BAt.get {w : World} {g o : Nat} {l : Bs} (h : BAt w g o l) (j : Nat) (hj : j < l.length) : w.cell? ⟨g, o + j, none⟩ = some (.int .u8 ((l.getD j 0).toNat : Int)) := h j _ (by simp [hj])
theorem sch_more (r : Bs) (k : Nat) (h : 16 ≤ k) : sch r (k + 1) = sch r k ++ [next (sch r k) k] := by
  show sch r k ++ [_] = _
  rw [if_neg (by omega)]
theorem sch_first (r : Bs) (k : Nat) (h : k < 16) : sch r (k + 1) = sch r k ++ [wordAt r k] := by
  show sch r k ++ [_] = _
  rw [if_pos h]

set_option maxRecDepth 100000 in
set_option maxHeartbeats 20000000 in
theorem block_any (gh ch gb ob cb : Nat) (s : St) (r : Bs) (w : World) (hr : r.length = 64) (hcb : 64 ≤ cb) (hh : WAt w gh s.list) (hgh : gh < w.heap.size) (hb : BAt w gb ob r) (hgb : gb < w.heap.size) :
    Calls Tryz.prog 75 #[.slice (some ⟨gh, 0, none⟩) 8 ch, .slice (some ⟨gb, ob, none⟩) 64 cb] w fun e w' => ∃ g cap, e = .returned (.slice (some ⟨g, 0, none⟩) 8 cap) ∧ Sl w' w.heap.size g cap (vals (compress s r).list) ∧ Below w.heap.size w w' := by
  have HH := Lib.hid hh
  have HB := Lib.hid hb
  have HL := Lib.hid hr
  clear hh hb hr
  go_enter Tryz.func75, Tryz.ntmps75
  go_wp2_with fail
  refine (ks_any w).mono ?_
  rintro e w1 ⟨rfl, hk1, hb1⟩
  have hs1 := hb1.size
  have hkl := hk1.2.1
  have HK := Lib.hid hk1
  have HB1 := Lib.hid hb1
  clear hk1 hb1
  go_wp2
  go_loopw [6, 7] (fun v i wr => ∃ k g cap : Nat, k ≤ 64 ∧ i = .int .i64 k ∧ v = .slice (some ⟨g, 0, none⟩) k cap ∧ Hid (Sl wr w1.heap.size g cap (vals (sch r k))) ∧ Hid (Below w1.heap.size w1 wr)) (fun _ i _ => 64 - (intOf i).toNat)
  case atStart =>
    exact ⟨0, _, _, by omega, rfl, rfl, Sl.of_cells w1 _ _ _ 0 (Nat.le_refl _) rfl rfl (by decide), (Below.refl _ _).alloc (Nat.le_refl _) _⟩
  case round =>
    obtain ⟨k, g, cap, hk, rfl, rfl, HS, HW⟩ := hrel
    by_cases hlt : k < 64
    · have hki : (k : Int) < 64 := by omega
      have hsl : (vals (sch r k)).length = k := by rw [vals_length, sch_length]
      have hgl : g < wr.heap.size := HS.out.2.1
      have hwr := HW.out.size
      have HSL := Lib.hid (sch_length r k)
      clear hsl
      by_cases h16 : k < 16
      · have hki2 : (k : Int) < 16 := by omega
        have hsf := sch_first r k h16
        have hbr := ((HB.out.below HB1.out hgb).below HW.out (by omega) : BAt wr gb ob r)
        have c0 := hbr.get (4 * k) (by rw [HL.out]; omega)
        have c1 := hbr.get (4 * k + 1) (by rw [HL.out]; omega)
        have c2 := hbr.get (4 * k + 2) (by rw [HL.out]; omega)
        have c3 := hbr.get (4 * k + 3) (by rw [HL.out]; omega)
        have hwa : wordAt r k = word (r.getD (4 * k) 0) (r.getD (4 * k + 1) 0) (r.getD (4 * k + 2) 0) (r.getD (4 * k + 3) 0) := rfl
        have hword := word_any gb (ob + 4 * k) (cb - 4 * k) _ _ _ _ wr c0 c1 c2 c3
        rw [← hwa] at hword
        have hrun := slice_four gb ob cb k h16 hcb
        have HWD := Lib.hid hword
        have HSF := Lib.hid hsf
        generalize wordAt r k = x at HWD HSF
        clear hsf hbr c0 c1 c2 c3 hwa hword
        go_wp2_with fail
        refine HWD.out.mono ?_
        rintro e w2 ⟨rfl, d, rfl⟩
        go_wp2_with (at_builtin; refine append_word rfl (.tmp 26) (.tmp 35) rfl w1.heap.size g cap k (sch r k) rfl HSL.out ((HS.out.drewN d).alloc _) wr.heap.size _ x rfl rfl (cell_new _ _ _ _ rfl) (by omega) ?_)
        intro g2 cap2 w2 HS2 HG2 _
        have hb2 : Below w1.heap.size w1 w2 := ((below_drewN HW.out d).alloc hwr _).grown HG2.out (by simp; omega) (fun k hk => by injection hk with hk; subst hk; exact HS.out.1)
        have hs2 : Sl w2 w1.heap.size g2 cap2 (vals (sch r (k + 1))) := by
          rw [HSF.out]; exact HS2.out
        have HB2 := Lib.hid hb2
        have HS3 := Lib.hid hs2
        clear hb2 hs2 HS2 HG2 hrun
        go_wp2
        go_roundw
        case rel => exact ⟨k + 1, g2, cap2, by omega, by go_num, rfl, HS3, HB2⟩
        case measure => simp [intOf]; omega
      · have hki2 : (16 : Int) ≤ k := by omega
        have hki0 : 16 ≤ k := by omega
        have hsm := sch_more r k hki0
        have hwd := HS.out.words
        have c15 := hwd.get (k - 15) (by rw [sch_length]; omega)
        have c2 := hwd.get (k - 2) (by rw [sch_length]; omega)
        have c16 := hwd.get (k - 16) (by rw [sch_length]; omega)
        have c7 := hwd.get (k - 7) (by rw [sch_length]; omega)
        have hnext : next (sch r k) k = (sch r k).getD (k - 16) 0 + sig0 ((sch r k).getD (k - 15) 0) + (sch r k).getD (k - 7) 0 + sig1 ((sch r k).getD (k - 2) 0) := rfl
        generalize (sch r k).getD (k - 15) 0 = x15 at c15 hnext
        generalize (sch r k).getD (k - 2) 0 = x2 at c2 hnext
        generalize (sch r k).getD (k - 16) 0 = x16 at c16 hnext
        generalize (sch r k).getD (k - 7) 0 = x7 at c7 hnext
        have HN := Lib.hid hnext
        have HSM := Lib.hid hsm
        clear hnext hsm hwd
        go_wp2
        go_quiet (fail)
        rename Nat => n1
        go_wp2
        have d16 : (wr.drewN n1).cell? { block := g, off := k - 16 } = some (Value.int IntKind.u32 ↑(BitVec.toNat x16)) := c16
        have d7 : (wr.drewN n1).cell? { block := g, off := k - 7 } = some (Value.int IntKind.u32 ↑(BitVec.toNat x7)) := c7
        have HS1 : Hid (Sl (wr.drewN n1) w1.heap.size g cap (vals (sch r k))) := HS
        have HW1 : Hid (Below w1.heap.size w1 (wr.drewN n1)) := below_drewN HW.out n1
        have hgl1 : g < (wr.drewN n1).heap.size := hgl
        have hwr1 : w1.heap.size ≤ (wr.drewN n1).heap.size := hwr
        clear c15 c2 c16 c7 HS HW hgl hwr
        generalize wr.drewN n1 = W at d16 d7 HS1 HW1 hgl1 hwr1 ⊢
        have a1 : IntKind.i64.wrap ((k : Int) - 16) = (k : Int) - 16 := IntWalk.i64_in _ (by omega)
        have a2 : ((k : Int) - 16).toNat = k - 16 := by omega
        have a3 : IntKind.i64.wrap ((k : Int) - 7) = (k : Int) - 7 := IntWalk.i64_in _ (by omega)
        have a4 : ((k : Int) - 7).toNat = k - 7 := by omega
        have a5 : (7 : Int) ≤ k := by omega
        have a6 : (k : Int) - 16 < k := by omega
        have a7 : (k : Int) - 7 < k := by omega
        go_region_held3 (fun w' => w'.cell? ⟨g, k - 16, none⟩ = some (Value.int IntKind.u32 ↑(BitVec.toNat x16)) ∧ w'.cell? ⟨g, k - 7, none⟩ = some (Value.int IntKind.u32 ↑(BitVec.toNat x7)))
          (first | go_keep)
          ((first
            | (go_simp; go_at_call 83; refine (turn_any _ _ (by decide) (by decide) _).mono ?_; rintro e w' ⟨rfl, m, rfl⟩)
            | (refine step_append_word rfl (.tmp 47) (.tmp 77) rfl w1.heap.size g cap k (sch r k) rfl HSL.out (Sl.alloc (Sl.same HS1.out rfl) _) W.heap.size _ (next (sch r k) k) ?hz rfl (cell_new _ _ _ _ rfl) (by omega) ?hk
               case hz => rw [sig0_eq, sig1_eq, wrap_add, wrap_add, wrap_add, HN.out]
               intro g2 cap2 w2 HS2 HG2 HC2
               have h16 : w2.cell? ⟨g, k - 16, none⟩ = some (Value.int IntKind.u32 ↑(BitVec.toNat x16)) := (HC2.out (k - 16) (by omega)).trans ((World.cell?_alloc_lt _ _ _ hgl1).trans d16)
               have h7 : w2.cell? ⟨g, k - 7, none⟩ = some (Value.int IntKind.u32 ↑(BitVec.toNat x7)) := (HC2.out (k - 7) (by omega)).trans ((World.cell?_alloc_lt _ _ _ hgl1).trans d7))))
        have hb2 : Below w1.heap.size w1 w2 := by
          refine Below.grown ?_ HG2.out ?_ (fun k hk => by injection hk with hk; subst hk; exact HS1.out.1)
          · exact Below.alloc (below_drewN HW1.out _) hwr1 _
          · simp; omega
        have hs2 : Sl w2 w1.heap.size g2 cap2 (vals (sch r (k + 1))) := by
          rw [HSM.out]; exact HS2.out
        have HB2 := Lib.hid hb2
        have HS3 := Lib.hid hs2
        clear hb2 hs2 HS2 HG2 HC2
        go_wp2
        go_roundw
        case rel => exact ⟨k + 1, g2, cap2, by omega, by go_num, rfl, HS3, HB2⟩
        case measure => simp [intOf]; omega
    · have hk64 : k = 64 := by omega
      subst hk64
      obtain ⟨i0, hi, hz0, hz1, hz2⟩ := info_parts wordInfo
      have hwr := HW.out.size
      have hbw : Below w.heap.size w wr := HB1.out.trans (HW.out.mono hs1)
      have hhw := HH.out.below hbw hgh
      have HBW := Lib.hid hbw
      have HHW := Lib.hid hhw
      have HKW := Lib.hid (HK.out.below HW.out hkl)
      clear hbw hhw
      obtain ⟨wo, rfl⟩ : ∃ wo : World, wo = wr := ⟨_, rfl⟩
      go_wp2_with (at_builtin; refine wpList_append_sl _ rfl (.tmp 79) (.tmp 80) 122 rfl 111 i0 (.int .u32 0) 4 Tryz.underlying122 hi hz0 hz1 hz2 rfl (by decide) wo.heap.size wo.heap.size 0 0 [] rfl rfl (Sl.of_cells wo _ _ [] 0 (Nat.le_refl _) rfl rfl (by decide)) ⟨gh, 0, none⟩ 8 ch (vals s.list) rfl rfl ?c1 ?c2 (by decide) (by omega) ?_)
      case c1 =>
        intro j u hj
        rw [show (⟨gh, 0, none⟩ : Addr).add j = ⟨gh, j, none⟩ by unfold Addr.add; split <;> simp_all]
        simp only [vals, List.getElem?_map, Option.map_eq_some_iff] at hj
        obtain ⟨x, hx, rfl⟩ := hj
        exact (World.cell?_alloc_lt _ _ _ (by show gh < wo.heap.size; omega)).trans (HHW.out j x hx)
      case c2 =>
        intro u hu
        obtain ⟨x, _, rfl⟩ := List.mem_map.1 hu
        rfl
      intro gl cl w2 HS2 HG2 _
      have hb2 : Below wo.heap.size wo w2 := ((Below.refl _ _).alloc (Nat.le_refl _) _).grown HG2.out (by simp) (fun k hk => by injection hk with hk; omega)
      have HB2 := Lib.hid hb2
      clear hb2 HG2
      have hgw := HS.out.2.1
      have HWK := Lib.hid ((HS.out.below HB2.out hgw).words)
      have HKK := Lib.hid ((HKW.out.below HB2.out (by omega)).words)
      have HHH := Lib.hid (HHW.out.below HB2.out (by omega))
      have hs2 := HB2.out.size
      have hs2' : wo.heap.size ≤ gl ∧ gl < w2.heap.size := ⟨HS2.out.1, HS2.out.2.1⟩
      have hb02 : Below w.heap.size w w2 := HBW.out.trans (HB2.out.mono (by omega))
      have HB02 := Lib.hid hb02
      have HS2' : Hid (Sl w2 wo.heap.size gl cl (vals s.list)) := by
        show Sl w2 wo.heap.size gl cl (vals s.list)
        simpa using HS2.out
      have hkl2 : w.heap.size < w2.heap.size := by omega
      have hgw2 : g < w2.heap.size := by omega
      have hgh2 : gh < w2.heap.size := by omega
      clear hb02 HB2 HS HW HBW HHW HKW HK HB1 HH HB HL HS2
      go_wp2
      go_loopw [10, 11] (fun v i wr => ∃ (k gq cq : Nat) (t : St), k ≤ 64 ∧ i = .int .i64 k ∧ Hid (t = rounds (sch r 64) s k) ∧ v = .slice (some ⟨gq, 0, none⟩) 8 cq ∧ Hid (Sl wr wo.heap.size gq cq (vals t.list)) ∧ Hid (Below w2.heap.size w2 wr)) (fun _ i _ => 64 - (intOf i).toNat)
      case atStart => exact ⟨0, _, _, s, by omega, rfl, Lib.hid rfl, rfl, HS2', Below.refl _ _⟩
      case round =>
        obtain ⟨k, gq, cq, t, hk, rfl, HTS, rfl, HQ, HW⟩ := hrel
        have hwr := HW.out.size
        have hql := HQ.out.2.1
        by_cases hlt : k < 64
        · have hki : (k : Int) < 64 := by omega
          have hwq := HQ.out.words
          have c0 : wr.cell? ⟨gq, 0, none⟩ = some (.int .u32 (t.a.toNat : Int)) := hwq 0 _ rfl
          have c1 : wr.cell? ⟨gq, 1, none⟩ = some (.int .u32 (t.b.toNat : Int)) := hwq 1 _ rfl
          have c2 : wr.cell? ⟨gq, 2, none⟩ = some (.int .u32 (t.c.toNat : Int)) := hwq 2 _ rfl
          have c3 : wr.cell? ⟨gq, 3, none⟩ = some (.int .u32 (t.d.toNat : Int)) := hwq 3 _ rfl
          have c4 : wr.cell? ⟨gq, 4, none⟩ = some (.int .u32 (t.e.toNat : Int)) := hwq 4 _ rfl
          have c5 : wr.cell? ⟨gq, 5, none⟩ = some (.int .u32 (t.f.toNat : Int)) := hwq 5 _ rfl
          have c6 : wr.cell? ⟨gq, 6, none⟩ = some (.int .u32 (t.g.toNat : Int)) := hwq 6 _ rfl
          have c7 : wr.cell? ⟨gq, 7, none⟩ = some (.int .u32 (t.h.toNat : Int)) := hwq 7 _ rfl
          have ck := (HKK.out.below HW.out hkl2).get k (by rw [K_length]; exact hlt)
          have cw := (HWK.out.below HW.out hgw2).get k (by rw [sch_length]; exact hlt)
          have hr1 := rounds_succ' (sch r 64) s k
          rw [← HTS.out] at hr1
          generalize K.getD k 0 = kk at ck hr1
          generalize (sch r 64).getD k 0 = ww at cw hr1
          have HR1 := Lib.hid hr1
          clear hr1 hwq
          go_wp2
          go_quiet (fail)
          rename Nat => n1
          go_wp2
          go_quiet ((go_at_call 83; exact quiet_d (turn_any _ _ (by decide) (by decide) _) (drawn_two _ _ _)))
          rename Nat => n2
          go_wp2
          rw [rot3_eq, t1_eq]
          go_quiet ((go_at_call 83; exact quiet_d (turn_any _ _ (by decide) (by decide) _) (drawn_two _ _ _)))
          rename Nat => n3
          go_wp2
          rw [rot3_eq, t2_all]
          have d1 : ((wr.drewN (n1 + n2)).drewN n3).cell? ⟨gq, 1, none⟩ = some (.int .u32 (t.b.toNat : Int)) := c1
          have d2 : ((wr.drewN (n1 + n2)).drewN n3).cell? ⟨gq, 2, none⟩ = some (.int .u32 (t.c.toNat : Int)) := c2
          have d3 : ((wr.drewN (n1 + n2)).drewN n3).cell? ⟨gq, 3, none⟩ = some (.int .u32 (t.d.toNat : Int)) := c3
          have d5 : ((wr.drewN (n1 + n2)).drewN n3).cell? ⟨gq, 5, none⟩ = some (.int .u32 (t.f.toNat : Int)) := c5
          have d6 : ((wr.drewN (n1 + n2)).drewN n3).cell? ⟨gq, 6, none⟩ = some (.int .u32 (t.g.toNat : Int)) := c6
          have HW1 : Hid (Below w2.heap.size w2 ((wr.drewN (n1 + n2)).drewN n3)) := below_drewN (below_drewN HW.out _) _
          have hql1 : gq < ((wr.drewN (n1 + n2)).drewN n3).heap.size := hql
          have hwr1 : w2.heap.size ≤ ((wr.drewN (n1 + n2)).drewN n3).heap.size := hwr
          have hwo1 : wo.heap.size ≤ ((wr.drewN (n1 + n2)).drewN n3).heap.size := Nat.le_trans hs2 hwr
          clear c0 c1 c2 c3 c4 c5 c6 c7 ck cw HW HQ hql hwr
          generalize (wr.drewN (n1 + n2)).drewN n3 = W at d1 d2 d3 d5 d6 HW1 hql1 hwr1 hwo1 ⊢
          go_region_held3 (fun w' => w'.cell? ⟨gq, 1, none⟩ = some (.int .u32 (t.b.toNat : Int)) ∧ w'.cell? ⟨gq, 2, none⟩ = some (.int .u32 (t.c.toNat : Int)) ∧ w'.cell? ⟨gq, 3, none⟩ = some (.int .u32 (t.d.toNat : Int)) ∧ w'.cell? ⟨gq, 5, none⟩ = some (.int .u32 (t.f.toNat : Int)) ∧ w'.cell? ⟨gq, 6, none⟩ = some (.int .u32 (t.g.toNat : Int)))
            (first | go_keep)
            ((first | fail))
          go_wp2
          go_roundw
          case rel =>
            refine ⟨k + 1, _, _, step t kk ww, by omega, by go_num, HR1.out.symm, rfl, ?_, ?_⟩
            · rw [badd, badd]
              exact (Sl.of_cells W _ _ (vals (step t kk ww).list) 8 hwo1 rfl rfl (by decide)).drew
            · exact (HW1.out.alloc hwr1 _).drew
          case measure => simp [intOf]; omega
        · have hk64 : k = 64 := by omega
          have hkf : (64 : Int) ≤ k := by omega
          have hcm : compress s r = addSt s t := by rw [HTS.out, hk64]; rfl
          have HCM := Lib.hid hcm
          have HQW := Lib.hid (HQ.out.words)
          have HHW := Lib.hid (HHH.out.below HW.out hgh2)
          have hb3 := HB02.out.trans (HW.out.mono (Nat.le_trans (by omega) hs2))
          have HB3 := Lib.hid hb3
          have hghr : gh < wr.heap.size := by omega
          obtain ⟨wp, rfl⟩ : ∃ wp : World, wp = wr := ⟨_, rfl⟩
          have hw0 : w.heap.size ≤ wp.heap.size := hb3.size
          clear hcm hb3 hk64 hlt hk HTS HQ HW HKK HWK HHH HS2' HB02
          go_wp2
          go_loopw [16, 17] (fun v i wr => ∃ k g' c' : Nat, k ≤ 8 ∧ i = .int .i64 k ∧ v = .slice (some ⟨g', 0, none⟩) k c' ∧ Hid (Sl wr wp.heap.size g' c' (vals ((addSt s t).list.take k))) ∧ Hid (Below wp.heap.size wp wr)) (fun _ i _ => 8 - (intOf i).toNat)
          case atStart => exact ⟨0, _, _, by omega, rfl, rfl, Sl.of_cells wp _ _ _ 0 (Nat.le_refl _) rfl rfl (by decide), (Below.refl _ _).alloc (Nat.le_refl _) _⟩
          case round =>
            obtain ⟨k, g', c', hk, rfl, rfl, HS, HW⟩ := hrel
            have hwr := HW.out.size
            have hge := HS.out.1
            have hgl := HS.out.2.1
            by_cases hlt : k < 8
            · have hki : (k : Int) < 8 := by omega
              have ch := (HHW.out.below HW.out hghr).get k (by rw [St.list_length]; exact hlt)
              have cq := (HQW.out.below HW.out hql).get k (by rw [St.list_length]; exact hlt)
              have hat := addSt_at s t k hlt
              generalize s.list.getD k 0 = x at ch hat
              generalize t.list.getD k 0 = y at cq hat
              have HAT := Lib.hid hat
              have HLN := Lib.hid (addSt_len s t k hk)
              have hghr' : gh < wr.heap.size := by omega
              have hgqr' : gq < wr.heap.size := by omega
              clear hat
              go_wp2
              go_region_held3 (fun w' => w'.cell? ⟨gh, k, none⟩ = some (.int .u32 (x.toNat : Int)) ∧ w'.cell? ⟨gq, k, none⟩ = some (.int .u32 (y.toNat : Int)))
                (first | go_keep)
                ((first
                  | (refine step_append_word rfl (.tmp 183) (.tmp 193) rfl wp.heap.size g' c' k ((addSt s t).list.take k) rfl HLN.out (Sl.alloc (Sl.same HS.out rfl) _) wr.heap.size _ (x + y) ?hz3 rfl (cell_new _ _ _ _ rfl) (by omega) ?hk3
                     case hz3 => rw [wrap_add]
                     intro g2 cap2 w3 HS2 HG2 HC2
                     have h1 : w3.cell? ⟨gh, k, none⟩ = some (.int .u32 (x.toNat : Int)) := HG2.out.cell ((World.cell?_alloc_lt _ _ _ hghr').trans ch) (by simp; omega)
                     have h2 : w3.cell? ⟨gq, k, none⟩ = some (.int .u32 (y.toNat : Int)) := HG2.out.cell ((World.cell?_alloc_lt _ _ _ hgqr').trans cq) (by simp; omega))))
              have hb4 : Below wp.heap.size wp w3 := by
                refine Below.grown ?_ HG2.out ?_ (fun k hk => by injection hk with hk; subst hk; exact hge)
                · exact Below.alloc HW.out.drew hwr _
                · simp; omega
              have hs4 : Sl w3 wp.heap.size g2 cap2 (vals ((addSt s t).list.take (k + 1))) := by
                rw [HAT.out]; exact HS2.out
              have HB4 := Lib.hid hb4
              have HS4 := Lib.hid hs4
              clear hb4 hs4 HS2 HG2 HC2
              go_wp2
              go_roundw
              case rel => exact ⟨k + 1, g2, cap2, by omega, by go_num, rfl, HS4, HB4⟩
              case measure => simp [intOf]; omega
            · have hk8 : k = 8 := by omega
              subst hk8
              have hfin : Sl wr w.heap.size g' c' (vals (compress s r).list) := by
                rw [HCM.out]
                exact HS.out.more hw0
              have HF := Lib.hid hfin
              have HB5 := Lib.hid (HB3.out.trans (HW.out.mono hw0))
              clear hfin HS HW
              go_wp2
              go_ret
              exact ⟨g', c', rfl, HF.out, HB5.out⟩
end Sh
end Go.Proofs.YtogpigfepebibaaGreatDoor

namespace Go.Proofs.YtogpigfepebibaaGreatDoor
namespace Sh
open Go.RowKit

/-- The words behind q blocks, of a text that is blocks. -/
theorem blocks_take (D : Bs) (q : Nat) : blocks D (q + 1) = compress (blocks D q) ((D.drop (64 * q)).take 64) := rfl

theorem words_after {w w1 : World} {o1 : Obj} {cs : Array Value} {t : TypeId} {B : Nat} (hb : Below B ((w.alloc o1).alloc (.cells cs t)) w1) (hB : w.heap.size + 1 < B) (l : List W) (hcs : cs = (vals l).toArray) : WAt w1 (w.heap.size + 1) l := by
  intro j x hx
  have h : Row ((w.alloc o1).alloc (.cells cs t)) (w.heap.size + 1) t (vals l) := Row.new_at (w.alloc o1) t cs (vals l) (by simp) hcs
  refine (hb.cell (p := ⟨w.heap.size + 1, j, none⟩) hB).trans ?_
  rw [h.cell]
  simp [vals, hx]
theorem slice_block (g cap len q : Nat) (hi : 64 * q + 64 ≤ len) (hc : len ≤ cap) (_hl : len ≤ 1000000) (W : World) :
    (Instr.slice 76 (.slice (some ⟨g, 0, none⟩) len cap) (some (.int .i64 (64 * (q : Int)))) (some (.int .i64 (64 * (q : Int) + 64))) none).run Tryz.prog W = .ok (.slice (some ⟨g, 64 * q, none⟩) 64 (cap - 64 * q)) W := by
  have e2 : Tryz.prog.elem 76 = 5 := by kernel_rfl
  have e3 : (sizeOf 5).run Tryz.prog W = .ok 1 W := by kernel_rfl
  rw [run_slice_lh (P := Tryz.prog) W 76 _ len cap (by kernel_rfl) .i64 .i64 (64 * (q : Int)) (64 * (q : Int) + 64) (by omega) (by omega) (by omega), e2, e3]
  simp only [Result.andThen, sliced]
  rw [show (64 * (q : Int)).toNat = 64 * q by omega, show (64 * (q : Int) + 64).toNat = 64 * q + 64 by omega, if_neg (by omega), show 64 * q + 64 - 64 * q = 64 by omega]
  simp only [Option.map_some, Nat.mul_one]
  unfold Addr.add
  split <;> simp_all

set_option maxRecDepth 100000 in
set_option maxHeartbeats 4000000 in
theorem refsum_any (s : ByteArray) (w : World) (hl : s.size ≤ 100000) :
    Calls Tryz.prog 66 #[.string s] w fun e w' => e = .returned (.agg (bvals (dig s.data.toList)).toArray) ∧ Below w.heap.size w w' := by
  have hdl := data_length s
  have HDL := Lib.hid hdl
  clear hdl
  go_enter Tryz.func66, Tryz.ntmps66
  go_wp2_with (first
    | (refine wpList_buildFlat rfl 122 111 8 _ rfl .u32 (init.list.map fun x => (x.toNat : Int)) Tryz.underlying122 (by kernel_rfl) (by kernel_rfl) (by kernel_rfl) (by decide) (by decide) (by kernel_rfl) ?_)
    | fail)
  refine (whole_any s _ hl).mono ?_
  rintro e w1 ⟨g, cap, rfl, hsl, hb1⟩
  simp only [World.size_alloc] at hsl hb1
  have hb1' : Below w.heap.size w w1 := (((Below.refl _ _).alloc (Nat.le_refl _) _).alloc (by simp) _).trans (hb1.mono (by omega))
  have hres : Row w1 w.heap.size 109 (bvals (List.replicate 32 0)) := ((Row.new_at w _ _ _ rfl rfl).alloc _).below hb1 (by omega)
  have hin : WAt w1 (w.heap.size + 1) (blocks (s.data.toList ++ tail s.size) 0).list := by
    exact words_after hb1 (by omega) init.list (by simp [vals])
  obtain ⟨D, hD⟩ : ∃ D, D = s.data.toList ++ tail s.size := ⟨_, rfl⟩
  have hlen : D.length = s.size + 9 + padZ s.size := by
    rw [hD, List.length_append, HDL.out, tail_length]; omega
  have hmod : D.length % 64 = 0 := by
    have h := whole_mod s.data.toList
    rw [HDL.out, ← hD] at h
    exact h
  obtain ⟨m, hm⟩ : ∃ m, D.length = 64 * m := ⟨D.length / 64, by omega⟩
  have hst : dig s.data.toList = digest (blocks D m) := by
    unfold dig st
    rw [HDL.out, ← hD, show D.length / 64 = m by omega]
  rw [← hD] at hsl hin
  have hN : s.size + 9 + padZ s.size = 64 * m := by omega
  have hNl : 64 * m ≤ 200000 := by have : padZ s.size ≤ 63 := by unfold padZ; omega
                                   omega
  rw [hN]
  have hcap : 64 * m ≤ cap := by have := hsl.2.2.1; rw [bvals_length, hm] at this; exact this
  have hsz := hb1'.size
  have hgl := hsl.2.1
  have hw1 : w.heap.size + 2 ≤ w1.heap.size := by have h := hb1.size; simpa using h
  have HSL := Lib.hid hsl
  have HB1 := Lib.hid hb1'
  have HRES := Lib.hid hres
  have HIN := Lib.hid hin
  have HM := Lib.hid hm
  have HST := Lib.hid hst
  clear hsl hb1 hb1' hres hin hD hlen hmod hm hst hN
  go_wp2
  go_loopw [3, 5] (fun v i wr => ∃ q gq cq : Nat, q ≤ m ∧ i = .int .i64 (64 * (q : Int)) ∧ v = .slice (some ⟨gq, 0, none⟩) 8 cq ∧ gq < wr.heap.size ∧ Hid (WAt wr gq (blocks D q).list) ∧ Hid (Below w1.heap.size w1 wr)) (fun _ i _ => 64 * m - (intOf i).toNat)
  case atStart => exact ⟨0, _, _, by omega, rfl, rfl, by omega, HIN, Below.refl _ _⟩
  case round =>
    obtain ⟨q, gq, cq, hq, rfl, rfl, hgq, HQ, HW⟩ := hrel
    have hwr := HW.out.size
    by_cases hlt : q < m
    · have hki : 64 * (q : Int) < 64 * m := by omega
      have hrun := slice_block g cap (64 * m) q (by omega) hcap (by omega)
      have hbat : BAt wr g (64 * q) ((D.drop (64 * q)).take 64) := by
        intro j x hx
        rw [List.getElem?_take] at hx
        split at hx
        · rw [List.getElem?_drop] at hx
          refine (HW.out.cell (p := ⟨g, 64 * q + j, none⟩) hgl).trans (HSL.out.2.2.2.2.2.2 (64 * q + j) _ ?_)
          simp [bvals, hx]
        · cases hx
      have hbk := block_any gq cq g (64 * q) (cap - 64 * q) (blocks D q) ((D.drop (64 * q)).take 64) wr (by rw [List.length_take, List.length_drop, HM.out]; omega) (by omega) HQ.out hgq hbat (by omega)
      have HBK := Lib.hid hbk
      clear hbat hbk
      go_wp2_with fail
      refine HBK.out.mono ?_
      rintro e w2 ⟨g2, c2, rfl, hs2, hb2⟩
      have hq2 : WAt w2 g2 (blocks D (q + 1)).list := hs2.words
      have hg2 := hs2.2.1
      have hb2' : Below w1.heap.size w1 w2 := HW.out.trans (hb2.mono hwr)
      have HQ2 := Lib.hid hq2
      have HB2 := Lib.hid hb2'
      clear hs2 hb2 hq2 hb2' HBK hrun
      go_wp2
      go_roundw
      case rel => exact ⟨q + 1, g2, c2, by omega, (by congr 1), rfl, hg2, HQ2, HB2⟩
      case measure => simp [intOf]; omega
    · have hqm : q = m := by omega
      have hki : 64 * (m : Int) ≤ 64 * q := by omega
      have hst := HST.out
      rw [← hqm] at hst
      have hb3 : Below w.heap.size w wr := HB1.out.trans (HW.out.mono hsz)
      have hr3 := HRES.out.below HW.out (by omega)
      obtain ⟨t, ht⟩ : ∃ t, t = blocks D q := ⟨_, rfl⟩
      rw [← ht] at hst
      have HQ3 : Hid (WAt wr gq t.list) := by rw [ht]; exact HQ
      have HST3 := Lib.hid hst
      have HB3 := Lib.hid hb3
      have HR3 := Lib.hid hr3
      obtain ⟨wo, rfl⟩ : ∃ wo : World, wo = wr := ⟨_, rfl⟩
      have hwo := hb3.size
      have hwo1 : w.heap.size < wo.heap.size := by omega
      clear hqm hst hb3 hr3 ht HQ HST HB1 HRES HIN HW hlt
      go_wp2_with (first
        | (refine wpList_buildTo rfl 109 _ rfl (some 24) rfl (bvals (List.replicate 32 0)).toArray (by kernel_rfl) ?_)
        | (refine wpList_store_all rfl 109 (.tmp 6) (.tmp 24) rfl wo.heap.size (bvals (List.replicate 32 0)) rfl rfl 109 (bvals (List.replicate 32 0)) (Row.new_at _ _ _ _ rfl rfl) (by kernel_rfl) rfl (bvals_one _) ?_))
      intro w3 HO3 HT3
      have hb4 : Below w.heap.size w w3 := below_turn (HB3.out.alloc hwo _) HT3.out hwo
      have hr4 := (HR3.out.alloc (.cells (bvals (List.replicate 32 0)).toArray 109)).turn HT3.out (by omega)
      have hq4 : WAt w3 gq t.list := fun j x hx => by
        refine (World.cell?_of_block (a := ⟨gq, j, none⟩) (HT3.out.2.2.2.2 gq (by omega))).trans ?_
        exact (World.cell?_alloc_lt _ _ _ hgq).trans (HQ3.out j x hx)
      have HB4 := Lib.hid hb4
      have HR4 := Lib.hid hr4
      have HQ4 := Lib.hid hq4
      clear hb4 hr4 hq4 HT3 HB3 HR3 HQ3
      go_wp2
      go_loopw [7] (fun i wr => ∃ k : Nat, k ≤ 32 ∧ i = .int .i64 k ∧ Hid (Row wr wo.heap.size 109 (bvals (part (dByte t) 0 32 k))) ∧ Hid (WAt wr gq t.list) ∧ Hid (Row wr w.heap.size 109 (bvals (List.replicate 32 0))) ∧ Hid (Below w.heap.size w wr)) (fun i _ => 32 - (intOf i).toNat)
      case atStart =>
        refine ⟨0, by omega, rfl, ?_, HQ4, HR4, HB4⟩
        rw [part_zero]
        exact HO3
      case round =>
        obtain ⟨k, hk, rfl, HD, HH, HRS, HB⟩ := hrel
        by_cases hlt : k < 32
        · have hki : (k : Int) < 32 := by omega
          have hcw := HH.out.get (k / 4) (by rw [St.list_length]; omega)
          have hcd := HD.out.cell k
          rw [bvals_get _ _ (by rw [part_length]; exact hlt)] at hcd
          have hfd := HD.out.frozen k
          have hps := part_succ (dByte t) 0 32 k hlt
          have hdb : dByte t k = UInt8.ofNat ((t.list.getD (k / 4) 0).toNat / 2 ^ (24 - 8 * (k % 4))) := by
            rw [show 8 * (k % 4) = k % 4 * 8 by omega]; rfl
          generalize t.list.getD (k / 4) 0 = x at hcw hdb
          generalize (part (dByte t) 0 32 k).getD k 0 = y at hcd
          have HPS := Lib.hid hps
          have HDB := Lib.hid hdb
          clear hps hdb
          go_wp2
          go_roundw
          case rel =>
            refine ⟨k + 1, by omega, by go_num, ?_, ?_, ?_, ?_⟩
            · rw [dbyte_val, ← HDB.out, HPS.out, ← bvals_set]
              exact HD.out.set _ _
            · intro j z hz
              exact (World.cell?_setCell_other _ _ _ _ (fun e => by injection e with e; omega)).trans (HH.out j z hz)
            · exact HRS.out.far (by simp; omega) _
            · exact HB.out.setCell (by simp; omega) _
          case measure => simp [intOf]; omega
        · have hk32 : k = 32 := by omega
          have hfin : Row wr wo.heap.size 109 (bvals (dig s.data.toList)) := by
            have h := HD.out
            rw [hk32, part_all] at h
            rw [HST3.out]
            exact h
          have HF := Lib.hid hfin
          clear hfin hk32 HD
          go_wp2_with (first
            | (refine wpList_load_all rfl 109 (.tmp 6) rfl wo.heap.size rfl 109 (bvals (dig s.data.toList)) _ HF.out Tryz.underlying109 rfl ?l1 ?_)
            | (refine wpList_store_all rfl 109 (.tmp 2) (.tmp 42) rfl w.heap.size (bvals (dig s.data.toList)) rfl rfl 109 (bvals (List.replicate 32 0)) HRS.out ?s1 ?s2 (bvals_one _) ?_))
          case l1 => rw [bvals_length, dig_length]; kernel_rfl
          case s1 => rw [bvals_length, dig_length]; kernel_rfl
          case s2 => rw [bvals_length, bvals_length, dig_length, List.length_replicate]
          intro w7 HR7 HT7
          go_wp2
          refine bodyPost_ret (results_cell_row rfl _ _ w.heap.size 109 (bvals (dig s.data.toList)).toArray (0, 0) _ rfl HR7.out Tryz.underlying109 rfl ?r1) rfl ⟨rfl, below_turn HB.out HT7.out (Nat.le_refl _)⟩
          case r1 => rw [List.size_toArray, bvals_length, dig_length]; kernel_rfl
end Sh
end Go.Proofs.YtogpigfepebibaaGreatDoor
