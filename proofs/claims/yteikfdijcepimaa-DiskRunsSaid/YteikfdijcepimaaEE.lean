/-
  Layer 7 (disk): a string's bytes appended to a file's, and where they lie then; the program's Append.
-/
import Derived.Test.YteikfdijcepimaaED
namespace Go.Proofs.Yteikfdijcepimaa
namespace Dk
open Go.RowKit Go.ChangeShapes Kr Go.Maps

theorem byte_row : (Try.prog.info? 5).map (fun i => (i.zero, i.size, i.bytes)) = some (some (.int .u8 0), 1, 1) := by kernel_rfl
theorem cells_append (d x : ByteArray) : Lib.strCells (d ++ x) = Lib.strCells d ++ Lib.strCells x := by
  unfold Lib.strCells
  rw [app_data, List.map_append]
/-- Behind an append: the bytes, and where they lie. -/
def Went (w w' : World) (v v' : Value) : Prop := w.grownBy w' v.ownBlock ∧ (v'.ownBlock = v.ownBlock ∨ ∃ g, v'.ownBlock = some g ∧ w.heap.size ≤ g)
set_option maxRecDepth 100000 in
theorem append_str (w : World) (v : Value) (d x : ByteArray) (ty : TypeId) (h : Bytes w v d) (hs : d.size + x.size ≤ 1000000) :
    ∃ v' w', (Builtin.append_ #[63, 9] ty #[v, .string x]).run Try.prog w = .ok v' w' ∧ Bytes w' v' (d ++ x) ∧ Went w w' v v' := by
  obtain ⟨i, hi, hz0, hz1, hz2⟩ := info_parts byte_row
  have hmax : d.size + x.size ≤ maxLen := Nat.le_trans hs (by decide)
  obtain ⟨v', w', hrun, h1, h2, h3⟩ := Lib.run_append_own_string (P := Try.prog) w 0 63 9 ty 5 i Try.underlying63 Try.underlying9 hi hz0 hz1 hz2 v d.size (Lib.strCells d) h x hmax (by omega) (Nat.zero_le _)
  refine ⟨v', w', hrun, ?_, h2, ?_⟩
  · show World.ownsRow _ _ _ _ _ _ _
    rw [ba_size_append, cells_append]
    exact h1
  · rcases h.2 with ⟨rfl, h0⟩ | ⟨g, cap, cur, rfl, _, hg, hnc, hcm, hcs, htake⟩
    · by_cases hm : x.size = 0
      · left
        rw [h3.2 ⟨rfl, hm⟩]
      · right
        have hr := run_append_nil_string (P := Try.prog) w 63 9 ty 5 i (.int .u8 0) Try.underlying63 Try.underlying9 hi hz0 x (by omega) (by omega) (by rw [hz2]; omega)
        rw [hr] at hrun
        injection hrun with e1 e2
        subst e1
        exact ⟨_, rfl, Nat.le_refl _⟩
    · by_cases hroom : d.size + x.size ≤ cap
      · left
        have hr := Lib.run_append_room_string (P := Try.prog) w 63 9 ty 5 i Try.underlying63 Try.underlying9 hi hz1 g d.size cap cur hg x hroom (by rw [hcs]; omega)
        rw [hr] at hrun
        injection hrun with e1 e2
        subst e1
        rfl
      · right
        have hr := Lib.run_append_grow_string (P := Try.prog) w 63 9 ty 5 i (.int .u8 0) Try.underlying63 Try.underlying9 hi hz0 ⟨g, 0, none⟩ d.size cap (Lib.strCells d) (by rw [hz1, Lib.strCells_length]; omega) (h.cells (g := g) rfl) x (by omega) (by omega) (by rw [hz2]; exact growslice_fits (by omega) (by omega))
        rw [hr] at hrun
        injection hrun with e1 e2
        subst e1
        exact ⟨_, rfl, Nat.le_refl _⟩
/-- append(v, x...), at the operation. -/
theorem wpList_append_s (w : World) {ops : Array Oper} {rest : List Oper} {o : Oper} {a : Act} {Q : Exit → Act → World → Prop} (hg : o.guard = none) (sl xo : Operand) (hop : o.op = Op.call { callee := Callee.builtin Builtin.append, args := #[sl, xo], argTypes := #[63, 9] })
    (v : Value) (d x : ByteArray) (hv : a.eval sl = v) (hx : a.eval xo = .string x) (h : Bytes w v d) (hs : d.size + x.size ≤ 1000000)
    (hK : ∀ v' w', Hid (Bytes w' v' (d ++ x)) → Hid (Went w w' v v') → wpList Try.prog ops Q rest (a.put o.dst v') w') : wpList Try.prog ops Q (o :: rest) a w := by
  refine wpList_plain hg fun K' hK' => ?_
  obtain ⟨v', w', hrun, h1, h2⟩ := append_str w v d x o.type h hs
  unfold Oper.wp
  simp [execOp, hop, resolve, invoke, builtin, hv, hx, hrun, Result.andThen]
  exact hK' _ _ (hK v' w' h1 h2)
theorem Kept.keep {w w' : World} {b m : Nat} {pl : ByteArray → Value} {z : Int} {l : List FF} {hole : Option ByteArray} (h : Kept w b m pl z l hole) (hs : ∀ q, Blk b m pl l q → w'.heap[q]? = w.heap[q]?) : Kept w' b m pl z l hole :=
  ⟨(hs b (.inl rfl)).trans h.cell, h.map.same (hs m (.inr (.inl rfl))), fun f hf hh => (h.rows f hf hh).same fun g hg => hs g (.inr (.inr ⟨f, hf, hg⟩)), h.apart, h.names⟩
/-- What stands at a name, or nothing. -/
theorem Kept.here {w : World} {b m : Nat} {pl : ByteArray → Value} {z : Int} {l : List FF} (h : Kept w b m pl z l none) (p : ByteArray) {N : Nat} (hN : ∀ f ∈ l, f.data.size ≤ N) :
    ∃ A n cap d k, foundV l pl p = .agg #[.slice A n cap, .int .i64 ((k : Nat) : Int)] ∧ d.size ≤ N ∧ Bytes w (.slice A n cap) d ∧ (∀ x, addF l p x = ⟨p, d ++ x, k⟩) ∧ ((Value.slice A n cap).ownBlock = none ∨ ∃ f ∈ l, f.name = p ∧ pl p = .slice A n cap) := by
  cases ha : at? l p with
  | none =>
    refine ⟨none, 0, 0, nul, 0, found_none ha, Nat.zero_le _, World.ownsRow_nil _ _ _ _, fun x => ?_, .inl rfl⟩
    unfold addF
    rw [ha]; rfl
  | some f =>
    obtain ⟨A, cap, hpl, hf, hby⟩ := h.found ha
    refine ⟨A, f.data.size, cap, f.data, f.sure, hf, hN f (at_mem ha), hby, fun x => ?_, .inr ⟨f, at_mem ha, at_name ha, hpl⟩⟩
    unfold addF
    rw [ha, ← at_name ha]; rfl
theorem away_new {S : Nat → Prop} {w w' : World} (h : Away S w w') {p : Addr} (hp : w.heap.size ≤ p.block) (v : Value) : Away S w (w'.setCell p v) :=
  ⟨h.os, h.tape, h.output, by simpa using h.size, fun q hq hn => (Below.heap_setCell w' p v q (by omega)).trans (h.block q hq hn)⟩

set_option maxRecDepth 100000 in
set_option maxHeartbeats 4000000 in
theorem prog_append (w : World) (S : Nat → Prop) (b : Nat) (D : DD) (p x : ByteArray) (h : Rd w S b D) (hfit : Fits D) (hp : NB p) (hx : x.size ≤ 10000) :
    Calls Try.prog 15 #[ptr b, .string p, .string x] w (Wrote Rd S b (appendV D p x).1 w (.int .i64 ((appendV D p x).2 : Int))) := by
  obtain ⟨l, L⟩ := D
  obtain ⟨m, pl, z, h1, h2, h3⟩ := h
  have H1 := Lib.hid h1
  by_cases hpn : p = nul
  · have he : p.toList.isEmpty = true := by rw [emptyB]; exact decide_eq_true hpn
    have HR : Hid (appendV ⟨l, L⟩ p x = (⟨l, L⟩, 1)) := by show _ = _; unfold appendV; rw [if_pos hpn]
    have HK := Lib.hid h3
    have H2 := Lib.hid h2
    clear h1 h2 h3 hfit hp hpn
    go_enter Try.func15, Try.ntmps15
    go_wp2
    go_ret
    rw [HR.out]
    exact wrote_of H1.out rfl HK.out H2.out (fun q hq => .inl hq) (Away.refl S w)
  · have he : p.toList.isEmpty = false := by rw [emptyB]; exact decide_eq_false hpn
    have HSP := Lib.hid (prog_spend w b m pl z l none h3 (high_of h2 hfit.high))
    by_cases hz : z = 0
    · have HR : Hid (appendV ⟨l, L⟩ p x = (⟨l, L⟩, 18)) := by show _ = _; unfold appendV; rw [if_neg hpn]; exact pass_no h2 hz
      rw [if_pos hz, show spent z = z by unfold spent; split <;> omega] at HSP
      have H2 := Lib.hid h2
      clear h1 h2 h3 hfit hp hpn hz
      go_enter Try.func15, Try.ntmps15
      go_wp2_with fail
      refine HSP.out.mono ?_
      rintro e w1 ⟨rfl, hk1, ha1⟩
      have HK1 := Lib.hid hk1
      have HA1 := Lib.hid (ha1 S ((H1.out b).2 (.inl rfl)))
      clear hk1 ha1
      go_wp2
      go_ret
      rw [HR.out]
      exact wrote_of H1.out rfl HK1.out H2.out (fun q hq => .inl hq) HA1.out
    · rw [if_neg hz] at HSP
      obtain ⟨A, n, cap, d, k, hf, hdn, _, hadd, hpl⟩ := h3.here p (N := 10000) hfit.size
      have HR : Hid (appendV ⟨l, L⟩ p x = (⟨withF l ⟨p, d ++ x, k⟩, if spent z < 0 then -1 else spent z⟩, 0)) := by
        show _ = _; unfold appendV; rw [if_neg hpn, ← hadd]; exact pass_yes h2 hz
      have HF := Lib.hid hf
      have HPL := Lib.hid hpl
      have HBYE : Hid (∀ W, Kept W b m pl (spent z) l none → Bytes W (.slice A n cap) d) := fun W hW => by
        obtain ⟨A', n', cap', d', k', hf', _, hby', hadd', _⟩ := hW.here p (N := 10000) hfit.size
        rw [hf] at hf'
        injection hf' with e1
        have e2 := congrArg Array.toList e1
        injection e2 with e3 e4
        have e5 := (hadd nul).symm.trans (hadd' nul)
        injection e5 with _ e6 _
        rw [app_nul, app_nul] at e6
        rw [e3, e6]
        exact hby'
      have HRI : Hid (Rise l) := hfit.rise
      have HLN : Hid (l.length ≤ 100000) := Nat.le_trans hfit.len (by decide)
      have HP := Lib.hid hp
      have hsz : d.size + x.size ≤ 1000000 := by omega
      have HSZ := Lib.hid hsz
      clear hz hf hpl hadd h1 h2 h3 hfit hp hpn hdn hsz hx
      go_enter Try.func15, Try.ntmps15
      go_wp2_with fail
      refine HSP.out.mono ?_
      rintro e w1 ⟨rfl, hk1, ha1⟩
      obtain ⟨c0, _⟩ := cell_of hk1.cell
      have hlk := (hk1.map.look p HP.out).2
      rw [HF.out] at hlk
      have HK1 := Lib.hid hk1
      have HA1 := Lib.hid (ha1 S ((H1.out b).2 (.inl rfl)))
      have HB1 : Hid (Below w1.heap.size w1 (w1.alloc (.cells #[.slice A n cap, .int .i64 (k : Int)] 65))) := (Below.refl _ _).alloc (Nat.le_refl _) _
      have HKA := Lib.hid (HK1.out.below HB1.out)
      have HCA : Hid (Row (w1.alloc (.cells #[.slice A n cap, .int .i64 (k : Int)] 65)) w1.heap.size 65 [.slice A n cap, .int .i64 (k : Int)]) := Row.new_at w1 _ _ _ rfl rfl
      have HBY := Lib.hid (HBYE.out _ HKA.out)
      have HBY1 := Lib.hid (HBYE.out _ HK1.out)
      clear hk1 ha1 HBYE
      go_wp2_with (refine wpList_append_s _ rfl _ _ rfl (.slice A n cap) d x rfl rfl HBY.out HSZ.out ?_)
      intro v2 w2 HV2 HW2
      obtain ⟨A2, cap2, hv2⟩ := HV2.out.form
      obtain ⟨n2, hn2⟩ : ∃ n2, (d ++ x).size = n2 := ⟨_, rfl⟩
      rw [hn2] at hv2
      clear hn2
      subst hv2
      have HG2 := Lib.hid HW2.out.1
      have HL2 := Lib.hid HW2.out.2
      have HS2 : Hid (w1.heap.size + 1 ≤ w2.heap.size) := by have h := HG2.out.size; rw [World.size_alloc] at h; exact h
      have HKW : Hid (Kept w2 b m pl (spent z) l (some p)) := HKA.out.but HG2.out (HPL.out.imp id (fun ⟨f, h1, h2, h3⟩ => ⟨f, h1, h2, by rw [h3]⟩))
      have HCW : Hid (Row w2 w1.heap.size 65 [.slice A n cap, .int .i64 (k : Int)]) := HCA.out.grown HG2.out (fun e => Nat.lt_irrefl _ (HBY1.out.lt e.symm))
      have HA2 : Hid (Away S w w2) := (HA1.out.trans (Away.of HB1.out)).trans (Away.grown HG2.out (fun g e => by
        rcases HPL.out with h | ⟨f, h4, h5, h6⟩
        · rw [h] at e; cases e
        · exact (H1.out g).2 (.inr (.inr ⟨f, h4, by rw [h5, h6]; exact e⟩))))
      have g0 := HCW.out.frozen 0
      obtain ⟨e0, e1⟩ := cell_of HCW.out
      clear hlk c0 HW2
      go_wp2_with fail
      obtain ⟨w3, hw3⟩ : ∃ w3 : World, w3 = { (w2.setCell ⟨w1.heap.size, 0, none⟩ (.slice A2 n2 cap2)) with drawn := (w2.setCell ⟨w1.heap.size, 0, none⟩ (.slice A2 n2 cap2)).drawn + 1 } := ⟨_, rfl⟩
      have HE3 : Hid (∀ q, q ≠ w1.heap.size → w3.heap[q]? = w2.heap[q]?) := fun q hq => by rw [hw3]; exact Below.heap_setCell w2 ⟨w1.heap.size, 0, none⟩ _ q hq
      have HK3 : Hid (Kept w3 b m pl (spent z) l (some p)) := HKW.out.keep fun q hq => HE3.out q (Nat.ne_of_lt (HK1.out.lt q hq))
      have HC3 : Hid (Row w3 w1.heap.size 65 [.slice A2 n2 cap2, .int .i64 (k : Int)]) := by rw [hw3]; exact HCW.out.set 0 _
      have HA3 : Hid (Away S w w3) := by rw [hw3]; exact (away_new HA2.out (p := ⟨w1.heap.size, 0, none⟩) HA1.out.size _).trans (Away.of (Below.refl _ _).drew)
      have HNE : Hid (∀ g, (Value.slice A2 n2 cap2).ownBlock = some g → ((Value.slice A n cap).ownBlock = some g ∧ g < w1.heap.size) ∨ w1.heap.size + 1 ≤ g) := fun g hg => by
        rcases HL2.out with h | ⟨g', h4, h5⟩
        · rw [h] at hg
          exact .inl ⟨hg, HBY1.out.lt hg⟩
        · rw [World.size_alloc] at h5
          rw [hg] at h4
          injection h4 with h4
          exact .inr (by omega)
      have HV3 : Hid (Bytes w3 (.slice A2 n2 cap2) (d ++ x)) := HV2.out.same fun g hg => HE3.out g (by rcases HNE.out g hg with h | h <;> omega)
      clear e0 e1 g0
      obtain ⟨d0, _⟩ := cell_of HK3.out.cell
      obtain ⟨e0, e1⟩ := cell_of HC3.out
      refine wp_region_still_tail 6 (by kernel_rfl) (by kernel_rfl) ?_
      rw [← hw3]
      clear hw3
      simp only [List.take_succ_cons, List.take_zero, List.drop_succ_cons, List.drop_zero]
      repeat still_step
      refine wpStill_nil ?_
      refine wpList_put_s _ rfl _ _ _ rfl m l pl ⟨p, d ++ x, k⟩ (.slice A2 n2 cap2) rfl HK3.out.map rfl rfl HRI.out HP.out HLN.out ?_
      intro w4 HM4 HG4
      have HK4 : Hid (Kept w4 b m (upd pl p (.slice A2 n2 cap2)) (spent z) (withF l ⟨p, d ++ x, k⟩) none) :=
        HK3.out.put (f := ⟨p, d ++ x, k⟩) (.inr rfl) HV3.out (fun g hg hgn => by
          cases ho : (pl g.name).ownBlock with
          | none => exact .inl ho
          | some q =>
            refine .inr fun e => ?_
            rw [ho] at e
            have hq := HK1.out.lt q (.inr (.inr ⟨g, hg, ho⟩))
            rcases HNE.out q e.symm with ⟨h, _⟩ | h
            · rcases HPL.out with h2 | ⟨f, h4, h5, h6⟩
              · rw [h2] at h; cases h
              · rcases HK1.out.apart g hg f h4 (by rw [h5]; exact hgn) with h7 | h7
                · rw [ho] at h7; cases h7
                · exact h7 (by rw [ho, h5, h6, h])
            · omega) HP.out HM4.out HG4.out
      have HA4 : Hid (Away S w w4) := HA3.out.trans (Away.grown HG4.out (fun g e => by injection e with e; subst e; exact (H1.out _).2 (.inr (.inl rfl))))
      clear HG4 HM4
      go_wp2
      go_ret
      rw [HR.out]
      refine wrote_of H1.out rfl HK4.out rfl (blk_put (f := ⟨p, d ++ x, k⟩) fun g hg => ?_) HA4.out
      rcases HNE.out g hg with ⟨h, _⟩ | h
      · rcases HPL.out with h2 | ⟨f, h4, h5, h6⟩
        · rw [h2] at h; cases h
        · exact .inl (.inr (.inr ⟨f, h4, by rw [h5, h6]; exact h⟩))
      · exact .inr (by have := HA1.out.size; omega)
end Dk
end Go.Proofs.Yteikfdijcepimaa
