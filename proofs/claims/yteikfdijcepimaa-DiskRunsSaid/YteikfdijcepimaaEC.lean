/-
  Layer 7 (disk): the program's Budget, Read, Sync, Remove.
-/
import Derived.Test.YteikfdijcepimaaEB
import Derived.StillTailTactics
namespace Go.Proofs.Yteikfdijcepimaa
namespace Dk
open Go.RowKit Go.ChangeShapes Kr Go.Maps

theorem Away.grown {S : Nat → Prop} {w w' : World} {row : Option Nat} (h : w.grownBy w' row) (hr : ∀ g, row = some g → S g) : Away S w w' :=
  ⟨h.os, h.tape, h.output, h.size, fun q hq hn => h.block q hq (fun e => hn (hr q e.symm))⟩
theorem wrote_of {w w' : World} {b m : Nat} {pl pl' : ByteArray → Value} {z' : Int} {l : List FF} {S : Nat → Prop} {D' : DD} {v : Value} {e : Ending} (hS : ∀ q, S q ↔ Blk b m pl l q) (he : e = .returned v) (hk : Kept w' b m pl' z' D'.files none)
    (hl : D'.left = if z' < 0 then -1 else z') (hq : ∀ q, Blk b m pl' D'.files q → Blk b m pl l q ∨ w.heap.size ≤ q) (ha : Away S w w') : Wrote Rd S b D' w v e w' :=
  ⟨Blk b m pl' D'.files, he, ⟨m, pl', z', fun _ => Iff.rfl, hl, hk⟩, fun q h => (hq q h).imp (hS q).2 id, ha⟩
theorem blk_put {b m N : Nat} {pl : ByteArray → Value} {l : List FF} {f : FF} {v : Value} (hv : ∀ g, v.ownBlock = some g → Blk b m pl l g ∨ N ≤ g) : ∀ q, Blk b m (upd pl f.name v) (withF l f) q → Blk b m pl l q ∨ N ≤ q := by
  rintro q (rfl | rfl | ⟨x, hx, hq⟩)
  · exact .inl (.inl rfl)
  · exact .inl (.inr (.inl rfl))
  · rcases (withF_mem l f x).1 hx with rfl | ⟨h1, h2⟩
    · rw [upd_same] at hq; exact hv q hq
    · rw [upd_other h2] at hq; exact .inl (.inr (.inr ⟨x, h1, hq⟩))
theorem blk_drop {b m N : Nat} {pl : ByteArray → Value} {l : List FF} {p : ByteArray} : ∀ q, Blk b m pl (dropF l p) q → Blk b m pl l q ∨ N ≤ q := by
  rintro q (rfl | rfl | ⟨x, hx, hq⟩)
  · exact .inl (.inl rfl)
  · exact .inl (.inr (.inl rfl))
  · exact .inl (.inr (.inr ⟨x, ((dropF_mem _ _ _).1 hx).1, hq⟩))
theorem high_of {L z : Int} (h : L = if z < 0 then -1 else z) (hh : L ≤ 9223372036854775807) : z ≤ 9223372036854775807 := by split at h <;> omega
/-- Why nothing is done. -/
theorem chg_not {l : List FF} {p : ByteArray} {z : Int} (h : chg l p z ≠ 0) : chz l p z = z ∧ ((p = nul ∧ chg l p z = 1) ∨ (p ≠ nul ∧ at? l p = none ∧ chg l p z = 10) ∨ (p ≠ nul ∧ (∃ f, at? l p = some f) ∧ z = 0 ∧ chg l p z = 18)) := by
  refine ⟨if_neg h, ?_⟩
  unfold chg at h ⊢
  by_cases h0 : p = nul
  · exact .inl ⟨h0, if_pos h0⟩
  · rw [if_neg h0] at h ⊢
    cases ha : at? l p with
    | none => exact .inr (.inl ⟨h0, rfl, rfl⟩)
    | some f =>
      rw [ha] at h
      by_cases hz : z = 0
      · exact .inr (.inr ⟨h0, ⟨f, rfl⟩, hz, by rw [hz]; rfl⟩)
      · rw [if_neg hz] at h
        exact absurd rfl h
theorem chg_ok {l : List FF} {p : ByteArray} {z : Int} (h : chg l p z = 0) : chz l p z = spent z ∧ p ≠ nul ∧ z ≠ 0 ∧ ∃ f, at? l p = some f := by
  refine ⟨if_pos h, ?_⟩
  unfold chg at h
  by_cases h0 : p = nul
  · rw [if_pos h0] at h; cases h
  · rw [if_neg h0] at h
    cases ha : at? l p with
    | none => rw [ha] at h; cases h
    | some f =>
      rw [ha] at h
      by_cases hz : z = 0
      · rw [hz] at h; cases h
      · exact ⟨h0, hz, f, rfl⟩
theorem pass_no {l t : List FF} {L z : Int} (h : L = if z < 0 then -1 else z) (hz : z = 0) : passV ⟨l, L⟩ t = (⟨l, L⟩, 18) := by
  unfold passV
  rw [if_pos ((left_zero h).2 hz)]
theorem pass_yes {l t : List FF} {L z : Int} (h : L = if z < 0 then -1 else z) (hz : z ≠ 0) : passV ⟨l, L⟩ t = (⟨t, if spent z < 0 then -1 else spent z⟩, 0) := by
  unfold passV
  rw [if_neg (fun e => hz ((left_zero h).1 e))]
  show ((⟨t, if 0 < L then L - 1 else L⟩ : DD), 0) = _
  rw [left_spent h]
theorem sync_not {l : List FF} {p : ByteArray} {L z : Int} (h : L = if z < 0 then -1 else z) (hc : chg l p z ≠ 0) : syncV ⟨l, L⟩ p = (⟨l, L⟩, chg l p z) := by
  unfold syncV
  rcases (chg_not hc).2 with ⟨h1, h2⟩ | ⟨h1, h2, h3⟩ | ⟨h1, ⟨f, h2⟩, h3, h4⟩
  · rw [if_pos h1, h2]
  · rw [if_neg h1, h2, h3]
  · rw [if_neg h1, h2, h4]
    exact pass_no h h3
theorem remove_not {l : List FF} {p : ByteArray} {L z : Int} (h : L = if z < 0 then -1 else z) (hc : chg l p z ≠ 0) : removeV ⟨l, L⟩ p = (⟨l, L⟩, chg l p z) := by
  unfold removeV
  rcases (chg_not hc).2 with ⟨h1, h2⟩ | ⟨h1, h2, h3⟩ | ⟨h1, ⟨f, h2⟩, h3, h4⟩
  · rw [if_pos h1, h2]
  · rw [if_neg h1, h2, h3]
  · rw [if_neg h1, h2, h4]
    exact pass_no h h3
theorem rename_not {l : List FF} {p q : ByteArray} {L z : Int} (h : L = if z < 0 then -1 else z) (hq : q ≠ nul) (hc : chg l p z ≠ 0) : renameV ⟨l, L⟩ p q = (⟨l, L⟩, chg l p z) := by
  unfold renameV
  rcases (chg_not hc).2 with ⟨h1, h2⟩ | ⟨h1, h2, h3⟩ | ⟨h1, ⟨f, h2⟩, h3, h4⟩
  · rw [if_pos (.inl h1), h2]
  · rw [if_neg (fun e => e.elim h1 hq), h2, h3]
  · rw [if_neg (fun e => e.elim h1 hq), h2, h4]
    exact pass_no h h3

set_option maxRecDepth 100000 in
set_option maxHeartbeats 4000000 in
theorem prog_budget (w : World) (S : Nat → Prop) (b : Nat) (D : DD) (n : Int) (h : Rd w S b D) :
    Calls Try.prog 23 #[ptr b, .int .i64 n] w (Wrote Rd S b (budgetV D n) w (.tuple #[])) := by
  obtain ⟨m, pl, z, h1, h2, h3⟩ := h
  obtain ⟨c0, c1⟩ := cell_of h3.cell
  have f1 := frozen_of h3.cell 1
  have HK := Lib.hid h3
  have H1 := Lib.hid h1
  clear h1 h2 h3
  go_enter Try.func23, Try.ntmps23
  go_wp2
  go_end0
  exact wrote_of H1.out rfl (HK.out.left n) rfl (fun q hq => .inl hq) (away_cell ((H1.out b).2 (.inl rfl)) _ _ _)

set_option maxRecDepth 100000 in
set_option maxHeartbeats 4000000 in
theorem prog_read (w : World) (S : Nat → Prop) (b : Nat) (D : DD) (p : ByteArray) (h : Rd w S b D) (hp : NB p) :
    Calls Try.prog 16 #[ptr b, .string p] w fun e w' => e = .returned (.tuple #[.string (readV D p).1, .int .i64 ((readV D p).2 : Int)]) ∧ Below w.heap.size w w' := by
  obtain ⟨m, pl, z, h1, h2, h3⟩ := h
  obtain ⟨c0, c1⟩ := cell_of h3.cell
  have hlk := (h3.map.look p hp).1
  cases ha : at? D.files p with
  | none =>
    have HR : Hid (readV D p = (nul, 10)) := by show _ = _; unfold readV; rw [ha]
    rw [found_none ha, ha] at hlk
    clear ha h1 h2 h3 hp
    go_enter Try.func16, Try.ntmps16
    go_wp2
    go_ret2
    rw [HR.out]
    exact ⟨rfl, (Below.refl _ _).alloc (Nat.le_refl _) _⟩
  | some f =>
    obtain ⟨A, cap, hpl, hf, hby⟩ := h3.found ha
    have HR : Hid (readV D p = (f.data, 0)) := by show _ = _; unfold readV; rw [ha]
    rw [hf, ha] at hlk
    have hb2 : Bytes (w.alloc (.cells #[.slice A f.data.size cap, .int .i64 (f.sure : Int)] 65)) (.slice A f.data.size cap) f.data := hby.same fun g hg => Below.heap_alloc w _ g (hby.lt hg)
    have hcv := conv_bytes hb2 rfl
    obtain ⟨n, hn⟩ : ∃ n, f.data.size = n := ⟨_, rfl⟩
    rw [hn] at hlk hcv
    clear hb2
    clear ha h1 h2 h3 hp hpl hf hby hn
    go_enter Try.func16, Try.ntmps16
    go_wp2
    go_ret2
    rw [HR.out]
    exact ⟨rfl, (Below.refl _ _).alloc (Nat.le_refl _) _⟩

set_option maxRecDepth 100000 in
set_option maxHeartbeats 4000000 in
theorem prog_sync (w : World) (S : Nat → Prop) (b : Nat) (D : DD) (p : ByteArray) (h : Rd w S b D) (hfit : Fits D) (hp : NB p) :
    Calls Try.prog 18 #[ptr b, .string p] w (Wrote Rd S b (syncV D p).1 w (.int .i64 ((syncV D p).2 : Int))) := by
  obtain ⟨l, L⟩ := D
  obtain ⟨m, pl, z, h1, h2, h3⟩ := h
  have H1 := Lib.hid h1
  have HCH := Lib.hid (prog_change w b m pl z l p h3 (high_of h2 hfit.high) hp)
  obtain ⟨c, hc⟩ : ∃ c, chg l p z = c := ⟨_, rfl⟩
  by_cases h0 : c = 0
  · rw [h0] at hc
    obtain ⟨hz1, hpn, hz, f, ha⟩ := chg_ok hc
    obtain ⟨A, cap, hpl, hf, hby⟩ := h3.found ha
    obtain rfl : f.name = p := at_name ha
    obtain ⟨n, hn⟩ : ∃ n, f.data.size = n := ⟨_, rfl⟩
    have HR : Hid (syncV ⟨l, L⟩ f.name = (⟨withF l ⟨f.name, f.data, n⟩, if spent z < 0 then -1 else spent z⟩, 0)) := by
      show _ = _; unfold syncV; rw [if_neg hpn, ha, ← hn]; exact pass_yes h2 hz
    rw [hc, hz1] at HCH
    rw [hn] at hf hpl
    have HPL := Lib.hid hpl
    have HF := Lib.hid hf
    have HRI : Hid (Rise l) := hfit.rise
    have HLN : Hid (l.length ≤ 100000) := Nat.le_trans hfit.len (by decide)
    have HP := Lib.hid hp
    have HM := Lib.hid (at_mem ha)
    clear h0 hz1 hpn hz ha hf hpl hby hn h1 h2 h3 hfit hp hc
    go_enter Try.func18, Try.ntmps18
    go_wp2_with fail
    refine HCH.out.mono ?_
    rintro e w1 ⟨rfl, hk1, ha1⟩
    obtain ⟨c0, _⟩ := cell_of hk1.cell
    have hlk := (hk1.map.look f.name HP.out).2
    rw [HF.out] at hlk
    have HK1 := Lib.hid hk1
    have HA1 := Lib.hid (ha1 S ((H1.out b).2 (.inl rfl)))
    clear hk1 ha1
    go_wp2_with fail
    obtain ⟨w2, hw2⟩ : ∃ w2 : World, w2 = { (w1.alloc (.cells #[.slice A n cap, .int .i64 (n : Int)] 65)) with drawn := (w1.alloc (.cells #[.slice A n cap, .int .i64 (n : Int)] 65)).drawn + 1 } := ⟨_, rfl⟩
    have HB2 : Hid (Below w1.heap.size w1 w2) := by rw [hw2]; exact ((Below.refl _ _).alloc (Nat.le_refl _) _).drew
    have HC2 : Hid (Row w2 w1.heap.size 65 [.slice A n cap, .int .i64 (n : Int)]) := by rw [hw2]; exact Row.new_at w1 _ _ _ rfl rfl
    have HK2 := Lib.hid (HK1.out.below HB2.out)
    obtain ⟨d0, _⟩ := cell_of HK2.out.cell
    obtain ⟨e0, e1⟩ := cell_of HC2.out
    refine wp_region_still_tail 6 (by kernel_rfl) (by kernel_rfl) ?_
    rw [← hw2]
    clear hw2
    simp only [List.take_succ_cons, List.take_zero, List.drop_succ_cons, List.drop_zero]
    repeat still_step
    refine wpStill_nil ?_
    refine wpList_put_s _ rfl _ _ _ rfl m l pl ⟨f.name, f.data, n⟩ (.slice A n cap) rfl HK2.out.map rfl rfl HRI.out HP.out HLN.out ?_
    intro w3 HM3 HG
    have HK3 : Hid (Kept w3 b m (upd pl f.name (.slice A n cap)) (spent z) (withF l ⟨f.name, f.data, n⟩) none) :=
      HK2.out.put (f := ⟨f.name, f.data, n⟩) (.inl rfl) (by rw [← HPL.out]; exact HK2.out.rows f HM.out (by simp)) (fun g hg hgn => by rw [← HPL.out]; exact HK2.out.apart g hg f HM.out hgn) HP.out HM3.out HG.out
    have HA3 : Hid (Away S w w3) := (HA1.out.trans (Away.of HB2.out)).trans (Away.grown HG.out (fun g e => by injection e with e; subst e; exact (H1.out _).2 (.inr (.inl rfl))))
    clear HG HM3
    go_wp2
    go_ret
    rw [HR.out]
    refine wrote_of H1.out rfl HK3.out rfl (blk_put (f := ⟨f.name, f.data, n⟩) fun g hg => .inl (.inr (.inr ⟨f, HM.out, by rw [HPL.out]; exact hg⟩))) HA3.out
  · have HR := Lib.hid (sync_not h2 (hc ▸ h0))
    rw [hc] at HR
    rw [hc, (chg_not (hc ▸ h0)).1] at HCH
    have hci : ¬ (c : Int) = 0 := by omega
    have H2 := Lib.hid h2
    clear h1 h2 h3 hfit hp hc h0
    go_enter Try.func18, Try.ntmps18
    go_wp2_with fail
    refine HCH.out.mono ?_
    rintro e w1 ⟨rfl, hk1, ha1⟩
    have HK1 := Lib.hid hk1
    have HA1 := Lib.hid (ha1 S ((H1.out b).2 (.inl rfl)))
    clear hk1 ha1
    go_wp2
    go_ret
    rw [HR.out]
    exact wrote_of H1.out rfl HK1.out H2.out (fun q hq => .inl hq) HA1.out
end Dk
end Go.Proofs.Yteikfdijcepimaa
