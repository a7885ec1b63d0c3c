/-
  Layer 7 (disk): the program's New, Budget, Read, and its own spend, change. Layer 7 (disk): the program's Budget, Read, Sync, Remove. Layer 7 (disk): the program's Remove, Rename. Layer 7 (disk): a string's bytes appended to a file's, and where they lie then; the program's Append.
-/
import Derived.Test.YtogpigfepebibaaGreatDoorMEA
import Derived.Test.YtogpigfepebibaaGreatDoorMDG
import Derived.StillTailTactics
namespace Go.Proofs.YtogpigfepebibaaGreatDoor
namespace Dk
open Go.RowKit Go.ChangeShapes Kr Go.Maps

theorem ba_nul {d : ByteArray} (h : d.size = 0) : d = nul := ba_eq (List.eq_nil_of_length_eq_zero h)
theorem conv_bytes {w : World} {A : Option Addr} {n cap : Nat} {d : ByteArray} (h : Bytes w (.slice A n cap) d) (hn : d.size = n) : (convert 76 9 (.slice A n cap)).run Tryz.prog w = .ok (.string d) w := by
  cases A with
  | none =>
    have h0 : d.size = 0 := by
      rcases h.2 with ⟨_, h0⟩ | ⟨g, c, cur, hv, _⟩
      · exact h0
      · cases hv
    obtain rfl := ba_nul h0
    exact run_convert_bytes_nil w 76 5 Tryz.underlying76 Tryz.underlying5 n cap 9 Tryz.underlying9
  | some a =>
    have hg : ∃ g, a = ⟨g, 0, none⟩ := by
      rcases h.2 with ⟨hv, _⟩ | ⟨g, c, cur, hv, _⟩
      · cases hv
      · injection hv with hv; injection hv with hv; exact ⟨g, hv⟩
    obtain ⟨g, rfl⟩ := hg
    have h2 := run_convert_bytes_back (P := Tryz.prog) w 76 9 5 ⟨g, 0, none⟩ cap d.data.toList Tryz.underlying76 Tryz.underlying5 Tryz.underlying9 (fun j hj => by
      refine h.cells (g := g) rfl j _ ?_
      unfold Lib.strCells
      rw [List.getElem?_map, List.getElem?_eq_getElem hj]
      rfl)
    have e : d.data.toList.length = n := hn
    rw [e] at h2
    exact h2
theorem Kept.found {w : World} {b m : Nat} {pl : ByteArray → Value} {z : Int} {l : List FF} {p : ByteArray} {f : FF} (h : Kept w b m pl z l none) (ha : at? l p = some f) : ∃ A cap, pl p = .slice A f.data.size cap ∧ foundV l pl p = .agg #[.slice A f.data.size cap, .int .i64 (f.sure : Int)] ∧ Bytes w (.slice A f.data.size cap) f.data := by
  have hr := h.rows f (at_mem ha) (by simp)
  obtain ⟨A, cap, hv⟩ := hr.form
  rw [hv] at hr
  refine ⟨A, cap, by rw [← hv, at_name ha], ?_, hr⟩
  unfold foundV
  rw [ha]
  show fval (pl f.name) f.sure = _
  rw [hv]; rfl
theorem found_none {l : List FF} {pl : ByteArray → Value} {p : ByteArray} (ha : at? l p = none) : foundV l pl p = .agg #[.slice none 0 0, .int .i64 0] := by
  unfold foundV
  rw [ha]; rfl

set_option maxRecDepth 100000 in
set_option maxHeartbeats 4000000 in
theorem prog_new (w : World) : Calls Tryz.prog 6 #[] w fun e w' => ∃ b S, e = .returned (ptr b) ∧ Rd w' S b newV ∧ (∀ q, S q → w.heap.size ≤ q) ∧ Below w.heap.size w w' := by
  have hmm := @run_makeMap Tryz.prog
  go_enter Tryz.func6, Tryz.ntmps6
  go_wp2
  go_ret
  refine ⟨w.heap.size + 1, Blk (w.heap.size + 1) w.heap.size (fun _ => undef) [], ?_, ⟨w.heap.size, fun _ => undef, -1, fun q => Iff.rfl, by decide, ⟨?_, ?_, fun f hf => by simp [newV] at hf, fun f hf => by simp [newV] at hf, fun f hf => by simp [newV] at hf⟩⟩, ?_, ?_⟩
  · rfl
  · have h := (MapKept.heap_alloc (w.alloc (.map #[] 0)) (.cells #[.map (some w.heap.size), .int .i64 (-1)] 62)).1
    rw [World.size_alloc] at h
    exact h
  · exact (SMap.made w _).same (Below.heap_alloc _ _ _ (by rw [World.size_alloc]; omega))
  · rintro q (rfl | rfl | ⟨f, hf, _⟩)
    · omega
    · omega
    · simp at hf
  · exact ((Below.refl _ _).alloc (Nat.le_refl _) _).alloc (by simp) _

/-- How many calls are left behind one that passes. -/
def spent (z : Int) : Int := if 0 < z then z - 1 else z
theorem left_zero {L z : Int} (h : L = if z < 0 then -1 else z) : L = 0 ↔ z = 0 := by split at h <;> omega
theorem left_spent {L z : Int} (h : L = if z < 0 then -1 else z) : (if 0 < L then L - 1 else L) = if spent z < 0 then -1 else spent z := by
  unfold spent
  split at h <;> (repeat' split) <;> omega
theorem away_cell {S : Nat → Prop} {b : Nat} (hb : S b) (w : World) (o : Nat) (v : Value) : Away S w (w.setCell ⟨b, o, none⟩ v) :=
  ⟨rfl, rfl, rfl, by simp, fun q _ hn => Below.heap_setCell w ⟨b, o, none⟩ v q (fun e => hn (by rw [e]; exact hb))⟩
theorem Away.refl (S : Nat → Prop) (w : World) : Away S w w := Away.of (Below.refl _ _)
theorem frozen_of {w : World} {b : Nat} {u v : Value} {t : TypeId} (h : w.heap[b]? = some (.cells #[u, v] t (0, 0))) (j : Nat) : w.frozen? ⟨b, j, none⟩ = false := Row.frozen (l := [u, v]) h j

set_option maxRecDepth 100000 in
set_option maxHeartbeats 4000000 in
theorem prog_spend (w : World) (b m : Nat) (pl : ByteArray → Value) (z : Int) (l : List FF) (hole : Option ByteArray) (h : Kept w b m pl z l hole) (hz : z ≤ 9223372036854775807) :
    Calls Tryz.prog 44 #[ptr b] w fun e w' => e = .returned (.int .i64 ((if z = 0 then 18 else 0 : Nat) : Int)) ∧ Kept w' b m pl (spent z) l hole ∧ ∀ S : Nat → Prop, S b → Away S w w' := by
  obtain ⟨c0, c1⟩ := cell_of h.cell
  have f1 := frozen_of h.cell 1
  have HK := Lib.hid h
  clear h
  by_cases h0 : z = 0
  · subst h0
    go_enter Tryz.func44, Tryz.ntmps44
    go_wp2
    go_ret
    exact ⟨rfl, HK.out, fun S _ => Away.refl S w⟩
  · rw [if_neg h0]
    by_cases h1 : 0 < z
    · have HS : Hid (spent z = z - 1) := by show _ = _; unfold spent; rw [if_pos h1]
      go_enter Tryz.func44, Tryz.ntmps44
      go_wp2
      go_ret
      refine ⟨rfl, ?_, fun S hS => away_cell hS _ _ _⟩
      rw [HS.out]
      exact HK.out.left _
    · have HS : Hid (spent z = z) := by show _ = _; unfold spent; rw [if_neg h1]
      go_enter Tryz.func44, Tryz.ntmps44
      go_wp2
      go_ret
      rw [HS.out]
      exact ⟨rfl, HK.out, fun S _ => Away.refl S w⟩

/-- What tells why nothing can be done with a file that has to be there. -/
def chg (l : List FF) (p : ByteArray) (z : Int) : Nat := if p = nul then 1 else if (at? l p).isSome = true then (if z = 0 then 18 else 0) else 10
def chz (l : List FF) (p : ByteArray) (z : Int) : Int := if chg l p z = 0 then spent z else z

set_option maxRecDepth 100000 in
set_option maxHeartbeats 4000000 in
theorem prog_change (w : World) (b m : Nat) (pl : ByteArray → Value) (z : Int) (l : List FF) (p : ByteArray) (h : Kept w b m pl z l none) (hz : z ≤ 9223372036854775807) (hp : NB p) :
    Calls Tryz.prog 58 #[ptr b, .string p] w fun e w' => e = .returned (.int .i64 (chg l p z : Int)) ∧ Kept w' b m pl (chz l p z) l none ∧ ∀ S : Nat → Prop, S b → Away S w w' := by
  obtain ⟨c0, c1⟩ := cell_of h.cell
  have HK := Lib.hid h
  have HL := Lib.hid (fun W (hm : SMap W m l pl) => (hm.look p hp).1)
  by_cases h0 : p = nul
  · have he : p.toList.isEmpty = true := by rw [emptyB]; exact decide_eq_true h0
    have HC : Hid (chg l p z = 1) := by show _ = _; unfold chg; rw [if_pos h0]
    have HZ : Hid (chz l p z = z) := by show _ = _; unfold chz; rw [HC.out]; rfl
    clear h0 h hp
    go_enter Tryz.func58, Tryz.ntmps58
    go_wp2
    go_ret
    rw [HC.out, HZ.out]
    exact ⟨rfl, HK.out, fun S _ => Away.refl S w⟩
  · have he : p.toList.isEmpty = false := by rw [emptyB]; exact decide_eq_false h0
    cases ha : at? l p with
    | none =>
      have HC : Hid (chg l p z = 10) := by show _ = _; unfold chg; rw [if_neg h0, ha]; rfl
      have HZ : Hid (chz l p z = z) := by show _ = _; unfold chz; rw [HC.out]; rfl
      have hlk := HL.out w HK.out.map
      rw [found_none ha, ha] at hlk
      clear h0 h hp ha
      go_enter Tryz.func58, Tryz.ntmps58
      go_wp2
      go_ret
      rw [HC.out, HZ.out]
      have hb := (Below.refl w.heap.size w).alloc (Nat.le_refl _) (.cells #[.slice none 0 0, .int .i64 0] 87)
      exact ⟨rfl, HK.out.below hb, fun S _ => Away.of hb⟩
    | some f =>
      obtain ⟨A, cap, hpl, hf, hby⟩ := h.found ha
      have HC : Hid (chg l p z = if z = 0 then 18 else 0) := by show _ = _; unfold chg; rw [if_neg h0, ha]; rfl
      have HZ : Hid (chz l p z = spent z) := by
        show _ = _; unfold chz; rw [HC.out]
        by_cases h1 : z = 0
        · subst h1; rfl
        · rw [if_neg h1]; rfl
      have hlk := HL.out w HK.out.map
      rw [hf, ha] at hlk
      obtain ⟨n, hn⟩ : ∃ n, n = f.data.size := ⟨_, rfl⟩
      rw [← hn] at hlk
      have hb := (Below.refl w.heap.size w).alloc (Nat.le_refl _) (.cells #[.slice A n cap, .int .i64 (f.sure : Int)] 87)
      have HB := Lib.hid hb
      have HSP := Lib.hid (prog_spend _ b m pl z l none (HK.out.below hb) hz)
      obtain ⟨c, hc⟩ : ∃ c : Nat, (if z = 0 then 18 else 0) = c := ⟨_, rfl⟩
      rw [hc] at HSP HC
      clear h0 h hp ha hpl hf hby hn hb hc
      go_enter Tryz.func58, Tryz.ntmps58
      go_wp2_with fail
      refine HSP.out.mono ?_
      rintro e w1 ⟨rfl, hk1, ha1⟩
      have HK1 := Lib.hid hk1
      have HA1 := Lib.hid ha1
      clear hk1 ha1
      go_wp2
      go_ret
      rw [HC.out, HZ.out]
      exact ⟨rfl, HK1.out, fun S hS => (Away.of HB.out).trans (HA1.out S hS)⟩
end Dk
end Go.Proofs.YtogpigfepebibaaGreatDoor

namespace Go.Proofs.YtogpigfepebibaaGreatDoor
namespace Dk
open Go.RowKit Go.ChangeShapes Kr Go.Maps

theorem Away.grown {S : Nat → Prop} {w w' : World} {row : Option Nat} (h : w.grownBy w' row) (hr : ∀ g, row = some g → S g) : Away S w w' :=
  ⟨h.os, h.tape, h.output, h.size, fun q hq hn => h.block q hq (fun e => hn (hr q e.symm))⟩
theorem wrote_of {w w' : World} {b m : Nat} {pl pl' : ByteArray → Value} {z' : Int} {l : List FF} {S : Nat → Prop} {D' : DD} {v : Value} {e : Ending} (hS : ∀ q, S q ↔ Blk b m pl l q) (he : e = .returned v) (hk : Kept w' b m pl' z' D'.files none)
    (hl : D'.left = if z' < 0 then -1 else z') (hq : ∀ q, Blk b m pl' D'.files q → Blk b m pl l q ∨ w.heap.size ≤ q) (ha : Away S w w') : Wrote Rd S b D' w v e w' :=
  ⟨Blk b m pl' D'.files, he, ⟨m, pl', z', fun _ => Iff.rfl, hl, hk⟩, fun q h => (hq q h).imp (hS q).2 id, ha⟩
theorem blk_put {b m N : Nat} {pl : ByteArray → Value} {l : List FF} {f : FF} {v : Value} (hv : ∀ g, v.ownBlock = some g → Blk b m pl l g ∨ N ≤ g) : ∀ q, Blk b m (upd pl f.name v) (withF l f) q → Blk b m pl l q ∨ N ≤ q := by
  rintro q (rfl | rfl | ⟨x, hx, hq⟩)
  · exact .inl (.inl rfl)
  · exact .inl (.inr (.inl rfl))
  · rcases (withF_mem l f x).1 hx with rfl | ⟨h1, h2⟩
    · rw [upd_same] at hq; exact hv q hq
    · rw [upd_other h2] at hq; exact .inl (.inr (.inr ⟨x, h1, hq⟩))
theorem blk_drop {b m N : Nat} {pl : ByteArray → Value} {l : List FF} {p : ByteArray} : ∀ q, Blk b m pl (dropF l p) q → Blk b m pl l q ∨ N ≤ q := by
  rintro q (rfl | rfl | ⟨x, hx, hq⟩)
  · exact .inl (.inl rfl)
  · exact .inl (.inr (.inl rfl))
  · exact .inl (.inr (.inr ⟨x, ((dropF_mem _ _ _).1 hx).1, hq⟩))
theorem high_of {L z : Int} (h : L = if z < 0 then -1 else z) (hh : L ≤ 9223372036854775807) : z ≤ 9223372036854775807 := by split at h <;> omega
/-- Why nothing is done. -/
theorem chg_not {l : List FF} {p : ByteArray} {z : Int} (h : chg l p z ≠ 0) : chz l p z = z ∧ ((p = nul ∧ chg l p z = 1) ∨ (p ≠ nul ∧ at? l p = none ∧ chg l p z = 10) ∨ (p ≠ nul ∧ (∃ f, at? l p = some f) ∧ z = 0 ∧ chg l p z = 18)) := by
  refine ⟨if_neg h, ?_⟩
  unfold chg at h ⊢
  by_cases h0 : p = nul
  · exact .inl ⟨h0, if_pos h0⟩
  · rw [if_neg h0] at h ⊢
    cases ha : at? l p with
    | none => exact .inr (.inl ⟨h0, rfl, rfl⟩)
    | some f =>
      rw [ha] at h
      by_cases hz : z = 0
      · exact .inr (.inr ⟨h0, ⟨f, rfl⟩, hz, by rw [hz]; rfl⟩)
      · rw [if_neg hz] at h
        exact absurd rfl h
theorem chg_ok {l : List FF} {p : ByteArray} {z : Int} (h : chg l p z = 0) : chz l p z = spent z ∧ p ≠ nul ∧ z ≠ 0 ∧ ∃ f, at? l p = some f := by
  refine ⟨if_pos h, ?_⟩
  unfold chg at h
  by_cases h0 : p = nul
  · rw [if_pos h0] at h; cases h
  · rw [if_neg h0] at h
    cases ha : at? l p with
    | none => rw [ha] at h; cases h
    | some f =>
      rw [ha] at h
      by_cases hz : z = 0
      · rw [hz] at h; cases h
      · exact ⟨h0, hz, f, rfl⟩
theorem pass_no {l t : List FF} {L z : Int} (h : L = if z < 0 then -1 else z) (hz : z = 0) : passV ⟨l, L⟩ t = (⟨l, L⟩, 18) := by
  unfold passV
  rw [if_pos ((left_zero h).2 hz)]
theorem pass_yes {l t : List FF} {L z : Int} (h : L = if z < 0 then -1 else z) (hz : z ≠ 0) : passV ⟨l, L⟩ t = (⟨t, if spent z < 0 then -1 else spent z⟩, 0) := by
  unfold passV
  rw [if_neg (fun e => hz ((left_zero h).1 e))]
  show ((⟨t, if 0 < L then L - 1 else L⟩ : DD), 0) = _
  rw [left_spent h]
theorem sync_not {l : List FF} {p : ByteArray} {L z : Int} (h : L = if z < 0 then -1 else z) (hc : chg l p z ≠ 0) : syncV ⟨l, L⟩ p = (⟨l, L⟩, chg l p z) := by
  unfold syncV
  rcases (chg_not hc).2 with ⟨h1, h2⟩ | ⟨h1, h2, h3⟩ | ⟨h1, ⟨f, h2⟩, h3, h4⟩
  · rw [if_pos h1, h2]
  · rw [if_neg h1, h2, h3]
  · rw [if_neg h1, h2, h4]
    exact pass_no h h3
theorem remove_not {l : List FF} {p : ByteArray} {L z : Int} (h : L = if z < 0 then -1 else z) (hc : chg l p z ≠ 0) : removeV ⟨l, L⟩ p = (⟨l, L⟩, chg l p z) := by
  unfold removeV
  rcases (chg_not hc).2 with ⟨h1, h2⟩ | ⟨h1, h2, h3⟩ | ⟨h1, ⟨f, h2⟩, h3, h4⟩
  · rw [if_pos h1, h2]
  · rw [if_neg h1, h2, h3]
  · rw [if_neg h1, h2, h4]
    exact pass_no h h3
theorem rename_not {l : List FF} {p q : ByteArray} {L z : Int} (h : L = if z < 0 then -1 else z) (hq : q ≠ nul) (hc : chg l p z ≠ 0) : renameV ⟨l, L⟩ p q = (⟨l, L⟩, chg l p z) := by
  unfold renameV
  rcases (chg_not hc).2 with ⟨h1, h2⟩ | ⟨h1, h2, h3⟩ | ⟨h1, ⟨f, h2⟩, h3, h4⟩
  · rw [if_pos (.inl h1), h2]
  · rw [if_neg (fun e => e.elim h1 hq), h2, h3]
  · rw [if_neg (fun e => e.elim h1 hq), h2, h4]
    exact pass_no h h3

set_option maxRecDepth 100000 in
set_option maxHeartbeats 4000000 in
theorem prog_budget (w : World) (S : Nat → Prop) (b : Nat) (D : DD) (n : Int) (h : Rd w S b D) :
    Calls Tryz.prog 14 #[ptr b, .int .i64 n] w (Wrote Rd S b (budgetV D n) w (.tuple #[])) := by
  obtain ⟨m, pl, z, h1, h2, h3⟩ := h
  obtain ⟨c0, c1⟩ := cell_of h3.cell
  have f1 := frozen_of h3.cell 1
  have HK := Lib.hid h3
  have H1 := Lib.hid h1
  clear h1 h2 h3
  go_enter Tryz.func14, Tryz.ntmps14
  go_wp2
  go_end0
  exact wrote_of H1.out rfl (HK.out.left n) rfl (fun q hq => .inl hq) (away_cell ((H1.out b).2 (.inl rfl)) _ _ _)

set_option maxRecDepth 100000 in
set_option maxHeartbeats 4000000 in
theorem prog_read (w : World) (S : Nat → Prop) (b : Nat) (D : DD) (p : ByteArray) (h : Rd w S b D) (hp : NB p) :
    Calls Tryz.prog 24 #[ptr b, .string p] w fun e w' => e = .returned (.tuple #[.string (readV D p).1, .int .i64 ((readV D p).2 : Int)]) ∧ Below w.heap.size w w' := by
  obtain ⟨m, pl, z, h1, h2, h3⟩ := h
  obtain ⟨c0, c1⟩ := cell_of h3.cell
  have hlk := (h3.map.look p hp).1
  cases ha : at? D.files p with
  | none =>
    have HR : Hid (readV D p = (nul, 10)) := by show _ = _; unfold readV; rw [ha]
    rw [found_none ha, ha] at hlk
    clear ha h1 h2 h3 hp
    go_enter Tryz.func24, Tryz.ntmps24
    go_wp2
    go_ret2
    rw [HR.out]
    exact ⟨rfl, (Below.refl _ _).alloc (Nat.le_refl _) _⟩
  | some f =>
    obtain ⟨A, cap, hpl, hf, hby⟩ := h3.found ha
    have HR : Hid (readV D p = (f.data, 0)) := by show _ = _; unfold readV; rw [ha]
    rw [hf, ha] at hlk
    have hb2 : Bytes (w.alloc (.cells #[.slice A f.data.size cap, .int .i64 (f.sure : Int)] 87)) (.slice A f.data.size cap) f.data := hby.same fun g hg => Below.heap_alloc w _ g (hby.lt hg)
    have hcv := conv_bytes hb2 rfl
    obtain ⟨n, hn⟩ : ∃ n, f.data.size = n := ⟨_, rfl⟩
    rw [hn] at hlk hcv
    clear hb2
    clear ha h1 h2 h3 hp hpl hf hby hn
    go_enter Tryz.func24, Tryz.ntmps24
    go_wp2
    go_ret2
    rw [HR.out]
    exact ⟨rfl, (Below.refl _ _).alloc (Nat.le_refl _) _⟩

set_option maxRecDepth 100000 in
set_option maxHeartbeats 4000000 in
theorem prog_sync (w : World) (S : Nat → Prop) (b : Nat) (D : DD) (p : ByteArray) (h : Rd w S b D) (hfit : Fits D) (hp : NB p) :
    Calls Tryz.prog 35 #[ptr b, .string p] w (Wrote Rd S b (syncV D p).1 w (.int .i64 ((syncV D p).2 : Int))) := by
  obtain ⟨l, L⟩ := D
  obtain ⟨m, pl, z, h1, h2, h3⟩ := h
  have H1 := Lib.hid h1
  have HCH := Lib.hid (prog_change w b m pl z l p h3 (high_of h2 hfit.high) hp)
  obtain ⟨c, hc⟩ : ∃ c, chg l p z = c := ⟨_, rfl⟩
  by_cases h0 : c = 0
  · rw [h0] at hc
    obtain ⟨hz1, hpn, hz, f, ha⟩ := chg_ok hc
    obtain ⟨A, cap, hpl, hf, hby⟩ := h3.found ha
    obtain rfl : f.name = p := at_name ha
    obtain ⟨n, hn⟩ : ∃ n, f.data.size = n := ⟨_, rfl⟩
    have HR : Hid (syncV ⟨l, L⟩ f.name = (⟨withF l ⟨f.name, f.data, n⟩, if spent z < 0 then -1 else spent z⟩, 0)) := by
      show _ = _; unfold syncV; rw [if_neg hpn, ha, ← hn]; exact pass_yes h2 hz
    rw [hc, hz1] at HCH
    rw [hn] at hf hpl
    have HPL := Lib.hid hpl
    have HF := Lib.hid hf
    have HRI : Hid (Rise l) := hfit.rise
    have HLN : Hid (l.length ≤ 100000) := Nat.le_trans hfit.len (by decide)
    have HP := Lib.hid hp
    have HM := Lib.hid (at_mem ha)
    clear h0 hz1 hpn hz ha hf hpl hby hn h1 h2 h3 hfit hp hc
    go_enter Tryz.func35, Tryz.ntmps35
    go_wp2_with fail
    refine HCH.out.mono ?_
    rintro e w1 ⟨rfl, hk1, ha1⟩
    obtain ⟨c0, _⟩ := cell_of hk1.cell
    have hlk := (hk1.map.look f.name HP.out).2
    rw [HF.out] at hlk
    have HK1 := Lib.hid hk1
    have HA1 := Lib.hid (ha1 S ((H1.out b).2 (.inl rfl)))
    clear hk1 ha1
    go_wp2_with fail
    obtain ⟨w2, hw2⟩ : ∃ w2 : World, w2 = { (w1.alloc (.cells #[.slice A n cap, .int .i64 (n : Int)] 87)) with drawn := (w1.alloc (.cells #[.slice A n cap, .int .i64 (n : Int)] 87)).drawn + 1 } := ⟨_, rfl⟩
    have HB2 : Hid (Below w1.heap.size w1 w2) := by rw [hw2]; exact ((Below.refl _ _).alloc (Nat.le_refl _) _).drew
    have HC2 : Hid (Row w2 w1.heap.size 87 [.slice A n cap, .int .i64 (n : Int)]) := by rw [hw2]; exact Row.new_at w1 _ _ _ rfl rfl
    have HK2 := Lib.hid (HK1.out.below HB2.out)
    obtain ⟨d0, _⟩ := cell_of HK2.out.cell
    obtain ⟨e0, e1⟩ := cell_of HC2.out
    refine wp_region_still_tail 6 (by kernel_rfl) (by kernel_rfl) ?_
    rw [← hw2]
    clear hw2
    simp only [List.take_succ_cons, List.take_zero, List.drop_succ_cons, List.drop_zero]
    repeat still_step
    refine wpStill_nil ?_
    refine wpList_put_s _ rfl _ _ _ rfl m l pl ⟨f.name, f.data, n⟩ (.slice A n cap) rfl HK2.out.map rfl rfl HRI.out HP.out HLN.out ?_
    intro w3 HM3 HG
    have HK3 : Hid (Kept w3 b m (upd pl f.name (.slice A n cap)) (spent z) (withF l ⟨f.name, f.data, n⟩) none) :=
      HK2.out.put (f := ⟨f.name, f.data, n⟩) (.inl rfl) (by rw [← HPL.out]; exact HK2.out.rows f HM.out (by simp)) (fun g hg hgn => by rw [← HPL.out]; exact HK2.out.apart g hg f HM.out hgn) HP.out HM3.out HG.out
    have HA3 : Hid (Away S w w3) := (HA1.out.trans (Away.of HB2.out)).trans (Away.grown HG.out (fun g e => by injection e with e; subst e; exact (H1.out _).2 (.inr (.inl rfl))))
    clear HG HM3
    go_wp2
    go_ret
    rw [HR.out]
    refine wrote_of H1.out rfl HK3.out rfl (blk_put (f := ⟨f.name, f.data, n⟩) fun g hg => .inl (.inr (.inr ⟨f, HM.out, by rw [HPL.out]; exact hg⟩))) HA3.out
  · have HR := Lib.hid (sync_not h2 (hc ▸ h0))
    rw [hc] at HR
    rw [hc, (chg_not (hc ▸ h0)).1] at HCH
    have hci : ¬ (c : Int) = 0 := by omega
    have H2 := Lib.hid h2
    clear h1 h2 h3 hfit hp hc h0
    go_enter Tryz.func35, Tryz.ntmps35
    go_wp2_with fail
    refine HCH.out.mono ?_
    rintro e w1 ⟨rfl, hk1, ha1⟩
    have HK1 := Lib.hid hk1
    have HA1 := Lib.hid (ha1 S ((H1.out b).2 (.inl rfl)))
    clear hk1 ha1
    go_wp2
    go_ret
    rw [HR.out]
    exact wrote_of H1.out rfl HK1.out H2.out (fun q hq => .inl hq) HA1.out
end Dk
end Go.Proofs.YtogpigfepebibaaGreatDoor

namespace Go.Proofs.YtogpigfepebibaaGreatDoor
namespace Dk
open Go.RowKit Go.ChangeShapes Kr Go.Maps

theorem blk_moved {b m N : Nat} {pl : ByteArray → Value} {l : List FF} {p : ByteArray} {f : FF} {v : Value} (hv : ∀ g, v.ownBlock = some g → Blk b m pl l g) : ∀ q, Blk b m (upd pl f.name v) (withF (dropF l p) f) q → Blk b m pl l q ∨ N ≤ q := by
  rintro q (rfl | rfl | ⟨x, hx, hq⟩)
  · exact .inl (.inl rfl)
  · exact .inl (.inr (.inl rfl))
  · rcases (withF_mem _ f x).1 hx with rfl | ⟨h1, h2⟩
    · rw [upd_same] at hq; exact .inl (hv q hq)
    · rw [upd_other h2] at hq; exact .inl (.inr (.inr ⟨x, ((dropF_mem _ _ _).1 h1).1, hq⟩))

set_option maxRecDepth 100000 in
set_option maxHeartbeats 4000000 in
theorem prog_remove (w : World) (S : Nat → Prop) (b : Nat) (D : DD) (p : ByteArray) (h : Rd w S b D) (hfit : Fits D) (hp : NB p) :
    Calls Tryz.prog 53 #[ptr b, .string p] w (Wrote Rd S b (removeV D p).1 w (.int .i64 ((removeV D p).2 : Int))) := by
  obtain ⟨l, L⟩ := D
  obtain ⟨m, pl, z, h1, h2, h3⟩ := h
  have H1 := Lib.hid h1
  have HCH := Lib.hid (prog_change w b m pl z l p h3 (high_of h2 hfit.high) hp)
  obtain ⟨c, hc⟩ : ∃ c, chg l p z = c := ⟨_, rfl⟩
  by_cases h0 : c = 0
  · rw [h0] at hc
    obtain ⟨hz1, hpn, hz, f, ha⟩ := chg_ok hc
    have HR : Hid (removeV ⟨l, L⟩ p = (⟨dropF l p, if spent z < 0 then -1 else spent z⟩, 0)) := by
      show _ = _; unfold removeV; rw [if_neg hpn, ha]; exact pass_yes h2 hz
    rw [hc, hz1] at HCH
    have HRI : Hid (Rise l) := hfit.rise
    have HP := Lib.hid hp
    clear h0 hz1 hpn hz ha h1 h2 h3 hfit hp hc
    go_enter Tryz.func53, Tryz.ntmps53
    go_wp2_with fail
    refine HCH.out.mono ?_
    rintro e w1 ⟨rfl, hk1, ha1⟩
    obtain ⟨c0, _⟩ := cell_of hk1.cell
    have HK1 := Lib.hid hk1
    have HA1 := Lib.hid (ha1 S ((H1.out b).2 (.inl rfl)))
    clear hk1 ha1
    go_wp2_with (refine wpList_del_s _ rfl _ _ rfl m l pl p rfl HK1.out.map rfl HRI.out HP.out ?_)
    intro w3 HM3 HG
    have HK3 : Hid (Kept w3 b m pl (spent z) (dropF l p) none) := HK1.out.drop HM3.out HG.out
    have HA3 : Hid (Away S w w3) := HA1.out.trans (Away.grown HG.out (fun g e => by injection e with e; subst e; exact (H1.out _).2 (.inr (.inl rfl))))
    clear HG HM3
    go_wp2
    go_ret
    rw [HR.out]
    exact wrote_of H1.out rfl HK3.out rfl blk_drop HA3.out
  · have HR := Lib.hid (remove_not h2 (hc ▸ h0))
    rw [hc] at HR
    rw [hc, (chg_not (hc ▸ h0)).1] at HCH
    have hci : ¬ (c : Int) = 0 := by omega
    have H2 := Lib.hid h2
    clear h1 h2 h3 hfit hp hc h0
    go_enter Tryz.func53, Tryz.ntmps53
    go_wp2_with fail
    refine HCH.out.mono ?_
    rintro e w1 ⟨rfl, hk1, ha1⟩
    have HK1 := Lib.hid hk1
    have HA1 := Lib.hid (ha1 S ((H1.out b).2 (.inl rfl)))
    clear hk1 ha1
    go_wp2
    go_ret
    rw [HR.out]
    exact wrote_of H1.out rfl HK1.out H2.out (fun q hq => .inl hq) HA1.out

set_option maxRecDepth 100000 in
set_option maxHeartbeats 4000000 in
theorem prog_rename (w : World) (S : Nat → Prop) (b : Nat) (D : DD) (p q : ByteArray) (h : Rd w S b D) (hfit : Fits D) (hp : NB p) (hq : NB q) :
    Calls Tryz.prog 64 #[ptr b, .string p, .string q] w (Wrote Rd S b (renameV D p q).1 w (.int .i64 ((renameV D p q).2 : Int))) := by
  obtain ⟨l, L⟩ := D
  obtain ⟨m, pl, z, h1, h2, h3⟩ := h
  have H1 := Lib.hid h1
  by_cases hqn : q = nul
  · have he : q.toList.isEmpty = true := by rw [emptyB]; exact decide_eq_true hqn
    have HR : Hid (renameV ⟨l, L⟩ p q = (⟨l, L⟩, 1)) := by show _ = _; unfold renameV; rw [if_pos (.inr hqn)]
    have HK := Lib.hid h3
    have H2 := Lib.hid h2
    clear h1 h2 h3 hfit hp hq hqn
    go_enter Tryz.func64, Tryz.ntmps64
    go_wp2
    go_ret
    rw [HR.out]
    exact wrote_of H1.out rfl HK.out H2.out (fun q hq => .inl hq) (Away.refl S w)
  · have he : q.toList.isEmpty = false := by rw [emptyB]; exact decide_eq_false hqn
    have HCH := Lib.hid (prog_change w b m pl z l p h3 (high_of h2 hfit.high) hp)
    obtain ⟨c, hc⟩ : ∃ c, chg l p z = c := ⟨_, rfl⟩
    by_cases h0 : c = 0
    · rw [h0] at hc
      obtain ⟨hz1, hpn, hz, f, ha⟩ := chg_ok hc
      obtain ⟨A, cap, hpl, hf, hby⟩ := h3.found ha
      obtain rfl : f.name = p := at_name ha
      obtain ⟨n, hn⟩ : ∃ n, f.data.size = n := ⟨_, rfl⟩
      have HR : Hid (renameV ⟨l, L⟩ f.name q = (⟨withF (dropF l f.name) ⟨q, f.data, f.sure⟩, if spent z < 0 then -1 else spent z⟩, 0)) := by
        show _ = _; unfold renameV; rw [if_neg (fun e => e.elim hpn hqn), ha]; exact pass_yes h2 hz
      rw [hc, hz1] at HCH
      rw [hn] at hf hpl
      have HPL := Lib.hid hpl
      have HF := Lib.hid hf
      have HRI : Hid (Rise l) := hfit.rise
      have HLN : Hid ((dropF l f.name).length ≤ 100000) := Nat.le_trans (dropF_len _ _) (Nat.le_trans hfit.len (by decide))
      have HP := Lib.hid hp
      have HQ := Lib.hid hq
      have HM := Lib.hid (at_mem ha)
      have HAF := Lib.hid ha
      clear h0 hz1 hpn hz ha hf hpl hby hn h1 h2 h3 hfit hp hc hq hqn
      go_enter Tryz.func64, Tryz.ntmps64
      go_wp2_with fail
      refine HCH.out.mono ?_
      rintro e w1 ⟨rfl, hk1, ha1⟩
      obtain ⟨c0, _⟩ := cell_of hk1.cell
      have hbl := (Array.getElem?_eq_some_iff.1 hk1.cell).1
      have c2 := (World.cell?_alloc_lt w1 (.cells #[.slice A n cap, .int .i64 (f.sure : Int)] 87) ⟨b, 0, none⟩ hbl).trans c0
      have hlk := (hk1.map.look f.name HP.out).2
      rw [HF.out] at hlk
      have HK1 := Lib.hid hk1
      have HA1 := Lib.hid (ha1 S ((H1.out b).2 (.inl rfl)))
      have HB1 : Hid (Below w1.heap.size w1 (w1.alloc (.cells #[.slice A n cap, .int .i64 (f.sure : Int)] 87))) := (Below.refl _ _).alloc (Nat.le_refl _) _
      have HKA := Lib.hid (HK1.out.below HB1.out)
      have HCA : Hid (Row (w1.alloc (.cells #[.slice A n cap, .int .i64 (f.sure : Int)] 87)) w1.heap.size 87 [.slice A n cap, .int .i64 (f.sure : Int)]) := Row.new_at w1 _ _ _ rfl rfl
      have HBY : Hid (Bytes (w1.alloc (.cells #[.slice A n cap, .int .i64 (f.sure : Int)] 87)) (.slice A n cap) f.data) := by
        have h := HKA.out.rows f HM.out (by simp); rw [HPL.out] at h; exact h
      clear hk1 ha1
      go_wp2_with (refine wpList_del_s _ rfl _ _ rfl m l pl f.name rfl HKA.out.map rfl HRI.out HP.out ?_)
      intro w3 HM3 HG
      have HKD : Hid (Kept w3 b m pl (spent z) (dropF l f.name) none) := HKA.out.drop HM3.out HG.out
      have HBD : Hid (Bytes w3 (.slice A n cap) f.data) := HBY.out.same fun g hg => HG.out.block g (HBY.out.lt hg) (fun e => (HKA.out.off HBY.out hg).2 (by injection e))
      have HCD : Hid (Row w3 w1.heap.size 87 [.slice A n cap, .int .i64 (f.sure : Int)]) := HCA.out.grown HG.out (fun e => by injection e with e; have h := HK1.out.map.lt; rw [← e] at h; exact Nat.lt_irrefl _ h)
      have HA3 : Hid (Away S w w3) := (HA1.out.trans (Away.of HB1.out)).trans (Away.grown HG.out (fun g e => by injection e with e; subst e; exact (H1.out _).2 (.inr (.inl rfl))))
      clear HG HM3 HCA HBY HKA hlk c0 c2 hbl
      go_wp2_with fail
      obtain ⟨w2, hw2⟩ : ∃ w2 : World, w2 = { w3 with drawn := w3.drawn + 1 } := ⟨_, rfl⟩
      have HB2 : Hid (Below w3.heap.size w3 w2) := by rw [hw2]; exact (Below.refl _ _).drew
      have HC2 : Hid (Row w2 w1.heap.size 87 [.slice A n cap, .int .i64 (f.sure : Int)]) := HCD.out.below HB2.out HCD.out.lt
      have HK2 := Lib.hid (HKD.out.below HB2.out)
      have HBD2 : Hid (Bytes w2 (.slice A n cap) f.data) := HBD.out.same fun g hg => HB2.out.block g (HBD.out.lt hg)
      obtain ⟨d0, _⟩ := cell_of HK2.out.cell
      obtain ⟨e0, e1⟩ := cell_of HC2.out
      refine wp_region_still_tail 6 (by kernel_rfl) (by kernel_rfl) ?_
      rw [← hw2]
      clear hw2
      simp only [List.take_succ_cons, List.take_zero, List.drop_succ_cons, List.drop_zero]
      repeat still_step
      refine wpStill_nil ?_
      refine wpList_put_s _ rfl _ _ _ rfl m (dropF l f.name) pl ⟨q, f.data, f.sure⟩ (.slice A n cap) rfl HK2.out.map rfl rfl (dropF_rise HRI.out _) HQ.out HLN.out ?_
      intro w4 HM4 HG4
      have HK4 : Hid (Kept w4 b m (upd pl q (.slice A n cap)) (spent z) (withF (dropF l f.name) ⟨q, f.data, f.sure⟩) none) :=
        HK2.out.put (f := ⟨q, f.data, f.sure⟩) (.inl rfl) HBD2.out (fun g hg _ => by
          rw [← HPL.out]
          exact HK1.out.apart g ((dropF_mem _ _ _).1 hg).1 f HM.out ((dropF_mem _ _ _).1 hg).2) HQ.out HM4.out HG4.out
      have HA4 : Hid (Away S w w4) := (HA3.out.trans (Away.of HB2.out)).trans (Away.grown HG4.out (fun g e => by injection e with e; subst e; exact (H1.out _).2 (.inr (.inl rfl))))
      clear HG4 HM4
      go_wp2
      go_ret
      rw [HR.out]
      exact wrote_of H1.out rfl HK4.out rfl (blk_moved (f := ⟨q, f.data, f.sure⟩) fun g hg => .inr (.inr ⟨f, HM.out, by rw [HPL.out]; exact hg⟩)) HA4.out
    · have HR := Lib.hid (rename_not h2 hqn (hc ▸ h0))
      rw [hc] at HR
      rw [hc, (chg_not (hc ▸ h0)).1] at HCH
      have hci : ¬ (c : Int) = 0 := by omega
      have H2 := Lib.hid h2
      clear h1 h2 h3 hfit hp hq hc h0 hqn
      go_enter Tryz.func64, Tryz.ntmps64
      go_wp2_with fail
      refine HCH.out.mono ?_
      rintro e w1 ⟨rfl, hk1, ha1⟩
      have HK1 := Lib.hid hk1
      have HA1 := Lib.hid (ha1 S ((H1.out b).2 (.inl rfl)))
      clear hk1 ha1
      go_wp2
      go_ret
      rw [HR.out]
      exact wrote_of H1.out rfl HK1.out H2.out (fun q hq => .inl hq) HA1.out
end Dk
end Go.Proofs.YtogpigfepebibaaGreatDoor

namespace Go.Proofs.YtogpigfepebibaaGreatDoor
namespace Dk
open Go.RowKit Go.ChangeShapes Kr Go.Maps

theorem byte_row : (Tryz.prog.info? 5).map (fun i => (i.zero, i.size, i.bytes)) = some (some (.int .u8 0), 1, 1) := by kernel_rfl
theorem cells_append (d x : ByteArray) : Lib.strCells (d ++ x) = Lib.strCells d ++ Lib.strCells x := by
  unfold Lib.strCells
  rw [app_data, List.map_append]
/-- Behind an append: the bytes, and where they lie. -/
def Went (w w' : World) (v v' : Value) : Prop := w.grownBy w' v.ownBlock ∧ (v'.ownBlock = v.ownBlock ∨ ∃ g, v'.ownBlock = some g ∧ w.heap.size ≤ g)
set_option maxRecDepth 100000 in
theorem append_str (w : World) (v : Value) (d x : ByteArray) (ty : TypeId) (h : Bytes w v d) (hs : d.size + x.size ≤ 1000000) :
    ∃ v' w', (Builtin.append_ #[76, 9] ty #[v, .string x]).run Tryz.prog w = .ok v' w' ∧ Bytes w' v' (d ++ x) ∧ Went w w' v v' := by
  obtain ⟨i, hi, hz0, hz1, hz2⟩ := info_parts byte_row
  have hmax : d.size + x.size ≤ maxLen := Nat.le_trans hs (by decide)
  obtain ⟨v', w', hrun, h1, h2, h3⟩ := Lib.run_append_own_string (P := Tryz.prog) w 0 76 9 ty 5 i Tryz.underlying76 Tryz.underlying9 hi hz0 hz1 hz2 v d.size (Lib.strCells d) h x hmax (by omega) (Nat.zero_le _)
  refine ⟨v', w', hrun, ?_, h2, ?_⟩
  · show World.ownsRow _ _ _ _ _ _ _
    rw [ba_size_append, cells_append]
    exact h1
  · rcases h.2 with ⟨rfl, h0⟩ | ⟨g, cap, cur, rfl, _, hg, hnc, hcm, hcs, htake⟩
    · by_cases hm : x.size = 0
      · left
        rw [h3.2 ⟨rfl, hm⟩]
      · right
        have hr := run_append_nil_string (P := Tryz.prog) w 76 9 ty 5 i (.int .u8 0) Tryz.underlying76 Tryz.underlying9 hi hz0 x (by omega) (by omega) (by rw [hz2]; omega)
        rw [hr] at hrun
        injection hrun with e1 e2
        subst e1
        exact ⟨_, rfl, Nat.le_refl _⟩
    · by_cases hroom : d.size + x.size ≤ cap
      · left
        have hr := Lib.run_append_room_string (P := Tryz.prog) w 76 9 ty 5 i Tryz.underlying76 Tryz.underlying9 hi hz1 g d.size cap cur hg x hroom (by rw [hcs]; omega)
        rw [hr] at hrun
        injection hrun with e1 e2
        subst e1
        rfl
      · right
        have hr := Lib.run_append_grow_string (P := Tryz.prog) w 76 9 ty 5 i (.int .u8 0) Tryz.underlying76 Tryz.underlying9 hi hz0 ⟨g, 0, none⟩ d.size cap (Lib.strCells d) (by rw [hz1, Lib.strCells_length]; omega) (h.cells (g := g) rfl) x (by omega) (by omega) (by rw [hz2]; exact growslice_fits (by omega) (by omega))
        rw [hr] at hrun
        injection hrun with e1 e2
        subst e1
        exact ⟨_, rfl, Nat.le_refl _⟩
/-- append(v, x...), at the operation. -/
theorem wpList_append_s (w : World) {ops : Array Oper} {rest : List Oper} {o : Oper} {a : Act} {Q : Exit → Act → World → Prop} (hg : o.guard = none) (sl xo : Operand) (hop : o.op = Op.call { callee := Callee.builtin Builtin.append, args := #[sl, xo], argTypes := #[76, 9] })
    (v : Value) (d x : ByteArray) (hv : a.eval sl = v) (hx : a.eval xo = .string x) (h : Bytes w v d) (hs : d.size + x.size ≤ 1000000)
    (hK : ∀ v' w', Hid (Bytes w' v' (d ++ x)) → Hid (Went w w' v v') → wpList Tryz.prog ops Q rest (a.put o.dst v') w') : wpList Tryz.prog ops Q (o :: rest) a w := by
  refine wpList_plain hg fun K' hK' => ?_
  obtain ⟨v', w', hrun, h1, h2⟩ := append_str w v d x o.type h hs
  unfold Oper.wp
  simp [execOp, hop, resolve, invoke, builtin, hv, hx, hrun, Result.andThen]
  exact hK' _ _ (hK v' w' h1 h2)
theorem Kept.keep {w w' : World} {b m : Nat} {pl : ByteArray → Value} {z : Int} {l : List FF} {hole : Option ByteArray} (h : Kept w b m pl z l hole) (hs : ∀ q, Blk b m pl l q → w'.heap[q]? = w.heap[q]?) : Kept w' b m pl z l hole :=
  ⟨(hs b (.inl rfl)).trans h.cell, h.map.same (hs m (.inr (.inl rfl))), fun f hf hh => (h.rows f hf hh).same fun g hg => hs g (.inr (.inr ⟨f, hf, hg⟩)), h.apart, h.names⟩
/-- What stands at a name, or nothing. -/
theorem Kept.here {w : World} {b m : Nat} {pl : ByteArray → Value} {z : Int} {l : List FF} (h : Kept w b m pl z l none) (p : ByteArray) {N : Nat} (hN : ∀ f ∈ l, f.data.size ≤ N) :
    ∃ A n cap d k, foundV l pl p = .agg #[.slice A n cap, .int .i64 ((k : Nat) : Int)] ∧ d.size ≤ N ∧ Bytes w (.slice A n cap) d ∧ (∀ x, addF l p x = ⟨p, d ++ x, k⟩) ∧ ((Value.slice A n cap).ownBlock = none ∨ ∃ f ∈ l, f.name = p ∧ pl p = .slice A n cap) := by
  cases ha : at? l p with
  | none =>
    refine ⟨none, 0, 0, nul, 0, found_none ha, Nat.zero_le _, World.ownsRow_nil _ _ _ _, fun x => ?_, .inl rfl⟩
    unfold addF
    rw [ha]; rfl
  | some f =>
    obtain ⟨A, cap, hpl, hf, hby⟩ := h.found ha
    refine ⟨A, f.data.size, cap, f.data, f.sure, hf, hN f (at_mem ha), hby, fun x => ?_, .inr ⟨f, at_mem ha, at_name ha, hpl⟩⟩
    unfold addF
    rw [ha, ← at_name ha]; rfl
theorem away_new {S : Nat → Prop} {w w' : World} (h : Away S w w') {p : Addr} (hp : w.heap.size ≤ p.block) (v : Value) : Away S w (w'.setCell p v) :=
  ⟨h.os, h.tape, h.output, by simpa using h.size, fun q hq hn => (Below.heap_setCell w' p v q (by omega)).trans (h.block q hq hn)⟩

set_option maxRecDepth 100000 in
set_option maxHeartbeats 4000000 in
theorem prog_append (w : World) (S : Nat → Prop) (b : Nat) (D : DD) (p x : ByteArray) (h : Rd w S b D) (hfit : Fits D) (hp : NB p) (hx : x.size ≤ 90000) :
    Calls Tryz.prog 18 #[ptr b, .string p, .string x] w (Wrote Rd S b (appendV D p x).1 w (.int .i64 ((appendV D p x).2 : Int))) := by
  obtain ⟨l, L⟩ := D
  obtain ⟨m, pl, z, h1, h2, h3⟩ := h
  have H1 := Lib.hid h1
  by_cases hpn : p = nul
  · have he : p.toList.isEmpty = true := by rw [emptyB]; exact decide_eq_true hpn
    have HR : Hid (appendV ⟨l, L⟩ p x = (⟨l, L⟩, 1)) := by show _ = _; unfold appendV; rw [if_pos hpn]
    have HK := Lib.hid h3
    have H2 := Lib.hid h2
    clear h1 h2 h3 hfit hp hpn
    go_enter Tryz.func18, Tryz.ntmps18
    go_wp2
    go_ret
    rw [HR.out]
    exact wrote_of H1.out rfl HK.out H2.out (fun q hq => .inl hq) (Away.refl S w)
  · have he : p.toList.isEmpty = false := by rw [emptyB]; exact decide_eq_false hpn
    have HSP := Lib.hid (prog_spend w b m pl z l none h3 (high_of h2 hfit.high))
    by_cases hz : z = 0
    · have HR : Hid (appendV ⟨l, L⟩ p x = (⟨l, L⟩, 18)) := by show _ = _; unfold appendV; rw [if_neg hpn]; exact pass_no h2 hz
      rw [if_pos hz, show spent z = z by unfold spent; split <;> omega] at HSP
      have H2 := Lib.hid h2
      clear h1 h2 h3 hfit hp hpn hz
      go_enter Tryz.func18, Tryz.ntmps18
      go_wp2_with fail
      refine HSP.out.mono ?_
      rintro e w1 ⟨rfl, hk1, ha1⟩
      have HK1 := Lib.hid hk1
      have HA1 := Lib.hid (ha1 S ((H1.out b).2 (.inl rfl)))
      clear hk1 ha1
      go_wp2
      go_ret
      rw [HR.out]
      exact wrote_of H1.out rfl HK1.out H2.out (fun q hq => .inl hq) HA1.out
    · rw [if_neg hz] at HSP
      obtain ⟨A, n, cap, d, k, hf, hdn, _, hadd, hpl⟩ := h3.here p (N := 90000) hfit.size
      have HR : Hid (appendV ⟨l, L⟩ p x = (⟨withF l ⟨p, d ++ x, k⟩, if spent z < 0 then -1 else spent z⟩, 0)) := by
        show _ = _; unfold appendV; rw [if_neg hpn, ← hadd]; exact pass_yes h2 hz
      have HF := Lib.hid hf
      have HPL := Lib.hid hpl
      have HBYE : Hid (∀ W, Kept W b m pl (spent z) l none → Bytes W (.slice A n cap) d) := fun W hW => by
        obtain ⟨A', n', cap', d', k', hf', _, hby', hadd', _⟩ := hW.here p (N := 90000) hfit.size
        rw [hf] at hf'
        injection hf' with e1
        have e2 := congrArg Array.toList e1
        injection e2 with e3 e4
        have e5 := (hadd nul).symm.trans (hadd' nul)
        injection e5 with _ e6 _
        rw [app_nul, app_nul] at e6
        rw [e3, e6]
        exact hby'
      have HRI : Hid (Rise l) := hfit.rise
      have HLN : Hid (l.length ≤ 100000) := Nat.le_trans hfit.len (by decide)
      have HP := Lib.hid hp
      have hsz : d.size + x.size ≤ 1000000 := by omega
      have HSZ := Lib.hid hsz
      clear hz hf hpl hadd h1 h2 h3 hfit hp hpn hdn hsz hx
      go_enter Tryz.func18, Tryz.ntmps18
      go_wp2_with fail
      refine HSP.out.mono ?_
      rintro e w1 ⟨rfl, hk1, ha1⟩
      obtain ⟨c0, _⟩ := cell_of hk1.cell
      have hlk := (hk1.map.look p HP.out).2
      rw [HF.out] at hlk
      have HK1 := Lib.hid hk1
      have HA1 := Lib.hid (ha1 S ((H1.out b).2 (.inl rfl)))
      have HB1 : Hid (Below w1.heap.size w1 (w1.alloc (.cells #[.slice A n cap, .int .i64 (k : Int)] 87))) := (Below.refl _ _).alloc (Nat.le_refl _) _
      have HKA := Lib.hid (HK1.out.below HB1.out)
      have HCA : Hid (Row (w1.alloc (.cells #[.slice A n cap, .int .i64 (k : Int)] 87)) w1.heap.size 87 [.slice A n cap, .int .i64 (k : Int)]) := Row.new_at w1 _ _ _ rfl rfl
      have HBY := Lib.hid (HBYE.out _ HKA.out)
      have HBY1 := Lib.hid (HBYE.out _ HK1.out)
      clear hk1 ha1 HBYE
      go_wp2_with (refine wpList_append_s _ rfl _ _ rfl (.slice A n cap) d x rfl rfl HBY.out HSZ.out ?_)
      intro v2 w2 HV2 HW2
      obtain ⟨A2, cap2, hv2⟩ := HV2.out.form
      obtain ⟨n2, hn2⟩ : ∃ n2, (d ++ x).size = n2 := ⟨_, rfl⟩
      rw [hn2] at hv2
      clear hn2
      subst hv2
      have HG2 := Lib.hid HW2.out.1
      have HL2 := Lib.hid HW2.out.2
      have HS2 : Hid (w1.heap.size + 1 ≤ w2.heap.size) := by have h := HG2.out.size; rw [World.size_alloc] at h; exact h
      have HKW : Hid (Kept w2 b m pl (spent z) l (some p)) := HKA.out.but HG2.out (HPL.out.imp id (fun ⟨f, h1, h2, h3⟩ => ⟨f, h1, h2, by rw [h3]⟩))
      have HCW : Hid (Row w2 w1.heap.size 87 [.slice A n cap, .int .i64 (k : Int)]) := HCA.out.grown HG2.out (fun e => Nat.lt_irrefl _ (HBY1.out.lt e.symm))
      have HA2 : Hid (Away S w w2) := (HA1.out.trans (Away.of HB1.out)).trans (Away.grown HG2.out (fun g e => by
        rcases HPL.out with h | ⟨f, h4, h5, h6⟩
        · rw [h] at e; cases e
        · exact (H1.out g).2 (.inr (.inr ⟨f, h4, by rw [h5, h6]; exact e⟩))))
      have g0 := HCW.out.frozen 0
      obtain ⟨e0, e1⟩ := cell_of HCW.out
      clear hlk c0 HW2
      go_wp2_with fail
      obtain ⟨w3, hw3⟩ : ∃ w3 : World, w3 = { (w2.setCell ⟨w1.heap.size, 0, none⟩ (.slice A2 n2 cap2)) with drawn := (w2.setCell ⟨w1.heap.size, 0, none⟩ (.slice A2 n2 cap2)).drawn + 1 } := ⟨_, rfl⟩
      have HE3 : Hid (∀ q, q ≠ w1.heap.size → w3.heap[q]? = w2.heap[q]?) := fun q hq => by rw [hw3]; exact Below.heap_setCell w2 ⟨w1.heap.size, 0, none⟩ _ q hq
      have HK3 : Hid (Kept w3 b m pl (spent z) l (some p)) := HKW.out.keep fun q hq => HE3.out q (Nat.ne_of_lt (HK1.out.lt q hq))
      have HC3 : Hid (Row w3 w1.heap.size 87 [.slice A2 n2 cap2, .int .i64 (k : Int)]) := by rw [hw3]; exact HCW.out.set 0 _
      have HA3 : Hid (Away S w w3) := by rw [hw3]; exact (away_new HA2.out (p := ⟨w1.heap.size, 0, none⟩) HA1.out.size _).trans (Away.of (Below.refl _ _).drew)
      have HNE : Hid (∀ g, (Value.slice A2 n2 cap2).ownBlock = some g → ((Value.slice A n cap).ownBlock = some g ∧ g < w1.heap.size) ∨ w1.heap.size + 1 ≤ g) := fun g hg => by
        rcases HL2.out with h | ⟨g', h4, h5⟩
        · rw [h] at hg
          exact .inl ⟨hg, HBY1.out.lt hg⟩
        · rw [World.size_alloc] at h5
          rw [hg] at h4
          injection h4 with h4
          exact .inr (by omega)
      have HV3 : Hid (Bytes w3 (.slice A2 n2 cap2) (d ++ x)) := HV2.out.same fun g hg => HE3.out g (by rcases HNE.out g hg with h | h <;> omega)
      clear e0 e1 g0
      obtain ⟨d0, _⟩ := cell_of HK3.out.cell
      obtain ⟨e0, e1⟩ := cell_of HC3.out
      refine wp_region_still_tail 6 (by kernel_rfl) (by kernel_rfl) ?_
      rw [← hw3]
      clear hw3
      simp only [List.take_succ_cons, List.take_zero, List.drop_succ_cons, List.drop_zero]
      repeat still_step
      refine wpStill_nil ?_
      refine wpList_put_s _ rfl _ _ _ rfl m l pl ⟨p, d ++ x, k⟩ (.slice A2 n2 cap2) rfl HK3.out.map rfl rfl HRI.out HP.out HLN.out ?_
      intro w4 HM4 HG4
      have HK4 : Hid (Kept w4 b m (upd pl p (.slice A2 n2 cap2)) (spent z) (withF l ⟨p, d ++ x, k⟩) none) :=
        HK3.out.put (f := ⟨p, d ++ x, k⟩) (.inr rfl) HV3.out (fun g hg hgn => by
          cases ho : (pl g.name).ownBlock with
          | none => exact .inl ho
          | some q =>
            refine .inr fun e => ?_
            rw [ho] at e
            have hq := HK1.out.lt q (.inr (.inr ⟨g, hg, ho⟩))
            rcases HNE.out q e.symm with ⟨h, _⟩ | h
            · rcases HPL.out with h2 | ⟨f, h4, h5, h6⟩
              · rw [h2] at h; cases h
              · rcases HK1.out.apart g hg f h4 (by rw [h5]; exact hgn) with h7 | h7
                · rw [ho] at h7; cases h7
                · exact h7 (by rw [ho, h5, h6, h])
            · omega) HP.out HM4.out HG4.out
      have HA4 : Hid (Away S w w4) := HA3.out.trans (Away.grown HG4.out (fun g e => by injection e with e; subst e; exact (H1.out _).2 (.inr (.inl rfl))))
      clear HG4 HM4
      go_wp2
      go_ret
      rw [HR.out]
      refine wrote_of H1.out rfl HK4.out rfl (blk_put (f := ⟨p, d ++ x, k⟩) fun g hg => ?_) HA4.out
      rcases HNE.out g hg with ⟨h, _⟩ | h
      · rcases HPL.out with h2 | ⟨f, h4, h5, h6⟩
        · rw [h2] at h; cases h
        · exact .inl (.inr (.inr ⟨f, h4, by rw [h5, h6]; exact h⟩))
      · exact .inr (by have := HA1.out.size; omega)
end Dk
end Go.Proofs.YtogpigfepebibaaGreatDoor
