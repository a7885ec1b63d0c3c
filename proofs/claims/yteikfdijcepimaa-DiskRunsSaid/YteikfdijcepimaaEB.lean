/-
  Layer 7 (disk): the program's New, Budget, Read, and its own spend, change.
-/
import Derived.Test.YteikfdijcepimaaEA
import Derived.Test.YteikfdijcepimaaDG
namespace Go.Proofs.Yteikfdijcepimaa
namespace Dk
open Go.RowKit Go.ChangeShapes Kr Go.Maps

theorem ba_nul {d : ByteArray} (h : d.size = 0) : d = nul := ba_eq (List.eq_nil_of_length_eq_zero h)
theorem conv_bytes {w : World} {A : Option Addr} {n cap : Nat} {d : ByteArray} (h : Bytes w (.slice A n cap) d) (hn : d.size = n) : (convert 63 9 (.slice A n cap)).run Try.prog w = .ok (.string d) w := by
  cases A with
  | none =>
    have h0 : d.size = 0 := by
      rcases h.2 with ⟨_, h0⟩ | ⟨g, c, cur, hv, _⟩
      · exact h0
      · cases hv
    obtain rfl := ba_nul h0
    exact run_convert_bytes_nil w 63 5 Try.underlying63 Try.underlying5 n cap 9 Try.underlying9
  | some a =>
    have hg : ∃ g, a = ⟨g, 0, none⟩ := by
      rcases h.2 with ⟨hv, _⟩ | ⟨g, c, cur, hv, _⟩
      · cases hv
      · injection hv with hv; injection hv with hv; exact ⟨g, hv⟩
    obtain ⟨g, rfl⟩ := hg
    have h2 := run_convert_bytes_back (P := Try.prog) w 63 9 5 ⟨g, 0, none⟩ cap d.data.toList Try.underlying63 Try.underlying5 Try.underlying9 (fun j hj => by
      refine h.cells (g := g) rfl j _ ?_
      unfold Lib.strCells
      rw [List.getElem?_map, List.getElem?_eq_getElem hj]
      rfl)
    have e : d.data.toList.length = n := hn
    rw [e] at h2
    exact h2
theorem Kept.found {w : World} {b m : Nat} {pl : ByteArray → Value} {z : Int} {l : List FF} {p : ByteArray} {f : FF} (h : Kept w b m pl z l none) (ha : at? l p = some f) : ∃ A cap, pl p = .slice A f.data.size cap ∧ foundV l pl p = .agg #[.slice A f.data.size cap, .int .i64 (f.sure : Int)] ∧ Bytes w (.slice A f.data.size cap) f.data := by
  have hr := h.rows f (at_mem ha) (by simp)
  obtain ⟨A, cap, hv⟩ := hr.form
  rw [hv] at hr
  refine ⟨A, cap, by rw [← hv, at_name ha], ?_, hr⟩
  unfold foundV
  rw [ha]
  show fval (pl f.name) f.sure = _
  rw [hv]; rfl
theorem found_none {l : List FF} {pl : ByteArray → Value} {p : ByteArray} (ha : at? l p = none) : foundV l pl p = .agg #[.slice none 0 0, .int .i64 0] := by
  unfold foundV
  rw [ha]; rfl

set_option maxRecDepth 100000 in
set_option maxHeartbeats 4000000 in
theorem prog_new (w : World) : Calls Try.prog 9 #[] w fun e w' => ∃ b S, e = .returned (ptr b) ∧ Rd w' S b newV ∧ (∀ q, S q → w.heap.size ≤ q) ∧ Below w.heap.size w w' := by
  have hmm := @run_makeMap Try.prog
  go_enter Try.func9, Try.ntmps9
  go_wp2
  go_ret
  refine ⟨w.heap.size + 1, Blk (w.heap.size + 1) w.heap.size (fun _ => undef) [], ?_, ⟨w.heap.size, fun _ => undef, -1, fun q => Iff.rfl, by decide, ⟨?_, ?_, fun f hf => by simp [newV] at hf, fun f hf => by simp [newV] at hf, fun f hf => by simp [newV] at hf⟩⟩, ?_, ?_⟩
  · rfl
  · have h := (MapKept.heap_alloc (w.alloc (.map #[] 0)) (.cells #[.map (some w.heap.size), .int .i64 (-1)] 58)).1
    rw [World.size_alloc] at h
    exact h
  · exact (SMap.made w _).same (Below.heap_alloc _ _ _ (by rw [World.size_alloc]; omega))
  · rintro q (rfl | rfl | ⟨f, hf, _⟩)
    · omega
    · omega
    · simp at hf
  · exact ((Below.refl _ _).alloc (Nat.le_refl _) _).alloc (by simp) _

/-- How many calls are left behind one that passes. -/
def spent (z : Int) : Int := if 0 < z then z - 1 else z
theorem left_zero {L z : Int} (h : L = if z < 0 then -1 else z) : L = 0 ↔ z = 0 := by split at h <;> omega
theorem left_spent {L z : Int} (h : L = if z < 0 then -1 else z) : (if 0 < L then L - 1 else L) = if spent z < 0 then -1 else spent z := by
  unfold spent
  split at h <;> (repeat' split) <;> omega
theorem away_cell {S : Nat → Prop} {b : Nat} (hb : S b) (w : World) (o : Nat) (v : Value) : Away S w (w.setCell ⟨b, o, none⟩ v) :=
  ⟨rfl, rfl, rfl, by simp, fun q _ hn => Below.heap_setCell w ⟨b, o, none⟩ v q (fun e => hn (by rw [e]; exact hb))⟩
theorem Away.refl (S : Nat → Prop) (w : World) : Away S w w := Away.of (Below.refl _ _)
theorem frozen_of {w : World} {b : Nat} {u v : Value} {t : TypeId} (h : w.heap[b]? = some (.cells #[u, v] t (0, 0))) (j : Nat) : w.frozen? ⟨b, j, none⟩ = false := Row.frozen (l := [u, v]) h j

set_option maxRecDepth 100000 in
set_option maxHeartbeats 4000000 in
theorem prog_spend (w : World) (b m : Nat) (pl : ByteArray → Value) (z : Int) (l : List FF) (hole : Option ByteArray) (h : Kept w b m pl z l hole) (hz : z ≤ 9223372036854775807) :
    Calls Try.prog 33 #[ptr b] w fun e w' => e = .returned (.int .i64 ((if z = 0 then 18 else 0 : Nat) : Int)) ∧ Kept w' b m pl (spent z) l hole ∧ ∀ S : Nat → Prop, S b → Away S w w' := by
  obtain ⟨c0, c1⟩ := cell_of h.cell
  have f1 := frozen_of h.cell 1
  have HK := Lib.hid h
  clear h
  by_cases h0 : z = 0
  · subst h0
    go_enter Try.func33, Try.ntmps33
    go_wp2
    go_ret
    exact ⟨rfl, HK.out, fun S _ => Away.refl S w⟩
  · rw [if_neg h0]
    by_cases h1 : 0 < z
    · have HS : Hid (spent z = z - 1) := by show _ = _; unfold spent; rw [if_pos h1]
      go_enter Try.func33, Try.ntmps33
      go_wp2
      go_ret
      refine ⟨rfl, ?_, fun S hS => away_cell hS _ _ _⟩
      rw [HS.out]
      exact HK.out.left _
    · have HS : Hid (spent z = z) := by show _ = _; unfold spent; rw [if_neg h1]
      go_enter Try.func33, Try.ntmps33
      go_wp2
      go_ret
      rw [HS.out]
      exact ⟨rfl, HK.out, fun S _ => Away.refl S w⟩

/-- What tells why nothing can be done with a file that has to be there. -/
def chg (l : List FF) (p : ByteArray) (z : Int) : Nat := if p = nul then 1 else if (at? l p).isSome = true then (if z = 0 then 18 else 0) else 10
def chz (l : List FF) (p : ByteArray) (z : Int) : Int := if chg l p z = 0 then spent z else z

set_option maxRecDepth 100000 in
set_option maxHeartbeats 4000000 in
theorem prog_change (w : World) (b m : Nat) (pl : ByteArray → Value) (z : Int) (l : List FF) (p : ByteArray) (h : Kept w b m pl z l none) (hz : z ≤ 9223372036854775807) (hp : NB p) :
    Calls Try.prog 35 #[ptr b, .string p] w fun e w' => e = .returned (.int .i64 (chg l p z : Int)) ∧ Kept w' b m pl (chz l p z) l none ∧ ∀ S : Nat → Prop, S b → Away S w w' := by
  obtain ⟨c0, c1⟩ := cell_of h.cell
  have HK := Lib.hid h
  have HL := Lib.hid (fun W (hm : SMap W m l pl) => (hm.look p hp).1)
  by_cases h0 : p = nul
  · have he : p.toList.isEmpty = true := by rw [emptyB]; exact decide_eq_true h0
    have HC : Hid (chg l p z = 1) := by show _ = _; unfold chg; rw [if_pos h0]
    have HZ : Hid (chz l p z = z) := by show _ = _; unfold chz; rw [HC.out]; rfl
    clear h0 h hp
    go_enter Try.func35, Try.ntmps35
    go_wp2
    go_ret
    rw [HC.out, HZ.out]
    exact ⟨rfl, HK.out, fun S _ => Away.refl S w⟩
  · have he : p.toList.isEmpty = false := by rw [emptyB]; exact decide_eq_false h0
    cases ha : at? l p with
    | none =>
      have HC : Hid (chg l p z = 10) := by show _ = _; unfold chg; rw [if_neg h0, ha]; rfl
      have HZ : Hid (chz l p z = z) := by show _ = _; unfold chz; rw [HC.out]; rfl
      have hlk := HL.out w HK.out.map
      rw [found_none ha, ha] at hlk
      clear h0 h hp ha
      go_enter Try.func35, Try.ntmps35
      go_wp2
      go_ret
      rw [HC.out, HZ.out]
      have hb := (Below.refl w.heap.size w).alloc (Nat.le_refl _) (.cells #[.slice none 0 0, .int .i64 0] 65)
      exact ⟨rfl, HK.out.below hb, fun S _ => Away.of hb⟩
    | some f =>
      obtain ⟨A, cap, hpl, hf, hby⟩ := h.found ha
      have HC : Hid (chg l p z = if z = 0 then 18 else 0) := by show _ = _; unfold chg; rw [if_neg h0, ha]; rfl
      have HZ : Hid (chz l p z = spent z) := by
        show _ = _; unfold chz; rw [HC.out]
        by_cases h1 : z = 0
        · subst h1; rfl
        · rw [if_neg h1]; rfl
      have hlk := HL.out w HK.out.map
      rw [hf, ha] at hlk
      obtain ⟨n, hn⟩ : ∃ n, n = f.data.size := ⟨_, rfl⟩
      rw [← hn] at hlk
      have hb := (Below.refl w.heap.size w).alloc (Nat.le_refl _) (.cells #[.slice A n cap, .int .i64 (f.sure : Int)] 65)
      have HB := Lib.hid hb
      have HSP := Lib.hid (prog_spend _ b m pl z l none (HK.out.below hb) hz)
      obtain ⟨c, hc⟩ : ∃ c : Nat, (if z = 0 then 18 else 0) = c := ⟨_, rfl⟩
      rw [hc] at HSP HC
      clear h0 h hp ha hpl hf hby hn hb hc
      go_enter Try.func35, Try.ntmps35
      go_wp2_with fail
      refine HSP.out.mono ?_
      rintro e w1 ⟨rfl, hk1, ha1⟩
      have HK1 := Lib.hid hk1
      have HA1 := Lib.hid ha1
      clear hk1 ha1
      go_wp2
      go_ret
      rw [HC.out, HZ.out]
      exact ⟨rfl, HK1.out, fun S hS => (Away.of HB.out).trans (HA1.out S hS)⟩
end Dk
end Go.Proofs.Yteikfdijcepimaa
