/-
  Layer 7 (disk): the program's Names. Layer 7 (disk): the program's remainder; slices.Clone at bytes; a slice's front. Layer 7 (disk): the program's Crash. Layer 7 (disk): the landed disk keeps what the laws ask.
-/
import Derived.Test.YtogpigfepebibaaGreatDoorMEB
import Derived.Test.YtogpigfepebibaaGreatDoorMIter
import Derived.Test.YtogpigfepebibaaGreatDoorMDO
import Derived.Deep.RegionHeld3
import Derived.BigQuiet
namespace Go.Proofs.YtogpigfepebibaaGreatDoor
namespace Dk
open Go.RowKit Go.ChangeShapes Kr Go.Maps Go.Sort

theorem keys_perm {w : World} {b n : Nat} {D : DataW Value} {l : List FF} {pl : ByteArray → Value} (hown : w.ownsMap Tryz.prog 9 hold b n D) (hm : MapOf D l pl) (hr : Rise l) : (l.map nm).Perm (strKeys D) := by
  obtain ⟨es, hD, hpw, _⟩ := hown.entries keyed
  obtain ⟨es', hD', hko⟩ := hown.keysOf
  obtain rfl : es = es' := by rw [hD] at hD'; simpa using hD'
  subst hD
  refine perm_strKeys hpw (fun p hp => by obtain ⟨v, hv⟩ := hko p hp; obtain ⟨x, _, hx, _⟩ := Maps.keyOf_str Tryz.underlying9 hv; exact ⟨x, hx⟩) (List.pairwise_map.2 (hr.imp fun {a b} hab => ne_of hab)) fun x => ?_
  have h1 := hm.1 ⟨x.toArray⟩
  rw [show (ByteArray.mk x.toArray).data.toList = x from List.toList_toArray] at h1
  rw [h1, Option.isSome_iff_exists]
  constructor
  · intro hx
    obtain ⟨f, hf, rfl⟩ := List.mem_map.1 hx
    exact ⟨f, (at_some hr).2 ⟨hf, ba_eq (by simp)⟩⟩
  · rintro ⟨f, hf⟩
    refine List.mem_map.2 ⟨f, at_mem hf, ?_⟩
    unfold nm
    rw [at_name hf]
theorem names_sorted {l : List FF} (hr : Rise l) {ss : List Bs} (h : ss.Perm (l.map nm)) : ss.mergeSort (fun x y => decide (x ≤ y)) = l.map nm := by
  rw [mergeSort_of_perm h]
  refine List.mergeSort_of_pairwise ?_
  exact (List.pairwise_map.2 (hr.imp fun {a b} hab => decide_eq_true (le_of hab)))
theorem enc_names (l : List FF) : (l.map nm).map encStr = (l.map (·.name)).flatMap encN := by
  induction l with
  | nil => rfl
  | cons f l ih =>
    rw [List.map_cons, List.map_cons, List.map_cons, List.flatMap_cons, ih]
    rfl

set_option maxRecDepth 100000 in
set_option maxHeartbeats 4000000 in
theorem prog_names_own (w : World) (S : Nat → Prop) (b : Nat) (D : DD) (h : Rd w S b D) (hfit : Fits D) :
    Calls Tryz.prog 41 #[ptr b] w fun e w' => ∃ A cap, e = .returned (.slice A D.files.length cap) ∧ OwnsK encN 1 9 w' w.heap.size (.slice A D.files.length cap) (D.files.map (·.name)) ∧ Below w.heap.size w w' := by
  obtain ⟨m, pl, z, h1, h2, h3⟩ := h
  obtain ⟨c0, _⟩ := cell_of h3.cell
  obtain ⟨D0, hown, hm⟩ := h3.map
  have HO := Lib.hid hown
  have HPM := Lib.hid (keys_perm hown hm hfit.rise)
  have HRI : Hid (Rise D.files) := hfit.rise
  have hmax : Maps.size D0 ≤ maxLen := by rw [hm.2.2]; exact Nat.le_trans hfit.len (by decide)
  have hbytes : Maps.size D0 * 16 ≤ 140737488355328 := by have := hfit.len; rw [hm.2.2]; omega
  have HMX := Lib.hid hmax
  have HBY := Lib.hid hbytes
  clear h1 h2 h3 hown hm hfit hmax hbytes
  refine (callsIn_wide (n := 6)).1 ?_
  have hfK : Fence.wide.fn 61 := trivial
  have hfS : Fence.wide.fn 60 := trivial
  refine callsIn_of_wp Tryz.func41 rfl trivial ?_ rfl
  simp only [Tryz.ntmps41, List.size_toArray, List.length_cons, List.length_nil, Nat.reduceAdd, Nat.reduceSub, Array.replicate_succ, Array.replicate_zero, List.push_toArray, List.append_toArray, List.nil_append, List.cons_append]
  gi_wp2_with (first
    | (gi_at_call 61; refine (Tryz.maps_Keys_61 _ _).mono ?_; rintro e w' ⟨rfl, rfl⟩)
    | (gi_at_call 60; refine (Tryz.slices_Sorted_keys_60_61 m D.files.length D0 hold w HO.out HMX.out HBY.out).mono ?_; rintro e w' ⟨v, ss, rfl, hS, hrow, hnil, hb⟩))
  go_ret
  have hss := names_sorted HRI.out (hS.trans HPM.out.symm)
  have hlen : ss.length = D.files.length := by rw [(hS.trans HPM.out.symm).length_eq, List.length_map]
  rw [hss, enc_names, hlen] at hrow
  have hrow2 : OwnsK encN 1 9 w' w.heap.size v (D.files.map (·.name)) := by
    show World.ownsRow _ _ _ _ _ _ _
    rw [List.length_map]
    exact ownsRow_base_a hrow (by simp)
  obtain ⟨A, cap, hv⟩ := hrow2.form
  rw [List.length_map] at hv
  subst hv
  exact ⟨A, cap, rfl, hrow2, ((Below.refl _ w).alloc (Nat.le_refl _) _).trans (hb.mono (by simp))⟩
theorem prog_names (w : World) (S : Nat → Prop) (b : Nat) (D : DD) (h : Rd w S b D) (hfit : Fits D) :
    Calls Tryz.prog 41 #[ptr b] w fun e w' => ∃ A m cap, e = .returned (.slice A m cap) ∧ D.files.length = m ∧ NRow w' w'.heap.size A (D.files.map (·.name)) ∧ Below w.heap.size w w' :=
  (prog_names_own w S b D h hfit).mono fun _ _ ⟨A, cap, h1, h2, h3⟩ => ⟨A, _, cap, h1, rfl, h2.row encN_length, h3⟩
end Dk
end Go.Proofs.YtogpigfepebibaaGreatDoor

namespace Go.Proofs.YtogpigfepebibaaGreatDoor
namespace Dk
open Go.RowKit Go.ChangeShapes Kr Go.Maps

set_option maxRecDepth 100000 in
set_option maxHeartbeats 4000000 in
theorem prog_rem (z : Int) (nn : Nat) (w : World) (hn : 0 < nn) (hb : nn ≤ 1000001) : Calls Tryz.prog 42 #[.int .i64 z, .int .i64 (nn : Int)] w fun e w' => e = .returned (.int .i64 (z % (nn : Int))) ∧ w' = w := by
  have hnz : ((nn : Int) == 0) = false := beq_eq_false_iff_ne.2 (by omega)
  have hnz2 : ¬ nn = 0 := by omega
  have ht := Int.tmod_eq_emod (a := z) (b := nn)
  have h1 := Int.emod_nonneg z (show (nn : Int) ≠ 0 by omega)
  have h2 := Int.emod_lt_of_pos z (show (0 : Int) < nn by omega)
  have ht1 := Int.tmod_lt_of_pos z (show (0 : Int) < nn by omega)
  have ht2 := tmod_low z nn hn
  generalize hE : z % (nn : Int) = E at ht h1 h2
  generalize hT : Int.tmod z nn = t at ht ht1 ht2
  have hcase : (t < 0 ∧ t + nn = E) ∨ (¬ t < 0 ∧ t = E) := by
    rw [Int.natAbs_natCast] at ht
    split at ht
    · exact .inr ⟨by omega, by omega⟩
    · exact .inl ⟨by omega, by omega⟩
  clear ht hE
  rcases hcase with ⟨hc, he⟩ | ⟨hc, he⟩
  · have hw := wrap_id (t + nn) (by omega)
    have HE := Lib.hid he
    clear he
    go_enter Tryz.func42, Tryz.ntmps42
    go_wp2
    go_ret
    rw [← HE.out]
    exact ⟨rfl, rfl⟩
  · have HE := Lib.hid he
    clear he
    go_enter Tryz.func42, Tryz.ntmps42
    go_wp2
    go_ret
    rw [← HE.out]
    exact ⟨rfl, rfl⟩

/-- The first bytes at an address. -/
def Front (w : World) (A : Option Addr) (e : ByteArray) : Prop := (A = none → e.size = 0) ∧ ∀ a, A = some a → ∀ j u, (Lib.strCells e)[j]? = some u → w.cell? (a.add j) = some u
theorem Bytes.front {w : World} {A : Option Addr} {n cap : Nat} {d : ByteArray} (h : Bytes w (.slice A n cap) d) (s : Nat) : Front w A (d.extract 0 s) := by
  have hpre : ∀ j u, (Lib.strCells (d.extract 0 s))[j]? = some u → (Lib.strCells d)[j]? = some u := fun j u hu => by
    unfold Lib.strCells at hu ⊢
    rw [ext_front, List.map_take, List.getElem?_take] at hu
    split at hu
    · exact hu
    · cases hu
  refine ⟨fun e => ?_, fun a e j u hu => ?_⟩
  · subst e
    rcases h.2 with ⟨_, h0⟩ | ⟨g, c, cur, hv, _⟩
    · rw [ByteArray.size_extract]; omega
    · cases hv
  · subst e
    rcases h.2 with ⟨hv, _⟩ | ⟨g, c, cur, hv, _⟩
    · cases hv
    · injection hv with hv
      injection hv with hv
      subst hv
      exact h.cells (g := g) rfl j u (hpre j u hu)
theorem Front.below {w w' : World} {A : Option Addr} {e : ByteArray} (h : Front w A e) (hb : Below w.heap.size w w') : Front w' A e :=
  ⟨h.1, fun a ha j u hu => (hb.cell (p := a.add j) (World.block_lt_of_cell? w _ (h.2 a ha j u hu))).trans (h.2 a ha j u hu)⟩
theorem cells_one (e : ByteArray) : ∀ u ∈ Lib.strCells e, u.oneCell' = true := Lib.strCells_oneCell e

set_option maxRecDepth 100000 in
set_option maxHeartbeats 2000000 in
theorem clone_bytes (A : Option Addr) (cap n : Nat) (e : ByteArray) (w : World) (hn : e.size = n) (hnm : n ≤ 1000000) (hx : Front w A e) :
    Calls Tryz.prog 43 #[.slice A n cap] w fun z w' => ∃ A' cap', z = .returned (.slice A' n cap') ∧ w'.ownsRow w.heap.size 5 1 (.slice A' n cap') n (Lib.strCells e) ∧ Below w.heap.size w w' := by
  obtain ⟨i0, hi, hz0, hz1, hz2⟩ := info_parts byte_row
  cases A with
  | none =>
    have h0 : n = 0 := hn.symm.trans (hx.1 rfl)
    subst h0
    have hnil := Lib.run_eql_slice_nil (P := Tryz.prog) w 76 5 none 0 cap 0 0 Tryz.underlying76
    have HE : Hid (Lib.strCells e = []) := List.eq_nil_of_length_eq_zero (by rw [Lib.strCells_length]; exact hn)
    clear hx hn
    go_enter Tryz.func43, Tryz.ntmps43
    go_wp2
    go_ret
    refine ⟨none, 0, rfl, ?_, Below.refl _ _⟩
    rw [HE.out]
    exact World.ownsRow_nil _ _ _ _
  | some a =>
    have HX := Lib.hid (hx.2 a rfl)
    have HN : Hid ((Lib.strCells e).length = n * 1) := by show _ = _; rw [Lib.strCells_length, hn, Nat.mul_one]
    have HO0 : Hid ((w.alloc (.cells #[] 5)).ownsRow w.heap.size 5 1 (.slice (some ⟨w.heap.size, 0, none⟩) 0 0) 0 []) :=
      World.ownsRow_lit (base := w.heap.size) (e := 5) (size := 1) w #[] 0 (Nat.le_refl _) (by decide) rfl
    have HB0 : Hid (Below w.heap.size w (w.alloc (.cells #[] 5))) := (Below.refl _ _).alloc (Nat.le_refl _) _
    have hnil := Lib.run_eql_slice_nil (P := Tryz.prog) w 76 5 (some a) n cap 0 0 Tryz.underlying76
    clear hx hn
    go_enter Tryz.func43, Tryz.ntmps43
    go_wp2_with (at_builtin; refine wpList_append_own _ rfl _ _ 76 rfl (w.heap.size) 5 i0 (.int .u8 0) 1 1 Tryz.underlying76 hi hz0 hz1 hz2 rfl (by decide) _ 0 [] rfl ?c0a a n cap (Lib.strCells e) rfl ?c1l ?c1a ?c2a ?c3a ?c4a ?c5a ?_)
    case c0a => exact HO0.out
    case c1l => exact HN.out
    case c1a => exact fun j u hu => (World.cell?_alloc_lt w _ _ (World.block_lt_of_cell? w _ (HX.out j u hu))).trans (HX.out j u hu)
    case c2a => exact cells_one e
    case c3a => simp only [maxLen]; omega
    case c4a => omega
    case c5a => simp
    intro v' w2 hown' hgrow _
    have hown2 : w2.ownsRow w.heap.size 5 1 v' n (Lib.strCells e) := by simpa using hown'
    obtain ⟨A2, cap2, hv⟩ : ∃ A2 cap2, v' = .slice A2 n cap2 := by
      rcases hown2.2 with ⟨hv, h0⟩ | ⟨g, c, cur, hv, _⟩
      · exact ⟨none, 0, by rw [hv, h0]⟩
      · exact ⟨_, _, hv⟩
    subst hv
    have HO2 := Lib.hid hown2
    have HW2 := Lib.hid (HB0.out.grown hgrow (by simp) (fun q hq => (HO0.out.lt q hq).1))
    clear hown' hgrow hown2
    go_wp2
    go_ret
    exact ⟨A2, cap2, rfl, HO2.out, HW2.out⟩
set_option maxRecDepth 100000 in
/-- x[:s]. -/
theorem cut_slice {w : World} {A : Option Addr} {n cap s : Nat} {d : ByteArray} (h : Bytes w (.slice A n cap) d) (hs : s ≤ d.size) : ∀ W, (Instr.sliceAt 76 (.slice A n cap) none (some (.int .i64 (s : Int))) none).run Tryz.prog W = .ok (.slice A s cap) W := fun W => by
  have hu : Tryz.prog.underlying 76 = some (.slice (Tryz.prog.elem 76)) := by kernel_rfl
  have hz : (sizeOf (Tryz.prog.elem 76)).run Tryz.prog W = .ok 1 W := Tryz.sizeOf5 W
  have hc : s ≤ cap := by
    rcases h.2 with ⟨hv, h0⟩ | ⟨g, c, cur, hv, _, _, hn, _⟩
    · omega
    · injection hv with _ _ hv; omega
  rw [run_sliceAt_slice _ _ _ _ _ _ hu, run_slice_h _ _ _ _ _ hu .i64 (s : Int) (by omega) (by omega), hz]
  rcases h.2 with ⟨hv, h0⟩ | ⟨g, c, cur, hv, _⟩
  · injection hv with hA _ hc'
    subst hA
    simp [sliced, Result.andThen]
  · injection hv with hA
    subst hA
    simp [sliced, Result.andThen, Addr.add]
set_option maxRecDepth 100000 in
/-- x[1:] of picks, not empty. -/
theorem step_picks {b o n cap : Nat} (h0 : 0 < n) (hc : n ≤ cap) : ∃ (A' : Option Addr) (n' c' : Nat), n = n' + 1 ∧ cap = c' + 1 ∧
    (∀ W, (Instr.sliceAt 35 (.slice (some ⟨b, o, none⟩) n cap) (some (.int .i64 1)) none none).run Tryz.prog W = .ok (.slice A' n' c') W) ∧
    ∀ w B z ps, PRow w B (some ⟨b, o, none⟩) (z :: ps) → (z :: ps).length = n → PRow w B A' ps := by
  obtain ⟨n', rfl⟩ : ∃ q, n = q + 1 := ⟨n - 1, by omega⟩
  obtain ⟨c', rfl⟩ : ∃ q, cap = q + 1 := ⟨cap - 1, by omega⟩
  refine ⟨if c' = 0 then some ⟨b, o, none⟩ else some ⟨b, o + 1, none⟩, n', c', rfl, rfl, fun W => ?_, fun w B z ps h hl => ?_⟩
  · have hu : Tryz.prog.underlying 35 = some (.slice (Tryz.prog.elem 35)) := by kernel_rfl
    have hz : (sizeOf (Tryz.prog.elem 35)).run Tryz.prog W = .ok 1 W := Tryz.sizeOf3 W
    rw [run_sliceAt_slice _ _ _ _ _ _ hu, run_slice_l _ _ _ _ _ hu .i64 1 (by omega) (by omega), hz]
    by_cases h1 : c' = 0
    · subst h1
      simp [sliced, Result.andThen]
    · simp [sliced, Result.andThen, h1, Addr.add]
  · by_cases h1 : c' = 0
    · rw [if_pos h1]
      have : ps = [] := List.eq_nil_of_length_eq_zero (by simp at hl; omega)
      subst this
      exact KRow.none_ _ _ _
    · rw [if_neg h1]
      intro j x hx
      obtain ⟨b', o', e, h2, h3⟩ := h (j + 1) x hx
      injection e with e
      injection e with e1 e2
      subst e1 e2
      refine ⟨b, o + 1, rfl, h2, fun i v hv => ?_⟩
      have h4 := h3 i v hv
      rw [show o + 1 + j * 1 + i = o + (j + 1) * 1 + i by omega]
      exact h4
end Dk
end Go.Proofs.YtogpigfepebibaaGreatDoor

namespace Go.Proofs.YtogpigfepebibaaGreatDoor
namespace Dk
open Go.RowKit Go.ChangeShapes Kr Go.Maps

theorem withF_end {L : List FF} {g : FF} (h : ∀ f ∈ L, nm f < nm g) : withF L g = L ++ [g] := by
  unfold withF
  rw [List.filter_eq_self.2 (fun f hf => decide_eq_true (h f hf)), List.filter_eq_nil_iff.2 (fun f hf => by rw [decide_eq_false (fun h2 => lt_no (lt_lt (h f hf) h2))]; simp), List.append_nil]
theorem rise_take {l : List FF} (h : Rise l) {k : Nat} {x : FF} (hx : l[k]? = some x) : ∀ f ∈ l.take k, nm f < nm x := by
  obtain ⟨hk, rfl⟩ := List.getElem?_eq_some_iff.1 hx
  have e : l.take k ++ l[k] :: l.drop (k + 1) = l := by rw [← List.drop_eq_getElem_cons hk, List.take_append_drop]
  rw [← e] at h
  exact fun f hf => (List.pairwise_append.1 h).2.2 f hf _ List.mem_cons_self
theorem crash_below {l : List FF} (h : Rise l) (ps : List Int) {k : Nat} {x g : FF} (hx : l[k]? = some x) (hg : g.name = x.name) : ∀ f ∈ crashV (l.take k) ps, nm f < nm g := by
  intro f hf
  have h1 : f.name ∈ (crashV (l.take k) ps).map (·.name) := List.mem_map.2 ⟨f, hf, rfl⟩
  rw [crash_names] at h1
  obtain ⟨y, hy, e⟩ := List.mem_map.1 h1
  have h2 := rise_take h hx y hy
  unfold nm at h2 ⊢
  rw [hg, ← e]
  exact h2
/-- Behind a file more. -/
theorem Kept.more {w w1 w' : World} {b m : Nat} {pl : ByteArray → Value} {z : Int} {L : List FF} {g : FF} {v : Value} (h : Kept w b m pl z L none) (hb : Below w.heap.size w w1) (hL : ∀ f ∈ L, nm f < nm g) (hv : Bytes w1 v g.data) (hnew : ∀ q, v.ownBlock = some q → w.heap.size ≤ q) (hg : NB g.name)
    (hm : SMap w' m (withF L g) (upd pl g.name v)) (hgr : w1.grownBy w' (some m)) : Kept w' b m (upd pl g.name v) z (L ++ [g]) none := by
  have h2 := (h.below hb).put (f := g) (.inl rfl) hv (fun f hf _ => by
    cases ho : (pl f.name).ownBlock with
    | none => exact .inl ho
    | some q =>
      refine .inr fun e => ?_
      have h3 := h.lt q (.inr (.inr ⟨f, hf, ho⟩))
      have h4 := hnew q (by rw [← e, ho])
      omega) hg hm hgr
  rw [withF_end hL] at h2
  exact h2
theorem blk_more {b m N : Nat} {pl : ByteArray → Value} {L : List FF} {g : FF} {v : Value} (hL : ∀ f ∈ L, nm f < nm g) (h : ∀ q, Blk b m pl L q → N ≤ q) (hv : ∀ q, v.ownBlock = some q → N ≤ q) : ∀ q, Blk b m (upd pl g.name v) (L ++ [g]) q → N ≤ q := by
  rintro q (rfl | rfl | ⟨f, hf, hq⟩)
  · exact h _ (.inl rfl)
  · exact h _ (.inr (.inl rfl))
  · rcases List.mem_append.1 hf with hf | hf
    · rw [upd_other (fun e => ne_of (hL f hf) (by unfold nm; rw [e]))] at hq
      exact h _ (.inr (.inr ⟨f, hf, hq⟩))
    · rw [List.mem_singleton.1 hf, upd_same] at hq
      exact hv q hq
/-- What the clone of a file's front is. -/
def Cloned (w w' : World) (v : Value) (e : ByteArray) : Prop := Bytes w' v e ∧ (∀ q, v.ownBlock = some q → w.heap.size ≤ q) ∧ Below w.heap.size w w'
theorem cloned_of {w w' : World} {v : Value} {s : Nat} {e : ByteArray} (hs : e.size = s) (h : w'.ownsRow w.heap.size 5 1 v s (Lib.strCells e)) (hb : Below w.heap.size w w') : Cloned w w' v e := by
  refine ⟨?_, fun q hq => ?_, hb⟩
  · show World.ownsRow _ _ _ _ _ _ _
    rw [hs]
    exact ⟨h.1, h.2.imp id fun ⟨g, c, cur, h1, h2, h3⟩ => ⟨g, c, cur, h1, Nat.zero_le _, h3⟩⟩
  · rcases h.2 with ⟨hv, _⟩ | ⟨g, c, cur, hv, hg, _⟩
    · subst hv; cases hq
    · subst hv; injection hq with hq; subst hq; exact hg

set_option maxRecDepth 100000 in
set_option maxHeartbeats 4000000 in
theorem prog_crash (w : World) (S : Nat → Prop) (b : Nat) (D : DD) (A : Option Addr) (n cap : Nat) (ps : List Int) (h : Rd w S b D) (hfit : Fits D) (hn : ps.length = n) (hnc : n ≤ cap) (hnm : n ≤ 90000) (hpz : ∀ z ∈ ps, -9223372036854775808 ≤ z ∧ z ≤ 9223372036854775807) (hp : PRow w w.heap.size A ps) :
    Calls Tryz.prog 16 #[ptr b, .slice A n cap] w fun e w' => ∃ b' S', e = .returned (ptr b') ∧ Rd w' S' b' ⟨crashV D.files ps, -1⟩ ∧ (∀ q, S' q → w.heap.size ≤ q) ∧ Below w.heap.size w w' := by
  obtain ⟨l, L0⟩ := D
  obtain ⟨m, pl, z, h1, h2, h3⟩ := h
  have HK := Lib.hid h3
  have HRI : Hid (Rise l) := hfit.rise
  have HSU : Hid (∀ f ∈ l, f.sure ≤ f.data.size ∧ f.data.size ≤ 90000) := fun f hf => ⟨hfit.sure f hf, hfit.size f hf⟩
  have HNAMES := Lib.hid (fun W (hb : Below w.heap.size w W) => prog_names_own W S b ⟨l, L0⟩ ⟨m, pl, z, h1, h2, h3.below hb⟩ hfit)
  have HPZ := Lib.hid hpz
  have HP := Lib.hid hp
  obtain ⟨nl, hnl⟩ : ∃ nl, l.length = nl := ⟨_, rfl⟩
  have HNL := Lib.hid hnl
  have hnlb : nl ≤ 90000 := by rw [← hnl]; exact hfit.len
  have HPN := Lib.hid hn
  replace HNAMES := Lib.hid (fun W (hb : Below w.heap.size w W) => (HNAMES.out W hb : Calls Tryz.prog _ _ W fun e w' => ∃ A cap, e = .returned (.slice A l.length cap) ∧ OwnsK encN 1 9 w' W.heap.size (.slice A l.length cap) (l.map (·.name)) ∧ Below W.heap.size W w'))
  rw [hnl] at HNAMES
  clear h1 h2 h3 hfit hpz hp hnl hn
  go_enter Tryz.func16, Tryz.ntmps16
  go_wp2_with fail
  refine (prog_new w).mono ?_
  rintro e w1 ⟨b2, S2, rfl, hr2, hS2, hb1⟩
  obtain ⟨m2, pl2, z2, h4, h5, h6⟩ := hr2
  have HK1 : Hid (Kept w1 b2 m2 pl2 z2 [] none) := h6
  have HZ2 : Hid ((-1 : Int) = if z2 < 0 then -1 else z2) := h5
  have HNW : Hid (∀ q, Blk b2 m2 pl2 [] q → w.heap.size ≤ q) := fun q hq => hS2 q ((h4 q).2 hq)
  have HB1 := Lib.hid hb1
  clear h4 h5 h6 hS2 hb1
  go_wp2_with fail
  refine (HNAMES.out w1 HB1.out).mono ?_
  rintro e w2 ⟨A1, cp1, rfl, ho1, hb2⟩
  have HO1 := Lib.hid ho1
  have HB2 := Lib.hid (HB1.out.trans (hb2.mono HB1.out.size))
  have HK2 := Lib.hid (HK1.out.below hb2)
  have HM2 : Hid (m2 < w1.heap.size) := HK1.out.map.lt
  have HS12 := Lib.hid hb2.size
  clear ho1 hb2 HNAMES
  go_wp2
  go_loopw [1, 16] (fun pk i wr => ∃ (k r cp : Nat) (A' : Option Addr) (pl' : ByteArray → Value), k ≤ nl ∧ i = .int .i64 k ∧ pk = .slice A' r cp ∧ r ≤ cp ∧ r ≤ n ∧ Hid (PRow wr w.heap.size A' (ps.drop (used (l.take k)))) ∧ Hid ((ps.drop (used (l.take k))).length = r) ∧ Hid (Kept wr b2 m2 pl' z2 (crashV (l.take k) ps) none) ∧ Hid (∀ q, Blk b2 m2 pl' (crashV (l.take k) ps) q → w.heap.size ≤ q) ∧ Hid (∀ q, q < w2.heap.size → q ≠ m2 → wr.heap[q]? = w2.heap[q]?) ∧ Hid (Below w.heap.size w wr) ∧ Hid (w2.heap.size ≤ wr.heap.size)) (fun _ i _ => nl - (intOf i).toNat)
  case atStart => exact ⟨0, n, cap, A, pl2, Nat.zero_le _, rfl, rfl, hnc, Nat.le_refl _, HP.out.below HB2.out (Nat.le_refl _), HPN.out, HK2.out, HNW.out, fun _ _ _ => rfl, HB2.out, Nat.le_refl _⟩
  case round =>
    obtain ⟨k, r, cp, A', pl', hk, rfl, rfl, hrc, hrn, HPR, HPL, HKO, HNO, HEQ, HB, HWS⟩ := hrel
    clear HK1 HNW HK2
    by_cases hlt : k < nl
    · have hki : (k : Int) < nl := by omega
      have hxk : l[k]? = some (l[k]'(by rw [HNL.out]; exact hlt)) := List.getElem?_eq_getElem _
      generalize l[k]'(by rw [HNL.out]; exact hlt) = x at hxk
      have hmem := List.mem_of_getElem? hxk
      have hat : at? l x.name = some x := (at_some HRI.out).2 ⟨hmem, rfl⟩
      have HKR := Lib.hid (HK.out.below (w' := wr) ⟨HB.out.os, HB.out.tape, HB.out.output, HB.out.size, HB.out.block⟩)
      obtain ⟨A3, cap3, hpl3, hf3, hby3⟩ := HKR.out.found hat
      have hlk := (HKR.out.map.look x.name (HK.out.names x hmem)).2
      rw [hf3] at hlk
      obtain ⟨n3, hn3⟩ : ∃ n3, x.data.size = n3 := ⟨_, rfl⟩
      obtain ⟨k3, hk3⟩ : ∃ k3, x.sure = k3 := ⟨_, rfl⟩
      have hb3 := HSU.out x hmem
      have HBY := Lib.hid hby3
      rw [hn3, hk3] at hlk hb3
      rw [hn3] at HBY
      obtain ⟨c0, _⟩ := cell_of HKR.out.cell
      have HO1R : Hid (OwnsK encN 1 9 wr w1.heap.size (.slice A1 nl cp1) (l.map (·.name))) := by
        refine ⟨HO1.out.1, HO1.out.2.imp id ?_⟩
        rintro ⟨g, c, cur, e1, e2, e3, e4⟩
        refine ⟨g, c, cur, e1, e2, (HEQ.out g (Array.getElem?_eq_some_iff.1 e3).1 (by have := HM2.out; omega)).trans e3, e4⟩
      have hxn : (l.map (·.name))[k]? = some x.name := by rw [List.getElem?_map, hxk]; rfl
      obtain ⟨b1, o1, rfl, hb1l, c2⟩ := one_cell (OwnsK.row encN_length HO1R.out) hxn rfl
      have HCB : Hid (∀ f ∈ crashV (l.take k) ps, nm f < nm x) := crash_below HRI.out ps hxk rfl
      have HCS : Hid (crashV (l.take (k + 1)) ps = crashV (l.take k) ps ++ [crash1 x (ps.drop (used (l.take k)))]) := by show _ = _; rw [take_snoc l k x hxk, crash_snoc]
      have HUN : Hid (used (l.take (k + 1)) = used (l.take k) + if x.sure < x.data.size then 1 else 0) := by show _ = _; rw [take_snoc l k x hxk, used_snoc]
      have HRL : Hid (Rise (crashV (l.take k) ps)) := crash_rise (HRI.out.sublist (List.take_sublist _ _)) ps
      have HLL : Hid ((crashV (l.take k) ps).length ≤ 100000) := by show _ ≤ _; rw [crash_len, List.length_take, HNL.out]; omega
      have HNX : Hid (NB x.name) := HK.out.names x hmem
      have HN3 := Lib.hid hn3
      have HK3 := Lib.hid hk3
      have HSX : Hid (x.sure < x.data.size ↔ k3 < n3) := by show _ ↔ _; rw [hn3, hk3]
      obtain ⟨U, hU⟩ : ∃ U, used (l.take k) = U := ⟨_, rfl⟩
      obtain ⟨L, hL⟩ : ∃ L, crashV (l.take k) ps = L := ⟨_, rfl⟩
      rw [hU] at HPR HPL HUN HCS
      rw [hL] at HKO HNO HCB HCS HRL HLL
      have HBA : Hid (Below wr.heap.size wr (wr.alloc (.cells #[.slice A3 n3 cap3, .int .i64 (k3 : Int)] 87))) := (Below.refl _ _).alloc (Nat.le_refl _) _
      have HCA : Hid (Row (wr.alloc (.cells #[.slice A3 n3 cap3, .int .i64 (k3 : Int)] 87)) wr.heap.size 87 [.slice A3 n3 cap3, .int .i64 (k3 : Int)]) := Row.new_at wr _ _ _ rfl rfl
      have HBYR : Hid (Bytes wr (.slice A3 n3 cap3) x.data) := HBY.out
      clear hxk hmem hat hpl3 hf3 hby3 hn3 hk3 hxn hU hL
      by_cases hs : k3 < n3
      · by_cases hr0 : r = 0
        · obtain rfl : r = 0 := by omega
          have HDE : Hid (ps.drop U = []) := List.eq_nil_of_length_eq_zero HPL.out
          have HZK : Hid ((ps.drop U).headD 0 = 0) := by show _ = _; rw [HDE.out]; rfl
          have HPRX : Hid (PRow wr w.heap.size A' (ps.drop (U + 1))) := by
            have e : ps.drop (U + 1) = [] := by rw [← List.drop_drop, HDE.out]; rfl
            rw [e]; exact KRow.none_ _ _ _
          have HPS : Hid (x.sure < x.data.size) := HSX.out.2 hs
          have hsi : (0 : Int) < (n3 : Int) - (k3 : Int) := by omega
          obtain ⟨nn, hnn⟩ : ∃ nn : Nat, (n3 : Int) - (k3 : Int) + 1 = nn := ⟨n3 - k3 + 1, by omega⟩
          have hnp : 0 < nn := by omega
          have hnb : nn ≤ 1000001 := by omega
          have hme := Int.emod_lt_of_pos (0 : Int) (show (0 : Int) < nn by omega)
          have hmp := Int.emod_nonneg (0 : Int) (show (nn : Int) ≠ 0 by omega)
          have hrem := fun W => prog_rem (0 : Int) nn W hnp hnb
          generalize hE : (0 : Int) % (nn : Int) = E at hme hmp hrem
          obtain ⟨k2, rfl⟩ : ∃ k2 : Nat, E = k2 := ⟨E.toNat, by omega⟩
          obtain ⟨s, hsum⟩ : ∃ s : Nat, k3 + k2 = s := ⟨_, rfl⟩
          have hsn : s ≤ n3 := by omega
          have hsumi : (k3 : Int) + (k2 : Int) = (s : Int) := by omega
          have HE := Lib.hid hE
          have HNN := Lib.hid hnn
          have HSM := Lib.hid hsum
          have HREM := Lib.hid hrem
          have hdi : (n3 : Int) - (k3 : Int) ≤ 1000000 := by omega
          clear hE hsum hrem hmp hme
          go_wp2_with fail
          refine (HREM.out _).mono ?_
          rintro e w' ⟨rfl, rfl⟩
          clear hnn hsi
          go_wp2
          have HBT : Hid (Below wr.heap.size wr (wr.alloc (.cells #[.slice A3 n3 cap3, .int .i64 (k3 : Int)] 87))) := HBA.out
          have HCT : Hid (Row (wr.alloc (.cells #[.slice A3 n3 cap3, .int .i64 (k3 : Int)] 87)) wr.heap.size 87 [.slice A3 n3 cap3, .int .i64 (k3 : Int)]) := HCA.out
          have HBD : Hid (Below wr.heap.size wr (wr.alloc (.cells #[.slice A3 n3 cap3, .int .i64 (k3 : Int)] 87)).drew) := HBT.out.drew
          have HCD : Hid (Row (wr.alloc (.cells #[.slice A3 n3 cap3, .int .i64 (k3 : Int)] 87)).drew wr.heap.size 87 [.slice A3 n3 cap3, .int .i64 (k3 : Int)]) := HCT.out
          have HKD := Lib.hid (HKO.out.below HBD.out)
          have hS0 : (wr.alloc (.cells #[.slice A3 n3 cap3, .int .i64 (k3 : Int)] 87)).drew.cell? ⟨b2, 0, none⟩ = some (.map (some m2)) ∧ (wr.alloc (.cells #[.slice A3 n3 cap3, .int .i64 (k3 : Int)] 87)).drew.cell? ⟨wr.heap.size, 0, none⟩ = some (.slice A3 n3 cap3) := ⟨(cell_of HKD.out.cell).1, (cell_of HCD.out).1⟩
          have hsl := cut_slice (s := s) HBYR.out (by rw [HN3.out]; omega)
          obtain ⟨g, hg⟩ : ∃ g : FF, g = ⟨x.name, x.data.extract 0 (s), s⟩ := ⟨_, rfl⟩
          have HGN : Hid (g.name = x.name) := by show _ = _; rw [hg]
          have HCL : Hid (Calls Tryz.prog 43 #[.slice A3 (s) cap3] (wr.alloc (.cells #[.slice A3 n3 cap3, .int .i64 (k3 : Int)] 87)).drew fun z w' => ∃ A4 cap4, z = .returned (.slice A4 (s) cap4) ∧ Cloned (wr.alloc (.cells #[.slice A3 n3 cap3, .int .i64 (k3 : Int)] 87)).drew w' (.slice A4 (s) cap4) g.data) := by
            have hes : (x.data.extract 0 (s)).size = s := by rw [ByteArray.size_extract, HN3.out]; omega
            have hfr := (HBYR.out.same (w' := (wr.alloc (.cells #[.slice A3 n3 cap3, .int .i64 (k3 : Int)] 87)).drew) fun q hq => HBD.out.block q (HBYR.out.lt hq))
            have h := clone_bytes A3 cap3 (s) (x.data.extract 0 (s)) (wr.alloc (.cells #[.slice A3 n3 cap3, .int .i64 (k3 : Int)] 87)).drew hes (by omega) (Bytes.front (n := n3) hfr (s))
            rw [hg]
            exact h.mono fun z w' ⟨A4, cap4, e1, e2, e3⟩ => ⟨A4, cap4, e1, cloned_of hes e2 e3⟩
          have HPUT : Hid (∀ W A4 cap4, Cloned (wr.alloc (.cells #[.slice A3 n3 cap3, .int .i64 (k3 : Int)] 87)).drew W (.slice A4 (s) cap4) g.data → ∃ w4, (Instr.mapUpdate 60 (.map (some m2)) (.string x.name) (.agg #[.slice A4 (s) cap4, .int .i64 ((s : Nat) : Int)])).run Tryz.prog W = .ok () w4 ∧ SMap w4 m2 (withF L g) (upd pl' g.name (.slice A4 (s) cap4)) ∧ W.grownBy w4 (some m2) ∧ (w4.cell? ⟨b2, 0, none⟩ = some (.map (some m2)) ∧ w4.cell? ⟨wr.heap.size, 0, none⟩ = some (.slice A3 n3 cap3))) := fun W A4 cap4 hc => by
            have h := (HKD.out.below hc.2.2).map.put HRL.out g (by rw [HGN.out]; exact HNX.out) HLL.out (.slice A4 (s) cap4)
            have hk := HKD.out.below hc.2.2
            have hc2 := HCD.out.below hc.2.2 HCD.out.lt
            have hkb := (Array.getElem?_eq_some_iff.1 hk.cell).1
            have hmb := HKO.out.map.lt
            rw [hg] at h ⊢
            obtain ⟨w4, e1, e2, e3⟩ := h
            exact ⟨w4, e1, e2, e3, (World.cell?_of_block (w := W) (e3.block b2 hkb (fun e => hk.ne (by injection e)))).trans (cell_of hk.cell).1, (World.cell?_of_block (w := W) (a := ⟨wr.heap.size, 0, none⟩) (e3.block wr.heap.size hc2.lt (fun e => by injection e with e; omega))).trans (cell_of hc2).1⟩
          have HCR : Hid (crash1 x (ps.drop U) = g) := by
            show _ = _
            rw [hg]
            unfold crash1 cutV
            have e2 : x.sure + ((0 : Int) % ((x.data.size : Int) - (x.sure : Int) + 1)).toNat = s := by rw [HN3.out, HK3.out, HNN.out, HE.out]; have := HSM.out; omega
            rw [if_pos HPS.out, HZK.out, e2]
          have HKS : Hid (∀ W A4 cap4, Cloned (wr.alloc (.cells #[.slice A3 n3 cap3, .int .i64 (k3 : Int)] 87)).drew W (.slice A4 (s) cap4) g.data → W.cell? ⟨b2, 0, none⟩ = some (.map (some m2)) ∧ W.cell? ⟨wr.heap.size, 0, none⟩ = some (.slice A3 n3 cap3)) := fun W A4 cap4 hc => ⟨(cell_of (HKD.out.below hc.2.2).cell).1, (cell_of (HCD.out.below hc.2.2 HCD.out.lt)).1⟩
          clear hg hlk c0 c2
          go_region_held3 (fun w' : World => w'.cell? ⟨b2, 0, none⟩ = some (.map (some m2)) ∧ w'.cell? ⟨wr.heap.size, 0, none⟩ = some (.slice A3 n3 cap3))
            (first | exact hS0 | assumption)
            ((first
              | (go_at_call 43; (refine Calls.mono HCL.out ?_); rintro e wc ⟨A4, cap4, rfl, hc4⟩; obtain ⟨w4, hrun4, hm4, hg4, hS4⟩ := HPUT.out wc A4 cap4 hc4; have hSc := HKS.out wc A4 cap4 hc4)))
          all_goals
            have HBC : Hid (Below wr.heap.size wr wc) := HBD.out.trans (hc4.2.2.mono HBD.out.size)
            have HVN : Hid (∀ q, (Value.slice A4 (s) cap4).ownBlock = some q → wr.heap.size ≤ q) := fun q hq => Nat.le_trans HBD.out.size (hc4.2.1 q hq)
            have HK4 : Hid (Kept w4 b2 m2 (upd pl' g.name (.slice A4 (s) cap4)) z2 (crashV (l.take (k + 1)) ps) none) := by
              rw [HCS.out, HCR.out]
              exact HKO.out.more HBC.out (fun f hf => by unfold nm; rw [HGN.out]; exact HCB.out f hf) hc4.1 HVN.out (by rw [HGN.out]; exact HNX.out) hm4 hg4
            have HN4 : Hid (∀ q, Blk b2 m2 (upd pl' g.name (.slice A4 (s) cap4)) (crashV (l.take (k + 1)) ps) q → w.heap.size ≤ q) := by
              rw [HCS.out, HCR.out]
              exact blk_more (fun f hf => by unfold nm; rw [HGN.out]; exact HCB.out f hf) HNO.out (fun q hq => Nat.le_trans HB.out.size (HVN.out q hq))
            have HM0 : Hid (w.heap.size ≤ m2) := HNO.out m2 (.inr (.inl rfl))
            have HE4 : Hid (∀ q, q < w2.heap.size → q ≠ m2 → w4.heap[q]? = w2.heap[q]?) := fun q hq hqm => (hg4.block q (Nat.lt_of_lt_of_le hq (Nat.le_trans HWS.out HBC.out.size)) (fun e => hqm (by injection e))).trans ((HBC.out.block q (Nat.lt_of_lt_of_le hq HWS.out)).trans (HEQ.out q hq hqm))
            have HB4 : Hid (Below w.heap.size w w4) := (HB.out.trans (HBC.out.mono HB.out.size)).grown hg4 (Nat.le_trans HB.out.size HBC.out.size) (fun q e => by injection e with e; rw [← e]; exact HM0.out)
            have HW4 : Hid (w2.heap.size ≤ w4.heap.size) := Nat.le_trans HWS.out (Nat.le_trans HBC.out.size hg4.size)
            have HPR4 : Hid (PRow w4 w.heap.size (A') (ps.drop (used (l.take (k + 1))))) := by
              have hp4 : PRow w4 w.heap.size (A') (ps.drop (U + 1)) := KRow.keep HPRX.out fun p hp => (World.cell?_of_block (w := wc) (hg4.block p.block (by have := HB.out.size; have := HBC.out.size; omega) (fun e => by injection e with e; have := HM0.out; omega))).trans (HBC.out.cell (p := p) (by have := HB.out.size; omega))
              rw [HUN.out]
              rw [if_pos HPS.out]
              exact hp4
            have HPL4 : Hid ((ps.drop (used (l.take (k + 1)))).length = 0) := by
              show _ = _
              have h0 := HPL.out
              rw [HUN.out]
              rw [if_pos HPS.out]
              rw [List.length_drop] at h0 ⊢
              omega
            clear hm4 hg4 hc4 hSc hrun4 hS4
            go_wp2
            go_roundw
            case rel => exact ⟨k + 1, 0, cp, A', _, by omega, by go_num, rfl, by omega, by omega, HPR4.out, HPL4.out, HK4.out, HN4.out, HE4.out, HB4.out, HW4.out⟩
            case measure => simp [intOf]; omega
        · obtain ⟨z0, rest, hdr⟩ : ∃ z0 rest, ps.drop U = z0 :: rest := by
            cases hd : ps.drop U with
            | nil => have h0 := HPL.out; rw [hd] at h0; simp at h0; omega
            | cons z0 rest => exact ⟨z0, rest, rfl⟩
          have HDR := Lib.hid hdr
          have HZK : Hid ((ps.drop U).headD 0 = z0) := by show _ = _; rw [hdr]; rfl
          have hzb := HPZ.out z0 (List.mem_of_mem_drop (i := U) (by rw [hdr]; exact List.mem_cons_self))
          have hpr0 := HPR.out
          rw [hdr] at hpr0
          obtain ⟨bp, op, rfl, hbp, cz⟩ := one_cell hpr0 (j := 0) (x := z0) rfl rfl
          rw [Nat.add_zero] at cz
          have hbp2 : bp < wr.heap.size := Nat.lt_of_lt_of_le hbp HB.out.size
          have cz2 := (World.cell?_alloc_lt wr (.cells #[.slice A3 n3 cap3, .int .i64 (k3 : Int)] 87) ⟨bp, op, none⟩ hbp2).trans cz
          obtain ⟨A5, r', cp', rfl, rfl, hsl5, hpr5⟩ := step_picks (b := bp) (o := op) (by omega : 0 < r) hrc
          have HPRX : Hid (PRow wr w.heap.size A5 (ps.drop (U + 1))) := by
            have e : ps.drop (U + 1) = rest := by rw [← List.drop_drop, hdr]; rfl
            rw [e]
            exact hpr5 wr w.heap.size z0 rest hpr0 (by rw [← hdr]; exact HPL.out)
          have hri : (0 : Int) < ((r' + 1 : Nat) : Int) := by omega
          clear hdr hpr0 hpr5 hbp hbp2 cz
          have HPS : Hid (x.sure < x.data.size) := HSX.out.2 hs
          have hsi : (0 : Int) < (n3 : Int) - (k3 : Int) := by omega
          obtain ⟨nn, hnn⟩ : ∃ nn : Nat, (n3 : Int) - (k3 : Int) + 1 = nn := ⟨n3 - k3 + 1, by omega⟩
          have hnp : 0 < nn := by omega
          have hnb : nn ≤ 1000001 := by omega
          have hme := Int.emod_lt_of_pos z0 (show (0 : Int) < nn by omega)
          have hmp := Int.emod_nonneg z0 (show (nn : Int) ≠ 0 by omega)
          have hrem := fun W => prog_rem z0 nn W hnp hnb
          generalize hE : z0 % (nn : Int) = E at hme hmp hrem
          obtain ⟨k2, rfl⟩ : ∃ k2 : Nat, E = k2 := ⟨E.toNat, by omega⟩
          obtain ⟨s, hsum⟩ : ∃ s : Nat, k3 + k2 = s := ⟨_, rfl⟩
          have hsn : s ≤ n3 := by omega
          have hsumi : (k3 : Int) + (k2 : Int) = (s : Int) := by omega
          have HE := Lib.hid hE
          have HNN := Lib.hid hnn
          have HSM := Lib.hid hsum
          have HREM := Lib.hid hrem
          have hdi : (n3 : Int) - (k3 : Int) ≤ 1000000 := by omega
          clear hE hsum hrem hmp hme
          go_wp2
          go_big_quiet (fail)
          rename_i nq
          clear cz2 hsl5
          go_wp2_with fail
          refine (HREM.out _).mono ?_
          rintro e w' ⟨rfl, rfl⟩
          clear hnn hsi
          go_wp2
          have HBT : Hid (Below wr.heap.size wr ((wr.alloc (.cells #[.slice A3 n3 cap3, .int .i64 (k3 : Int)] 87)).drewN nq)) := below_drewN HBA.out _
          have HCT : Hid (Row ((wr.alloc (.cells #[.slice A3 n3 cap3, .int .i64 (k3 : Int)] 87)).drewN nq) wr.heap.size 87 [.slice A3 n3 cap3, .int .i64 (k3 : Int)]) := HCA.out.drewN _
          have HBD : Hid (Below wr.heap.size wr ((wr.alloc (.cells #[.slice A3 n3 cap3, .int .i64 (k3 : Int)] 87)).drewN nq).drew) := HBT.out.drew
          have HCD : Hid (Row ((wr.alloc (.cells #[.slice A3 n3 cap3, .int .i64 (k3 : Int)] 87)).drewN nq).drew wr.heap.size 87 [.slice A3 n3 cap3, .int .i64 (k3 : Int)]) := HCT.out
          have HKD := Lib.hid (HKO.out.below HBD.out)
          have hS0 : ((wr.alloc (.cells #[.slice A3 n3 cap3, .int .i64 (k3 : Int)] 87)).drewN nq).drew.cell? ⟨b2, 0, none⟩ = some (.map (some m2)) ∧ ((wr.alloc (.cells #[.slice A3 n3 cap3, .int .i64 (k3 : Int)] 87)).drewN nq).drew.cell? ⟨wr.heap.size, 0, none⟩ = some (.slice A3 n3 cap3) := ⟨(cell_of HKD.out.cell).1, (cell_of HCD.out).1⟩
          have hsl := cut_slice (s := s) HBYR.out (by rw [HN3.out]; omega)
          obtain ⟨g, hg⟩ : ∃ g : FF, g = ⟨x.name, x.data.extract 0 (s), s⟩ := ⟨_, rfl⟩
          have HGN : Hid (g.name = x.name) := by show _ = _; rw [hg]
          have HCL : Hid (Calls Tryz.prog 43 #[.slice A3 (s) cap3] ((wr.alloc (.cells #[.slice A3 n3 cap3, .int .i64 (k3 : Int)] 87)).drewN nq).drew fun z w' => ∃ A4 cap4, z = .returned (.slice A4 (s) cap4) ∧ Cloned ((wr.alloc (.cells #[.slice A3 n3 cap3, .int .i64 (k3 : Int)] 87)).drewN nq).drew w' (.slice A4 (s) cap4) g.data) := by
            have hes : (x.data.extract 0 (s)).size = s := by rw [ByteArray.size_extract, HN3.out]; omega
            have hfr := (HBYR.out.same (w' := ((wr.alloc (.cells #[.slice A3 n3 cap3, .int .i64 (k3 : Int)] 87)).drewN nq).drew) fun q hq => HBD.out.block q (HBYR.out.lt hq))
            have h := clone_bytes A3 cap3 (s) (x.data.extract 0 (s)) ((wr.alloc (.cells #[.slice A3 n3 cap3, .int .i64 (k3 : Int)] 87)).drewN nq).drew hes (by omega) (Bytes.front (n := n3) hfr (s))
            rw [hg]
            exact h.mono fun z w' ⟨A4, cap4, e1, e2, e3⟩ => ⟨A4, cap4, e1, cloned_of hes e2 e3⟩
          have HPUT : Hid (∀ W A4 cap4, Cloned ((wr.alloc (.cells #[.slice A3 n3 cap3, .int .i64 (k3 : Int)] 87)).drewN nq).drew W (.slice A4 (s) cap4) g.data → ∃ w4, (Instr.mapUpdate 60 (.map (some m2)) (.string x.name) (.agg #[.slice A4 (s) cap4, .int .i64 ((s : Nat) : Int)])).run Tryz.prog W = .ok () w4 ∧ SMap w4 m2 (withF L g) (upd pl' g.name (.slice A4 (s) cap4)) ∧ W.grownBy w4 (some m2) ∧ (w4.cell? ⟨b2, 0, none⟩ = some (.map (some m2)) ∧ w4.cell? ⟨wr.heap.size, 0, none⟩ = some (.slice A3 n3 cap3))) := fun W A4 cap4 hc => by
            have h := (HKD.out.below hc.2.2).map.put HRL.out g (by rw [HGN.out]; exact HNX.out) HLL.out (.slice A4 (s) cap4)
            have hk := HKD.out.below hc.2.2
            have hc2 := HCD.out.below hc.2.2 HCD.out.lt
            have hkb := (Array.getElem?_eq_some_iff.1 hk.cell).1
            have hmb := HKO.out.map.lt
            rw [hg] at h ⊢
            obtain ⟨w4, e1, e2, e3⟩ := h
            exact ⟨w4, e1, e2, e3, (World.cell?_of_block (w := W) (e3.block b2 hkb (fun e => hk.ne (by injection e)))).trans (cell_of hk.cell).1, (World.cell?_of_block (w := W) (a := ⟨wr.heap.size, 0, none⟩) (e3.block wr.heap.size hc2.lt (fun e => by injection e with e; omega))).trans (cell_of hc2).1⟩
          have HCR : Hid (crash1 x (ps.drop U) = g) := by
            show _ = _
            rw [hg]
            unfold crash1 cutV
            have e2 : x.sure + (z0 % ((x.data.size : Int) - (x.sure : Int) + 1)).toNat = s := by rw [HN3.out, HK3.out, HNN.out, HE.out]; have := HSM.out; omega
            rw [if_pos HPS.out, HZK.out, e2]
          have HKS : Hid (∀ W A4 cap4, Cloned ((wr.alloc (.cells #[.slice A3 n3 cap3, .int .i64 (k3 : Int)] 87)).drewN nq).drew W (.slice A4 (s) cap4) g.data → W.cell? ⟨b2, 0, none⟩ = some (.map (some m2)) ∧ W.cell? ⟨wr.heap.size, 0, none⟩ = some (.slice A3 n3 cap3)) := fun W A4 cap4 hc => ⟨(cell_of (HKD.out.below hc.2.2).cell).1, (cell_of (HCD.out.below hc.2.2 HCD.out.lt)).1⟩
          clear hg hlk c0 c2
          go_region_held3 (fun w' : World => w'.cell? ⟨b2, 0, none⟩ = some (.map (some m2)) ∧ w'.cell? ⟨wr.heap.size, 0, none⟩ = some (.slice A3 n3 cap3))
            (first | exact hS0 | assumption)
            ((first
              | (go_at_call 43; (refine Calls.mono HCL.out ?_); rintro e wc ⟨A4, cap4, rfl, hc4⟩; obtain ⟨w4, hrun4, hm4, hg4, hS4⟩ := HPUT.out wc A4 cap4 hc4; have hSc := HKS.out wc A4 cap4 hc4)))
          all_goals
            have HBC : Hid (Below wr.heap.size wr wc) := HBD.out.trans (hc4.2.2.mono HBD.out.size)
            have HVN : Hid (∀ q, (Value.slice A4 (s) cap4).ownBlock = some q → wr.heap.size ≤ q) := fun q hq => Nat.le_trans HBD.out.size (hc4.2.1 q hq)
            have HK4 : Hid (Kept w4 b2 m2 (upd pl' g.name (.slice A4 (s) cap4)) z2 (crashV (l.take (k + 1)) ps) none) := by
              rw [HCS.out, HCR.out]
              exact HKO.out.more HBC.out (fun f hf => by unfold nm; rw [HGN.out]; exact HCB.out f hf) hc4.1 HVN.out (by rw [HGN.out]; exact HNX.out) hm4 hg4
            have HN4 : Hid (∀ q, Blk b2 m2 (upd pl' g.name (.slice A4 (s) cap4)) (crashV (l.take (k + 1)) ps) q → w.heap.size ≤ q) := by
              rw [HCS.out, HCR.out]
              exact blk_more (fun f hf => by unfold nm; rw [HGN.out]; exact HCB.out f hf) HNO.out (fun q hq => Nat.le_trans HB.out.size (HVN.out q hq))
            have HM0 : Hid (w.heap.size ≤ m2) := HNO.out m2 (.inr (.inl rfl))
            have HE4 : Hid (∀ q, q < w2.heap.size → q ≠ m2 → w4.heap[q]? = w2.heap[q]?) := fun q hq hqm => (hg4.block q (Nat.lt_of_lt_of_le hq (Nat.le_trans HWS.out HBC.out.size)) (fun e => hqm (by injection e))).trans ((HBC.out.block q (Nat.lt_of_lt_of_le hq HWS.out)).trans (HEQ.out q hq hqm))
            have HB4 : Hid (Below w.heap.size w w4) := (HB.out.trans (HBC.out.mono HB.out.size)).grown hg4 (Nat.le_trans HB.out.size HBC.out.size) (fun q e => by injection e with e; rw [← e]; exact HM0.out)
            have HW4 : Hid (w2.heap.size ≤ w4.heap.size) := Nat.le_trans HWS.out (Nat.le_trans HBC.out.size hg4.size)
            have HPR4 : Hid (PRow w4 w.heap.size (A5) (ps.drop (used (l.take (k + 1))))) := by
              have hp4 : PRow w4 w.heap.size (A5) (ps.drop (U + 1)) := KRow.keep HPRX.out fun p hp => (World.cell?_of_block (w := wc) (hg4.block p.block (by have := HB.out.size; have := HBC.out.size; omega) (fun e => by injection e with e; have := HM0.out; omega))).trans (HBC.out.cell (p := p) (by have := HB.out.size; omega))
              rw [HUN.out]
              rw [if_pos HPS.out]
              exact hp4
            have HPL4 : Hid ((ps.drop (used (l.take (k + 1)))).length = r') := by
              show _ = _
              have h0 := HPL.out
              rw [HUN.out]
              rw [if_pos HPS.out]
              rw [List.length_drop] at h0 ⊢
              omega
            clear hm4 hg4 hc4 hSc hrun4 hS4
            go_wp2
            go_roundw
            case rel => exact ⟨k + 1, r', cp', A5, _, by omega, by go_num, rfl, by omega, by omega, HPR4.out, HPL4.out, HK4.out, HN4.out, HE4.out, HB4.out, HW4.out⟩
            case measure => simp [intOf]; omega
      · have hse : n3 = k3 := by omega
        have HNS : Hid (¬ x.sure < x.data.size) := fun h => hs (HSX.out.1 h)
        subst hse
        go_wp2
        have HBT : Hid (Below wr.heap.size wr (wr.alloc (.cells #[.slice A3 n3 cap3, .int .i64 (n3 : Int)] 87))) := HBA.out
        have HCT : Hid (Row (wr.alloc (.cells #[.slice A3 n3 cap3, .int .i64 (n3 : Int)] 87)) wr.heap.size 87 [.slice A3 n3 cap3, .int .i64 (n3 : Int)]) := HCA.out
        have HBD : Hid (Below wr.heap.size wr (wr.alloc (.cells #[.slice A3 n3 cap3, .int .i64 (n3 : Int)] 87)).drew) := HBT.out.drew
        have HCD : Hid (Row (wr.alloc (.cells #[.slice A3 n3 cap3, .int .i64 (n3 : Int)] 87)).drew wr.heap.size 87 [.slice A3 n3 cap3, .int .i64 (n3 : Int)]) := HCT.out
        have HKD := Lib.hid (HKO.out.below HBD.out)
        have hS0 : (wr.alloc (.cells #[.slice A3 n3 cap3, .int .i64 (n3 : Int)] 87)).drew.cell? ⟨b2, 0, none⟩ = some (.map (some m2)) ∧ (wr.alloc (.cells #[.slice A3 n3 cap3, .int .i64 (n3 : Int)] 87)).drew.cell? ⟨wr.heap.size, 0, none⟩ = some (.slice A3 n3 cap3) := ⟨(cell_of HKD.out.cell).1, (cell_of HCD.out).1⟩
        have hsl := cut_slice (s := n3) HBYR.out (by rw [HN3.out]; omega)
        obtain ⟨g, hg⟩ : ∃ g : FF, g = ⟨x.name, x.data.extract 0 (n3), n3⟩ := ⟨_, rfl⟩
        have HGN : Hid (g.name = x.name) := by show _ = _; rw [hg]
        have HCL : Hid (Calls Tryz.prog 43 #[.slice A3 (n3) cap3] (wr.alloc (.cells #[.slice A3 n3 cap3, .int .i64 (n3 : Int)] 87)).drew fun z w' => ∃ A4 cap4, z = .returned (.slice A4 (n3) cap4) ∧ Cloned (wr.alloc (.cells #[.slice A3 n3 cap3, .int .i64 (n3 : Int)] 87)).drew w' (.slice A4 (n3) cap4) g.data) := by
          have hes : (x.data.extract 0 (n3)).size = n3 := by rw [ByteArray.size_extract, HN3.out]; omega
          have hfr := (HBYR.out.same (w' := (wr.alloc (.cells #[.slice A3 n3 cap3, .int .i64 (n3 : Int)] 87)).drew) fun q hq => HBD.out.block q (HBYR.out.lt hq))
          have h := clone_bytes A3 cap3 (n3) (x.data.extract 0 (n3)) (wr.alloc (.cells #[.slice A3 n3 cap3, .int .i64 (n3 : Int)] 87)).drew hes (by omega) (Bytes.front (n := n3) hfr (n3))
          rw [hg]
          exact h.mono fun z w' ⟨A4, cap4, e1, e2, e3⟩ => ⟨A4, cap4, e1, cloned_of hes e2 e3⟩
        have HPUT : Hid (∀ W A4 cap4, Cloned (wr.alloc (.cells #[.slice A3 n3 cap3, .int .i64 (n3 : Int)] 87)).drew W (.slice A4 (n3) cap4) g.data → ∃ w4, (Instr.mapUpdate 60 (.map (some m2)) (.string x.name) (.agg #[.slice A4 (n3) cap4, .int .i64 ((n3 : Nat) : Int)])).run Tryz.prog W = .ok () w4 ∧ SMap w4 m2 (withF L g) (upd pl' g.name (.slice A4 (n3) cap4)) ∧ W.grownBy w4 (some m2) ∧ (w4.cell? ⟨b2, 0, none⟩ = some (.map (some m2)) ∧ w4.cell? ⟨wr.heap.size, 0, none⟩ = some (.slice A3 n3 cap3))) := fun W A4 cap4 hc => by
          have h := (HKD.out.below hc.2.2).map.put HRL.out g (by rw [HGN.out]; exact HNX.out) HLL.out (.slice A4 (n3) cap4)
          have hk := HKD.out.below hc.2.2
          have hc2 := HCD.out.below hc.2.2 HCD.out.lt
          have hkb := (Array.getElem?_eq_some_iff.1 hk.cell).1
          have hmb := HKO.out.map.lt
          rw [hg] at h ⊢
          obtain ⟨w4, e1, e2, e3⟩ := h
          exact ⟨w4, e1, e2, e3, (World.cell?_of_block (w := W) (e3.block b2 hkb (fun e => hk.ne (by injection e)))).trans (cell_of hk.cell).1, (World.cell?_of_block (w := W) (a := ⟨wr.heap.size, 0, none⟩) (e3.block wr.heap.size hc2.lt (fun e => by injection e with e; omega))).trans (cell_of hc2).1⟩
        have HCR : Hid (crash1 x (ps.drop U) = g) := by
          show _ = _
          rw [hg]
          unfold crash1
          rw [if_neg HNS.out]
          have e2 := HN3.out
          rw [← e2, ext_all]
        have HKS : Hid (∀ W A4 cap4, Cloned (wr.alloc (.cells #[.slice A3 n3 cap3, .int .i64 (n3 : Int)] 87)).drew W (.slice A4 (n3) cap4) g.data → W.cell? ⟨b2, 0, none⟩ = some (.map (some m2)) ∧ W.cell? ⟨wr.heap.size, 0, none⟩ = some (.slice A3 n3 cap3)) := fun W A4 cap4 hc => ⟨(cell_of (HKD.out.below hc.2.2).cell).1, (cell_of (HCD.out.below hc.2.2 HCD.out.lt)).1⟩
        clear hg hlk c0 c2
        go_region_held3 (fun w' : World => w'.cell? ⟨b2, 0, none⟩ = some (.map (some m2)) ∧ w'.cell? ⟨wr.heap.size, 0, none⟩ = some (.slice A3 n3 cap3))
          (first | exact hS0 | assumption)
          ((first
            | (go_at_call 43; (refine Calls.mono HCL.out ?_); rintro e wc ⟨A4, cap4, rfl, hc4⟩; obtain ⟨w4, hrun4, hm4, hg4, hS4⟩ := HPUT.out wc A4 cap4 hc4; have hSc := HKS.out wc A4 cap4 hc4)))
        all_goals
          have HBC : Hid (Below wr.heap.size wr wc) := HBD.out.trans (hc4.2.2.mono HBD.out.size)
          have HVN : Hid (∀ q, (Value.slice A4 (n3) cap4).ownBlock = some q → wr.heap.size ≤ q) := fun q hq => Nat.le_trans HBD.out.size (hc4.2.1 q hq)
          have HK4 : Hid (Kept w4 b2 m2 (upd pl' g.name (.slice A4 (n3) cap4)) z2 (crashV (l.take (k + 1)) ps) none) := by
            rw [HCS.out, HCR.out]
            exact HKO.out.more HBC.out (fun f hf => by unfold nm; rw [HGN.out]; exact HCB.out f hf) hc4.1 HVN.out (by rw [HGN.out]; exact HNX.out) hm4 hg4
          have HN4 : Hid (∀ q, Blk b2 m2 (upd pl' g.name (.slice A4 (n3) cap4)) (crashV (l.take (k + 1)) ps) q → w.heap.size ≤ q) := by
            rw [HCS.out, HCR.out]
            exact blk_more (fun f hf => by unfold nm; rw [HGN.out]; exact HCB.out f hf) HNO.out (fun q hq => Nat.le_trans HB.out.size (HVN.out q hq))
          have HM0 : Hid (w.heap.size ≤ m2) := HNO.out m2 (.inr (.inl rfl))
          have HE4 : Hid (∀ q, q < w2.heap.size → q ≠ m2 → w4.heap[q]? = w2.heap[q]?) := fun q hq hqm => (hg4.block q (Nat.lt_of_lt_of_le hq (Nat.le_trans HWS.out HBC.out.size)) (fun e => hqm (by injection e))).trans ((HBC.out.block q (Nat.lt_of_lt_of_le hq HWS.out)).trans (HEQ.out q hq hqm))
          have HB4 : Hid (Below w.heap.size w w4) := (HB.out.trans (HBC.out.mono HB.out.size)).grown hg4 (Nat.le_trans HB.out.size HBC.out.size) (fun q e => by injection e with e; rw [← e]; exact HM0.out)
          have HW4 : Hid (w2.heap.size ≤ w4.heap.size) := Nat.le_trans HWS.out (Nat.le_trans HBC.out.size hg4.size)
          have HPR4 : Hid (PRow w4 w.heap.size (A') (ps.drop (used (l.take (k + 1))))) := by
            have hp4 : PRow w4 w.heap.size (A') (ps.drop U) := KRow.keep HPR.out fun p hp => (World.cell?_of_block (w := wc) (hg4.block p.block (by have := HB.out.size; have := HBC.out.size; omega) (fun e => by injection e with e; have := HM0.out; omega))).trans (HBC.out.cell (p := p) (by have := HB.out.size; omega))
            rw [HUN.out]
            rw [if_neg HNS.out, Nat.add_zero]
            exact hp4
          have HPL4 : Hid ((ps.drop (used (l.take (k + 1)))).length = r) := by
            show _ = _
            have h0 := HPL.out
            rw [HUN.out]
            rw [if_neg HNS.out, Nat.add_zero]
            exact h0
          clear hm4 hg4 hc4 hSc hrun4 hS4
          go_wp2
          go_roundw
          case rel => exact ⟨k + 1, r, cp, A', _, by omega, by go_num, rfl, by omega, by omega, HPR4.out, HPL4.out, HK4.out, HN4.out, HE4.out, HB4.out, HW4.out⟩
          case measure => simp [intOf]; omega
    · obtain rfl : k = nl := by omega
      have HE : Hid (crashV (l.take k) ps = crashV l ps) := by show _ = _; rw [List.take_of_length_le (by rw [HNL.out]; omega)]
      go_wp2
      go_ret
      rw [HE.out] at HKO HNO
      exact ⟨b2, Blk b2 m2 pl' (crashV l ps), rfl, ⟨m2, pl', z2, fun q => Iff.rfl, HZ2.out, HKO.out⟩, HNO.out, HB.out⟩
end Dk
end Go.Proofs.YtogpigfepebibaaGreatDoor

namespace Go.Proofs.YtogpigfepebibaaGreatDoor
namespace Dk
open Go.RowKit Go.ChangeShapes Kr Go.Maps

theorem keeps : Keeps Rd where
  keep := rd_keep
  inside := rd_inside
  bound := rd_bound
  new := prog_new
  append := fun w S b D p x h hf hp hx => prog_append w S b D p x h hf hp hx
  sync := fun w S b D p h hf hp => prog_sync w S b D p h hf hp
  rename := fun w S b D p q h hf hp hq => prog_rename w S b D p q h hf hp hq
  remove := fun w S b D p h hf hp => prog_remove w S b D p h hf hp
  budget := fun w S b D z h _ _ _ => prog_budget w S b D z h
  read := fun w S b D p h _ hp => prog_read w S b D p h hp
  names := fun w S b D h hf => prog_names w S b D h hf
  crash := fun w S b D A n cap ps h hf hn hnc hnm hpz hp => prog_crash w S b D A n cap ps h hf hn hnc hnm hpz hp
end Dk
end Go.Proofs.YtogpigfepebibaaGreatDoor
