/-
  Layer 7 (disk): the program's remainder; slices.Clone at bytes; a slice's front.
-/
import Derived.Test.YteikfdijcepimaaEF
import Derived.Test.YteikfdijcepimaaDO
namespace Go.Proofs.Yteikfdijcepimaa
namespace Dk
open Go.RowKit Go.ChangeShapes Kr Go.Maps

set_option maxRecDepth 100000 in
set_option maxHeartbeats 4000000 in
theorem prog_rem (z : Int) (nn : Nat) (w : World) (hn : 0 < nn) (hb : nn ≤ 1000001) : Calls Try.prog 30 #[.int .i64 z, .int .i64 (nn : Int)] w fun e w' => e = .returned (.int .i64 (z % (nn : Int))) ∧ w' = w := by
  have hnz : ((nn : Int) == 0) = false := beq_eq_false_iff_ne.2 (by omega)
  have hnz2 : ¬ nn = 0 := by omega
  have ht := Int.tmod_eq_emod (a := z) (b := nn)
  have h1 := Int.emod_nonneg z (show (nn : Int) ≠ 0 by omega)
  have h2 := Int.emod_lt_of_pos z (show (0 : Int) < nn by omega)
  have ht1 := Int.tmod_lt_of_pos z (show (0 : Int) < nn by omega)
  have ht2 := tmod_low z nn hn
  generalize hE : z % (nn : Int) = E at ht h1 h2
  generalize hT : Int.tmod z nn = t at ht ht1 ht2
  have hcase : (t < 0 ∧ t + nn = E) ∨ (¬ t < 0 ∧ t = E) := by
    rw [Int.natAbs_natCast] at ht
    split at ht
    · exact .inr ⟨by omega, by omega⟩
    · exact .inl ⟨by omega, by omega⟩
  clear ht hE
  rcases hcase with ⟨hc, he⟩ | ⟨hc, he⟩
  · have hw := wrap_id (t + nn) (by omega)
    have HE := Lib.hid he
    clear he
    go_enter Try.func30, Try.ntmps30
    go_wp2
    go_ret
    rw [← HE.out]
    exact ⟨rfl, rfl⟩
  · have HE := Lib.hid he
    clear he
    go_enter Try.func30, Try.ntmps30
    go_wp2
    go_ret
    rw [← HE.out]
    exact ⟨rfl, rfl⟩

/-- The first bytes at an address. -/
def Front (w : World) (A : Option Addr) (e : ByteArray) : Prop := (A = none → e.size = 0) ∧ ∀ a, A = some a → ∀ j u, (Lib.strCells e)[j]? = some u → w.cell? (a.add j) = some u
theorem Bytes.front {w : World} {A : Option Addr} {n cap : Nat} {d : ByteArray} (h : Bytes w (.slice A n cap) d) (s : Nat) : Front w A (d.extract 0 s) := by
  have hpre : ∀ j u, (Lib.strCells (d.extract 0 s))[j]? = some u → (Lib.strCells d)[j]? = some u := fun j u hu => by
    unfold Lib.strCells at hu ⊢
    rw [ext_front, List.map_take, List.getElem?_take] at hu
    split at hu
    · exact hu
    · cases hu
  refine ⟨fun e => ?_, fun a e j u hu => ?_⟩
  · subst e
    rcases h.2 with ⟨_, h0⟩ | ⟨g, c, cur, hv, _⟩
    · rw [ByteArray.size_extract]; omega
    · cases hv
  · subst e
    rcases h.2 with ⟨hv, _⟩ | ⟨g, c, cur, hv, _⟩
    · cases hv
    · injection hv with hv
      injection hv with hv
      subst hv
      exact h.cells (g := g) rfl j u (hpre j u hu)
theorem Front.below {w w' : World} {A : Option Addr} {e : ByteArray} (h : Front w A e) (hb : Below w.heap.size w w') : Front w' A e :=
  ⟨h.1, fun a ha j u hu => (hb.cell (p := a.add j) (World.block_lt_of_cell? w _ (h.2 a ha j u hu))).trans (h.2 a ha j u hu)⟩
theorem cells_one (e : ByteArray) : ∀ u ∈ Lib.strCells e, u.oneCell' = true := Lib.strCells_oneCell e

set_option maxRecDepth 100000 in
set_option maxHeartbeats 2000000 in
theorem clone_bytes (A : Option Addr) (cap n : Nat) (e : ByteArray) (w : World) (hn : e.size = n) (hnm : n ≤ 1000000) (hx : Front w A e) :
    Calls Try.prog 31 #[.slice A n cap] w fun z w' => ∃ A' cap', z = .returned (.slice A' n cap') ∧ w'.ownsRow w.heap.size 5 1 (.slice A' n cap') n (Lib.strCells e) ∧ Below w.heap.size w w' := by
  obtain ⟨i0, hi, hz0, hz1, hz2⟩ := info_parts byte_row
  cases A with
  | none =>
    have h0 : n = 0 := hn.symm.trans (hx.1 rfl)
    subst h0
    have hnil := Lib.run_eql_slice_nil (P := Try.prog) w 63 5 none 0 cap 0 0 Try.underlying63
    have HE : Hid (Lib.strCells e = []) := List.eq_nil_of_length_eq_zero (by rw [Lib.strCells_length]; exact hn)
    clear hx hn
    go_enter Try.func31, Try.ntmps31
    go_wp2
    go_ret
    refine ⟨none, 0, rfl, ?_, Below.refl _ _⟩
    rw [HE.out]
    exact World.ownsRow_nil _ _ _ _
  | some a =>
    have HX := Lib.hid (hx.2 a rfl)
    have HN : Hid ((Lib.strCells e).length = n * 1) := by show _ = _; rw [Lib.strCells_length, hn, Nat.mul_one]
    have HO0 : Hid ((w.alloc (.cells #[] 5)).ownsRow w.heap.size 5 1 (.slice (some ⟨w.heap.size, 0, none⟩) 0 0) 0 []) :=
      World.ownsRow_lit (base := w.heap.size) (e := 5) (size := 1) w #[] 0 (Nat.le_refl _) (by decide) rfl
    have HB0 : Hid (Below w.heap.size w (w.alloc (.cells #[] 5))) := (Below.refl _ _).alloc (Nat.le_refl _) _
    have hnil := Lib.run_eql_slice_nil (P := Try.prog) w 63 5 (some a) n cap 0 0 Try.underlying63
    clear hx hn
    go_enter Try.func31, Try.ntmps31
    go_wp2_with (at_builtin; refine wpList_append_own _ rfl _ _ 63 rfl (w.heap.size) 5 i0 (.int .u8 0) 1 1 Try.underlying63 hi hz0 hz1 hz2 rfl (by decide) _ 0 [] rfl ?c0a a n cap (Lib.strCells e) rfl ?c1l ?c1a ?c2a ?c3a ?c4a ?c5a ?_)
    case c0a => exact HO0.out
    case c1l => exact HN.out
    case c1a => exact fun j u hu => (World.cell?_alloc_lt w _ _ (World.block_lt_of_cell? w _ (HX.out j u hu))).trans (HX.out j u hu)
    case c2a => exact cells_one e
    case c3a => simp only [maxLen]; omega
    case c4a => omega
    case c5a => simp
    intro v' w2 hown' hgrow _
    have hown2 : w2.ownsRow w.heap.size 5 1 v' n (Lib.strCells e) := by simpa using hown'
    obtain ⟨A2, cap2, hv⟩ : ∃ A2 cap2, v' = .slice A2 n cap2 := by
      rcases hown2.2 with ⟨hv, h0⟩ | ⟨g, c, cur, hv, _⟩
      · exact ⟨none, 0, by rw [hv, h0]⟩
      · exact ⟨_, _, hv⟩
    subst hv
    have HO2 := Lib.hid hown2
    have HW2 := Lib.hid (HB0.out.grown hgrow (by simp) (fun q hq => (HO0.out.lt q hq).1))
    clear hown' hgrow hown2
    go_wp2
    go_ret
    exact ⟨A2, cap2, rfl, HO2.out, HW2.out⟩
set_option maxRecDepth 100000 in
/-- x[:s]. -/
theorem cut_slice {w : World} {A : Option Addr} {n cap s : Nat} {d : ByteArray} (h : Bytes w (.slice A n cap) d) (hs : s ≤ d.size) : ∀ W, (Instr.sliceAt 63 (.slice A n cap) none (some (.int .i64 (s : Int))) none).run Try.prog W = .ok (.slice A s cap) W := fun W => by
  have hu : Try.prog.underlying 63 = some (.slice (Try.prog.elem 63)) := by kernel_rfl
  have hz : (sizeOf (Try.prog.elem 63)).run Try.prog W = .ok 1 W := Try.sizeOf5 W
  have hc : s ≤ cap := by
    rcases h.2 with ⟨hv, h0⟩ | ⟨g, c, cur, hv, _, _, hn, _⟩
    · omega
    · injection hv with _ _ hv; omega
  rw [run_sliceAt_slice _ _ _ _ _ _ hu, run_slice_h _ _ _ _ _ hu .i64 (s : Int) (by omega) (by omega), hz]
  rcases h.2 with ⟨hv, h0⟩ | ⟨g, c, cur, hv, _⟩
  · injection hv with hA _ hc'
    subst hA
    simp [sliced, Result.andThen]
  · injection hv with hA
    subst hA
    simp [sliced, Result.andThen, Addr.add]
set_option maxRecDepth 100000 in
/-- x[1:] of picks, not empty. -/
theorem step_picks {b o n cap : Nat} (h0 : 0 < n) (hc : n ≤ cap) : ∃ (A' : Option Addr) (n' c' : Nat), n = n' + 1 ∧ cap = c' + 1 ∧
    (∀ W, (Instr.sliceAt 31 (.slice (some ⟨b, o, none⟩) n cap) (some (.int .i64 1)) none none).run Try.prog W = .ok (.slice A' n' c') W) ∧
    ∀ w B z ps, PRow w B (some ⟨b, o, none⟩) (z :: ps) → (z :: ps).length = n → PRow w B A' ps := by
  obtain ⟨n', rfl⟩ : ∃ q, n = q + 1 := ⟨n - 1, by omega⟩
  obtain ⟨c', rfl⟩ : ∃ q, cap = q + 1 := ⟨cap - 1, by omega⟩
  refine ⟨if c' = 0 then some ⟨b, o, none⟩ else some ⟨b, o + 1, none⟩, n', c', rfl, rfl, fun W => ?_, fun w B z ps h hl => ?_⟩
  · have hu : Try.prog.underlying 31 = some (.slice (Try.prog.elem 31)) := by kernel_rfl
    have hz : (sizeOf (Try.prog.elem 31)).run Try.prog W = .ok 1 W := Try.sizeOf3 W
    rw [run_sliceAt_slice _ _ _ _ _ _ hu, run_slice_l _ _ _ _ _ hu .i64 1 (by omega) (by omega), hz]
    by_cases h1 : c' = 0
    · subst h1
      simp [sliced, Result.andThen]
    · simp [sliced, Result.andThen, h1, Addr.add]
  · by_cases h1 : c' = 0
    · rw [if_pos h1]
      have : ps = [] := List.eq_nil_of_length_eq_zero (by simp at hl; omega)
      subst this
      exact KRow.none_ _ _ _
    · rw [if_neg h1]
      intro j x hx
      obtain ⟨b', o', e, h2, h3⟩ := h (j + 1) x hx
      injection e with e
      injection e with e1 e2
      subst e1 e2
      refine ⟨b, o + 1, rfl, h2, fun i v hv => ?_⟩
      have h4 := h3 i v hv
      rw [show o + 1 + j * 1 + i = o + (j + 1) * 1 + i by omega]
      exact h4
end Dk
end Go.Proofs.Yteikfdijcepimaa
