/-
  Layer 8 (journal): what laws Sure and Swaps share. Layer 8 (journal): law Sure. Layer 8 (journal): law Swaps. Layer 8 (journal): rows of acts in memory; the walks of the laws' great and same. Layer 8 (journal): law Rows.
-/
import Derived.Test.YtogpigfepebibaaGreatDoorMJJ
import Derived.Test.YtogpigfepebibaaGreatDoorMJM
import Derived.Test.YtogpigfepebibaaGreatDoorMDI
namespace Go.Proofs.YtogpigfepebibaaGreatDoor
namespace Jl
open Go.RowKit Go.ChangeShapes Kr Dk

theorem small_of {l : List ByteArray} (h : ∀ r ∈ l, r.size ≤ 100) : Small l := fun r hr => by
  have := h r hr
  have e : most = 1048576 := rfl
  omega
set_option maxRecDepth 100000 in
/-- A cut of a row of texts. -/
theorem cut_names {w0 : World} {B0 : Nat} {A : Option Addr} {n cap s : Nat} {l : List ByteArray} (hx : NRow w0 B0 A l) (hn : l.length = n) (h1 : s ≤ n) (h2 : n ≤ cap) :
    ∃ A', (∀ W, (Instr.sliceAt 34 (.slice A n cap) none (some (.int .i64 (s : Int))) none).run Tryz.prog W = .ok (.slice A' s cap) W) ∧ ∀ w B, NRow w B A l → NRow w B A' (l.take s) := by
  have hu : Tryz.prog.underlying 34 = some (.slice (Tryz.prog.elem 34)) := by kernel_rfl
  have hz : ∀ W, (sizeOf (Tryz.prog.elem 34)).run Tryz.prog W = .ok 1 W := fun W => Tryz.sizeOf9 W
  have hr : ∀ W, (Instr.sliceAt 34 (.slice A n cap) none (some (.int .i64 (s : Int))) none).run Tryz.prog W = _ := fun W => by
    rw [run_sliceAt_slice _ _ _ _ _ _ hu, run_slice_h _ _ _ _ _ hu .i64 (s : Int) (by omega) (by omega), hz]
  have hrow : ∀ w B, NRow w B A l → NRow w B A (l.take s) := fun w B h j x hj => h j x (by
    rw [List.getElem?_take] at hj
    split at hj
    · exact hj
    · cases hj)
  cases l with
  | nil =>
    have h0 : s = 0 := by simp at hn; omega
    subst h0
    cases A with
    | none => exact ⟨none, fun W => by rw [hr W]; simp [sliced, Result.andThen], fun w B _ => KRow.none_ _ _ _⟩
    | some q =>
      refine ⟨?_, fun W => ?_, fun w B _ => KRow.none_ _ _ _⟩
      rotate_left
      · rw [hr W]
        simp [sliced, Result.andThen]
        rfl
  | cons x l =>
    obtain ⟨b, o, rfl, _⟩ := hx 0 x rfl
    exact ⟨some ⟨b, o, none⟩, fun W => by rw [hr W]; simp [sliced, Result.andThen, Addr.add], hrow⟩
theorem addJ_add (D : DD) (p : ByteArray) {r : ByteArray} (h : r.size ≤ most) : addJ Sh.dig true false D p r = brokeV (addV Sh.dig D p r) := by
  unfold addJ addV
  rw [frame_ok h, if_neg (show ¬ Idle true false by unfold Idle; simp), if_neg (by simp), if_neg (by simp)]
theorem swapJ_swap (D : DD) (p : ByteArray) {l : List ByteArray} (h : Small l) : swapJ Sh.dig true false D p l = brokeV (swapV Sh.dig D p l) := by
  unfold swapJ swapV
  rw [frames_ok h, if_neg (show ¬ Idle true false by unfold Idle; simp), if_neg (by simp), if_neg (by simp)]
theorem new_log : newV = logD Sh.dig [] (-1) := rfl
theorem open_new : openV Sh.dig newV log = ⟨newV, true, [], 0⟩ := by
  have hc : clearV newV log = (newV, 0) := by rw [new_log]; exact clear_log [] (-1)
  have hr : readV newV log = (nul, 10) := rfl
  unfold openV
  rw [if_neg (by decide), hc, if_neg (by simp), hr, if_neg (by show ¬ _ < 0; omega)]
  rfl
theorem budget_log {c : Nat} : budgetV newV (c : Int) = logD Sh.dig [] (c : Int) := by
  unfold budgetV
  rw [if_neg (by omega)]
  rfl
section
variable {Q : World → (Nat → Prop) → Nat → DD → Jn → Prop}
/-- The first Open of a law. -/
theorem first_open (hK : JKeeps Q) (B : Nat) (w : World) (U : Nat → Prop) (b : Nat) (h : Q w U b newV none) (ho : Ok B w) (hU : ∀ q, U q → B ≤ q) :
    Calls Tryz.prog 8 #[ptr b, .string log] w fun e w' => ∃ U' g A n cap, e = .returned (.tuple #[ptr g, .slice A n cap, .int .i64 0]) ∧ Q w' U' b newV (some (g, log, false)) ∧ (∀ q, U' q → U q ∨ w.heap.size ≤ q) ∧ Away U w w' := by
  have h1 := hK.open_ B w U b newV none log h (fit_new _) (by decide) ho hU
  rw [open_new] at h1
  refine h1.mono ?_
  rintro e w' ⟨U', g, A, n, cap, he, hq, h2, h3, _, _⟩
  exact ⟨U', g, A, n, cap, he, hq, h2, h3⟩
/-- .. and the one behind the crash. -/
theorem last_open (hK : JKeeps Q) (B : Nat) (w : World) (U : Nat → Prop) (b : Nat) (D : DD) (h : Q w U b D none) (hf : Fits D) (hl : D.left = -1) (L : List ByteArray) (hL : recsV Sh.dig (readV D log).1 = L) (ho : Ok B w) (hU : ∀ q, U q → B ≤ q) :
    Calls Tryz.prog 8 #[ptr b, .string log] w fun e w' => ∃ g A n cap, e = .returned (.tuple #[ptr g, .slice A n cap, .int .i64 0]) ∧ L.length = n ∧ NRow w' w'.heap.size A L ∧ Away U w w' := by
  obtain ⟨o1, o2, o3⟩ := open_free Sh.dig hf hl (show log ≠ nul by decide)
  have h1 := hK.open_ B w U b D none log h hf (by decide) ho hU
  unfold openJ at h1
  rw [o3, o2, hL, o1] at h1
  refine h1.mono ?_
  rintro e w' ⟨U', g, A, n, cap, he, hq, h2, h3, h4, h5, _⟩
  exact ⟨g, A, n, cap, he, h4, h5, h3⟩
end
end Jl
end Go.Proofs.YtogpigfepebibaaGreatDoor

namespace Go.Proofs.YtogpigfepebibaaGreatDoor
namespace Jl
open Go.RowKit Go.ChangeShapes Kr Dk

theorem take_all (l : List ByteArray) {k : Nat} (h : l.length = k) : l.take k = l := List.take_of_length_le (by omega)
theorem fl_take {l : List ByteArray} (h : ∀ r ∈ l, r.size ≤ 100) {n : Nat} (hn : l.length = n) (k : Nat) : (FL Sh.dig (l.take k)).size ≤ 112 * n := by
  have h1 := FL_le H_len (l := l.take k) (fun x hx => h x (List.mem_of_mem_take hx))
  have h2 : (l.take k).length ≤ n := by rw [List.length_take]; omega
  have h3 : (l.take k).length * (12 + 100) ≤ n * (12 + 100) := Nat.mul_le_mul_right _ h2
  omega

end Jl
end Go.Proofs.YtogpigfepebibaaGreatDoor

namespace Go.Proofs.YtogpigfepebibaaGreatDoor
namespace Jl
open Go.RowKit Go.ChangeShapes Kr Dk

theorem same_no (A A' : Option Addr) (cap cap' B n m : Nat) (xs ys : List ByteArray) (w : World) (hxy : xs ≠ ys) (hn : xs.length = n) (hm : ys.length = m) (hnm : n ≤ 9223372036854775807) (hmm : m ≤ 9223372036854775807) (hx : NRow w B A xs) (hy : NRow w B A' ys) :
    Calls Tryz.prog 20 #[.slice A n cap, .slice A' m cap'] w fun e w' => e = .returned (.bool false) ∧ Below w.heap.size w w' := by
  refine (refsame_any A A' cap cap' B n m xs ys w hn hm hnm hmm hx hy).mono ?_
  rintro e w' ⟨rfl, q, rfl⟩
  exact ⟨by rw [decide_eq_false hxy], below_drewN (Below.refl _ _) q⟩
theorem Ok.top {B : Nat} {w : World} (h : Ok B w) : Ok w.heap.size w := ⟨h.1, Nat.lt_of_lt_of_le h.2.1 h.2.2, Nat.le_refl _⟩
theorem budget_was (l : List ByteArray) (c : Nat) : budgetV (logD Sh.dig l (-1)) (c : Int) = logD Sh.dig l (c : Int) := by
  unfold budgetV
  rw [if_neg (by omega)]
  unfold logD
  split <;> rfl
theorem fit_swapV {M : Nat} {D : DD} (h : Fit M D) (p : ByteArray) {l : List ByteArray} (hl : Small l) : Fit (M + (FL Sh.dig l).size + 1) (swapV Sh.dig D p l).1 := by
  have h1 := fit_clear h p
  unfold swapV
  rw [frames_ok hl, if_neg (by simp)]
  unfold restV
  split
  · exact fit_anew h1 p _
  · exact h1.more (by omega)
theorem all_fl {l : List ByteArray} (h : ∀ r ∈ l, r.size ≤ 100) {n : Nat} (hn : l.length = n) : (FL Sh.dig l).size ≤ 112 * n := by
  have h1 := FL_le H_len h
  rw [hn] at h1
  omega

end Jl
end Go.Proofs.YtogpigfepebibaaGreatDoor

namespace Go.Proofs.YtogpigfepebibaaGreatDoor
namespace Jl
open Go.RowKit Go.ChangeShapes Kr Dk

/-- Something done. -/
structure Ja where
  kind : Int
  num : Int
  name : ByteArray
  data : ByteArray
  ra : Option Addr
  rn : Nat
  rcap : Nat
  recs : List ByteArray
  pa : Option Addr
  pn : Nat
  pcap : Nat
  picks : List Int
def encJ (a : Ja) : List Value := [.int .i64 a.kind, .int .i64 a.num, .string a.name, .string a.data, .slice a.ra a.rn a.rcap, .slice a.pa a.pn a.pcap]
theorem encJ_length (a : Ja) : (encJ a).length = 6 := rfl
/-- What any act's cells are. -/
structure JOk (a : Ja) : Prop where
  name : a.name.size ≤ 140737488355328
  data : a.data.size ≤ 140737488355328
  rn : a.rn ≤ 9223372036854775807
  rcap : a.rn ≤ a.rcap
  rlen : a.recs.length = a.rn
  rsize : ∀ r ∈ a.recs, r.size ≤ 9223372036854775807
  pn : a.pn ≤ 9223372036854775807
  pcap : a.pn ≤ a.pcap
  plen : a.picks.length = a.pn
  num : -9223372036854775808 ≤ a.num ∧ a.num ≤ 9223372036854775807
  picks : ∀ z ∈ a.picks, -9223372036854775808 ≤ z ∧ z ≤ 9223372036854775807
/-- A row of acts: their cells, their records and picks. -/
def JRow (w : World) (B : Nat) (A : Option Addr) (t : List Ja) : Prop := KRow encJ 6 w B A t ∧ ∀ a ∈ t, NRow w B a.ra a.recs ∧ PRow w B a.pa a.picks
theorem JRow.below {w w' : World} {B B' : Nat} {A : Option Addr} {t : List Ja} (h : JRow w B A t) (hb : Below B' w w') (hB : B ≤ B') : JRow w' B A t := ⟨h.1.below hb hB, fun a ha => ⟨(h.2 a ha).1.below hb hB, (h.2 a ha).2.below hb hB⟩⟩
/-- More than is gone through. -/
def Much (a : Ja) : Prop := 20 < a.name.size ∨ 100 < a.data.size ∨ 10 < a.pn ∨ Too a.recs
instance (a : Ja) : Decidable (Much a) := by unfold Much; infer_instance
def Mucha (t : List Ja) : Prop := (∃ a ∈ t, Much a) ∨ 20 < t.length
instance (t : List Ja) : Decidable (Mucha t) := by unfold Mucha; infer_instance

set_option maxRecDepth 100000 in
set_option maxHeartbeats 4000000 in
theorem lawgreat_any (A : Option Addr) (cap n B : Nat) (t : List Ja) (w : World) (hn : t.length = n) (hnm : n ≤ 9223372036854775807) (hok : ∀ a ∈ t, JOk a) (hx : JRow w B A t) :
    Calls Tryz.prog 4 #[.slice A n cap] w fun e w' => e = .returned (.bool (decide (Mucha t))) ∧ w' = w := by
  have HX := Lib.hid hx
  have HN := Lib.hid hn
  have HOK := Lib.hid hok
  clear hx hn hok
  go_enter Tryz.func4, Tryz.ntmps4
  go_wp2
  go_loopw [3] (fun i wr => ∃ k : Nat, k ≤ n ∧ i = .int .i64 k ∧ Hid (∀ a ∈ t.take k, ¬ Much a) ∧ wr = w) (fun i _ => n - (intOf i).toNat)
  case atStart => exact ⟨0, Nat.zero_le _, rfl, fun a ha => by simp at ha, rfl⟩
  case round =>
    obtain ⟨k, hk, rfl, HA, h0⟩ := hrel
    obtain rfl := h0.symm
    clear h0
    by_cases hlt : k < n
    · have hki : (k : Int) < n := by omega
      have hxk : t[k]? = some (t[k]'(by rw [HN.out]; exact hlt)) := List.getElem?_eq_getElem _
      generalize t[k]'(by rw [HN.out]; exact hlt) = a at hxk
      obtain ⟨b, o, rfl, _, hcs⟩ := HX.out.1 k a hxk
      have c2 := hcs 2 (.string a.name) rfl
      have c3 := hcs 3 (.string a.data) rfl
      have c4 := hcs 4 (.slice a.ra a.rn a.rcap) rfl
      have c5 := hcs 5 (.slice a.pa a.pn a.pcap) rfl
      have hmem := List.mem_of_getElem? hxk
      have hjo := HOK.out a hmem
      have hno := hjo.name
      have hdo := hjo.data
      have hpo := hjo.pn
      have HG := Lib.hid (refgreat_any a.ra a.rcap B a.rn a.recs w hjo.rlen hjo.rn hjo.rsize (HX.out.2 a hmem).1)
      have HYES : Hid (Much a → decide (Mucha t) = true) := fun h => decide_eq_true (.inl ⟨a, hmem, h⟩)
      have HTK := Lib.hid (take_snoc t k a hxk)
      clear hcs hxk hmem hjo
      by_cases h1 : 20 < a.name.size
      · have h1i : (20 : Int) < a.name.size := by omega
        have HD := Lib.hid (HYES.out (.inl h1))
        go_wp2_with fail
        go_ret
        rw [HD.out]
        exact ⟨rfl, rfl⟩
      have h1i : ¬ (20 : Int) < a.name.size := by omega
      by_cases h2 : 100 < a.data.size
      · have h2i : (100 : Int) < a.data.size := by omega
        have HD := Lib.hid (HYES.out (.inr (.inl h2)))
        go_wp2_with fail
        go_ret
        rw [HD.out]
        exact ⟨rfl, rfl⟩
      have h2i : ¬ (100 : Int) < a.data.size := by omega
      by_cases h3 : 10 < a.pn
      · have h3i : (10 : Int) < a.pn := by omega
        have HD := Lib.hid (HYES.out (.inr (.inr (.inl h3))))
        go_wp2_with fail
        go_ret
        rw [HD.out]
        exact ⟨rfl, rfl⟩
      have h3i : ¬ (10 : Int) < a.pn := by omega
      by_cases h4 : Too a.recs
      · have HD := Lib.hid (HYES.out (.inr (.inr (.inr h4))))
        rw [decide_eq_true h4] at HG
        clear h4
        go_wp2_with fail
        refine HG.out.mono ?_
        rintro e w4 ⟨rfl, h0⟩
        obtain rfl := h0.symm
        clear h0
        go_wp2_with fail
        go_ret
        rw [HD.out]
        exact ⟨rfl, rfl⟩
      · rw [decide_eq_false h4] at HG
        have HA2 : Hid (∀ x ∈ t.take (k + 1), ¬ Much x) := fun x hx => by
          rw [HTK.out] at hx
          refine (List.mem_append.1 hx).elim (HA.out x) (fun h => ?_)
          rw [List.mem_singleton.1 h]
          rintro (h | h | h | h)
          · exact h1 h
          · exact h2 h
          · exact h3 h
          · exact h4 h
        clear h4
        go_wp2_with fail
        refine HG.out.mono ?_
        rintro e w4 ⟨rfl, h0⟩
        obtain rfl := h0.symm
        clear h0
        go_wp2
        go_roundw
        case rel => exact ⟨k + 1, by omega, by go_num, HA2.out, by trivial⟩
        case measure => simp [intOf]; omega
    · obtain rfl : k = n := by omega
      have HA2 : Hid (∀ a ∈ t, ¬ Much a) := fun a ha => HA.out a (by rw [List.take_of_length_le (by rw [HN.out]; exact Nat.le_refl _)]; exact ha)
      have HD : Hid (decide (Mucha t) = decide ((20 : Int) < (k : Int))) := by
        show _ = _
        exact decide_eq_decide.2 ⟨fun h => h.elim (fun ⟨a, ha, h2⟩ => absurd h2 (HA2.out a ha)) (fun h => by have := HN.out; omega), fun h => .inr (by have := HN.out; omega)⟩
      go_wp2
      go_ret
      rw [HD.out]
      exact ⟨rfl, rfl⟩
end Jl
end Go.Proofs.YtogpigfepebibaaGreatDoor

namespace Go.Proofs.YtogpigfepebibaaGreatDoor
namespace Jl
open Go.RowKit Go.ChangeShapes Kr Dk

/-- A row of texts, as a slice in memory. -/
structure Rr where
  a : Option Addr
  n : Nat
  cap : Nat
  l : List ByteArray
def encR (r : Rr) : List Value := [.slice r.a r.n r.cap]
structure ROk (r : Rr) : Prop where
  len : r.l.length = r.n
  cap : r.n ≤ r.cap
  high : r.n ≤ 9223372036854775807
  size : ∀ x ∈ r.l, x.size ≤ 9223372036854775807
def RRow (w : World) (B : Nat) (A : Option Addr) (t : List Rr) : Prop := KRow encR 1 w B A t ∧ ∀ r ∈ t, NRow w B r.a r.l
theorem RRow.below {w w' : World} {B B' : Nat} {A : Option Addr} {t : List Rr} (h : RRow w B A t) (hb : Below B' w w') (hB : B ≤ B') : RRow w' B A t := ⟨h.1.below hb hB, fun r hr => (h.2 r hr).below hb hB⟩
theorem take_snoc2 {α : Type} (xs : List α) (k : Nat) (x : α) (h : xs[k]? = some x) : xs.take (k + 1) = xs.take k ++ [x] := by
  obtain ⟨hk, rfl⟩ := List.getElem?_eq_some_iff.1 h
  rw [List.take_succ_eq_append_getElem hk]
theorem too_nil : ¬ Too [] := by
  rintro (⟨r, hr, _⟩ | h)
  · simp at hr
  · simp at h
/-- The records of the rows done. -/
def pks (pk : List ByteArray → ByteArray) (t : List Rr) : List ByteArray := t.map fun r => pk r.l
end Jl
end Go.Proofs.YtogpigfepebibaaGreatDoor
