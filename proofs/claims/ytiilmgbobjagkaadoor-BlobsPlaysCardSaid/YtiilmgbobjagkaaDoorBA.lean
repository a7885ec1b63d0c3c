/-
  Layer 6 (blobs): rows of digests and bytes in memory; the walks of the document's Less, Find, Size.
-/
import Derived.Test.YtiilmgbobjagkaaDoorBM
import Derived.Test.YtiilmgbobjagkaaDoorKR
import Derived.Test.YtiilmgbobjagkaaDoorSQ
import Derived.BigQuiet
namespace Go.Proofs.YtiilmgbobjagkaaDoor
namespace Bl
open Go.RowKit Kr

def SV (l : Bs) : Value := .string ⟨l.toArray⟩
theorem SV_str (s : ByteArray) : Value.string s = SV s.data.toList := by unfold SV; simp
/-- 32 bytes, whatever the list. -/
def fix32 (l : Bs) : Bs := (l ++ List.replicate 32 0).take 32
theorem fix32_length (l : Bs) : (fix32 l).length = 32 := by unfold fix32; simp
theorem fix32_id {l : Bs} (h : l.length = 32) : fix32 l = l := by unfold fix32; exact List.take_left' h
def encB (f : Bb) : List Value := Sh.bvals (fix32 f.1) ++ [SV f.2]
theorem encB_length (f : Bb) : (encB f).length = 33 := by unfold encB; rw [List.length_append, Sh.bvals_length, fix32_length]; rfl
abbrev BRow (w : World) (B : Nat) (A : Option Addr) (l : List Bb) : Prop := KRow encB 33 w B A l
def Sums (l : List Bb) : Prop := ∀ f ∈ l, f.1.length = 32
theorem sum_part {f : Bb} (h : f.1.length = 32) : ((encB f).drop 0).take 32 = Sh.bvals f.1 := by
  unfold encB
  rw [fix32_id h, List.drop_zero]
  exact List.take_left' (by rw [Sh.bvals_length, h])
theorem data_at (f : Bb) : (encB f)[32]? = some (SV f.2) := by
  unfold encB
  rw [List.getElem?_append_right (by rw [Sh.bvals_length, fix32_length]; exact Nat.le_refl _), Sh.bvals_length, fix32_length]
  rfl

/-- The first unlike byte decides. -/
theorem lt_at : ∀ (a b : Bs) (k : Nat) (x y : UInt8), a.take k = b.take k → a[k]? = some x → b[k]? = some y → x ≠ y → decide (a < b) = decide (x < y)
  | [], _, _, _, _, _, h, _, _ => by simp at h
  | _ :: _, [], _, _, _, _, _, h, _ => by simp at h
  | p :: a, q :: b, 0, x, y, _, h1, h2, hn => by
    injection h1 with h1
    injection h2 with h2
    subst h1 h2
    by_cases hl : p < q
    · rw [decide_eq_true hl, decide_eq_true (List.cons_lt_cons_iff.2 (.inl hl))]
    · rw [decide_eq_false hl, decide_eq_false]
      intro h
      rcases List.cons_lt_cons_iff.1 h with h | ⟨h, _⟩
      · exact hl h
      · exact hn h
  | p :: a, q :: b, k + 1, x, y, ht, h1, h2, hn => by
    rw [List.take_succ_cons, List.take_succ_cons] at ht
    injection ht with e ht
    subst e
    rw [← lt_at a b k x y ht h1 h2 hn]
    have : (p :: a < p :: b) ↔ a < b := by
      rw [List.cons_lt_cons_iff]
      exact ⟨fun h => h.elim (fun h => absurd h (UInt8.lt_irrefl _)) (·.2), fun h => .inr ⟨rfl, h⟩⟩
    exact decide_eq_decide.2 this

theorem bv_at {a : Bs} {k : Nat} {x : UInt8} (h : a[k]? = some x) : (Sh.bvals a)[k]? = some (.int .u8 (x.toNat : Int)) := by unfold Sh.bvals; rw [List.getElem?_map, h]; rfl
theorem u8_lt (x y : UInt8) : decide ((x.toNat : Int) < (y.toNat : Int)) = decide (x < y) := decide_eq_decide.2 (by rw [UInt8.lt_iff_toNat_lt]; omega)
theorem u8_ne {x y : UInt8} (h : x ≠ y) : ((x.toNat : Int) == (y.toNat : Int)) = false := beq_eq_false_iff_ne.2 (fun e => h (UInt8.toNat_inj.1 (by omega)))

set_option maxRecDepth 100000 in
set_option maxHeartbeats 4000000 in
theorem less_any (a b : Bs) (c : Bool) (hc : decide (a < b) = c) (ha : a.length = 32) (hb : b.length = 32) (w : World) :
    Calls Tryd.prog 23 #[.agg (Sh.bvals a).toArray, .agg (Sh.bvals b).toArray] w fun e w' => e = .returned (.bool c) ∧ Below w.heap.size w w' := by
  have HC := Lib.hid hc
  have HA := Lib.hid ha
  have HB := Lib.hid hb
  obtain ⟨w0, hw0⟩ : ∃ w0, w0 = (w.alloc (.cells (Sh.bvals a).toArray 29)).alloc (.cells (Sh.bvals b).toArray 29) := ⟨_, rfl⟩
  have HR1 : Hid (Sh.Row w0 w.heap.size 29 (Sh.bvals a)) := by rw [hw0]; exact (Sh.Row.new_at w _ _ _ rfl rfl).alloc _
  have HR2 : Hid (Sh.Row w0 (w.heap.size + 1) 29 (Sh.bvals b)) := by rw [hw0]; exact Sh.Row.new_at _ _ _ _ (by simp) rfl
  have HB0 : Hid (Below w.heap.size w w0) := by rw [hw0]; exact ((Below.refl _ _).alloc (Nat.le_refl _) _).alloc (by simp) _
  clear hc ha hb
  go_enter Tryd.func23, Tryd.ntmps23
  go_wp2
  rw [← hw0]
  clear hw0
  go_loopw [5] (fun i wr => ∃ k d : Nat, k ≤ 32 ∧ i = .int .i64 k ∧ Hid (a.take k = b.take k) ∧ wr = w0.drewN d) (fun i _ => 32 - (intOf i).toNat)
  case atStart => exact ⟨0, 0, by omega, rfl, rfl, by rw [World.drewN_zero]⟩
  case round =>
    obtain ⟨k, d, hk, rfl, HT, rfl⟩ := hrel
    by_cases hlt : k < 32
    · have hki : (k : Int) < 32 := by omega
      have hxk : a[k]? = some (a[k]'(by rw [HA.out]; exact hlt)) := List.getElem?_eq_getElem _
      generalize a[k]'(by rw [HA.out]; exact hlt) = x at hxk
      have hyk : b[k]? = some (b[k]'(by rw [HB.out]; exact hlt)) := List.getElem?_eq_getElem _
      generalize b[k]'(by rw [HB.out]; exact hlt) = y at hyk
      have c1 : w0.cell? ⟨w.heap.size, k, none⟩ = some (.int .u8 (x.toNat : Int)) := (HR1.out.cell k).trans (bv_at hxk)
      have c2 : w0.cell? ⟨w.heap.size + 1, k, none⟩ = some (.int .u8 (y.toNat : Int)) := (HR2.out.cell k).trans (bv_at hyk)
      by_cases he : x = y
      · have he1 : ((x.toNat : Int) == (y.toNat : Int)) = true := by rw [he]; simp
        have HT2 : Hid (a.take (k + 1) = b.take (k + 1)) := by
          show _ = _
          rw [Sh.take_snoc a k x hxk, Sh.take_snoc b k y hyk, HT.out, he]
        clear hxk hyk
        go_wp2
        go_big_quiet (fail)
        go_wp2
        go_roundw
        case rel => exact ⟨k + 1, _, by omega, by go_num, HT2.out, rfl⟩
        case measure => simp [intOf]; omega
      · have he1 := u8_ne he
        have hl1 := u8_lt x y
        rw [← lt_at a b k x y HT.out hxk hyk he, HC.out] at hl1
        have hl2 : decide (x.toNat < y.toNat) = c := by rw [← hl1]; exact decide_eq_decide.2 (by omega)
        clear hxk hyk
        go_wp2
        go_big_quiet (fail)
        go_wp2
        go_big_quiet (fail)
        go_wp2
        go_ret
        exact ⟨by rw [← hl2]; rfl, Sh.below_drewN (Sh.below_drewN (Sh.below_drewN HB0.out _) _) _⟩
    · obtain rfl : k = 32 := by omega
      have hab : a = b := by
        have := HT.out
        rwa [List.take_of_length_le (by rw [HA.out]; omega), List.take_of_length_le (by rw [HB.out]; omega)] at this
      have HC0 : Hid (c = false) := by show _ = _; rw [← HC.out, hab]; exact decide_eq_false lt_no
      clear hab
      go_wp2
      go_ret
      exact ⟨by rw [HC0.out]; rfl, Sh.below_drewN HB0.out _⟩

theorem get_at {l : List Bb} {d : Bs} : ∀ {k : Nat} {x : Bb}, (∀ j f, j < k → l[j]? = some f → f.1 ≠ d) → l[k]? = some x → x.1 = d → get l d = some x.2 := by
  induction l with
  | nil => intro k x _ h; simp at h
  | cons f l ih =>
    intro k x ho hx he
    rw [get_cons]
    cases k with
    | zero =>
      injection hx with hx
      subst hx
      rw [if_pos he]
    | succ k =>
      rw [if_neg (ho 0 f (by omega) rfl)]
      exact ih (fun j g hj hg => ho (j + 1) g (by omega) hg) hx he
theorem get_no {l : List Bb} {d : Bs} {n : Nat} (hn : l.length = n) (ho : ∀ j f, j < n → l[j]? = some f → f.1 ≠ d) : get l d = none := by
  rw [get_none]
  intro f hf
  obtain ⟨j, hj⟩ := List.getElem?_of_mem hf
  exact ho j f (by have := (List.getElem?_eq_some_iff.1 hj).1; omega) hj
/-- What Find answers. -/
def Found (l : List Bb) (d : Bs) (z : Int) : Prop := (z = -1 ∧ get l d = none) ∨ ∃ (k : Nat) (x : Bb), z = (k : Int) ∧ l[k]? = some x ∧ x.1 = d ∧ get l d = some x.2

theorem bvals_inj {a b : Bs} (ha : a.length = 32) (hb : b.length = 32) (W : World) : (binOp .eql 29 (.agg (Sh.bvals a).toArray) (.agg (Sh.bvals b).toArray)).run Tryd.prog W = .ok (.bool (decide (a = b))) W := by
  have h := run_eql_bytes (P := Tryd.prog) W 29 5 32 Tryd.underlying29 Tryd.underlying5 (fun w => by kernel_rfl) a b ha hb
  have e : (a == b) = decide (a = b) := by by_cases h : a = b <;> simp [h]
  rw [e] at h
  exact h

set_option maxRecDepth 100000 in
set_option maxHeartbeats 4000000 in
theorem find_any (A : Option Addr) (cap B n : Nat) (l : List Bb) (d : Bs) (hd : d.length = 32) (w : World) (hn : l.length = n) (hnm : n ≤ 100000) (hs : Sums l) (hx : BRow w B A l) (hB : B ≤ w.heap.size) :
    Calls Tryd.prog 12 #[.slice A n cap, .agg (Sh.bvals d).toArray] w fun e w' => ∃ z, e = .returned (.int .i64 z) ∧ Found l d z ∧ Below w.heap.size w w' := by
  have HX := Lib.hid (hx.more hB)
  have HN := Lib.hid hn
  have HD := Lib.hid hd
  have HS := Lib.hid hs
  obtain ⟨w0, hw0⟩ : ∃ w0, w0 = w.alloc (.cells (Sh.bvals d).toArray 29) := ⟨_, rfl⟩
  have HR1 : Hid (Sh.Row w0 w.heap.size 29 (Sh.bvals d)) := by rw [hw0]; exact Sh.Row.new_at w _ _ _ rfl rfl
  have HX0 : Hid (BRow w0 w.heap.size A l) := by rw [hw0]; exact HX.out.alloc (Nat.le_refl _) _
  have HB0 : Hid (Below w.heap.size w w0) := by rw [hw0]; exact (Below.refl _ _).alloc (Nat.le_refl _) _
  clear hx hn hd hs HX
  have hng := Sh.no_guard
  go_enter Tryd.func12, Tryd.ntmps12
  go_wp2
  rw [← hw0]
  clear hw0
  go_loopw [5] (fun i wr => ∃ k q : Nat, k ≤ n ∧ i = .int .i64 k ∧ Hid (∀ j f, j < k → l[j]? = some f → f.1 ≠ d) ∧ wr = w0.drewN q) (fun i _ => n - (intOf i).toNat)
  case atStart => exact ⟨0, 0, Nat.zero_le _, rfl, fun j f hj => absurd hj (Nat.not_lt_zero _), by rw [World.drewN_zero]⟩
  case round =>
    obtain ⟨k, q, hk, rfl, HA, rfl⟩ := hrel
    by_cases hlt : k < n
    · have hki : (k : Int) < n := by omega
      have hxk : l[k]? = some (l[k]'(by rw [HN.out]; exact hlt)) := List.getElem?_eq_getElem _
      generalize l[k]'(by rw [HN.out]; exact hlt) = x at hxk
      obtain ⟨b1, o1, rfl, hb1, _⟩ := HX0.out k x hxk
      have hx32 := HS.out x (List.mem_of_getElem? hxk)
      obtain ⟨T, hT⟩ : ∃ T, T = 29 := ⟨_, rfl⟩
      obtain ⟨N, hN⟩ : ∃ q, q = 32 := ⟨_, rfl⟩
      have key : ∀ x, Op.load 29 x = Op.load T x := by intro x; rw [hT]
      have hagg : ∀ W, (isAgg T).run Tryd.prog W = .ok true W := fun W => by rw [hT]; kernel_rfl
      have hsize : ∀ W, (sizeOf T).run Tryd.prog W = .ok N W := fun W => by rw [hT, hN]; kernel_rfl
      have hl1 : ∀ m, (loadCellsFrom ⟨b1, o1 + k * 33, none⟩ 0 N #[]).run Tryd.prog (w0.drewN m) = .ok (Sh.bvals x.1).toArray (w0.drewN m) := fun m =>
        load_part (by rw [Sh.bvals_length, hx32, hN]) (fun i v hv => by
          have := KRow.part (i := 0) (m := 32) (HX0.out.drewN m) hxk (sum_part hx32) i v hv
          rwa [Nat.add_zero] at this)
      have hl2 : ∀ m, (loadCellsFrom ⟨w.heap.size, 0, none⟩ 0 N #[]).run Tryd.prog (w0.drewN m) = .ok (Sh.bvals d).toArray (w0.drewN m) := fun m =>
        load_part (by rw [Sh.bvals_length, HD.out, hN]) (fun i v hv => by rw [Nat.zero_add]; exact (HR1.out.cell i).trans hv)
      have heq := bvals_inj hx32 HD.out
      by_cases he : x.1 = d
      · have hF : Found l d k := .inr ⟨k, x, rfl, hxk, he, get_at HA.out hxk he⟩
        have HF := Lib.hid hF
        rw [decide_eq_true he] at heq
        clear hxk hF he hT hN
        go_wp2
        simp only [key]
        clear key
        go_big_quiet (fail)
        go_wp2
        go_ret
        exact ⟨k, rfl, HF.out, Sh.below_drewN (Sh.below_drewN HB0.out _) _⟩
      · have HNO : Hid (∀ j f, j < k + 1 → l[j]? = some f → f.1 ≠ d) := fun j f hj hf => by
          by_cases he2 : j = k
          · subst he2; rw [hxk] at hf; cases hf; exact he
          · exact HA.out j f (by omega) hf
        rw [decide_eq_false he] at heq
        clear hxk he hT hN
        go_wp2
        simp only [key]
        clear key
        go_big_quiet (fail)
        go_wp2
        go_roundw
        case rel => exact ⟨k + 1, _, by omega, by go_num, HNO.out, rfl⟩
        case measure => simp [intOf]; omega
    · obtain rfl : k = n := by omega
      have hF : Found l d (-1) := .inl ⟨rfl, get_no HN.out HA.out⟩
      have HF := Lib.hid hF
      clear hF
      go_wp2
      go_ret
      exact ⟨-1, rfl, HF.out, Sh.below_drewN HB0.out _⟩
end Bl
end Go.Proofs.YtiilmgbobjagkaaDoor
