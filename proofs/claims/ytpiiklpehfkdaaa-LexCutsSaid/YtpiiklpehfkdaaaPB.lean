/-
  Layer 9 (lex): function values that tell whether a token goes on; begin.
-/
import Derived.Test.YtpiiklpehfkdaaaPA
namespace Go.Proofs.Ytpiiklpehfkdaaa
namespace Lx
open Go.RowKit Kr

/-- A function value. -/
structure Fv where
  g : Nat
  fa : Array Value
  ca : Array Value
def Fv.val (c : Fv) : Value := .func (.func c.g) c.fa c.ca
/-- It tells, byte by byte, whether a token goes on; what it keeps lies in blocks from B on. -/
structure Tells (B : Nat) (c : Fv) (go : Bool × Bool → UInt8 → Bool) (st : Bool × Bool → UInt8 → Bool × Bool) (I : World → Bool × Bool → Prop) : Prop where
  enter : ∀ args w, (callFunc c.g args).run Try.prog w = .ok (.enter c.g args) w
  keep : ∀ W W' s, I W s → W.heap.size ≤ W'.heap.size → (∀ q, B ≤ q → q < W.heap.size → W'.heap[q]? = W.heap[q]?) → I W' s
  tells : ∀ W s (b : UInt8), I W s → Calls Try.prog c.g (c.fa.push (.int .u8 (b.toNat : Int)) ++ c.ca) W fun e W' => e = .returned (.bool (go s b)) ∧ I W' (st s b) ∧ Below B W W' ∧ W.heap.size ≤ W'.heap.size
theorem row_keep {W W' : World} {B q : Nat} {t : TypeId} {l : List Value} (h : Row W q t l) (hB : B ≤ q) (hk : ∀ q, B ≤ q → q < W.heap.size → W'.heap[q]? = W.heap[q]?) : Row W' q t l := (hk q hB h.lt).trans h
theorem hmf (fn : Fn) (first cap : Array Value) (w : World) : (Instr.makeFunc fn first cap).run Try.prog w = .ok (.func fn first cap) w := by rfl

/-- Of a function that keeps nothing. -/
theorem plain_tells (B g : Nat) (f : UInt8 → Bool) (he : ∀ args w, (callFunc g args).run Try.prog w = .ok (.enter g args) w) (h : ∀ (b : UInt8) W, Calls Try.prog g #[.int .u8 (b.toNat : Int)] W fun e w' => e = .returned (.bool (f b)) ∧ W = w') :
    Tells B ⟨g, #[], #[]⟩ (fun _ b => f b) same2 (fun _ _ => True) :=
  ⟨he, fun _ _ _ _ _ _ => trivial, fun W s b _ => (h b W).mono (by rintro e w' ⟨rfl, rfl⟩; exact ⟨rfl, trivial, Below.refl _ _, Nat.le_refl _⟩)⟩

def UI (c d : Nat) (W : World) (s : Bool × Bool) : Prop := Row W c 4 [.bool s.1] ∧ Row W d 4 [.bool s.2]
set_option maxRecDepth 100000 in
set_option maxHeartbeats 1000000 in
theorem utell_any (c d : Nat) (hcd : c ≠ d) (W : World) (s : Bool × Bool) (b : UInt8) (B : Nat) (hc : B ≤ c) (hd : B ≤ d) (h : UI c d W s) :
    Calls Try.prog 40 #[.int .u8 (b.toNat : Int), .pointer (some ⟨c, 0, none⟩), .pointer (some ⟨d, 0, none⟩)] W fun e W' => e = .returned (.bool (uGo s b)) ∧ UI c d W' (uSt s b) ∧ Below B W W' ∧ W.heap.size ≤ W'.heap.size := by
  obtain ⟨s1, s2⟩ := s
  obtain ⟨h1, h2⟩ := h
  have H1 : Hid (Row W c 4 [.bool s1]) := h1
  have H2 : Hid (Row W d 4 [.bool s2]) := h2
  have c0 := H1.out.cell 0
  have c1 := H2.out.cell 0
  have d0 := H1.out.frozen 0
  have d1 := H2.out.frozen 0
  have hb := b.toNat_lt
  clear h1 h2
  cases s1 with
  | true =>
    go_enter Try.func40, Try.ntmps40
    go_wp2
    go_ret
    exact ⟨rfl, ⟨H1.out, H2.out⟩, Below.refl _ _, Nat.le_refl _⟩
  | false =>
    cases s2 with
    | true =>
      obtain ⟨v, hv⟩ : ∃ v, uGo (false, true) b = v := ⟨_, rfl⟩
      have HV : Hid ((decide (b.toNat = 34) || (decide (b.toNat = 92) || decide (b.toNat = 110))) = v) := by
        show _ = _
        rw [← hv]
        show _ = (decide (b = 34) || (decide (b = 92) || decide (b = 110)))
        have h34 := u8_is b 34 (by decide)
        have h92 := u8_is b 92 (by decide)
        have h110 := u8_is b 110 (by decide)
        simp only [show UInt8.ofNat 34 = 34 from rfl, show UInt8.ofNat 92 = 92 from rfl, show UInt8.ofNat 110 = 110 from rfl] at h34 h92 h110
        simp only [h34, h92, h110]
      rw [hv]
      have HS : Hid (UI c d (W.setCell ⟨d, 0, none⟩ (.bool false)) (uSt (false, true) b)) := ⟨H1.out.far hcd _, H2.out.set 0 _⟩
      have HB : Hid (Below B W (W.setCell ⟨d, 0, none⟩ (.bool false))) := (Below.refl _ _).setCell hd _
      clear hv
      generalize b.toNat = n at *
      go_enter Try.func40, Try.ntmps40
      go_wp2
      all_goals
        go_ret
        refine ⟨congrArg (fun b => Ending.returned (Value.bool b)) ?_, HS.out, HB.out, by simp⟩
        rw [← HV.out, Bool.eq_iff_iff]
        simp only [Bool.or_eq_true, decide_eq_true_eq, beq_iff_eq, true_iff]
        omega
    | false =>
      have HC := Lib.hid (fun W => control_any b W)
      have e34 : ((b.toNat : Int) == 34) = decide (b = 34) := by
        have h34 := u8_is b 34 (by decide)
        rw [Bool.eq_iff_iff, beq_iff_eq, decide_eq_true_eq]
        exact ⟨fun h => h34.2 (by omega), fun h => by have := h34.1 h; omega⟩
      have e92 : ((b.toNat : Int) == 92) = decide (b = 92) := by
        have h92 := u8_is b 92 (by decide)
        rw [Bool.eq_iff_iff, beq_iff_eq, decide_eq_true_eq]
        exact ⟨fun h => h92.2 (by omega), fun h => by have := h92.1 h; omega⟩
      obtain ⟨x, hx⟩ : ∃ x, decide (b = 34) = x := ⟨_, rfl⟩
      obtain ⟨y, hy⟩ : ∃ y, decide (b = 92) = y := ⟨_, rfl⟩
      have HG : Hid (uGo (false, false) b = !bad b) := rfl
      have HS : Hid (uSt (false, false) b = (x, y)) := by show (decide (b = 34), decide (b = 92)) = _; rw [hx, hy]
      rw [hx] at e34
      rw [hy] at e92
      clear hx hy
      generalize bad b = v at *
      have HU : Hid (UI c d ((W.setCell ⟨c, 0, none⟩ (.bool x)).setCell ⟨d, 0, none⟩ (.bool y)) (x, y)) := ⟨(H1.out.set 0 _).far hcd _, (H2.out.far (Ne.symm hcd) _).set 0 _⟩
      have HB : Hid (Below B W ((W.setCell ⟨c, 0, none⟩ (.bool x)).setCell ⟨d, 0, none⟩ (.bool y))) := ((Below.refl _ _).setCell hc _).setCell hd _
      cases x <;> cases y
      all_goals
        go_enter Try.func40, Try.ntmps40
        go_wp2_with (go_at_call 21; refine (HC.out _).mono ?_; rintro e _ ⟨rfl, rfl⟩)
        go_ret
        rw [HG.out, HS.out]
        exact ⟨rfl, HU.out, HB.out, by simp⟩
def EI (c : Nat) (W : World) (s : Bool × Bool) : Prop := Row W c 4 [.bool s.1]
set_option maxRecDepth 100000 in
set_option maxHeartbeats 1000000 in
theorem etell_any (c : Nat) (W : World) (s : Bool × Bool) (b : UInt8) (B : Nat) (hc : B ≤ c) (h : EI c W s) :
    Calls Try.prog 41 #[.int .u8 (b.toNat : Int), .pointer (some ⟨c, 0, none⟩)] W fun e W' => e = .returned (.bool (eGo s b)) ∧ EI c W' (eSt s b) ∧ Below B W W' ∧ W.heap.size ≤ W'.heap.size := by
  obtain ⟨s1, s2⟩ := s
  have H1 : Hid (Row W c 4 [.bool s1]) := h
  have c0 := H1.out.cell 0
  have d0 := H1.out.frozen 0
  have hb := b.toNat_lt
  have e61 : ((b.toNat : Int) == 61) = decide (b = 61) := by
    have h61 := u8_is b 61 (by decide)
    rw [Bool.eq_iff_iff, beq_iff_eq, decide_eq_true_eq]
    exact ⟨fun h => h61.2 (by omega), fun h => by have := h61.1 h; omega⟩
  have HG : Hid (eGo (s1, s2) b = (!s1 && decide (b = 61))) := rfl
  have HS : Hid (EI c (W.setCell ⟨c, 0, none⟩ (.bool true)) (eSt (s1, s2) b)) := H1.out.set 0 _
  have HB : Hid (Below B W (W.setCell ⟨c, 0, none⟩ (.bool true))) := (Below.refl _ _).setCell hc _
  clear h
  generalize decide (b = 61) = v at *
  cases s1 <;> cases v
  all_goals
    go_enter Try.func41, Try.ntmps41
    go_wp2
    go_ret
    rw [HG.out]
    exact ⟨rfl, HS.out, HB.out, by simp⟩
def uF (c d : Nat) : Fv := ⟨40, #[], #[.pointer (some ⟨c, 0, none⟩), .pointer (some ⟨d, 0, none⟩)]⟩
def eF (c : Nat) : Fv := ⟨41, #[], #[.pointer (some ⟨c, 0, none⟩)]⟩
set_option maxRecDepth 100000 in
theorem untilq_any (w : World) : Calls Try.prog 35 #[] w fun e w' => ∃ c d, e = .returned (uF c d).val ∧ Tells w.heap.size (uF c d) uGo uSt (UI c d) ∧ UI c d w' (false, false) ∧ Below w.heap.size w w' := by
  have hm := hmf
  go_enter Try.func35, Try.ntmps35
  go_wp2
  go_ret
  refine ⟨w.heap.size, w.heap.size + 1, rfl, ⟨enters_of Try.func40 (by kernel_rfl) rfl, fun W W' s h _ hk => ⟨row_keep h.1 (Nat.le_refl _) hk, row_keep h.2 (Nat.le_succ _) hk⟩, fun W s b h => utell_any _ _ (by omega) W s b _ (Nat.le_refl _) (Nat.le_succ _) h⟩, ⟨?_, ?_⟩, ?_⟩
  · exact (Row.new_at _ _ _ _ rfl rfl).alloc _
  · exact Row.new_at _ _ _ _ (by simp) rfl
  · exact ((Below.refl _ _).alloc (Nat.le_refl _) _).alloc (by simp) _
set_option maxRecDepth 100000 in
theorem untile_any (w : World) : Calls Try.prog 36 #[] w fun e w' => ∃ c, e = .returned (eF c).val ∧ Tells w.heap.size (eF c) eGo eSt (EI c) ∧ EI c w' (false, false) ∧ Below w.heap.size w w' := by
  have hm := hmf
  go_enter Try.func36, Try.ntmps36
  go_wp2
  go_ret
  refine ⟨w.heap.size, rfl, ⟨enters_of Try.func41 (by kernel_rfl) rfl, fun W W' s h _ hk => row_keep h (Nat.le_refl _) hk, fun W s b h => etell_any _ W s b _ (Nat.le_refl _) h⟩, ?_, ?_⟩
  · exact Row.new_at _ _ _ _ rfl rfl
  · exact (Below.refl _ _).alloc (Nat.le_refl _) _
end Lx
end Go.Proofs.Ytpiiklpehfkdaaa
