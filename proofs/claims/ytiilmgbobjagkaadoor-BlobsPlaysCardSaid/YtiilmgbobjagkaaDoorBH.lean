/-
  Layer 6 (blobs): rows of acts in memory; the walks of the laws' great, asked.
-/
import Derived.Test.YtiilmgbobjagkaaDoorBE
namespace Go.Proofs.YtiilmgbobjagkaaDoor
namespace Bl
open Go.RowKit Kr

/-- An act: its kind, its bytes, whether it asks by another digest, that digest. -/
structure Ac where
  kind : UInt8
  data : ByteArray
  is : Bool
  other : Bs
def encA (a : Ac) : List Value := [.int .u8 (a.kind.toNat : Int), .string a.data, .bool a.is] ++ Sh.bvals (fix32 a.other)
theorem encA_length (a : Ac) : (encA a).length = 35 := by unfold encA; rw [List.length_append, Sh.bvals_length, fix32_length]; rfl
abbrev ARow (w : World) (B : Nat) (A : Option Addr) (l : List Ac) : Prop := KRow encA 35 w B A l
theorem act_kind (a : Ac) : (encA a)[0]? = some (.int .u8 (a.kind.toNat : Int)) := rfl
theorem act_data (a : Ac) : (encA a)[1]? = some (.string a.data) := rfl
theorem act_is (a : Ac) : (encA a)[2]? = some (.bool a.is) := rfl
theorem act_other (a : Ac) (j : Nat) : (encA a)[3 + j]? = (Sh.bvals (fix32 a.other))[j]? := by
  unfold encA
  rw [List.getElem?_append_right (by show 3 ≤ 3 + j; omega)]
  show (Sh.bvals (fix32 a.other))[3 + j - 3]? = _
  rw [Nat.add_sub_cancel_left]
def greatA (l : List Ac) : Bool := decide (40 < l.length) || l.any (fun a => decide (300 < a.data.size))
def askedA (a : Ac) : Bs := if a.is = true then fix32 a.other else dig a.data
theorem asked_length (a : Ac) : (askedA a).length = 32 := by
  unfold askedA
  split
  · exact fix32_length _
  · exact dig_len _

set_option maxRecDepth 100000 in
set_option maxHeartbeats 4000000 in
theorem great_any (A : Option Addr) (cap B n : Nat) (t : List Ac) (b : Bool) (hb : greatA t = b) (w : World) (hn : t.length = n) (hnm : n ≤ 9223372036854775807) (hsz : ∀ a ∈ t, a.data.size ≤ 9223372036854775807) (hx : ARow w B A t) :
    Calls Tryd.prog 8 #[.slice A n cap] w fun e w' => e = .returned (.bool b) ∧ w' = w := by
  have HX := Lib.hid hx
  have HL := Lib.hid hn
  have HB := Lib.hid hb
  have HZ := Lib.hid hsz
  clear hx hn hb hsz
  by_cases h60 : 40 < n
  · have hb : b = true := by rw [← HB.out]; unfold greatA; rw [HL.out, decide_eq_true h60]; rfl
    subst hb
    have hi : (40 : Int) < n := by omega
    go_enter Tryd.func8, Tryd.ntmps8
    go_wp2
    go_ret
    exact ⟨rfl, rfl⟩
  · have hi : (n : Int) ≤ 40 := by omega
    go_enter Tryd.func8, Tryd.ntmps8
    go_wp2
    go_loopw [3] (fun i wr => ∃ k : Nat, k ≤ n ∧ i = .int .i64 k ∧ Hid (∀ j f, j < k → t[j]? = some f → ¬ 300 < f.data.size) ∧ wr = w) (fun i _ => n - (intOf i).toNat)
    case atStart => exact ⟨0, Nat.zero_le _, rfl, fun j f hj => absurd hj (Nat.not_lt_zero _), rfl⟩
    case round =>
      obtain ⟨k, hk, rfl, HA, rfl⟩ := hrel
      by_cases hlt : k < n
      · have hki : (k : Int) < n := by omega
        have hxk : t[k]? = some (t[k]'(by rw [HL.out]; exact hlt)) := List.getElem?_eq_getElem _
        generalize t[k]'(by rw [HL.out]; exact hlt) = x at hxk
        obtain ⟨b1, o1, rfl, _, hcs⟩ := HX.out k x hxk
        have cD := hcs 1 _ (act_data x)
        have hzx := HZ.out x (List.mem_of_getElem? hxk)
        by_cases h1 : 300 < x.data.size
        · have hi1 : (300 : Int) < x.data.size := by omega
          have hbt : b = true := by
            rw [← HB.out]; unfold greatA
            rw [List.any_eq_true.2 ⟨x, List.mem_of_getElem? hxk, decide_eq_true h1⟩, Bool.or_true]
          have HBT := Lib.hid hbt
          clear hbt hcs hxk
          go_wp2
          go_ret
          exact ⟨by rw [HBT.out]; rfl, rfl⟩
        · have hi1 : ¬ (300 : Int) < x.data.size := by omega
          have HNO : Hid (∀ j f, j < k + 1 → t[j]? = some f → ¬ 300 < f.data.size) := fun j f hj hf => by
            by_cases he : j = k
            · subst he; rw [hxk] at hf; cases hf; exact h1
            · exact HA.out j f (by omega) hf
          clear hcs hxk
          go_wp2
          go_roundw
          case rel => exact ⟨k + 1, by omega, by go_num, HNO.out, trivial⟩
          case measure => simp [intOf]; omega
      · obtain rfl : k = n := by omega
        have hbf : b = false := by
          rw [← HB.out]; unfold greatA
          rw [HL.out, decide_eq_false h60, Bool.false_or, List.any_eq_false]
          intro f hf
          obtain ⟨j, hj⟩ := List.getElem?_of_mem hf
          have := HA.out j f (by have := (List.getElem?_eq_some_iff.1 hj).1; rw [HL.out] at this; exact this) hj
          simpa using this
        have HBF := Lib.hid hbf
        clear hbf
        go_wp2
        go_ret
        exact ⟨by rw [HBF.out]; rfl, rfl⟩

section
variable {P : Program} {ops : Array Oper} {rest : List Oper} {o : Oper} {a : Act} {w : World} {Q : Exit → Act → World → Prop}
/-- A load of one cell, the fact given by hand. -/
theorem wpList_load_one (hgd : o.guard = none) (ty : TypeId) (x : Operand) (ho : o.op = .load ty x) (p : Addr) (hx : a.eval x = .pointer (some p)) (v : Value)
    (hagg : (isAgg ty).run P w = .ok false w) (hc : w.cell? p = some v)
    (h : wpList P ops Q rest (a.put o.dst v) w) : wpList P ops Q (o :: rest) a w :=
  wpList_plain hgd fun _ hK => by
    unfold Oper.wp execOp
    simp [ho, hx, Instr.loadAt, Instr.sureAddr, loadVar, hagg, hc]
    exact hK _ _ h
end

set_option maxRecDepth 100000 in
set_option maxHeartbeats 4000000 in
theorem asked_any (B : Nat) (x : Ac) (hs : x.data.size ≤ 1000) (w : World) (hok : Ok B w) :
    Calls Tryd.prog 11 #[.agg (encA x).toArray] w fun e w' => e = .returned (dv (askedA x)) ∧ Below w.heap.size w w' := by
  obtain ⟨t, ht⟩ : ∃ t, x.is = t := ⟨_, rfl⟩
  have hX0 : Sh.Row ((w.alloc (.cells (encA x).toArray 31)).alloc (.cells (Sh.bvals (List.replicate 32 0)).toArray 29)) w.heap.size 31 (encA x) := (Sh.Row.new_at w _ _ _ rfl rfl).alloc _
  have HR0 : Hid (Sh.Row ((w.alloc (.cells (encA x).toArray 31)).alloc (.cells (Sh.bvals (List.replicate 32 0)).toArray 29)) (w.heap.size + 1) 29 (Sh.bvals (List.replicate 32 0))) := Sh.Row.new_at _ _ _ _ (by simp) rfl
  have HB0 : Hid (Below w.heap.size w ((w.alloc (.cells (encA x).toArray 31)).alloc (.cells (Sh.bvals (List.replicate 32 0)).toArray 29))) := ((Below.refl _ _).alloc (Nat.le_refl _) _).alloc (by simp) _
  have HO0 := Lib.hid (hok.below (HB0.out.mono hok.2.2))
  have HCD := Lib.hid ((hX0.cell 1).trans (act_data x))
  have HCI := Lib.hid ((hX0.cell 2).trans (act_is x))
  have HCO := Lib.hid (fun j v (hv : (Sh.bvals (fix32 x.other))[j]? = some v) => (hX0.cell (3 + j)).trans ((act_other x j).trans hv))
  have HFL : Hid ((Sh.bvals (fix32 x.other)).length = 32) := by show _ = _; rw [Sh.bvals_length, fix32_length]
  have HSUM := Lib.hid (fun (W : World) b (hc : W.cell? ⟨b, 0, none⟩ = some (.string x.data)) (h1 : b < W.heap.size) (ho : Ok B W) => sum_one W B b x.data hs hc h1 ho)
  have HAB := Lib.hid (fun W : World => (by kernel_rfl : (isAgg 4).run Tryd.prog W = .ok false W))
  have HAS := Lib.hid (fun W : World => (by kernel_rfl : (isAgg 9).run Tryd.prog W = .ok false W))
  rw [ht] at HCI
  clear hX0 hok hs
  cases t
  · have HV : Hid (askedA x = dig x.data) := by show _ = _; unfold askedA; rw [ht]; rfl
    have HDL := Lib.hid (dig_len x.data)
    clear ht HCO
    go_enter Tryd.func11, Tryd.ntmps11
    go_wp2_with (first
      | (refine wpList_load_one rfl 4 (.tmp 3) rfl ⟨w.heap.size, 2, none⟩ rfl (.bool false) (HAB.out _) HCI.out ?_)
      | (refine wpList_load_one rfl 9 (.tmp 7) rfl ⟨w.heap.size, 1, none⟩ rfl (.string x.data) (HAS.out _) HCD.out ?_))
    refine (HSUM.out _ (w.heap.size + 2) (by exact (Sh.Row.new_at _ _ _ [.string x.data] (by simp) rfl).cell 0) (by simp) (Ok.alloc HO0.out _)).mono ?_
    rintro e w1 ⟨rfl, hb1⟩
    have HR1 := Lib.hid ((HR0.out.alloc (.cells #[.string x.data] 9)).below hb1 (by simp))
    have HB1 := Lib.hid ((HB0.out.alloc (by simp; omega) (.cells #[.string x.data] 9)).trans (hb1.mono (by simp; omega)))
    clear hb1
    go_wp2_with (refine Sh.wpList_store_all rfl 29 (.tmp 2) (.tmp 10) rfl (w.heap.size + 1) (Sh.bvals (dig x.data)) rfl rfl 29 (Sh.bvals (List.replicate 32 0)) HR1.out ?s1 ?s2 (Sh.bvals_one _) ?_)
    case s1 => rw [Sh.bvals_length, HDL.out]; kernel_rfl
    case s2 => rw [Sh.bvals_length, Sh.bvals_length, HDL.out, List.length_replicate]
    intro w7 HR7 HT7
    go_wp2
    rw [HV.out]
    refine bodyPost_ret (results_cell_row rfl _ _ (w.heap.size + 1) 29 (Sh.bvals (dig x.data)).toArray (0, 0) _ rfl HR7.out Tryd.underlying29 rfl ?r1) rfl ⟨rfl, Sh.below_turn HB1.out HT7.out (by omega)⟩
    case r1 => rw [List.size_toArray, Sh.bvals_length, HDL.out]; kernel_rfl
  · have HV : Hid (askedA x = fix32 x.other) := by show _ = _; unfold askedA; rw [ht]; rfl
    clear ht HSUM
    go_enter Tryd.func11, Tryd.ntmps11
    go_wp2_with (first
      | (refine wpList_load_one rfl 4 (.tmp 3) rfl ⟨w.heap.size, 2, none⟩ rfl (.bool true) (HAB.out _) HCI.out ?_)
      | (refine wpList_load_at rfl 29 (.tmp 5) rfl ⟨w.heap.size, 3, none⟩ rfl (Sh.bvals (fix32 x.other)) 32 (digest_agg _) (digest_size _) HFL.out (fun j v hv => by rw [Addr.add_lit]; exact HCO.out j v hv) ?_)
      | (refine Sh.wpList_store_all rfl 29 (.tmp 2) (.tmp 6) rfl (w.heap.size + 1) (Sh.bvals (fix32 x.other)) rfl rfl 29 (Sh.bvals (List.replicate 32 0)) HR0.out ?s3 ?s4 (Sh.bvals_one _) ?_))
    case s3 => rw [HFL.out]; kernel_rfl
    case s4 => rw [HFL.out, Sh.bvals_length, List.length_replicate]
    intro w7 HR7 HT7
    go_wp2
    rw [HV.out]
    refine bodyPost_ret (results_cell_row rfl _ _ (w.heap.size + 1) 29 (Sh.bvals (fix32 x.other)).toArray (0, 0) _ rfl HR7.out Tryd.underlying29 rfl ?r2) rfl ⟨rfl, Sh.below_turn HB0.out HT7.out (by omega)⟩
    case r2 => rw [List.size_toArray, HFL.out]; kernel_rfl
end Bl
end Go.Proofs.YtiilmgbobjagkaaDoor
