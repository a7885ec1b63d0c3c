/-
  Layer 5 (tree): the walk of the document's Same.
-/
import Derived.Test.YtkldgfdfpanelaaDoorTA
import Derived.Laws.Cover1
import Derived.Sort.Walk0
namespace Go.Proofs.YtkldgfdfpanelaaDoor
namespace Tr
open Go.RowKit Go.ChangeShapes Pt

/-- Two files are held against each other. -/
theorem eqF (a b c d : ByteArray) (w : World) : (Op.equalIn 10000 30 (.agg #[.string a, .string b]) (.agg #[.string c, .string d])).run Tryd.prog w = .ok (a.toList == c.toList && b.toList == d.toList) w := by
  have u3 := Tryd.underlying9
  have a3 := Tryd.isAgg9
  have z3 := Tryd.sizeOf9
  have hS : Tryd.prog.underlying 30 = some (.struct (Tryd.prog.fieldsOf 30)) := by kernel_rfl
  have hp : Tryd.prog.stoodInHeld 30 = false := by kernel_rfl
  rw [show (10000 : Nat) = 9999 + 1 from rfl, run_equalIn_agg w 9999 30 _ _ hS hp]
  simp only [Program.fieldsOf, Tryd.underlying30]
  go_simp
  by_cases h1 : a.toList = c.toList <;> by_cases h2 : b.toList = d.toList <;> simp [h1, h2]
theorem guardF : Tryd.prog.eqGuardType Tryd.prog.depth 30 = false := by kernel_rfl

set_option maxRecDepth 100000 in
set_option maxHeartbeats 2000000 in
theorem same_any (A A' : Option Addr) (cap cap' B n m : Nat) (s t : List Fl) (b : Bool) (hb : decide (s = t) = b) (w : World) (hn : s.length = n) (hm : t.length = m) (hnm : n ≤ 9223372036854775807) (hmm : m ≤ 9223372036854775807) (hx : FRow w B A s) (hy : FRow w B A' t) :
    Calls Tryd.prog 8 #[.slice A n cap, .slice A' m cap'] w fun e w' => e = .returned (.bool b) ∧ ∃ n, w' = w.drewN n := by
  have HX := Lib.hid hx
  have HY := Lib.hid hy
  have HL := Lib.hid hn
  have HM := Lib.hid hm
  have HB := Lib.hid hb
  clear hx hn hb hy hm
  by_cases hnq : n = m
  · subst hnq
    have hbq : ((n : Int) != (n : Int)) = false := by simp
    go_enter Tryd.func8, Tryd.ntmps8
    go_wp2
    go_loopw [13] (fun i wr => ∃ k d : Nat, k ≤ n ∧ i = .int .i64 k ∧ s.take k = t.take k ∧ wr = w.drewN d) (fun i _ => n - (intOf i).toNat)
    case atStart => exact ⟨0, 0, Nat.zero_le _, rfl, rfl, by rw [World.drewN_zero]⟩
    case round =>
      obtain ⟨k, d, hk, rfl, ht, rfl⟩ := hrel
      have HT := Lib.hid ht
      clear ht
      by_cases hlt : k < n
      · have hxk : s[k]? = some (s[k]'(by rw [HL.out]; exact hlt)) := List.getElem?_eq_getElem _
        generalize s[k]'(by rw [HL.out]; exact hlt) = x at hxk
        have hyk : t[k]? = some (t[k]'(by rw [HM.out]; exact hlt)) := List.getElem?_eq_getElem _
        generalize t[k]'(by rw [HM.out]; exact hlt) = y at hyk
        obtain ⟨b1, o1, xp, xd, rfl, _, hxp, hxd, cP, cD⟩ := HX.out k x hxk
        obtain ⟨b2, o2, yp, yd, rfl, _, hyp, hyd, cP', cD'⟩ := HY.out k y hyk
        have hki : (k : Int) < n := by omega
        have hQ0 := eqF xp xd yp yd
        have hG := guardF
        by_cases he : x = y
        · have hQ : ∀ W, (Op.equalIn 10000 30 (.agg #[.string xp, .string xd]) (.agg #[.string yp, .string yd])).run Tryd.prog W = .ok true W := fun W => by
            rw [hQ0, ByteArray.toList_eq, ByteArray.toList_eq, ByteArray.toList_eq, ByteArray.toList_eq, hxp, hxd, hyp, hyd, he]; simp
          have hT : Hid (s.take (k + 1) = t.take (k + 1)) := by
            show _ = _
            rw [take_snoc s k x hxk, take_snoc t k y hyk, HT.out, he]
          clear hxk hyk hxp hxd hyp hyd hQ0 he
          go_wp2
          go_quiet (fail)
          go_wp2
          go_roundw
          case rel => exact ⟨k + 1, _, by omega, by go_num, hT.out, rfl⟩
          case measure => simp [intOf]; omega
        · have hQ : ∀ W, (Op.equalIn 10000 30 (.agg #[.string xp, .string xd]) (.agg #[.string yp, .string yd])).run Tryd.prog W = .ok false W := fun W => by
            rw [hQ0, ByteArray.toList_eq, ByteArray.toList_eq, ByteArray.toList_eq, ByteArray.toList_eq, hxp, hxd, hyp, hyd]
            have : ¬ (x.1 = y.1 ∧ x.2 = y.2) := fun h => he (Prod.ext h.1 h.2)
            by_cases h1 : x.1 = y.1
            · simp [h1]; exact fun h2 => this ⟨h1, h2⟩
            · simp [h1]
          have hD : b = false := by
            rw [← HB.out, decide_eq_false_iff_not]
            rintro rfl
            rw [hxk] at hyk
            exact he (Option.some.inj hyk)
          subst hD
          clear hxk hyk hxp hxd hyp hyd hQ0 he
          go_wp2
          go_quiet (fail)
          go_wp2
          go_ret
          exact ⟨rfl, _, World.drewN_drewN _ _ _⟩
      · have hD : b = true := by
          have := HT.out
          rw [List.take_of_length_le (by rw [HL.out]; omega), List.take_of_length_le (by rw [HM.out]; omega)] at this
          rw [← HB.out, this]; simp
        subst hD
        go_wp2
        go_ret
        exact ⟨rfl, _, rfl⟩
  · have hbq : ((n : Int) != (m : Int)) = true := by simp; omega
    have hD : b = false := by
      rw [← HB.out, decide_eq_false_iff_not]
      rintro rfl
      exact hnq (HL.out.symm.trans HM.out)
    subst hD
    go_enter Tryd.func8, Tryd.ntmps8
    go_wp2
    go_ret
    exact ⟨rfl, 0, by rw [World.drewN_zero]⟩
end Tr
end Go.Proofs.YtkldgfdfpanelaaDoor
