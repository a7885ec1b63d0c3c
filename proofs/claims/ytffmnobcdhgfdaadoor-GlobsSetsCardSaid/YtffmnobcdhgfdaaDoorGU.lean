/-
  Layer 4 (globs): the walks of Same, of the document's some, of the closure that Pick makes, and of ContainsFunc.
-/
import Derived.Test.YtffmnobcdhgfdaaDoorGP
import Derived.Test.YtffmnobcdhgfdaaDoorGT
namespace Go.Proofs.YtffmnobcdhgfdaaDoor
namespace Gl
open Go.RowKit Pt

set_option maxRecDepth 100000 in
set_option maxHeartbeats 2000000 in
theorem same_any (A A' : Option Addr) (cap cap' B : Nat) (xs ys : List Bs) (w : World) (hx : SRow w B A xs) (hy : SRow w B A' ys) (hn : xs.length ≤ 9223372036854775807) (hm : ys.length ≤ 9223372036854775807) :
    Calls Tryd.prog 15 #[.slice A xs.length cap, .slice A' ys.length cap'] w fun e w' => e = .returned (.bool (decide (xs = ys))) ∧ ∃ n, w' = w.drewN n := by
  have HX := Lib.hid hx
  have HY := Lib.hid hy
  clear hx hy
  generalize hln : xs.length = n at *
  generalize hlm : ys.length = m at *
  have HL := Lib.hid hln
  have HM := Lib.hid hlm
  clear hln hlm
  by_cases hnm : n = m
  · subst hnm
    have hb : ((n : Int) != (n : Int)) = false := by simp
    go_enter Tryd.func15, Tryd.ntmps15
    go_wp2
    go_loopw [13] (fun i wr => ∃ k d : Nat, k ≤ n ∧ i = .int .i64 k ∧ xs.take k = ys.take k ∧ wr = w.drewN d) (fun i _ => n - (intOf i).toNat)
    case atStart => exact ⟨0, 0, Nat.zero_le _, rfl, rfl, by rw [World.drewN_zero]⟩
    case round =>
      obtain ⟨k, d, hk, rfl, ht, rfl⟩ := hrel
      have HT := Lib.hid ht
      clear ht
      by_cases hlt : k < n
      · have hxk : xs[k]? = some (xs[k]'(by rw [HL.out]; exact hlt)) := List.getElem?_eq_getElem _
        generalize xs[k]'(by rw [HL.out]; exact hlt) = x at hxk
        have hyk : ys[k]? = some (ys[k]'(by rw [HM.out]; exact hlt)) := List.getElem?_eq_getElem _
        generalize ys[k]'(by rw [HM.out]; exact hlt) = y at hyk
        obtain ⟨b, o, s, rfl, _, hsx, hc⟩ := HX.out k x hxk
        obtain ⟨b', o', s', rfl, _, hsy, hc'⟩ := HY.out k y hyk
        have HSX := Lib.hid hsx
        have HSY := Lib.hid hsy
        have HXK := Lib.hid hxk
        have HYK := Lib.hid hyk
        clear hsx hsy hxk hyk
        have hki : (k : Int) < n := by omega
        cases he : (s.toList == s'.toList)
        · have hne : x ≠ y := by
            rw [← HSX.out, ← HSY.out]
            rw [ByteArray.toList_eq, ByteArray.toList_eq] at he
            simpa using he
          have hD : decide (xs = ys) = false := by
            rw [decide_eq_false_iff_not]
            rintro rfl
            have h1 := HXK.out
            rw [HYK.out] at h1
            exact hne (Option.some.inj h1).symm
          have HD := Lib.hid hD
          clear hne hD
          go_wp2
          go_quiet (fail)
          go_wp2
          go_ret
          rw [HD.out]
          exact ⟨rfl, _, World.drewN_drewN _ _ _⟩
        · have hT : xs.take (k + 1) = ys.take (k + 1) := by
            rw [take_snoc xs k x HXK.out, take_snoc ys k y HYK.out, HT.out, ← HSX.out, ← HSY.out]
            rw [ByteArray.toList_eq, ByteArray.toList_eq] at he
            rw [beq_iff_eq.1 he]
          have HT' := Lib.hid hT
          clear hT
          go_wp2
          go_quiet (fail)
          go_wp2
          go_roundw
          case rel => exact ⟨k + 1, _, by omega, by go_num, HT'.out, rfl⟩
          case measure => simp [intOf]; omega
      · have hD : decide (xs = ys) = true := by
          have := HT.out
          rw [List.take_of_length_le (by rw [HL.out]; omega), List.take_of_length_le (by rw [HM.out]; omega)] at this
          simp [this]
        have HD := Lib.hid hD
        clear hD
        go_wp2
        go_ret
        rw [HD.out]
        exact ⟨rfl, _, rfl⟩
  · have hb : ((n : Int) != (m : Int)) = true := by simp; omega
    have hD : decide (xs = ys) = false := by
      rw [decide_eq_false_iff_not]
      rintro rfl
      exact hnm (HL.out.symm.trans HM.out)
    have HD := Lib.hid hD
    clear hD
    go_enter Tryd.func15, Tryd.ntmps15
    go_wp2
    go_ret
    rw [HD.out]
    exact ⟨rfl, 0, by rw [World.drewN_zero]⟩

def anyM (l : List Pt.Bs) (s : Pt.Bs) : Bool := l.any (fun p => mtch p s)
theorem anyM_hit {l : List Pt.Bs} {s p : Pt.Bs} (hp : p ∈ l) (h : mtch p s = true) : anyM l s = true := List.any_eq_true.2 ⟨p, hp, h⟩
theorem anyM_none {l : List Pt.Bs} {s : Pt.Bs} {n : Nat} (hn : l.length = n) (h : ∀ j p, j < n → l[j]? = some p → mtch p s = false) : anyM l s = false := by
  unfold anyM
  rw [List.any_eq_false]
  intro p hp
  obtain ⟨j, hj⟩ := List.getElem?_of_mem hp
  have hjl := (List.getElem?_eq_some_iff.1 hj).1
  rw [h j p (by omega) hj]; simp

set_option maxRecDepth 100000 in
set_option maxHeartbeats 2000000 in
theorem refsome_any (A : Option Addr) (cap n B : Nat) (l : List Pt.Bs) (s : ByteArray) (b : Bool) (hb : anyM l s.data.toList = b) (w : World) (hn : l.length = n) (hnm : n ≤ 100000) (hl : ∀ x ∈ l, x.length ≤ 100000) (hs : s.size ≤ 100000) (hr : SRow w B A l) :
    Calls Tryd.prog 38 #[.slice A n cap, .string s] w fun e w' => e = .returned (.bool b) ∧ Below w.heap.size w w' := by
  have HB := Lib.hid hb
  have HN := Lib.hid hn
  have HL := Lib.hid hl
  have HR := Lib.hid hr
  clear hb hn hl hr
  go_enter Tryd.func38, Tryd.ntmps38
  go_wp2
  go_loopw [9] (fun i wr => ∃ k : Nat, k ≤ n ∧ i = .int .i64 k ∧ Hid (∀ j p, j < k → l[j]? = some p → mtch p s.data.toList = false) ∧ Hid (SRow wr B A l) ∧ Hid (Below w.heap.size w wr)) (fun i _ => n - (intOf i).toNat)
  case atStart => exact ⟨0, Nat.zero_le _, rfl, fun j p hj => absurd hj (Nat.not_lt_zero _), HR.out, Below.refl _ _⟩
  case round =>
    obtain ⟨k, hk, rfl, HA, HRW, HBW⟩ := hrel
    by_cases hlt : k < n
    · have hki : (k : Int) < n := by omega
      have hxk : l[k]? = some (l[k]'(by rw [HN.out]; exact hlt)) := List.getElem?_eq_getElem _
      generalize l[k]'(by rw [HN.out]; exact hlt) = p at hxk
      obtain ⟨b1, o1, sp, rfl, _, hsp, cP⟩ := HRW.out k p hxk
      have hsps : sp.size ≤ 100000 := by
        have := HL.out p (List.mem_of_getElem? hxk)
        rw [← hsp, data_length] at this
        exact this
      obtain ⟨r, hr⟩ : ∃ r, mtch p s.data.toList = r := ⟨_, rfl⟩
      have HM := Lib.hid (refmatch_any sp s r (by rw [hsp]; exact hr) wr hsps hs)
      cases r
      · have HNX : Hid (∀ j q, j < k + 1 → l[j]? = some q → mtch q s.data.toList = false) := fun j q hj hq => by
          by_cases he : j = k
          · subst he
            rw [hxk] at hq
            cases hq
            exact hr
          · exact HA.out j q (by omega) hq
        clear hr hsp hxk
        go_wp2_with fail
        refine HM.out.mono ?_
        rintro e w1 ⟨rfl, hb1⟩
        have HR1 := Lib.hid (srow_later HRW.out hb1)
        have HB1 := Lib.hid (HBW.out.trans (hb1.mono HBW.out.size))
        clear hb1
        go_wp2
        go_roundw
        case rel => exact ⟨k + 1, by omega, by go_num, HNX.out, HR1.out, HB1.out⟩
        case measure => simp [intOf]; omega
      · have hbt : b = true := by rw [← HB.out]; exact anyM_hit (List.mem_of_getElem? hxk) hr
        have HBT := Lib.hid hbt
        clear hr hsp hxk hbt
        go_wp2_with fail
        refine HM.out.mono ?_
        rintro e w1 ⟨rfl, hb1⟩
        have HB1 := Lib.hid (HBW.out.trans (hb1.mono HBW.out.size))
        clear hb1
        go_wp2
        go_ret
        exact ⟨by rw [HBT.out]; rfl, HB1.out⟩
    · obtain rfl : k = n := by omega
      have hbf : b = false := by rw [← HB.out]; exact anyM_none HN.out HA.out
      have HBF := Lib.hid hbf
      clear hbf
      go_wp2
      go_ret
      exact ⟨by rw [HBF.out]; rfl, HBW.out⟩

/-- The closure: does a pattern match the path at hand? -/
theorem matches_any (bm : Nat) (p s : ByteArray) (b : Bool) (hb : mtch p.data.toList s.data.toList = b) (w : World) (hp : p.size ≤ 100000) (hs : s.size ≤ 100000) (hc : w.cell? ⟨bm, 0, none⟩ = some (.string s)) (hm : Mx w) :
    Calls Tryd.prog 34 #[.string p, .pointer (some ⟨bm, 0, none⟩)] w fun e w' => e = .returned (.bool b) ∧ Below w.heap.size w w' := by
  have HM := Lib.hid (gmatch_any p s b hb w hp hs hm)
  clear hb hm
  go_enter Tryd.func34, Tryd.ntmps34
  go_wp2_with fail
  refine HM.out.mono ?_
  rintro e w1 ⟨rfl, hb1⟩
  have HB1 := Lib.hid hb1
  clear hb1
  go_wp2
  go_ret
  exact ⟨rfl, HB1.out⟩

set_option maxRecDepth 100000 in
set_option maxHeartbeats 2000000 in
theorem indexf_any (bm : Nat) (A : Option Addr) (cap n B : Nat) (l : List Pt.Bs) (s : ByteArray) (b : Bool) (hb : anyM l s.data.toList = b) (w : World) (hn : l.length = n) (hnm : n ≤ 100000) (hl : ∀ x ∈ l, x.length ≤ 100000) (hs : s.size ≤ 100000) (hr : SRow w B A l) (hc : w.cell? ⟨bm, 0, none⟩ = some (.string s)) (hm : Mx w) :
    Calls Tryd.prog 56 #[.slice A n cap, .func (.func 34) #[] #[.pointer (some ⟨bm, 0, none⟩)]] w fun e w' => (∃ z : Int, e = .returned (.int .i64 z) ∧ z ≤ 100000 ∧ decide (0 ≤ z) = b) ∧ Below w.heap.size w w' := by
  have HB := Lib.hid hb
  have HN := Lib.hid hn
  have HL := Lib.hid hl
  have HR := Lib.hid hr
  have HC := Lib.hid hc
  have HM := Lib.hid hm
  clear hb hn hl hr hc hm
  go_enter Tryd.func56, Tryd.ntmps56
  go_wp2
  go_loopw [8] (fun i wr => ∃ k : Nat, k ≤ n ∧ i = .int .i64 k ∧ Hid (∀ j p, j < k → l[j]? = some p → mtch p s.data.toList = false) ∧ Hid (SRow wr B A l) ∧ Hid (wr.cell? ⟨bm, 0, none⟩ = some (.string s)) ∧ Hid (Mx wr) ∧ Hid (Below w.heap.size w wr)) (fun i _ => n - (intOf i).toNat)
  case atStart => exact ⟨0, Nat.zero_le _, rfl, fun j p hj => absurd hj (Nat.not_lt_zero _), HR.out, HC.out, HM.out, Below.refl _ _⟩
  case round =>
    obtain ⟨k, hk, rfl, HA, HRW, HCW, HMW, HBW⟩ := hrel
    by_cases hlt : k < n
    · have hki : (k : Int) < n := by omega
      have hxk : l[k]? = some (l[k]'(by rw [HN.out]; exact hlt)) := List.getElem?_eq_getElem _
      generalize l[k]'(by rw [HN.out]; exact hlt) = p at hxk
      obtain ⟨b1, o1, sp, rfl, _, hsp, cP⟩ := HRW.out k p hxk
      have hsps : sp.size ≤ 100000 := by
        have := HL.out p (List.mem_of_getElem? hxk)
        rw [← hsp, data_length] at this
        exact this
      obtain ⟨r, hr⟩ : ∃ r, mtch p s.data.toList = r := ⟨_, rfl⟩
      have HMT := Lib.hid (matches_any bm sp s r (by rw [hsp]; exact hr) wr hsps hs HCW.out HMW.out)
      cases r
      · have HNX : Hid (∀ j q, j < k + 1 → l[j]? = some q → mtch q s.data.toList = false) := fun j q hj hq => by
          by_cases he : j = k
          · subst he
            rw [hxk] at hq
            cases hq
            exact hr
          · exact HA.out j q (by omega) hq
        clear hr hsp hxk
        go_wp2_with fail
        refine HMT.out.mono ?_
        rintro e w1 ⟨rfl, hb1⟩
        have HR1 := Lib.hid (srow_later HRW.out hb1)
        have HC1 := Lib.hid (later_cell HCW.out hb1)
        have HM1 := Lib.hid (HMW.out.later hb1)
        have HB1 := Lib.hid (HBW.out.trans (hb1.mono HBW.out.size))
        clear hb1
        go_wp2
        go_roundw
        case rel => exact ⟨k + 1, by omega, by go_num, HNX.out, HR1.out, HC1.out, HM1.out, HB1.out⟩
        case measure => simp [intOf]; omega
      · have hbt : b = true := by rw [← HB.out]; exact anyM_hit (List.mem_of_getElem? hxk) hr
        have HBT := Lib.hid hbt
        clear hr hsp hxk hbt
        go_wp2_with fail
        refine HMT.out.mono ?_
        rintro e w1 ⟨rfl, hb1⟩
        have HB1 := Lib.hid (HBW.out.trans (hb1.mono HBW.out.size))
        clear hb1
        go_wp2
        go_ret
        exact ⟨⟨k, rfl, by omega, by rw [HBT.out]; exact decide_eq_true (by omega)⟩, HB1.out⟩
    · obtain rfl : k = n := by omega
      have hbf : b = false := by rw [← HB.out]; exact anyM_none HN.out HA.out
      have HBF := Lib.hid hbf
      clear hbf
      go_wp2
      go_ret
      exact ⟨⟨-1, rfl, by omega, by rw [HBF.out]; rfl⟩, HBW.out⟩

theorem contf_any (bm : Nat) (A : Option Addr) (cap n B : Nat) (l : List Pt.Bs) (s : ByteArray) (b : Bool) (hb : anyM l s.data.toList = b) (w : World) (hn : l.length = n) (hnm : n ≤ 100000) (hl : ∀ x ∈ l, x.length ≤ 100000) (hs : s.size ≤ 100000) (hr : SRow w B A l) (hc : w.cell? ⟨bm, 0, none⟩ = some (.string s)) (hm : Mx w) :
    Calls Tryd.prog 35 #[.slice A n cap, .func (.func 34) #[] #[.pointer (some ⟨bm, 0, none⟩)]] w fun e w' => e = .returned (.bool b) ∧ Below w.heap.size w w' := by
  have HI := Lib.hid (indexf_any bm A cap n B l s b hb w hn hnm hl hs hr hc hm)
  clear hb hn hl hr hc hm
  go_enter Tryd.func35, Tryd.ntmps35
  go_wp2_with fail
  refine HI.out.mono ?_
  rintro e w1 ⟨⟨z, rfl, hz, hd⟩, hb1⟩
  have HB1 := Lib.hid hb1
  have HD := Lib.hid hd
  clear hb1 hd
  go_wp2
  go_ret
  exact ⟨by rw [← HD.out]; rfl, HB1.out⟩
end Gl
end Go.Proofs.YtffmnobcdhgfdaaDoor
