/-
  Layer 3 (path): the walks of the functions that make no memory: a part's signs, a part.
-/
import Derived.Test.YtkldgfdfpanelaaDoorProg
import Derived.Test.YtkldgfdfpanelaaDoorMath
import Derived.WalkKit
import Derived.BigQuiet
import Derived.Deep.QuietTactic
import Derived.Lib.Hide
import Derived.Laws.Strings
namespace Go.Proofs.YtkldgfdfpanelaaDoor
namespace Pt
open Go.RowKit

theorem data_length (s : ByteArray) : s.data.toList.length = s.size := rfl
theorem ext_data (s : ByteArray) (i j : Nat) : (s.extract i j).data.toList = (s.data.toList.drop i).take (j - i) := by
  simp [ByteArray.data_extract, Array.toList_extract, List.extract_eq_take_drop]
theorem ext_front (s : ByteArray) (j : Nat) : (s.extract 0 j).data.toList = s.data.toList.take j := by rw [ext_data]; simp
theorem ext_rest (s : ByteArray) (i : Nat) : (s.extract i s.size).data.toList = s.data.toList.drop i := by
  rw [ext_data, List.take_of_length_le (by rw [List.length_drop, data_length]; omega)]
theorem drop_at (s : ByteArray) (k : Nat) (h : k < s.size) : s.data.toList.drop k = s[k] :: s.data.toList.drop (k + 1) := by
  rw [List.drop_eq_getElem_cons (by rw [data_length]; exact h)]; rfl
theorem take_at (s : ByteArray) (k : Nat) (h : k < s.size) : s.data.toList.take (k + 1) = s.data.toList.take k ++ [s[k]] := by
  rw [List.take_succ_eq_append_getElem (by rw [data_length]; exact h)]; rfl
theorem str_back (s : ByteArray) : (⟨s.data.toList.toArray⟩ : ByteArray) = s := by simp
theorem str_eq {s t : ByteArray} (h : s.data.toList = t.data.toList) : s = t := by rw [← str_back s, h, str_back]

theorem chr_any (c : UInt8) (w : World) :
    Calls Tryd.prog 59 #[.int .u8 (c.toNat : Int)] w fun e w' => e = .returned (.bool (chr c)) ∧ w = w' := by
  have hc := c.toNat_lt
  obtain ⟨b, hb⟩ : ∃ b, chr c = b := ⟨_, rfl⟩
  rw [hb]
  unfold chr at hb
  generalize c.toNat = n at hb hc ⊢
  have HB := Lib.hid hb
  clear hb
  go_enter Tryd.func59, Tryd.ntmps59
  go_wp2
  all_goals
    go_ret
    refine ⟨congrArg (fun b => Ending.returned (Value.bool b)) ?_, rfl⟩
    rw [← HB.out, Bool.eq_iff_iff]
    simp only [Bool.or_eq_true, Bool.and_eq_true, decide_eq_true_eq, beq_iff_eq, true_iff]
    omega

theorem comp_bad (s : ByteArray) (h : ((s.toList.isEmpty = true ∨ (s.toList == [46]) = true) ∨ (s.toList == [46, 46]) = true) ∨ 64 < (s.size : Int)) : comp s.data.toList = false := by
  rw [ByteArray.toList_eq] at h
  have hl := data_length s
  unfold comp
  rcases h with ((h | h) | h) | h
  · rw [List.isEmpty_iff] at h; rw [h]; rfl
  · rw [h]; simp
  · rw [h]; simp
  · rw [decide_eq_true (show 64 < s.data.toList.length by omega)]; simp
theorem comp_all (s : ByteArray) (h : ((s.toList.isEmpty = false ∧ (s.toList == [46]) = false) ∧ (s.toList == [46, 46]) = false) ∧ (s.size : Int) ≤ 64) : comp s.data.toList = s.data.toList.all chr := by
  rw [ByteArray.toList_eq] at h
  have hl := data_length s
  obtain ⟨⟨⟨h1, h2⟩, h3⟩, h4⟩ := h
  unfold comp
  have e1 : (s.data.toList == []) = false := by
    rw [beq_eq_false_iff_ne]; intro e; rw [e] at h1; cases h1
  rw [h2, h3, e1, decide_eq_false (show ¬ 64 < s.data.toList.length by omega)]
  simp
theorem all_snoc (s : ByteArray) (k : Nat) (h : k < s.size) : (s.data.toList.take (k + 1)).all chr = ((s.data.toList.take k).all chr && chr s[k]) := by
  rw [take_at s k h, List.all_append]; simp
theorem all_not (s : ByteArray) (k : Nat) (h : k < s.size) (hc : chr s[k] = false) : s.data.toList.all chr = false := by
  rw [List.all_eq_false]
  exact ⟨s[k], by simp [ByteArray.getElem_eq_getElem_data], by rw [hc]; simp⟩

/-- A part, sign by sign. -/
theorem part_any (s : ByteArray) (w : World) (hs : s.size ≤ 140737488355328) :
    Calls Tryd.prog 52 #[.string s] w fun e w' => e = .returned (.bool (comp s.data.toList)) ∧ w = w' := by
  obtain ⟨b, hb⟩ : ∃ b, comp s.data.toList = b := ⟨_, rfl⟩
  rw [hb]
  have HB := Lib.hid hb
  clear hb
  go_enter Tryd.func52, Tryd.ntmps52
  go_wp2
  · have hx : s.toList = [] := by assumption
    go_ret
    rw [← HB.out, comp_bad s (.inl (.inl (.inl (by rw [hx]; rfl))))]
    exact ⟨rfl, rfl⟩
  · have hx : s.toList = [46] := by assumption
    go_ret
    rw [← HB.out, comp_bad s (.inl (.inl (.inr (by rw [hx]; rfl))))]
    exact ⟨rfl, rfl⟩
  · have hx : s.toList = [46, 46] := by assumption
    go_ret
    rw [← HB.out, comp_bad s (.inl (.inr (by rw [hx]; rfl)))]
    exact ⟨rfl, rfl⟩
  · rename_i hx
    go_ret
    rw [← HB.out, comp_bad s hx]
    exact ⟨rfl, rfl⟩
  · have hx : ((s.toList.isEmpty = false ∧ (s.toList == [46]) = false) ∧ (s.toList == [46, 46]) = false) ∧ (s.size : Int) ≤ 64 := by assumption
    have ha := comp_all s hx
    rw [HB.out] at ha
    have HA := Lib.hid ha
    clear ha
    obtain ⟨⟨⟨x1, x2⟩, x3⟩, x4⟩ := hx
    have x5 : decide ((64 : Int) < s.size) = false := by rw [decide_eq_false_iff_not]; omega
    simp only [x1, x2, x3, x5, Bool.or_self]
    clear x1 x2 x3 x5
    go_loop [21] (fun i => ∃ k : Nat, k ≤ s.size ∧ i = .int .i64 k ∧ Hid ((s.data.toList.take k).all chr = true)) (fun i => s.size - (intOf i).toNat)
    case atStart => exact ⟨0, Nat.zero_le _, rfl, rfl⟩
    case round =>
      obtain ⟨k, hk, rfl, HK⟩ := hrel
      by_cases hlt : k < s.size
      · have hki : (k : Int) < s.size := by omega
        have HC := Lib.hid (chr_any s[k])
        have HN := Lib.hid (all_not s k hlt)
        have HS := Lib.hid (all_snoc s k hlt)
        cases hcc : chr s[k]
        · have hbf := HN.out hcc
          rw [← HA.out] at hbf
          have hc := HC.out
          rw [hcc] at hc
          have HC' := Lib.hid hc
          have HBF := Lib.hid hbf
          clear hbf hc hcc HC
          go_wp2_with fail
          refine (HC'.out _).mono ?_
          rintro e w' ⟨rfl, rfl⟩
          go_wp2
          go_ret
          rw [HBF.out]
          exact ⟨rfl, rfl⟩
        · have hst := HS.out
          rw [HK.out, hcc] at hst
          have hc := HC.out
          rw [hcc] at hc
          have HC' := Lib.hid hc
          have HST := Lib.hid hst
          clear hst hc hcc HC
          go_wp2_with fail
          refine (HC'.out _).mono ?_
          rintro e w' ⟨rfl, rfl⟩
          go_wp2
          go_round
          case rel => exact ⟨k + 1, by omega, by go_num, HST.out⟩
          case measure => simp [intOf]; omega
      · have hbt : b = true := by
          rw [HA.out, ← HK.out, List.take_of_length_le (by rw [data_length]; omega)]
        have HBT := Lib.hid hbt
        clear hbt
        go_wp2
        go_ret
        rw [HBT.out]
        exact ⟨rfl, rfl⟩

set_option maxHeartbeats 4000000 in
/-- The document's. -/
theorem refpart_any (s : ByteArray) (w : World) (hs : s.size ≤ 140737488355328) :
    Calls Tryd.prog 41 #[.string s] w fun e w' => e = .returned (.bool (comp s.data.toList)) ∧ w = w' := by
  obtain ⟨b, hb⟩ : ∃ b, comp s.data.toList = b := ⟨_, rfl⟩
  rw [hb]
  have HB := Lib.hid hb
  clear hb
  go_enter Tryd.func41, Tryd.ntmps41
  go_wp2
  · have hx : s.toList = [] := by assumption
    go_ret
    rw [← HB.out, comp_bad s (.inl (.inl (.inl (by rw [hx]; rfl))))]
    exact ⟨rfl, rfl⟩
  · have hx : s.toList = [46] := by assumption
    go_ret
    rw [← HB.out, comp_bad s (.inl (.inl (.inr (by rw [hx]; rfl))))]
    exact ⟨rfl, rfl⟩
  · have hx : s.toList = [46, 46] := by assumption
    go_ret
    rw [← HB.out, comp_bad s (.inl (.inr (by rw [hx]; rfl)))]
    exact ⟨rfl, rfl⟩
  · rename_i hx
    go_ret
    rw [← HB.out, comp_bad s hx]
    exact ⟨rfl, rfl⟩
  · have hx : ((s.toList.isEmpty = false ∧ (s.toList == [46]) = false) ∧ (s.toList == [46, 46]) = false) ∧ (s.size : Int) ≤ 64 := by assumption
    have ha := comp_all s hx
    rw [HB.out] at ha
    have HA := Lib.hid ha
    clear ha
    obtain ⟨⟨⟨x1, x2⟩, x3⟩, x4⟩ := hx
    have x5 : decide ((64 : Int) < s.size) = false := by rw [decide_eq_false_iff_not]; omega
    simp only [x1, x2, x3, x5, Bool.or_self]
    clear x1 x2 x3 x5
    go_loop [3] (fun i => ∃ k : Nat, k ≤ s.size ∧ i = .int .i64 k ∧ Hid ((s.data.toList.take k).all chr = true)) (fun i => s.size - (intOf i).toNat)
    case atStart => exact ⟨0, Nat.zero_le _, rfl, rfl⟩
    case round =>
      obtain ⟨k, hk, rfl, HK⟩ := hrel
      by_cases hlt : k < s.size
      · have hki : (k : Int) < s.size := by omega
        have HN := Lib.hid (all_not s k hlt)
        have HS := Lib.hid (all_snoc s k hlt)
        have hcl : s[k].toNat < 256 := s[k].toNat_lt
        have hdef : chr s[k] = chr s[k] := rfl
        conv at hdef => rhs; unfold chr
        have HD := Lib.hid hdef
        clear hdef
        generalize chr s[k] = cb at HN HS HD
        generalize hsk : s[k].toNat = n at hcl HD
        have HSK := Lib.hid hsk
        have hix : s[k].toNat = n := hsk
        clear hsk
        go_wp2
        all_goals clear hix
        all_goals first
          | (refine ⟨⟨k + 1, by omega, by go_num, ?_⟩, by simp [intOf]; omega⟩
             have hcb : cb = true := by
               rw [HD.out]
               simp only [Bool.or_eq_true, Bool.and_eq_true, decide_eq_true_eq, Bool.not_eq_false', bne_eq_false_iff_eq] at *
               omega
             rw [HS.out, HK.out, hcb]
             rfl)
          | (go_ret
             have hcb : cb = false := by
               rw [HD.out]
               simp only [Bool.or_eq_false_iff, Bool.and_eq_false_iff, decide_eq_false_iff_not, Bool.not_eq_true', bne_iff_ne, ne_eq] at *
               omega
             have hb := HN.out hcb
             rw [← HA.out] at hb
             rw [hb]
             exact ⟨rfl, rfl⟩)
      · have hbt : b = true := by
          rw [HA.out, ← HK.out, List.take_of_length_le (by rw [data_length]; omega)]
        have HBT := Lib.hid hbt
        clear hbt
        go_wp2
        go_ret
        rw [HBT.out]
        exact ⟨rfl, rfl⟩
end Pt
end Go.Proofs.YtkldgfdfpanelaaDoor
