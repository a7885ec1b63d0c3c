/-
  Layer 3 (path): the walks of the document's May, Join, Dir, Base, Ext, Under.
-/
import Derived.Test.YtkldgfdfpanelaaDoorC
namespace Go.Proofs.YtkldgfdfpanelaaDoor
namespace Pt
open Go.RowKit

theorem Owns.at {w : World} {base g n cap : Nat} {xs : List Bs} (h : Owns w base (.slice (some ⟨g, 0, none⟩) n cap) xs) (hn : xs.length = n) {j : Nat} {x : Bs} (hj : xs[j]? = some x) :
    ∃ X : ByteArray, X.data.toList = x ∧ w.cell? ⟨g, j, none⟩ = some (.string X) := by
  subst hn
  have hl := (List.getElem?_eq_some_iff.1 hj).1
  refine ⟨⟨x.toArray⟩, by simp, ?_⟩
  unfold Owns at h
  rw [h.cellAt j (by omega), List.getElem?_map, hj]
  rfl

theorem may_out {l : Bs} (h : may l = false) (hn : (parts l).length ≤ 16) : ∃ p ∈ parts l, comp p = false := by
  unfold may at h
  rw [decide_eq_true hn, Bool.and_true, List.all_eq_false] at h
  obtain ⟨p, hp, hc⟩ := h
  exact ⟨p, hp, by simpa using hc⟩

set_option maxRecDepth 100000 in
set_option maxHeartbeats 1000000 in
theorem refmay_any (s : ByteArray) (b : Bool) (hb : may s.data.toList = b) (w : World) (hs : s.size ≤ 100000) :
    Calls Tryd.prog 27 #[.string s] w fun e w' => e = .returned (.bool b) ∧ Below w.heap.size w w' := by
  have HB := Lib.hid hb
  have HLE := Lib.hid (parts_le s.data.toList)
  have hpl := parts_len s.data.toList
  rw [data_length] at hpl
  have hpp := parts_pos s.data.toList
  clear hb
  obtain ⟨n, hn⟩ : ∃ n, (parts s.data.toList).length = n := ⟨_, rfl⟩
  rw [hn] at hpl hpp
  have HN := Lib.hid hn
  clear hn
  have HP := Lib.hid (parts_any s w hs)
  go_enter Tryd.func27, Tryd.ntmps27
  go_wp2_with fail
  refine HP.out.mono ?_
  rintro e w1 ⟨g, cap, rfl, ho, hb1⟩
  rw [HN.out] at ho ⊢
  have HO := Lib.hid ho
  have HB1 := Lib.hid hb1
  clear ho hb1 HP
  go_wp2
  go_loop [4] (fun i => ∃ k : Nat, k ≤ n ∧ i = .int .i64 k ∧ Hid (∀ j p, j < k → (parts s.data.toList)[j]? = some p → comp p = true)) (fun i => n - (intOf i).toNat)
  case atStart => exact ⟨0, Nat.zero_le _, rfl, fun j p hj => absurd hj (Nat.not_lt_zero _)⟩
  case round =>
    obtain ⟨k, hk, rfl, HA⟩ := hrel
    by_cases hlt : k < n
    · have hki : (k : Int) < n := by omega
      have hpk : (parts s.data.toList)[k]? = some ((parts s.data.toList)[k]'(by rw [HN.out]; exact hlt)) := List.getElem?_eq_getElem _
      generalize (parts s.data.toList)[k]'(by rw [HN.out]; exact hlt) = p at hpk
      obtain ⟨X, hX, hc⟩ := HO.out.at HN.out hpk
      have hXs : X.size ≤ 140737488355328 := by
        have := HLE.out p (List.mem_of_getElem? hpk)
        rw [← hX, data_length, data_length] at this
        omega
      have hcp := part_any X
      have hcr := refpart_any X w1 hXs
      rw [hX] at hcr
      cases hcc : comp p
      · have hbf : b = false := by
          rw [← HB.out]
          cases hm : may s.data.toList
          · rfl
          · have := may_all hm p (List.mem_of_getElem? hpk); rw [hcc] at this; cases this
        rw [hcc] at hcr
        have HCR := Lib.hid hcr
        have HBF := Lib.hid hbf
        clear hcr hbf hcc hpk hX hcp
        go_wp2_with fail
        refine HCR.out.mono ?_
        rintro e w' ⟨rfl, rfl⟩
        go_wp2
        go_ret
        rw [HBF.out]
        exact ⟨rfl, HB1.out⟩
      · rw [hcc] at hcr
        have HCR := Lib.hid hcr
        have hnext : ∀ j q, j < k + 1 → (parts s.data.toList)[j]? = some q → comp q = true := fun j q hj hq => by
          by_cases he : j = k
          · subst he
            rw [hpk] at hq
            cases hq
            exact hcc
          · exact HA.out j q (by omega) hq
        have HNX := Lib.hid hnext
        clear hcr hcc hpk hX hcp hnext
        go_wp2_with fail
        refine HCR.out.mono ?_
        rintro e w' ⟨rfl, rfl⟩
        go_wp2
        go_round
        case rel => exact ⟨k + 1, by omega, by go_num, HNX⟩
        case measure => simp [intOf]; omega
    · have hbe : b = decide ((n : Int) ≤ 16) := by
        rw [← HB.out, Bool.eq_iff_iff, decide_eq_true_eq]
        constructor
        · intro h; have := may_len h; rw [HN.out] at this; omega
        · intro h
          refine may_mk (fun p hp => ?_) (by rw [HN.out]; omega)
          obtain ⟨j, hj⟩ := List.getElem?_of_mem hp
          have hjl := (List.getElem?_eq_some_iff.1 hj).1
          exact HA.out j p (by rw [HN.out] at hjl; omega) hj
      have HBE := Lib.hid hbe
      clear hbe
      go_wp2
      go_ret
      rw [HBE.out]
      exact ⟨rfl, HB1.out⟩

theorem take_snoc {α : Type} (xs : List α) (k : Nat) (x : α) (h : xs[k]? = some x) : xs.take (k + 1) = xs.take k ++ [x] := by
  obtain ⟨hk, rfl⟩ := List.getElem?_eq_some_iff.1 h
  rw [List.take_succ_eq_append_getElem hk]
theorem up_len (l : Bs) (k : Nat) : (up l k).length ≤ l.length := by
  by_cases h0 : k = 0
  · subst h0; rw [up_zero]; simp
  · by_cases h1 : k < (parts l).length
    · have h := congrArg List.length (up_split (s := l) (show 0 < k by omega) h1)
      rw [List.length_append, List.length_cons] at h
      omega
    · rw [up_all l k (by omega)]; exact Nat.le_refl _
theorem up_succ (l : Bs) (k : Nat) (p : Bs) (hk : 0 < k) (hp : (parts l)[k]? = some p) : up l (k + 1) = up l k ++ 47 :: p := by
  unfold up
  rw [take_snoc (parts l) k p hp, joinL_append _ _ (take_ne hk) (by simp)]
  rfl
theorem up_one (l : Bs) (p : Bs) (hp : (parts l)[0]? = some p) : up l 1 = p := by
  unfold up
  rw [take_snoc (parts l) 0 p hp]
  rfl

set_option maxRecDepth 100000 in
set_option maxHeartbeats 2000000 in
theorem refdir_any (s X : ByteArray) (hX : X.data.toList = dirOf s.data.toList) (w : World) (hs : s.size ≤ 100000) :
    Calls Tryd.prog 42 #[.string s] w fun e w' => e = .returned (.string X) ∧ Below w.heap.size w w' := by
  have HX := Lib.hid hX
  have hpl := parts_len s.data.toList
  rw [data_length] at hpl
  have hpp := parts_pos s.data.toList
  clear hX
  obtain ⟨n, hn⟩ : ∃ n, (parts s.data.toList).length = n := ⟨_, rfl⟩
  rw [hn] at hpl hpp
  have HN := Lib.hid hn
  clear hn
  have HP := Lib.hid (parts_any s w hs)
  cases hm : may s.data.toList
  · have hXe : X = ⟨#[]⟩ := str_eq (by rw [HX.out, dirOf_not hm])
    have HM := Lib.hid (fun W => refmay_any s false hm W hs)
    clear hm
    go_enter Tryd.func42, Tryd.ntmps42
    go_wp2_with fail
    refine HP.out.mono ?_
    rintro e w1 ⟨g, cap, rfl, ho, hb1⟩
    have HB1 := Lib.hid hb1
    clear ho hb1 HP
    go_wp2_with fail
    refine (HM.out _).mono ?_
    rintro e w2 ⟨rfl, hb2⟩
    have HB2 := Lib.hid (HB1.out.trans (hb2.mono HB1.out.size))
    clear hb2 HB1
    go_wp2
    go_ret
    rw [hXe]
    exact ⟨rfl, HB2.out⟩
  · have hd := dirOf_up hm
    rw [HN.out] at hd
    have HD := Lib.hid hd
    have HM := Lib.hid (fun W => refmay_any s true hm W hs)
    clear hd hm
    by_cases h1 : n = 1
    · have hXe : X = ⟨#[]⟩ := str_eq (by rw [HX.out, HD.out, h1]; rfl)
      have hb : ((n : Int) == 1) = true := by rw [beq_iff_eq]; omega
      clear h1
      go_enter Tryd.func42, Tryd.ntmps42
      go_wp2_with fail
      refine HP.out.mono ?_
      rintro e w1 ⟨g, cap, rfl, ho, hb1⟩
      rw [HN.out] at ho ⊢
      have HB1 := Lib.hid hb1
      clear ho hb1 HP
      go_wp2_with fail
      refine (HM.out _).mono ?_
      rintro e w2 ⟨rfl, hb2⟩
      have HB2 := Lib.hid (HB1.out.trans (hb2.mono HB1.out.size))
      clear hb2 HB1
      go_wp2
      go_ret
      rw [hXe]
      exact ⟨rfl, HB2.out⟩
    · have hb : ((n : Int) == 1) = false := by rw [beq_eq_false_iff_ne]; omega
      have hp0 : (parts s.data.toList)[0]? = some ((parts s.data.toList)[0]'(by rw [HN.out]; omega)) := List.getElem?_eq_getElem _
      generalize (parts s.data.toList)[0]'(by rw [HN.out]; omega) = p0 at hp0
      have hu1 := up_one _ _ hp0
      have HP0 := Lib.hid hp0
      have HU1 := Lib.hid hu1
      have HUL := Lib.hid (up_len s.data.toList)
      have HUS := Lib.hid (up_succ s.data.toList)
      clear hp0 hu1
      go_enter Tryd.func42, Tryd.ntmps42
      go_wp2_with fail
      refine HP.out.mono ?_
      rintro e w1 ⟨g, cap, rfl, ho, hb1⟩
      rw [HN.out] at ho ⊢
      have HO1 := Lib.hid ho
      have HB1 := Lib.hid hb1
      clear ho hb1 HP
      go_wp2_with fail
      refine (HM.out _).mono ?_
      rintro e w2 ⟨rfl, hb2⟩
      have hglt := (HO1.out.lt g rfl)
      have ho2 : ∀ j p, (parts s.data.toList)[j]? = some p → ∃ X : ByteArray, X.data.toList = p ∧ w2.cell? ⟨g, j, none⟩ = some (.string X) := fun j p hj => by
        obtain ⟨X, h1, h2⟩ := HO1.out.at HN.out hj
        exact ⟨X, h1, (hb2.cell (p := ⟨g, j, none⟩) hglt.2).trans h2⟩
      have HO2 := Lib.hid ho2
      have HB2 := Lib.hid (HB1.out.trans (hb2.mono HB1.out.size))
      clear hb2 HB1 ho2 HO1
      obtain ⟨X0, hX0, hc0⟩ := HO2.out 0 p0 HP0.out
      have HX0 := Lib.hid hX0
      clear hX0
      go_wp2
      go_loop [4, 5] (fun v i => ∃ (k : Nat) (O : ByteArray), 0 < k ∧ k + 1 ≤ n ∧ i = .int .i64 k ∧ v = .string O ∧ O.size ≤ s.size ∧ Hid (O.data.toList = up s.data.toList k)) (fun _ i => n - (intOf i).toNat)
      case atStart => exact ⟨1, X0, by omega, by omega, rfl, rfl, by rw [← data_length, HX0.out, ← HU1.out, ← data_length]; exact HUL.out 1, by show _ = _; rw [HX0.out, HU1.out]⟩
      case round =>
        obtain ⟨k, O, hk0, hkn, rfl, rfl, hO, HK⟩ := hrel
        clear hc0
        by_cases hlt : k + 1 < n
        · have hki : (k : Int) < (n : Int) - 1 := by omega
          have hpk : (parts s.data.toList)[k]? = some ((parts s.data.toList)[k]'(by rw [HN.out]; omega)) := List.getElem?_eq_getElem _
          generalize (parts s.data.toList)[k]'(by rw [HN.out]; omega) = p at hpk
          obtain ⟨P, hP, hc⟩ := HO2.out k p hpk
          have hnx : (O ++ ⟨#[47]⟩ ++ P : ByteArray).data.toList = up s.data.toList (k + 1) := by
            rw [HUS.out k p hk0 hpk]
            simp [ByteArray.data_append, HK.out, hP]
          have hsz : O.size + 1 + P.size ≤ s.size := by
            have h1 := HUL.out (k + 1)
            rw [← hnx, data_length, data_length, ByteArray.size_append, ByteArray.size_append] at h1
            exact h1
          have h1' : (O.size : Int) + 1 ≤ 9223372036854775807 := by omega
          have h2' : (O.size : Int) + 1 + P.size ≤ 9223372036854775807 := by omega
          have HNX := Lib.hid hnx
          clear hnx hP hpk
          go_wp2
          go_round
          case rel => exact ⟨k + 1, _, by omega, by omega, by go_num, rfl, by rw [ByteArray.size_append, ByteArray.size_append]; exact hsz, HNX.out⟩
          case measure => simp [intOf]; omega
        · have hki : (n : Int) - 1 ≤ k := by omega
          have hXO : X = O := str_eq (by rw [HX.out, HD.out, HK.out, show n - 1 = k by omega])
          clear hlt
          subst hXO
          go_wp2
          go_ret
          exact ⟨rfl, HB2.out⟩
end Pt
end Go.Proofs.YtkldgfdfpanelaaDoor
