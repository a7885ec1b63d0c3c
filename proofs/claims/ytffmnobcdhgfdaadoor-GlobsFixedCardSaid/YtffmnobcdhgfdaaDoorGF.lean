/-
  Layer 4 (globs): the walks of the document's part, May, Fixed.
-/
import Derived.Test.YtffmnobcdhgfdaaDoorGC
import Derived.Test.YtffmnobcdhgfdaaDoorF
namespace Go.Proofs.YtffmnobcdhgfdaaDoor
namespace Gl
open Go.RowKit Pt

theorem hasSS_iff (l : Bs) : hasSS l = true ↔ ∃ j : Nat, l[j]? = some 42 ∧ l[j + 1]? = some 42 := by
  induction l with
  | nil => simp [hasSS]
  | cons c l ih =>
    unfold hasSS
    rw [Bool.or_eq_true, Bool.and_eq_true, beq_iff_eq, beq_iff_eq, ih]
    constructor
    · rintro (⟨rfl, h⟩ | ⟨j, h1, h2⟩)
      · exact ⟨0, rfl, by rw [List.head?_eq_getElem?] at h; exact h⟩
      · exact ⟨j + 1, h1, h2⟩
    · rintro ⟨j, h1, h2⟩
      cases j with
      | zero => exact .inl ⟨Option.some.inj h1, by rw [List.head?_eq_getElem?]; exact h2⟩
      | succ j => exact .inr ⟨j, h1, h2⟩

/-- The sign at place j may stand there. -/
def okAt (l : Bs) (j : Nat) : Bool := (wild (l.getD j 0) || chr (l.getD j 0)) && !(decide (0 < j) && l.getD j 0 == 42 && l.getD (j - 1) 0 == 42)
def okTo (l : Bs) (k : Nat) : Bool := (List.range k).all (okAt l)
theorem okTo_zero (l : Bs) : okTo l 0 = true := rfl
theorem okTo_succ (l : Bs) (k : Nat) : okTo l (k + 1) = (okTo l k && okAt l k) := by
  unfold okTo
  rw [List.range_succ, List.all_append]; simp
theorem okTo_not (l : Bs) {k n : Nat} (hk : k < n) (h : okAt l k = false) : okTo l n = false := by
  unfold okTo
  rw [List.all_eq_false]
  exact ⟨k, List.mem_range.2 hk, by rw [h]; simp⟩
theorem okTo_all (l : Bs) : okTo l l.length = (l.all (fun c => wild c || chr c) && !hasSS l) := by
  unfold okTo
  rw [Bool.eq_iff_iff, Bool.and_eq_true, Bool.not_eq_true', List.all_eq_true, List.all_eq_true]
  constructor
  · intro h
    constructor
    · intro c hc
      obtain ⟨j, hj⟩ := List.getElem?_of_mem hc
      have hl := (List.getElem?_eq_some_iff.1 hj).1
      have := h j (List.mem_range.2 hl)
      unfold okAt at this
      rw [Bool.and_eq_true] at this
      have h1 := this.1
      rw [List.getD_eq_getElem?_getD, hj] at h1
      exact h1
    · cases hs : hasSS l
      · rfl
      · obtain ⟨j, h1, h2⟩ := (hasSS_iff l).1 hs
        have hl := (List.getElem?_eq_some_iff.1 h2).1
        have := h (j + 1) (List.mem_range.2 hl)
        unfold okAt at this
        rw [Bool.and_eq_true] at this
        have h3 := this.2
        rw [List.getD_eq_getElem?_getD, List.getD_eq_getElem?_getD, h2, Nat.add_sub_cancel, h1] at h3
        simp at h3
  · rintro ⟨h1, h2⟩ j hj
    have hl := List.mem_range.1 hj
    unfold okAt
    rw [Bool.and_eq_true]
    constructor
    · rw [List.getD_eq_getElem?_getD, List.getElem?_eq_getElem hl]
      exact h1 _ (List.getElem_mem hl)
    · rw [Bool.not_eq_true']
      cases hb : (decide (0 < j) && l.getD j 0 == 42 && l.getD (j - 1) 0 == 42)
      · rfl
      · exfalso
        rw [Bool.and_eq_true, Bool.and_eq_true, decide_eq_true_eq, beq_iff_eq, beq_iff_eq] at hb
        obtain ⟨⟨h3, h4⟩, h5⟩ := hb
        have : hasSS l = true := by
          refine (hasSS_iff l).2 ⟨j - 1, ?_, ?_⟩
          · rw [List.getD_eq_getElem?_getD, List.getElem?_eq_getElem (by omega)] at h5
            rw [List.getElem?_eq_getElem (by omega)]
            exact congrArg some h5
          · rw [show j - 1 + 1 = j by omega]
            rw [List.getD_eq_getElem?_getD, List.getElem?_eq_getElem hl] at h4
            rw [List.getElem?_eq_getElem hl]
            exact congrArg some h4
        rw [h2] at this
        cases this

theorem pat_star : pat star = true := by decide
theorem pat_bad {p : Bs} (h0 : p ≠ star) (h : p = [] ∨ p = [46] ∨ p = [46, 46] ∨ 64 < p.length) : pat p = false := by
  unfold pat
  have : (p == star) = false := by rw [beq_eq_false_iff_ne]; exact h0
  rw [this, Bool.false_or]
  have : (p == [] || p == [46] || p == [46, 46] || decide (64 < p.length)) = true := by
    rcases h with h | h | h | h
    · subst h; rfl
    · subst h; rfl
    · subst h; rfl
    · rw [decide_eq_true h, Bool.or_true]
  rw [this]; simp
theorem pat_good {p : Bs} (h0 : p ≠ star) (h1 : p ≠ []) (h2 : p ≠ [46]) (h3 : p ≠ [46, 46]) (h4 : p.length ≤ 64) : pat p = okTo p p.length := by
  unfold pat
  have e0 : (p == star) = false := by rw [beq_eq_false_iff_ne]; exact h0
  have e1 : (p == []) = false := by rw [beq_eq_false_iff_ne]; exact h1
  have e2 : (p == [46]) = false := by rw [beq_eq_false_iff_ne]; exact h2
  have e3 : (p == [46, 46]) = false := by rw [beq_eq_false_iff_ne]; exact h3
  have e4 : decide (64 < p.length) = false := by rw [decide_eq_false_iff_not]; omega
  rw [okTo_all, e0, e1, e2, e3, e4]
  simp

theorem str_is (s : ByteArray) (l : Bs) : (s.toList == l) = decide (s.data.toList = l) := by
  rw [ByteArray.toList_eq, Bool.eq_iff_iff, beq_iff_eq, decide_eq_true_iff]
theorem comp_a (c : UInt8) : comp [97, c] = chr c := by
  unfold comp
  have e1 : (([97, c] : Bs) == [46, 46]) = false := by rw [beq_eq_false_iff_ne]; intro h; injection h with h; cases h
  rw [e1]
  simp [show chr 97 = true by decide]

set_option maxHeartbeats 4000000 in
set_option maxRecDepth 100000 in
theorem refpat_any (s : ByteArray) (b : Bool) (hb : pat s.data.toList = b) (w : World) (hs : s.size ≤ 100000) :
    Calls Tryd.prog 29 #[.string s] w fun e w' => e = .returned (.bool b) ∧ ∃ n, w' = w.drewN n := by
  have q0 := str_is s [42, 42]
  have q2 := str_is s [46]
  have q3 := str_is s [46, 46]
  have q1 := str_is s []
  by_cases h0 : s.data.toList = [42, 42]
  · rw [decide_eq_true h0] at q0
    have hb' : b = true := by rw [← hb, h0]; exact pat_star
    subst hb'
    clear hb q1 q2 q3 h0
    go_enter Tryd.func29, Tryd.ntmps29
    go_wp2
    go_ret
    exact ⟨rfl, 0, rfl⟩
  · rw [decide_eq_false h0] at q0
    by_cases hz : s.data.toList = []
    · have hb' : b = false := by rw [← hb]; exact pat_bad h0 (.inl hz)
      obtain rfl := str_nil hz
      subst hb'
      clear hb q0 q1 q2 q3 h0 hz
      go_enter Tryd.func29, Tryd.ntmps29
      go_wp2
      go_ret
      exact ⟨rfl, 0, rfl⟩
    · have hsz : 0 < s.size := by
        rcases Nat.eq_zero_or_pos s.size with h | h
        · exact absurd (List.eq_nil_of_length_eq_zero (by rw [data_length]; exact h)) hz
        · exact h
      have hz0 : ((s.size : Int) == 0) = false := by rw [beq_eq_false_iff_ne]; omega
      by_cases h64 : 64 < s.size
      · have hb' : b = false := by rw [← hb]; exact pat_bad h0 (.inr (.inr (.inr (by rw [data_length]; exact h64))))
        have h64i : (64 : Int) < s.size := by omega
        subst hb'
        clear hb q1 q2 q3 h0 hz
        go_enter Tryd.func29, Tryd.ntmps29
        go_wp2
        go_ret
        exact ⟨rfl, 0, rfl⟩
      · have h64i : ¬ ((64 : Int) < s.size) := by omega
        by_cases hd : s.data.toList = [46]
        · have hb' : b = false := by rw [← hb]; exact pat_bad h0 (.inr (.inl hd))
          rw [decide_eq_true hd] at q2
          subst hb'
          clear hb q1 q3 h0 hz hd
          go_enter Tryd.func29, Tryd.ntmps29
          go_wp2
          go_ret
          exact ⟨rfl, 0, rfl⟩
        · rw [decide_eq_false hd] at q2
          by_cases hdd : s.data.toList = [46, 46]
          · have hb' : b = false := by rw [← hb]; exact pat_bad h0 (.inr (.inr (.inl hdd)))
            rw [decide_eq_true hdd] at q3
            subst hb'
            clear hb q1 h0 hz hd hdd
            go_enter Tryd.func29, Tryd.ntmps29
            go_wp2
            go_ret
            exact ⟨rfl, 0, rfl⟩
          · rw [decide_eq_false hdd] at q3
            have hgood := pat_good h0 hz hd hdd (by rw [data_length]; omega)
            rw [hb, data_length] at hgood
            have HG := Lib.hid hgood
            clear hb q1 h0 hz hd hdd hgood
            go_enter Tryd.func29, Tryd.ntmps29
            go_wp2
            go_loopw [3] (fun i wr => ∃ k : Nat, k ≤ s.size ∧ i = .int .i64 k ∧ Hid (okTo s.data.toList k = true) ∧ ∃ q, wr = w.drewN q) (fun i _ => s.size - (intOf i).toNat)
            case atStart => exact ⟨0, Nat.zero_le _, rfl, rfl, 0, rfl⟩
            case round =>
              obtain ⟨k, hk, rfl, HO, q, rfl⟩ := hrel
              by_cases hlt : k < s.size
              · have hki : (k : Int) < s.size := by omega
                have hcl : s[k].toNat < 256 := s[k].toNat_lt
                have hok : okAt s.data.toList k = ((wild s[k] || chr s[k]) && !(decide (0 < k) && s[k] == 42 && s.data.toList.getD (k - 1) 0 == 42)) := by unfold okAt; rw [at_char s k hlt]
                have hnx : okAt s.data.toList k = true → okTo s.data.toList (k + 1) = true := fun h => by rw [okTo_succ, HO.out, h]; rfl
                have hno : okAt s.data.toList k = false → b = false := fun h => HG.out.trans (okTo_not _ hlt h)
                by_cases h42 : s[k].toNat = 42
                · have hb : ((s[k].toNat : Int) == 42) = true := by rw [beq_iff_eq]; omega
                  have h42' : s[k] = 42 := UInt8.toNat_inj.1 h42
                  rw [h42', show wild 42 = true from rfl, Bool.true_or, Bool.true_and, beq_self_eq_true, Bool.and_true] at hok
                  cases k with
                  | zero =>
                    have HN := Lib.hid (hnx (by rw [hok]; rfl))
                    clear hok hnx hno h42 h42'
                    go_wp2
                    go_roundw
                    case rel => exact ⟨1, by omega, rfl, HN.out, _, rfl⟩
                    case measure => simp [intOf]; omega
                  | succ k =>
                    have hk1 : (k : Int) < s.size := by omega
                    have hk2 : k < s.size := by omega
                    have e1 : IntKind.i64.wrap (((k + 1 : Nat) : Int) - 1) = (k : Int) := by rw [IntWalk.i64_in _ (by omega)]; omega
                    have hk0 : (0 : Int) < ((k + 1 : Nat) : Int) := by omega
                    have hcl2 : s[k].toNat < 256 := s[k].toNat_lt
                    rw [decide_eq_true (show 0 < k + 1 by omega), Bool.true_and, Nat.add_sub_cancel, at_char s k hk2] at hok
                    by_cases h43 : s[k].toNat = 42
                    · have hb2 : ((s[k].toNat : Int) == 42) = true := by rw [beq_iff_eq]; omega
                      have h43' : s[k] = 42 := UInt8.toNat_inj.1 h43
                      have HN := Lib.hid (hno (by rw [hok, h43']; rfl))
                      clear hok hnx hno h42 h42' h43 h43'
                      go_wp2
                      go_ret
                      exact ⟨by rw [HN.out]; rfl, _, rfl⟩
                    · have hb2 : ((s[k].toNat : Int) == 42) = false := by rw [beq_eq_false_iff_ne]; omega
                      have h43' : (s[k] == 42) = false := by rw [beq_eq_false_iff_ne]; exact fun e => h43 (by rw [e]; rfl)
                      have HN := Lib.hid (hnx (by rw [hok, h43']; rfl))
                      clear hok hnx hno h42 h42' h43 h43'
                      go_wp2
                      go_roundw
                      case rel => exact ⟨k + 2, by omega, by go_num, HN.out, _, rfl⟩
                      case measure => simp [intOf]; omega
                · have hb : ((s[k].toNat : Int) == 42) = false := by rw [beq_eq_false_iff_ne]; omega
                  have h42' : (s[k] == 42) = false := by rw [beq_eq_false_iff_ne]; exact fun e => h42 (by rw [e]; rfl)
                  rw [h42', Bool.and_false, Bool.false_and, Bool.not_false, Bool.and_true] at hok
                  have hw : wild s[k] = (s[k] == 63) := by unfold wild; rw [h42', Bool.false_or]
                  rw [hw] at hok
                  have hq1 := char_lit s[k] 63 (by decide)
                  rw [show UInt8.ofNat 63 = 63 from rfl] at hq1
                  have hq1 : ((s[k].toNat : Int) == 63) = (s[k] == 63) := hq1
                  by_cases h63 : s[k] = 63
                  · have e1 : (s[k] == 63) = true := by rw [beq_iff_eq]; exact h63
                    rw [e1] at hq1 hok
                    have HN := Lib.hid (hnx (by rw [hok]; rfl))
                    clear hok hnx hno h42 h42' hw h63 e1
                    by_cases hk0 : 0 < k
                    · have hk0' : (0 : Int) < k := by omega
                      go_wp2
                      go_roundw
                      case rel => exact ⟨k + 1, by omega, by go_num, HN.out, _, rfl⟩
                      case measure => simp [intOf]; omega
                    · obtain rfl : k = 0 := by omega
                      go_wp2
                      go_roundw
                      case rel => exact ⟨1, by omega, rfl, HN.out, _, rfl⟩
                      case measure => simp [intOf]; omega
                  · have e1 : (s[k] == 63) = false := by rw [beq_eq_false_iff_ne]; exact h63
                    rw [e1] at hq1 hok
                    rw [Bool.false_or] at hok
                    have hcut := cut_run s k (k + 1) (by omega) (by omega) (by omega)
                    rw [show (k : Int).toNat = k by omega, show ((k : Int) + 1).toNat = k + 1 by omega] at hcut
                    obtain ⟨Y, hY⟩ : ∃ Y : ByteArray, Y = s.extract k (k + 1) := ⟨_, rfl⟩
                    have hYs : Y.size ≤ 1 := by rw [hY, ByteArray.size_extract]; omega
                    have hXl : ((⟨#[97]⟩ : ByteArray) ++ Y).data.toList = [97, s[k]] := by
                      rw [show ((⟨#[97]⟩ : ByteArray) ++ Y).data.toList = [97] ++ Y.data.toList by simp [ByteArray.data_append]]
                      rw [hY, ext_data, drop_at s k hlt]
                      simp
                    have hXs : ((⟨#[97]⟩ : ByteArray) ++ Y).size ≤ 140737488355328 := by rw [ByteArray.size_append]; have : (⟨#[97]⟩ : ByteArray).size = 1 := rfl; omega
                    have hcp := refpart_any ((⟨#[97]⟩ : ByteArray) ++ Y) (w.drewN q) hXs
                    rw [hXl, comp_a, ← hok] at hcp
                    rw [← hY] at hcut
                    have hYi : (1 : Int) + Y.size ≤ 9223372036854775807 := by omega
                    obtain ⟨r, hr⟩ : ∃ r, okAt s.data.toList k = r := ⟨_, rfl⟩
                    rw [hr] at hcp
                    have HCP := Lib.hid hcp
                    cases r
                    · have HN := Lib.hid (hno hr)
                      clear hok hnx hno h42 h42' hw h63 e1 hXl hXs hcp hr hY
                      go_wp2_with fail
                      refine HCP.out.mono ?_
                      rintro e w' ⟨rfl, rfl⟩
                      go_wp2
                      go_ret
                      exact ⟨by rw [HN.out]; rfl, _, rfl⟩
                    · have HN := Lib.hid (hnx hr)
                      clear hok hnx hno h42 h42' hw h63 e1 hXl hXs hcp hr hY
                      go_wp2_with fail
                      refine HCP.out.mono ?_
                      rintro e w' ⟨rfl, rfl⟩
                      by_cases hk0 : 0 < k
                      · have hk0' : (0 : Int) < k := by omega
                        go_wp2
                        go_roundw
                        case rel => exact ⟨k + 1, by omega, by go_num, HN.out, _, rfl⟩
                        case measure => simp [intOf]; omega
                      · obtain rfl : k = 0 := by omega
                        go_wp2
                        go_roundw
                        case rel => exact ⟨1, by omega, rfl, HN.out, _, rfl⟩
                        case measure => simp [intOf]; omega
              · obtain rfl : k = s.size := by omega
                have HN := Lib.hid (HG.out.trans HO.out)
                go_wp2
                go_ret
                exact ⟨by rw [HN.out]; rfl, _, rfl⟩

theorem pmay_all {l : Bs} (h : pmay l = true) : ∀ p ∈ parts l, pat p = true := by
  unfold pmay at h
  rw [Bool.and_eq_true] at h
  exact List.all_eq_true.1 h.1
theorem pmay_len {l : Bs} (h : pmay l = true) : (parts l).length ≤ 16 := by
  unfold pmay at h
  rw [Bool.and_eq_true] at h
  exact of_decide_eq_true h.2
theorem pmay_mk {l : Bs} (h : ∀ p ∈ parts l, pat p = true) (hn : (parts l).length ≤ 16) : pmay l = true := by
  unfold pmay
  rw [List.all_eq_true.2 h, decide_eq_true hn]; rfl

set_option maxRecDepth 100000 in
set_option maxHeartbeats 1000000 in
theorem refpmay_any (s : ByteArray) (b : Bool) (hb : pmay s.data.toList = b) (w : World) (hs : s.size ≤ 100000) :
    Calls Tryd.prog 10 #[.string s] w fun e w' => e = .returned (.bool b) ∧ Below w.heap.size w w' := by
  have HB := Lib.hid hb
  have HLE := Lib.hid (parts_le s.data.toList)
  have hpl := parts_len s.data.toList
  rw [data_length] at hpl
  have hpp := parts_pos s.data.toList
  clear hb
  obtain ⟨n, hn⟩ : ∃ n, (parts s.data.toList).length = n := ⟨_, rfl⟩
  rw [hn] at hpl hpp
  have HN := Lib.hid hn
  clear hn
  have HP := Lib.hid (parts_any s w hs)
  go_enter Tryd.func10, Tryd.ntmps10
  go_wp2_with fail
  refine HP.out.mono ?_
  rintro e w1 ⟨g, cap, rfl, ho, hb1⟩
  rw [HN.out] at ho ⊢
  have HO := Lib.hid ho
  have HB1 := Lib.hid hb1
  clear ho hb1 HP
  go_wp2
  go_loopw [10] (fun i wr => ∃ k : Nat, k ≤ n ∧ i = .int .i64 k ∧ Hid (∀ j p, j < k → (parts s.data.toList)[j]? = some p → pat p = true) ∧ ∃ q, wr = w1.drewN q) (fun i _ => n - (intOf i).toNat)
  case atStart => exact ⟨0, Nat.zero_le _, rfl, fun j p hj => absurd hj (Nat.not_lt_zero _), 0, rfl⟩
  case round =>
    obtain ⟨k, hk, rfl, HA, q, rfl⟩ := hrel
    by_cases hlt : k < n
    · have hki : (k : Int) < n := by omega
      have hpk : (parts s.data.toList)[k]? = some ((parts s.data.toList)[k]'(by rw [HN.out]; exact hlt)) := List.getElem?_eq_getElem _
      generalize (parts s.data.toList)[k]'(by rw [HN.out]; exact hlt) = p at hpk
      obtain ⟨X, hX, hc⟩ := HO.out.at HN.out hpk
      have hXs : X.size ≤ 100000 := by
        have := HLE.out p (List.mem_of_getElem? hpk)
        rw [← hX, data_length, data_length] at this
        omega
      obtain ⟨r, hr⟩ : ∃ r, pat p = r := ⟨_, rfl⟩
      have HCR := Lib.hid (fun W => refpat_any X r (by rw [hX]; exact hr) W hXs)
      cases r
      · have hbf : b = false := by
          rw [← HB.out]
          cases hm : pmay s.data.toList
          · rfl
          · have := pmay_all hm p (List.mem_of_getElem? hpk); rw [hr] at this; cases this
        have HBF := Lib.hid hbf
        clear hbf hr hpk hX
        go_wp2_with fail
        refine (HCR.out _).mono ?_
        rintro e w' ⟨rfl, q2, rfl⟩
        go_wp2
        go_ret
        exact ⟨by rw [HBF.out]; rfl, below_drewN HB1.out _⟩
      · have hnext : ∀ j q, j < k + 1 → (parts s.data.toList)[j]? = some q → pat q = true := fun j q hj hq => by
          by_cases he : j = k
          · subst he
            rw [hpk] at hq
            cases hq
            exact hr
          · exact HA.out j q (by omega) hq
        have HNX := Lib.hid hnext
        clear hr hpk hX hnext
        go_wp2_with fail
        refine (HCR.out _).mono ?_
        rintro e w' ⟨rfl, q2, rfl⟩
        go_wp2
        go_roundw
        case rel => exact ⟨k + 1, by omega, by go_num, HNX.out, _, rfl⟩
        case measure => simp [intOf]; omega
    · have hbe : b = decide ((n : Int) ≤ 16) := by
        rw [← HB.out, Bool.eq_iff_iff, decide_eq_true_eq]
        constructor
        · intro h; have := pmay_len h; rw [HN.out] at this; omega
        · intro h
          refine pmay_mk (fun p hp => ?_) (by rw [HN.out]; omega)
          obtain ⟨j, hj⟩ := List.getElem?_of_mem hp
          have hjl := (List.getElem?_eq_some_iff.1 hj).1
          exact HA.out j p (by rw [HN.out] at hjl; omega) hj
      have HBE := Lib.hid hbe
      clear hbe
      go_wp2
      go_ret
      rw [HBE.out]
      exact ⟨rfl, below_drewN HB1.out _⟩

theorem tw_front (l : Bs) (f : UInt8 → Bool) (k : Nat) (h1 : ∀ j, j < k → f (l.getD j 0) = true) (h2 : k ≤ l.length) (h3 : k < l.length → f (l.getD k 0) = false) : l.takeWhile f = l.take k := by
  induction l generalizing k with
  | nil => simp
  | cons c l ih =>
    cases k with
    | zero =>
      have := h3 (by simp)
      rw [List.takeWhile_cons, if_neg (by simpa using this)]; rfl
    | succ k =>
      have := h1 0 (by omega)
      rw [List.takeWhile_cons, if_pos (by simpa using this), List.take_succ_cons]
      congr 1
      exact ih k (fun j hj => by have := h1 (j + 1) (by omega); simpa using this) (by simpa using h2) (fun hl => by have := h3 (by simpa using hl); simpa using this)
theorem str_take (s X : ByteArray) (k : Nat) (h : X.data.toList = s.data.toList.take k) : s.extract 0 k = X := str_eq (by rw [ext_front, h])

set_option maxRecDepth 100000 in
set_option maxHeartbeats 1000000 in
theorem reffixed_any (s X : ByteArray) (hX : X.data.toList = fixd s.data.toList) (w : World) (hs : s.size ≤ 100000) :
    Calls Tryd.prog 14 #[.string s] w fun e w' => e = .returned (.string X) ∧ Below w.heap.size w w' := by
  cases hm : pmay s.data.toList
  · have hX' : X.data.toList = [] := by rw [hX]; unfold fixd; rw [hm, if_neg (by simp)]
    obtain rfl := str_nil hX'
    have HM := Lib.hid (fun W => refpmay_any s false hm W hs)
    clear hm hX hX'
    go_enter Tryd.func14, Tryd.ntmps14
    go_wp2_with fail
    refine (HM.out _).mono ?_
    rintro e w1 ⟨rfl, hb1⟩
    have HB1 := Lib.hid hb1
    clear hb1
    go_wp2
    go_ret
    exact ⟨rfl, HB1.out⟩
  · have hX' : X.data.toList = s.data.toList.takeWhile (fun c => !wild c) := by rw [hX]; unfold fixd; rw [hm, if_pos rfl]
    have HX := Lib.hid hX'
    have HM := Lib.hid (fun W => refpmay_any s true hm W hs)
    clear hm hX hX'
    go_enter Tryd.func14, Tryd.ntmps14
    go_wp2_with fail
    refine (HM.out _).mono ?_
    rintro e w1 ⟨rfl, hb1⟩
    have HB1 := Lib.hid hb1
    clear hb1
    go_wp2
    go_loopw [3] (fun i wr => ∃ k : Nat, k ≤ s.size ∧ i = .int .i64 k ∧ Hid (∀ j, j < k → (!wild (s.data.toList.getD j 0)) = true) ∧ ∃ q, wr = w1.drewN q) (fun i _ => s.size - (intOf i).toNat)
    case atStart => exact ⟨0, Nat.zero_le _, rfl, fun j hj => absurd hj (Nat.not_lt_zero _), 0, rfl⟩
    case round =>
      obtain ⟨k, hk, rfl, HA, q, rfl⟩ := hrel
      by_cases hlt : k < s.size
      · have hki : (k : Int) < s.size := by omega
        have hcl : s[k].toNat < 256 := s[k].toNat_lt
        have hq1 := char_lit s[k] 42 (by decide)
        have hq2 := char_lit s[k] 63 (by decide)
        rw [show UInt8.ofNat 42 = 42 from rfl] at hq1
        rw [show UInt8.ofNat 63 = 63 from rfl] at hq2
        have hq1 : ((s[k].toNat : Int) == 42) = (s[k] == 42) := hq1
        have hq2 : ((s[k].toNat : Int) == 63) = (s[k] == 63) := hq2
        by_cases hw : wild s[k] = true
        · have hXe : s.extract 0 k = X := by
            refine str_take s X k ?_
            rw [HX.out]
            exact tw_front _ _ k HA.out (by rw [data_length]; omega) (fun _ => by rw [at_char s k hlt, hw]; rfl)
          have HXE := Lib.hid hXe
          clear hXe
          unfold wild at hw
          rw [Bool.or_eq_true] at hw
          by_cases h42 : (s[k] == 42) = true
          · rw [h42] at hq1
            clear h42 hw hq2
            go_wp2
            go_ret
            exact ⟨by rw [← HXE.out]; rfl, below_drewN HB1.out _⟩
          · have h63 := hw.resolve_left h42
            rw [Bool.not_eq_true] at h42
            rw [h42] at hq1
            rw [h63] at hq2
            clear h42 hw h63
            go_wp2
            go_ret
            exact ⟨by rw [← HXE.out]; rfl, below_drewN HB1.out _⟩
        · rw [Bool.not_eq_true] at hw
          have HN : Hid (∀ j, j < k + 1 → (!wild (s.data.toList.getD j 0)) = true) := fun j hj => by
            by_cases he : j = k
            · subst he; rw [at_char s j hlt, hw]; rfl
            · exact HA.out j (by omega)
          unfold wild at hw
          rw [Bool.or_eq_false_iff] at hw
          rw [hw.1] at hq1
          rw [hw.2] at hq2
          clear hw HA
          go_wp2
          go_roundw
          case rel => exact ⟨k + 1, by omega, by go_num, HN.out, _, rfl⟩
          case measure => simp [intOf]; omega
      · obtain rfl : k = s.size := by omega
        have hXe : s = X := by
          refine str_eq ?_
          rw [HX.out, tw_front _ _ s.size HA.out (by rw [data_length]; omega) (fun h => by rw [data_length] at h; omega), List.take_of_length_le (by rw [data_length]; omega)]
        have HXE := Lib.hid hXe
        clear hXe
        go_wp2
        go_ret
        exact ⟨by rw [← HXE.out]; rfl, below_drewN HB1.out _⟩
end Gl
end Go.Proofs.YtffmnobcdhgfdaaDoor
