/-
  Layer 3 (path): the walks of the document's Join, Under.
-/
import Derived.Test.YtaoebhggkalmlaaE
namespace Go.Proofs.Ytaoebhggkalmlaa
namespace Pt
open Go.RowKit

theorem str_nil {s : ByteArray} (h : s.data.toList = []) : s = ⟨#[]⟩ := str_eq h
theorem ne_facts {s : ByteArray} (h : s.data.toList ≠ []) : s.toList.isEmpty = false ∧ ¬ s.toList = [] := by
  rw [ByteArray.toList_eq]
  refine ⟨?_, h⟩
  cases e : s.data.toList
  · exact absurd e h
  · rfl

/-- How a joining comes out. -/
theorem joinV_cases (d s : Bs) :
    (d = [] ∧ may s = false ∧ joinV d s = ([], 1)) ∨ (d = [] ∧ may s = true ∧ joinV d s = (s, 0)) ∨
    (d ≠ [] ∧ may d = false ∧ joinV d s = ([], 1)) ∨ (d ≠ [] ∧ may d = true ∧ may s = false ∧ joinV d s = ([], 1)) ∨
    (d ≠ [] ∧ may d = true ∧ may s = true ∧ 16 < (parts d).length + (parts s).length ∧ joinV d s = ([], 6)) ∨
    (d ≠ [] ∧ may d = true ∧ may s = true ∧ (parts d).length + (parts s).length ≤ 16 ∧ joinV d s = (d ++ 47 :: s, 0)) := by
  unfold joinV
  by_cases h0 : d = []
  · subst h0
    cases hs : may s
    · exact .inl ⟨rfl, rfl, by simp [isDir]⟩
    · exact .inr (.inl ⟨rfl, rfl, by simp [isDir]⟩)
  · have h0' : (d == []) = false := by rw [beq_eq_false_iff_ne]; exact h0
    cases hd : may d
    · exact .inr (.inr (.inl ⟨h0, rfl, by simp [isDir, h0', hd]⟩))
    · cases hs : may s
      · exact .inr (.inr (.inr (.inl ⟨h0, rfl, rfl, by simp⟩)))
      · rw [cnt_may hd, cnt_may hs]
        by_cases hl : 16 < (parts d).length + (parts s).length
        · exact .inr (.inr (.inr (.inr (.inl ⟨h0, rfl, rfl, hl, by simp [isDir, hd, h0, hl]⟩))))
        · exact .inr (.inr (.inr (.inr (.inr ⟨h0, rfl, rfl, by omega, by simp [isDir, hd, h0, hl]⟩))))
theorem pair_eq {a b : Bs} {x y : Nat} (h : (a, x) = (b, y)) : a = b ∧ x = y := by cases h; exact ⟨rfl, rfl⟩

set_option maxRecDepth 100000 in
set_option maxHeartbeats 2000000 in
theorem refjoin_any (d s X : ByteArray) (er : Nat) (hX : joinV d.data.toList s.data.toList = (X.data.toList, er)) (w : World) (hd : d.size ≤ 100000) (hs : s.size ≤ 100000) :
    Calls Try.prog 12 #[.string d, .string s] w fun e w' => e = .returned (.tuple #[.string X, .int .i64 er]) ∧ Below w.heap.size w w' := by
  have hpd := parts_len d.data.toList
  have hps := parts_len s.data.toList
  rw [data_length] at hpd hps
  have hmd := fun b h W => refmay_any d b h W hd
  have hms := fun b h W => refmay_any s b h W hs
  have hqd := fun W => parts_any d W hd
  have hqs := fun W => parts_any s W hs
  rcases joinV_cases d.data.toList s.data.toList with ⟨h0, h1, h2⟩ | ⟨h0, h1, h2⟩ | ⟨h0, h1, h2⟩ | ⟨h0, h1, h1', h2⟩ | ⟨h0, h1, h1', hl, h2⟩ | ⟨h0, h1, h1', hl, h2⟩
  · rw [h2] at hX
    obtain ⟨e1, rfl⟩ := pair_eq hX
    obtain rfl := str_nil e1.symm
    obtain rfl := str_nil h0
    have HM := Lib.hid (hms _ h1)
    clear hX h0 h1 h2 hmd hms hqd hqs hpd hps e1
    go_enter Try.func12, Try.ntmps12
    go_wp2_with fail
    refine (HM.out _).mono ?_
    rintro e w1 ⟨rfl, hb1⟩
    have HB1 := Lib.hid hb1
    clear hb1
    go_wp2
    go_ret2
    exact ⟨rfl, HB1.out⟩
  · rw [h2] at hX
    obtain ⟨e1, rfl⟩ := pair_eq hX
    obtain rfl := str_eq e1
    obtain rfl := str_nil h0
    have HM := Lib.hid (hms _ h1)
    clear hX h0 h1 h2 hmd hms hqd hqs hpd hps e1
    go_enter Try.func12, Try.ntmps12
    go_wp2_with fail
    refine (HM.out _).mono ?_
    rintro e w1 ⟨rfl, hb1⟩
    have HB1 := Lib.hid hb1
    clear hb1
    go_wp2
    go_ret2
    exact ⟨rfl, HB1.out⟩
  · rw [h2] at hX
    obtain ⟨e1, rfl⟩ := pair_eq hX
    obtain rfl := str_nil e1.symm
    obtain ⟨n1, n2⟩ := ne_facts h0
    have HM := Lib.hid (hmd _ h1)
    clear hX h0 h1 h2 hmd hms hqd hqs hpd hps e1
    go_enter Try.func12, Try.ntmps12
    go_wp2_with fail
    refine (HM.out _).mono ?_
    rintro e w1 ⟨rfl, hb1⟩
    have HB1 := Lib.hid hb1
    clear hb1
    go_wp2
    go_ret2
    exact ⟨rfl, HB1.out⟩
  · rw [h2] at hX
    obtain ⟨e1, rfl⟩ := pair_eq hX
    obtain rfl := str_nil e1.symm
    obtain ⟨n1, n2⟩ := ne_facts h0
    have HM := Lib.hid (hmd _ h1)
    have HS := Lib.hid (hms _ h1')
    clear hX h0 h1 h1' h2 hmd hms hqd hqs hpd hps e1
    go_enter Try.func12, Try.ntmps12
    go_wp2_with fail
    refine (HM.out _).mono ?_
    rintro e w1 ⟨rfl, hb1⟩
    have HB1 := Lib.hid hb1
    clear hb1
    go_wp2_with fail
    refine (HS.out _).mono ?_
    rintro e w2 ⟨rfl, hb2⟩
    have HB2 := Lib.hid (HB1.out.trans (hb2.mono HB1.out.size))
    clear hb2
    go_wp2
    go_ret2
    exact ⟨rfl, HB2.out⟩
  · rw [h2] at hX
    obtain ⟨e1, rfl⟩ := pair_eq hX
    obtain rfl := str_nil e1.symm
    obtain ⟨n1, n2⟩ := ne_facts h0
    have HM := Lib.hid (hmd _ h1)
    have HS := Lib.hid (hms _ h1')
    have HQ := Lib.hid hqd
    have HR := Lib.hid hqs
    obtain ⟨nd, hnd⟩ : ∃ n, (parts d.data.toList).length = n := ⟨_, rfl⟩
    obtain ⟨ns, hns⟩ : ∃ n, (parts s.data.toList).length = n := ⟨_, rfl⟩
    rw [hnd] at hl hpd
    rw [hns] at hl hps
    have HND := Lib.hid hnd
    have HNS := Lib.hid hns
    have hl' : (16 : Int) < (nd : Int) + ns := by omega
    clear hX h0 h1 h1' h2 hmd hms hqd hqs e1 hnd hns
    go_enter Try.func12, Try.ntmps12
    go_wp2_with fail
    refine (HM.out _).mono ?_
    rintro e w1 ⟨rfl, hb1⟩
    have HB1 := Lib.hid hb1
    clear hb1
    go_wp2_with fail
    refine (HS.out _).mono ?_
    rintro e w2 ⟨rfl, hb2⟩
    have HB2 := Lib.hid (HB1.out.trans (hb2.mono HB1.out.size))
    clear hb2
    go_wp2_with fail
    refine (HQ.out _).mono ?_
    rintro e w3 ⟨g3, cap3, rfl, _, hb3⟩
    rw [HND.out]
    have HB3 := Lib.hid (HB2.out.trans (hb3.mono HB2.out.size))
    clear hb3
    go_wp2_with fail
    refine (HR.out _).mono ?_
    rintro e w4 ⟨g4, cap4, rfl, _, hb4⟩
    rw [HNS.out]
    have HB4 := Lib.hid (HB3.out.trans (hb4.mono HB3.out.size))
    clear hb4
    go_wp2
    go_ret2
    exact ⟨rfl, HB4.out⟩
  · rw [h2] at hX
    obtain ⟨e1, rfl⟩ := pair_eq hX
    obtain ⟨n1, n2⟩ := ne_facts h0
    have hXe : X = d ++ ⟨#[47]⟩ ++ s := str_eq (by rw [← e1]; simp [ByteArray.data_append])
    have HXE := Lib.hid hXe
    clear hXe
    have HM := Lib.hid (hmd _ h1)
    have HS := Lib.hid (hms _ h1')
    have HQ := Lib.hid hqd
    have HR := Lib.hid hqs
    obtain ⟨nd, hnd⟩ : ∃ n, (parts d.data.toList).length = n := ⟨_, rfl⟩
    obtain ⟨ns, hns⟩ : ∃ n, (parts s.data.toList).length = n := ⟨_, rfl⟩
    rw [hnd] at hl hpd
    rw [hns] at hl hps
    have HND := Lib.hid hnd
    have HNS := Lib.hid hns
    have hl' : (nd : Int) + ns ≤ 16 := by omega
    clear hX h0 h1 h1' h2 hmd hms hqd hqs e1 hnd hns
    go_enter Try.func12, Try.ntmps12
    go_wp2_with fail
    refine (HM.out _).mono ?_
    rintro e w1 ⟨rfl, hb1⟩
    have HB1 := Lib.hid hb1
    clear hb1
    go_wp2_with fail
    refine (HS.out _).mono ?_
    rintro e w2 ⟨rfl, hb2⟩
    have HB2 := Lib.hid (HB1.out.trans (hb2.mono HB1.out.size))
    clear hb2
    go_wp2_with fail
    refine (HQ.out _).mono ?_
    rintro e w3 ⟨g3, cap3, rfl, _, hb3⟩
    rw [HND.out]
    have HB3 := Lib.hid (HB2.out.trans (hb3.mono HB2.out.size))
    clear hb3
    go_wp2_with fail
    refine (HR.out _).mono ?_
    rintro e w4 ⟨g4, cap4, rfl, _, hb4⟩
    rw [HNS.out]
    have HB4 := Lib.hid (HB3.out.trans (hb4.mono HB3.out.size))
    clear hb4
    go_wp2
    go_ret2
    rw [HXE.out]
    exact ⟨rfl, HB4.out⟩

set_option maxRecDepth 100000 in
set_option maxHeartbeats 2000000 in
theorem refunder_rec (d : ByteArray) (n : Nat) : ∀ (s : ByteArray) (b : Bool) (w : World), under s.data.toList d.data.toList = b → s.size ≤ 100000 → (parts s.data.toList).length ≤ n →
    Calls Try.prog 20 #[.string s, .string d] w fun e w' => e = .returned (.bool b) ∧ Below w.heap.size w w' := by
  induction n with
  | zero =>
    intro s b w hb hs hn
    have := parts_pos s.data.toList
    omega
  | succ n ih =>
    intro s b w hb hs hn
    have HI := Lib.hid ih
    clear ih
    cases hm : may s.data.toList
    · rw [under_not hm] at hb
      subst hb
      have HM := Lib.hid (refmay_any s false hm w hs)
      clear hm
      go_enter Try.func20, Try.ntmps20
      go_wp2_with fail
      refine HM.out.mono ?_
      rintro e w1 ⟨rfl, hb1⟩
      have HB1 := Lib.hid hb1
      clear hb1
      go_wp2_with fail
      go_ret
      exact ⟨rfl, HB1.out⟩
    · have HM := Lib.hid (refmay_any s true hm w hs)
      by_cases hd : d.data.toList = []
      · obtain rfl := str_nil hd
        have hb' : under s.data.toList [] = b := hb
        rw [under_nil hm] at hb'
        subst hb'
        clear hm hb
        go_enter Try.func20, Try.ntmps20
        go_wp2_with fail
        refine HM.out.mono ?_
        rintro e w1 ⟨rfl, hb1⟩
        have HB1 := Lib.hid hb1
        clear hb1
        go_wp2_with fail
        go_ret
        exact ⟨rfl, HB1.out⟩
      · obtain ⟨n1, n2⟩ := ne_facts hd
        rw [under_rec hm hd] at hb
        obtain ⟨U, hU⟩ : ∃ U : ByteArray, U.data.toList = dirOf s.data.toList := ⟨⟨(dirOf s.data.toList).toArray⟩, by simp⟩
        have hUs : U.size ≤ s.size := by
          rw [← data_length, hU, dirOf_up hm, ← data_length]
          exact up_len _ _
        have hUn : U.data.toList ≠ [] → (parts U.data.toList).length ≤ n := fun hne => by
          rw [hU, dirOf_up hm] at hne ⊢
          have h0 : 0 < (parts s.data.toList).length - 1 := by
            rcases Nat.eq_zero_or_pos ((parts s.data.toList).length - 1) with h | h
            · rw [h, up_zero] at hne; exact absurd rfl hne
            · exact h
          rw [up_parts hm h0, List.length_take]
          omega
        have HU := Lib.hid (fun W => refdir_any s U hU W hs)
        rw [← hU] at hb
        have HUN := Lib.hid hUn
        clear hm hU hUn
        by_cases hu : U.data.toList = []
        · have hb' : b = false := by rw [← hb, hu]; rfl
          subst hb'
          obtain rfl := str_nil hu
          clear hb hu
          go_enter Try.func20, Try.ntmps20
          go_wp2_with fail
          refine HM.out.mono ?_
          rintro e w1 ⟨rfl, hb1⟩
          have HB1 := Lib.hid hb1
          clear hb1
          go_wp2_with fail
          refine (HU.out _).mono ?_
          rintro e w2 ⟨rfl, hb2⟩
          have HB2 := Lib.hid (HB1.out.trans (hb2.mono HB1.out.size))
          clear hb2
          go_wp2_with fail
          go_ret
          exact ⟨rfl, HB2.out⟩
        · obtain ⟨m1, m2⟩ := ne_facts hu
          have hub : (U.data.toList == []) = false := by rw [beq_eq_false_iff_ne]; exact hu
          rw [hub, Bool.not_false, Bool.true_and] at hb
          cases he : (U.data.toList == d.data.toList)
          · rw [he, Bool.false_or] at hb
            have hr := fun W => HI.out U b W hb (by omega) (HUN.out hu)
            have HR := Lib.hid hr
            have he' : (U.toList == d.toList) = false := by rw [ByteArray.toList_eq, ByteArray.toList_eq]; exact he
            clear hb he hub hu hr HI
            go_enter Try.func20, Try.ntmps20
            go_wp2_with fail
            refine HM.out.mono ?_
            rintro e w1 ⟨rfl, hb1⟩
            have HB1 := Lib.hid hb1
            clear hb1
            go_wp2_with fail
            refine (HU.out _).mono ?_
            rintro e w2 ⟨rfl, hb2⟩
            have HB2 := Lib.hid (HB1.out.trans (hb2.mono HB1.out.size))
            clear hb2
            go_wp2_with fail
            refine (HR.out _).mono ?_
            rintro e w3 ⟨rfl, hb3⟩
            have HB3 := Lib.hid (HB2.out.trans (hb3.mono HB2.out.size))
            clear hb3
            go_wp2_with fail
            go_ret
            exact ⟨rfl, HB3.out⟩
          · rw [he, Bool.true_or] at hb
            subst hb
            have he' : (U.toList == d.toList) = true := by rw [ByteArray.toList_eq, ByteArray.toList_eq]; exact he
            clear he hub hu HI
            go_enter Try.func20, Try.ntmps20
            go_wp2_with fail
            refine HM.out.mono ?_
            rintro e w1 ⟨rfl, hb1⟩
            have HB1 := Lib.hid hb1
            clear hb1
            go_wp2_with fail
            refine (HU.out _).mono ?_
            rintro e w2 ⟨rfl, hb2⟩
            have HB2 := Lib.hid (HB1.out.trans (hb2.mono HB1.out.size))
            clear hb2
            go_wp2_with fail
            go_ret
            exact ⟨rfl, HB2.out⟩
theorem refunder_any (s d : ByteArray) (b : Bool) (hb : under s.data.toList d.data.toList = b) (w : World) (hs : s.size ≤ 100000) :
    Calls Try.prog 20 #[.string s, .string d] w fun e w' => e = .returned (.bool b) ∧ Below w.heap.size w w' := refunder_rec d _ s b w hb hs (Nat.le_refl _)
end Pt
end Go.Proofs.Ytaoebhggkalmlaa
