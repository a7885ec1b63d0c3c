/-
  Layer 5 (tree): the walks of checkFile, Check, isTree.
-/
import Derived.Test.YtkldgfdfpanelaaDoorTH
import Derived.Test.YtkldgfdfpanelaaDoorI
namespace Go.Proofs.YtkldgfdfpanelaaDoor
namespace Tr
open Go.RowKit Go.ChangeShapes Pt

/-- What is wrong with a file behind one of this path, said of strings: the path ahead of the first file is the empty one. -/
theorem chk1_empty {x : Fl} (h : okName x.1 = true) : chk1 none x = chk1 (some []) x := by
  have hne : x.1 ≠ [] := by
    intro e
    unfold okName at h
    rw [e] at h
    have : may [] = false := by decide +kernel
    rw [this] at h; simp at h
  have hlt : ¬ x.1 < [] := List.not_lt_nil _
  rw [chk1_size0 h, chk1_size h hne hlt]
theorem chk1_of (p : Option Bs) (x : Fl) : chk1 p x = chk1 (some (p.getD [])) x := by
  cases p with
  | some q => rfl
  | none =>
    cases h : okName x.1
    · rw [chk1_name h, chk1_name h]
    · exact chk1_empty h

set_option maxRecDepth 100000 in
set_option maxHeartbeats 4000000 in
theorem checkfile_any (s d q : ByteArray) (c : Nat) (hc : chk1 (some q.data.toList) (s.data.toList, d.data.toList) = c) (w : World) (hs : s.size ≤ 1000) :
    Calls Tryd.prog 35 #[.agg #[.string s, .string d], .string q] w fun e w' => e = .returned (.int .i64 c) ∧ Below w.heap.size w w' := by
  obtain ⟨w0, hw0⟩ : ∃ w0, w0 = w.alloc (.cells #[.string s, .string d] 30) := ⟨_, rfl⟩
  have hs0 : w0.heap.size = w.heap.size + 1 := by rw [hw0]; simp
  have HB0 : Hid (Below w.heap.size w w0) := by rw [hw0]; exact (Below.refl _ _).alloc (Nat.le_refl _) _
  have hc0 : w0.cell? ⟨w.heap.size, 0, none⟩ = some (.string s) := by rw [hw0]; simp
  have hd0 : w0.cell? ⟨w.heap.size, 1, none⟩ = some (.string d) := by rw [hw0]; simp
  have HC0 := Lib.hid hc0
  have HD0 := Lib.hid hd0
  have HFX : Hid (∀ W, Below w0.heap.size w0 W → W.cell? ⟨w.heap.size, 0, none⟩ = some (.string s) ∧ W.cell? ⟨w.heap.size, 1, none⟩ = some (.string d)) := fun W hW =>
    ⟨(hW.cell (p := ⟨w.heap.size, 0, none⟩) (by show w.heap.size < _; omega)).trans HC0.out, (hW.cell (p := ⟨w.heap.size, 1, none⟩) (by show w.heap.size < _; omega)).trans HD0.out⟩
  obtain ⟨m, hm⟩ : ∃ m, may s.data.toList = m := ⟨_, rfl⟩
  have HM := Lib.hid (fun W => may_any s m hm W (by omega))
  cases m
  · have HC7 : Hid (c = 7) := by
      have hok : okName s.data.toList = false := by unfold okName; rw [hm]; rfl
      show _ = _
      rw [← hc, chk1_name hok]
    clear hm hc
    go_enter Tryd.func35, Tryd.ntmps35
    go_wp2_with fail
    rw [← hw0]
    clear hw0
    refine (HM.out _).mono ?_
    rintro e w1 ⟨rfl, hb1⟩
    have HB1 := Lib.hid (HB0.out.trans (hb1.mono (by omega)))
    clear hb1
    go_wp2
    go_ret
    exact ⟨by rw [HC7.out]; rfl, HB1.out⟩
  · cases ho : (s.toList == [111, 117, 116])
    · obtain ⟨u, hu⟩ : ∃ u, under s.data.toList outB = u := ⟨_, rfl⟩
      have HU := Lib.hid (fun W => under_any s ⟨#[111, 117, 116]⟩ u hu W (by omega) (by decide))
      have hno : (s.data.toList == outB) = false := by rw [← ho, ByteArray.toList_eq]; rfl
      cases u
      · have hok : okName s.data.toList = true := by unfold okName; rw [hno, hm, hu]; rfl
        by_cases hq : s.data.toList = q.data.toList
        · have hqe : (s.toList == q.toList) = true := by rw [ByteArray.toList_eq, ByteArray.toList_eq, hq]; simp
          have HC8 : Hid (c = 8) := by
            show _ = _
            rw [← hc]; exact chk1_twice hok hq
          clear hm hc hno hu hok hq
          go_enter Tryd.func35, Tryd.ntmps35
          go_wp2_with fail
          rw [← hw0]
          clear hw0
          refine (HM.out _).mono ?_
          rintro e w1 ⟨rfl, hb1⟩
          obtain ⟨f1, f2⟩ := HFX.out _ hb1
          go_wp2_with fail
          refine (HU.out _).mono ?_
          rintro e w2 ⟨rfl, hb2⟩
          have hb3 := hb1.trans (hb2.mono hb1.size)
          obtain ⟨f3, f4⟩ := HFX.out _ hb3
          have HB2 := Lib.hid (HB0.out.trans (hb3.mono (by omega)))
          clear hb1 hb2 hb3 f1 f2
          go_wp2
          go_ret
          exact ⟨by rw [HC8.out]; rfl, HB2.out⟩
        · have hqe : (s.toList == q.toList) = false := by rw [ByteArray.toList_eq, ByteArray.toList_eq]; simpa using hq
          have hbl : Op.bytesLess s.toList q.toList = decide (s.data.toList < q.data.toList) := by rw [bytesLess_eq, ByteArray.toList_eq, ByteArray.toList_eq]
          by_cases hlq : s.data.toList < q.data.toList
          · rw [decide_eq_true hlq] at hbl
            have HC2 : Hid (c = 2) := by
              show _ = _
              rw [← hc]; exact chk1_order hok hq hlq
            clear hm hc hno hu hok hq hlq
            go_enter Tryd.func35, Tryd.ntmps35
            go_wp2_with fail
            rw [← hw0]
            clear hw0
            refine (HM.out _).mono ?_
            rintro e w1 ⟨rfl, hb1⟩
            obtain ⟨f1, f2⟩ := HFX.out _ hb1
            go_wp2_with fail
            refine (HU.out _).mono ?_
            rintro e w2 ⟨rfl, hb2⟩
            have hb3 := hb1.trans (hb2.mono hb1.size)
            obtain ⟨f3, f4⟩ := HFX.out _ hb3
            have HB2 := Lib.hid (HB0.out.trans (hb3.mono (by omega)))
            clear hb1 hb2 hb3 f1 f2
            go_wp2
            go_ret
            exact ⟨by rw [HC2.out]; rfl, HB2.out⟩
          · rw [decide_eq_false hlq] at hbl
            have hsz : c = if 65536 < d.size then 6 else 0 := by
              rw [← hc, chk1_size hok hq hlq]; rfl
            have HSZ := Lib.hid hsz
            clear hm hc hno hu hok hq hlq hsz
            by_cases hs6 : 65536 < d.size
            · have hsi : (65536 : Int) < d.size := by omega
              have HC6 : Hid (c = 6) := by show _ = _; rw [HSZ.out, if_pos hs6]
              go_enter Tryd.func35, Tryd.ntmps35
              go_wp2_with fail
              rw [← hw0]
              clear hw0
              refine (HM.out _).mono ?_
              rintro e w1 ⟨rfl, hb1⟩
              obtain ⟨f1, f2⟩ := HFX.out _ hb1
              go_wp2_with fail
              refine (HU.out _).mono ?_
              rintro e w2 ⟨rfl, hb2⟩
              have hb3 := hb1.trans (hb2.mono hb1.size)
              obtain ⟨f3, f4⟩ := HFX.out _ hb3
              have HB2 := Lib.hid (HB0.out.trans (hb3.mono (by omega)))
              clear hb1 hb2 hb3 f1 f2
              go_wp2
              go_ret
              exact ⟨by rw [HC6.out]; rfl, HB2.out⟩
            · have hsi : ¬ (65536 : Int) < d.size := by omega
              have HC6 : Hid (c = 0) := by show _ = _; rw [HSZ.out, if_neg hs6]
              go_enter Tryd.func35, Tryd.ntmps35
              go_wp2_with fail
              rw [← hw0]
              clear hw0
              refine (HM.out _).mono ?_
              rintro e w1 ⟨rfl, hb1⟩
              obtain ⟨f1, f2⟩ := HFX.out _ hb1
              go_wp2_with fail
              refine (HU.out _).mono ?_
              rintro e w2 ⟨rfl, hb2⟩
              have hb3 := hb1.trans (hb2.mono hb1.size)
              obtain ⟨f3, f4⟩ := HFX.out _ hb3
              have HB2 := Lib.hid (HB0.out.trans (hb3.mono (by omega)))
              clear hb1 hb2 hb3 f1 f2
              go_wp2
              go_ret
              exact ⟨by rw [HC6.out]; rfl, HB2.out⟩
      · have HC7 : Hid (c = 7) := by
          have hok : okName s.data.toList = false := by unfold okName; rw [hno, hm, hu]; rfl
          show _ = _
          rw [← hc, chk1_name hok]
        clear hm hc hno hu
        go_enter Tryd.func35, Tryd.ntmps35
        go_wp2_with fail
        rw [← hw0]
        clear hw0
        refine (HM.out _).mono ?_
        rintro e w1 ⟨rfl, hb1⟩
        obtain ⟨f1, f2⟩ := HFX.out _ hb1
        go_wp2_with fail
        refine (HU.out _).mono ?_
        rintro e w2 ⟨rfl, hb2⟩
        have hb3 := hb1.trans (hb2.mono hb1.size)
        have HB2 := Lib.hid (HB0.out.trans (hb3.mono (by omega)))
        clear hb1 hb2 hb3 f1 f2
        go_wp2
        go_ret
        exact ⟨by rw [HC7.out]; rfl, HB2.out⟩
    · have HC7 : Hid (c = 7) := by
        have hno : (s.data.toList == outB) = true := by rw [← ho, ByteArray.toList_eq]; rfl
        have hok : okName s.data.toList = false := by unfold okName; rw [hno, hm]; rfl
        show _ = _
        rw [← hc, chk1_name hok]
      clear hm hc
      go_enter Tryd.func35, Tryd.ntmps35
      go_wp2_with fail
      rw [← hw0]
      clear hw0
      refine (HM.out _).mono ?_
      rintro e w1 ⟨rfl, hb1⟩
      obtain ⟨f1, f2⟩ := HFX.out _ hb1
      have HB1 := Lib.hid (HB0.out.trans (hb1.mono (by omega)))
      clear hb1
      go_wp2
      go_ret
      exact ⟨by rw [HC7.out]; rfl, HB1.out⟩

set_option maxRecDepth 100000 in
set_option maxHeartbeats 4000000 in
theorem check_gen (A : Option Addr) (cap n : Nat) (t : List Fl) (c : Nat) (w : World) (hc : tcheck t = c) (hn : t.length = n) (hnl : n ≤ 1024) (hf : ∀ f ∈ t, f.1.length ≤ 1000 ∧ f.2.length ≤ 1000) (hx : FRow w w.heap.size A t) :
    Calls Tryd.prog 19 #[.slice A n cap] w fun e w' => e = .returned (.int .i64 c) ∧ Below w.heap.size w w' := by
  have hi : (n : Int) ≤ 1024 := by omega
  have HX := Lib.hid hx
  have HN := Lib.hid hn
  have HC := Lib.hid hc
  have HL := Lib.hid hf
  clear hx hn hc hf
  go_enter Tryd.func19, Tryd.ntmps19
  go_wp2
  go_loopw [3, 12] (fun bf i wr => ∃ (k : Nat) (q : ByteArray), k ≤ n ∧ i = .int .i64 k ∧ bf = .string q ∧ Hid (q.data.toList = (prevOf t k).getD []) ∧ Hid (okTo t k) ∧ Hid (FRow wr w.heap.size A t) ∧ Hid (Below w.heap.size w wr)) (fun _ i _ => n - (intOf i).toNat)
  case atStart => exact ⟨0, ⟨#[]⟩, Nat.zero_le _, rfl, rfl, rfl, okTo_zero t, HX.out, Below.refl _ _⟩
  case round =>
    obtain ⟨k, q, hk, rfl, rfl, HQ, HA, HR, HBW⟩ := hrel
    by_cases hlt : k < n
    · have hki : (k : Int) < n := by omega
      have hxk : t[k]? = some (t[k]'(by rw [HN.out]; exact hlt)) := List.getElem?_eq_getElem _
      generalize t[k]'(by rw [HN.out]; exact hlt) = x at hxk
      obtain ⟨b1, o1, sp, sd, rfl, hb1, hsp, hsd, cP, cD⟩ := HR.out k x hxk
      obtain rfl : x = (sp.data.toList, sd.data.toList) := Prod.ext hsp.symm hsd.symm
      have hsps : sp.size ≤ 1000 := by
        have := (HL.out _ (List.mem_of_getElem? hxk)).1
        rw [data_length] at this
        exact this
      have HFIN : Hid (chk1 (prevOf t k) (sp.data.toList, sd.data.toList) ≠ 0 → chk1 (prevOf t k) (sp.data.toList, sd.data.toList) = c) := fun h => by
        rw [← HC.out]; exact (check_at (by rw [HN.out]; omega) hxk HA.out h).symm
      have HNXT : Hid (chk1 (prevOf t k) (sp.data.toList, sd.data.toList) = 0 → okTo t (k + 1)) := fun h => okTo_succ HA.out hxk h
      have HPV : Hid (sp.data.toList = (prevOf t (k + 1)).getD []) := by
        show _ = _
        rw [prevOf_pos (Nat.succ_pos k) hxk]; rfl
      obtain ⟨c1, hc1⟩ : ∃ c1, chk1 (prevOf t k) (sp.data.toList, sd.data.toList) = c1 := ⟨_, rfl⟩
      have hcq : chk1 (some q.data.toList) (sp.data.toList, sd.data.toList) = c1 := by rw [HQ.out, ← chk1_of, hc1]
      have HCF := Lib.hid (fun W => checkfile_any sp sd q c1 hcq W hsps)
      rw [hc1] at HFIN HNXT
      have HB0 : Hid (Below w.heap.size w (wr.alloc (.cells #[.string sp, .string sd] 30))) := HBW.out.alloc (HBW.out.size) _
      have HFX : Hid (∀ W, Below (wr.alloc (.cells #[.string sp, .string sd] 30)).heap.size (wr.alloc (.cells #[.string sp, .string sd] 30)) W → W.cell? ⟨wr.heap.size, 0, none⟩ = some (.string sp) ∧ Hid (FRow W w.heap.size (some ⟨b1, o1, none⟩) t) ∧ Hid (Below w.heap.size w W)) := fun W hW => by
        have hsz : (wr.alloc (.cells #[.string sp, .string sd] 30)).heap.size = wr.heap.size + 1 := by simp
        have hle := HBW.out.size
        exact ⟨(hW.cell (by show wr.heap.size < _; omega)).trans (by simp), (HR.out.alloc hle _).below hW (by omega), HB0.out.trans (hW.mono (by omega))⟩
      clear hxk hsp hsd hc1 hcq
      by_cases h1 : c1 = 0
      · have h1i : ((c1 : Int) != 0) = false := by subst h1; rfl
        have HOK : Hid (okTo t (k + 1)) := HNXT.out h1
        clear h1
        go_wp2_with fail
        refine (HCF.out _).mono ?_
        rintro e w1 ⟨rfl, hb1⟩
        obtain ⟨f1, HR1, HB1⟩ := HFX.out _ hb1
        clear hb1
        go_wp2
        go_roundw
        case rel => exact ⟨k + 1, sp, by omega, by go_num, rfl, HPV.out, HOK.out, HR1.out, HB1.out⟩
        case measure => simp [intOf]; omega
      · have h1i : ((c1 : Int) != 0) = true := by simp; omega
        have HFC : Hid (c1 = c) := HFIN.out h1
        clear h1
        go_wp2_with fail
        refine (HCF.out _).mono ?_
        rintro e w1 ⟨rfl, hb1⟩
        obtain ⟨f1, HR1, HB1⟩ := HFX.out _ hb1
        clear hb1
        go_wp2
        go_ret
        exact ⟨by rw [HFC.out]; rfl, HB1.out⟩
    · obtain rfl : k = n := by omega
      have HC0 : Hid (c = 0) := by
        show _ = _
        rw [← HC.out]; exact check_ok (by rw [HN.out]; omega) (by rw [HN.out]; exact HA.out)
      go_wp2
      go_ret
      exact ⟨by rw [HC0.out]; rfl, HBW.out⟩

theorem check_any : PCheck := fun A cap n t c w hc hn hf hx => check_gen A cap n t c w hc hn (by have := hf.1; omega) hf.2 hx

set_option maxRecDepth 100000 in
set_option maxHeartbeats 4000000 in
theorem istree_gen (A : Option Addr) (cap n : Nat) (t : List Fl) (b : Bool) (w : World) (hb : decide (tcheck t = 0) = b) (hn : t.length = n) (hnl : n ≤ 1024) (hf : ∀ f ∈ t, f.1.length ≤ 1000 ∧ f.2.length ≤ 1000) (hx : FRow w w.heap.size A t) :
    Calls Tryd.prog 10 #[.slice A n cap] w fun e w' => e = .returned (.bool b) ∧ Below w.heap.size w w' := by
  obtain ⟨c, hc⟩ : ∃ c, tcheck t = c := ⟨_, rfl⟩
  have HC := Lib.hid (check_gen A cap n t c w hc hn hnl hf hx)
  have hbb : ((c : Int) == 0) = b := by
    rw [← hb, hc]
    by_cases h : c = 0
    · subst h; rfl
    · rw [decide_eq_false h]; exact beq_eq_false_iff_ne.2 (by omega)
  clear hb hn hf hx hc
  go_enter Tryd.func10, Tryd.ntmps10
  go_wp2_with fail
  refine HC.out.mono ?_
  rintro e w1 ⟨rfl, hb1⟩
  have HB1 := Lib.hid hb1
  clear hb1
  go_wp2
  go_ret
  exact ⟨rfl, HB1.out⟩
theorem istree_any (A : Option Addr) (cap n : Nat) (t : List Fl) (b : Bool) (w : World) (hb : decide (tcheck t = 0) = b) (hn : t.length = n) (hf : Few t) (hx : FRow w w.heap.size A t) :
    Calls Tryd.prog 10 #[.slice A n cap] w fun e w' => e = .returned (.bool b) ∧ Below w.heap.size w w' :=
  istree_gen A cap n t b w hb hn (by have := hf.1; omega) hf.2 hx
end Tr
end Go.Proofs.YtkldgfdfpanelaaDoor
