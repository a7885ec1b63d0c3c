/-
  Layer 8 (journal): law Plays.
-/
import Derived.Test.YtogpigfepebibaaGreatDoorMJV
namespace Go.Proofs.YtogpigfepebibaaGreatDoor
namespace Jl
open Go.RowKit Go.ChangeShapes Kr Dk

theorem nrow_turn {w w' : World} {B F g : Nat} {A : Option Addr} {l : List ByteArray} (h : NRow w B A l) (hB : B ≤ w.heap.size) (hf : From A F) (hg : g < F) (ht : Turn g w w') : NRow w' w'.heap.size A l := fun j x hj => by
  obtain ⟨b', o', h1, h2, h3⟩ := h j x hj
  have h4 : F ≤ b' := hf _ h1
  exact ⟨b', o', h1, by rw [ht.2.2.2.1]; omega, fun i v hv => (turn_cell ht ⟨b', o' + j * 1 + i, none⟩ (by show b' ≠ g; omega)).trans (h3 i v hv)⟩
theorem owns_to {w : World} {B m cap : Nat} {A A' : Option Addr} {l : List FF} (h : OwnsF w B (.slice A' m cap) l) : RefTo B B A l A' m w := by
  obtain ⟨A2, c2, e⟩ := h.form
  injection e with _ e2 _
  refine ⟨e2.symm, .inr ⟨fun q hq => ?_, OwnsK.row encF_length h⟩⟩
  rcases h.2 with ⟨hv, _⟩ | ⟨g, c, cur, hv, hg, hh, _⟩
  · injection hv with hv; rw [hq] at hv; cases hv
  · injection hv with hv
    rw [hq] at hv
    injection hv with hv
    have h1 := (Array.getElem?_eq_some_iff.1 hh).1
    rw [hv]
    exact ⟨hg, h1⟩
theorem open_few {n : Nat} {D : DD} (h : Fit n D) (p : ByteArray) : (openV Sh.dig D p).recs.length ≤ n := by
  have h4 := read_le (fit_clear h p) p
  have h5 := recs_few (readV (clearV D p).1 p).1
  unfold openV
  split
  · exact Nat.zero_le _
  · split
    · exact Nat.zero_le _
    · split
      · split
        · exact Nat.zero_le _
        · exact Nat.le_trans h5 h4
      · exact Nat.le_trans h5 h4
theorem open_js (O : Op) (g : Nat) (p : ByteArray) : (O.is = true ∧ ∃ g', openJ O g p = some (g', (if O.is = true then p else nul), false)) ∨ (O.is = false ∧ openJ O g p = none) := by
  unfold openJ
  cases h : O.is
  · exact .inr ⟨rfl, by simp⟩
  · exact .inl ⟨rfl, g, by simp⟩

set_option maxRecDepth 100000 in
set_option maxHeartbeats 8000000 in
theorem plays_law {Q : World → (Nat → Prop) → Nat → DD → Jn → Prop} (hK : JKeeps Q) (B : Nat) (w : World) (A : Option Addr) (cap n : Nat) (t : List Ja) (ho : Ok B w) (hn : t.length = n) (hnm : n ≤ 9223372036854775807) (hok : ∀ a ∈ t, JOk a) (hx : JRow w w.heap.size A t) :
    Calls Tryz.prog 3 #[.slice A n cap] w fun e w' => e = .returned (.bool true) ∧ Below w.heap.size w w' := by
  have HOK := Lib.hid ho
  have HX := Lib.hid hx
  have HN := Lib.hid hn
  have HJ := Lib.hid hok
  have HG := Lib.hid (lawgreat_any A cap n w.heap.size t w hn hnm hok hx)
  clear ho hx hn hok
  by_cases hg : Mucha t
  · rw [decide_eq_true hg] at HG
    clear hg
    go_enter Tryz.func3, Tryz.ntmps3
    go_wp2_with fail
    refine HG.out.mono ?_
    rintro e w1 ⟨rfl, h0⟩
    obtain rfl := h0.symm
    clear h0
    go_wp2_with fail
    refine (fixed_any hK B _ HOK.out).mono ?_
    rintro e w1 ⟨rfl, hb1⟩
    go_wp2
    go_ret
    exact ⟨rfl, hb1⟩
  rw [decide_eq_false hg] at HG
  have HNM : Hid (∀ a ∈ t, ¬ Much a) := fun a ha h => hg (.inl ⟨a, ha, h⟩)
  have hn20 : n ≤ 20 := by rw [← HN.out]; exact Nat.le_of_not_lt fun h => hg (.inr h)
  clear hg
  go_enter Tryz.func3, Tryz.ntmps3
  go_wp2_with fail
  refine HG.out.mono ?_
  rintro e w1 ⟨rfl, h0⟩
  obtain rfl := h0.symm
  clear h0 HG
  go_wp2_with fail
  refine (hK.new _).mono ?_
  rintro e w1 ⟨b, U1, rfl, hq1, hU1, hb1⟩
  have HT1 : Hid (Sj Q w w1 U1 b newV none) := ⟨hb1, hU1, hq1⟩
  clear hq1 hU1 hb1
  go_wp2_with fail
  refine (refnew_any _).mono ?_
  rintro e w2 ⟨rfl, hb2⟩
  have HT2 := Lib.hid (HT1.out.later hK hb2)
  clear hb2 HT1
  go_wp2_with fail
  obtain ⟨w3, hw3⟩ : ∃ w3, w3 = w2.alloc (.cells (lj none 0 0 (-1) nul false false).toArray 33) := ⟨_, rfl⟩
  have HP0 : Hid (Ply Q w w2.heap.size b U1 newV none none 0 0 nul false false w3) := by
    rw [hw3]
    exact ⟨HT2.out.later hK ((Below.refl _ _).alloc (Nat.le_refl _) _), Row.new_at _ _ _ _ rfl rfl, rfl, KRow.none_ _ _ _, (fun p hp => by cases hp), fun hs => by have := hK.inside HT2.out.has _ hs; omega, HT2.out.below.size, .inr ⟨rfl, rfl⟩⟩
  rw [← hw3]
  clear hw3 HT2
  go_wp2_with fail
  go_loopw [3, 4, 6] (fun dv jv i wr => ∃ (k bb : Nat) (U : Nat → Prop) (D : DD) (jn : Jn) (Af : Option Addr) (m cp : Nat) (nm : ByteArray) (is br : Bool), k ≤ n ∧ i = .int .i64 k ∧ dv = ptr bb ∧ jv = jp jn ∧ Fit (1344 + 113 * k) D ∧ nm.size ≤ 20 ∧ Hid (Ply Q w w2.heap.size bb U D jn Af m cp nm is br wr)) (fun _ _ i _ => n - (intOf i).toNat)
  case atStart => exact ⟨0, b, U1, newV, none, none, 0, 0, nul, false, false, Nat.zero_le _, rfl, rfl, rfl, fit_new _, by decide, HP0.out⟩
  case round =>
    obtain ⟨k, bb, U, D, jn, Af, m, cp, nm, is, br, hk, rfl, rfl, rfl, hfit, hnb, HP⟩ := hrel
    clear HP0
    have HFI := Lib.hid hfit
    clear hfit
    by_cases hlt : k < n
    · have hki : (k : Int) < n := by omega
      have hxk : t[k]? = some (t[k]'(by rw [HN.out]; exact hlt)) := List.getElem?_eq_getElem _
      generalize t[k]'(by rw [HN.out]; exact hlt) = a at hxk
      have hmem := List.mem_of_getElem? hxk
      have HJO := Lib.hid (HJ.out a hmem)
      have HMU := Lib.hid (HNM.out a hmem)
      have HXR : Hid (JRow wr w.heap.size A t) := HX.out.below HP.out.st.below (Nat.le_refl _)
      obtain ⟨b1, o1, rfl, hb1, hcs⟩ := HXR.out.1 k a hxk
      have c0 := hcs 0 (.int .i64 a.kind) rfl
      rw [Nat.add_zero] at c0
      have c1 := hcs 1 (.int .i64 a.num) rfl
      have c2 := hcs 2 (.string a.name) rfl
      have c3 := hcs 3 (.string a.data) rfl
      have c4 := hcs 4 (.slice a.ra a.rn a.rcap) rfl
      have c5 := hcs 5 (.slice a.pa a.pn a.pcap) rfl
      have HRE : Hid (NRow wr w.heap.size a.ra a.recs) := (HXR.out.2 a hmem).1
      have HPI : Hid (PRow wr w.heap.size a.pa a.picks) := (HXR.out.2 a hmem).2
      clear hcs hxk hmem HXR
      have hnm20 : a.name.size ≤ 20 := Nat.le_of_not_lt fun h => HMU.out (.inl h)
      have hda : a.data.size ≤ 100 := Nat.le_of_not_lt fun h => HMU.out (.inr (.inl h))
      have hpn10 : a.pn ≤ 10 := Nat.le_of_not_lt fun h => HMU.out (.inr (.inr (.inl h)))
      have hcw := HP.out.row.lt
      have hsr := HP.out.st.below.size
      obtain ⟨w4, hw4⟩ : ∃ w4, w4 = ((wr.alloc (.cells #[.int .i64 a.kind, .int .i64 a.num, .string a.name, .string a.data, .slice a.ra a.rn a.rcap, .slice a.pa a.pn a.pcap] 37)).alloc (.cells #[] 9)).alloc (.cells #[] 9) := ⟨_, rfl⟩
      have hB4 : Below wr.heap.size wr w4 := by rw [hw4]; exact (((Below.refl _ _).alloc (Nat.le_refl _) _).alloc (by simp) _).alloc (by simp; omega) _
      have hs4 : w4.heap.size = wr.heap.size + 3 := by rw [hw4]; simp
      have HP4 := Lib.hid (HP.out.later hK hB4)
      have HAC : Hid (Row w4 wr.heap.size 37 (encJ a)) := by rw [hw4]; exact ((Row.new_at _ _ _ _ rfl rfl).alloc _).alloc _
      have HUN : Hid (¬ U wr.heap.size) := fun hs => by have := hK.inside HP.out.st.has _ hs; omega
      have HRE4 : Hid (NRow w4 w.heap.size a.ra a.recs) := HRE.out.below hB4 hsr
      have HPI4 : Hid (PRow w4 w.heap.size a.pa a.picks) := HPI.out.below hB4 hsr
      clear hB4 HRE HPI
      by_cases q0 : a.kind = 0
      · have e0 : (a.kind == 0) = true := beq_iff_eq.2 q0
        clear q0
        go_wp2_with (at_builtin; fail)
        rw [← hw4]
        clear hw4 c0 c1 c2 c3 c4 c5 e0 HP
        refine (hK.open_ w.heap.size w4 U bb D jn a.name HP4.out.st.has (HFI.out.more (by omega)) (by omega) (HOK.out.top.below HP4.out.st.below) HP4.out.st.own).mono ?_
        rintro e w5 ⟨U5, g5, A10, n10, cap10, rfl, hq5, hU5, ha5, hn10, hx10, hf10⟩
        have hs5 := ha5.size
        have HRO : Hid (∀ W, FRow W W.heap.size Af D.files → (∀ q, Af = some q → q.block < W.heap.size) → Calls Tryz.prog 9 #[dval Af m cp D.left, .string a.name] W (OpenAns W Af a.name (openV Sh.dig D a.name))) := fun W h1 h2 => refopen_any (1344 + 113 * k) Af cp m D.files D.left a.name W HP4.out.len HFI.out (by omega) h2 (by omega) h1
        have HF5 := Lib.hid (fit_openV HFI.out a.name)
        have hjs := open_js (openV Sh.dig D a.name) g5 a.name
        have hfew := open_few HFI.out a.name
        generalize openV Sh.dig D a.name = O at *
        have HJ5 := Lib.hid (row_away HP4.out.row ha5 HP4.out.away)
        have HA5 := Lib.hid (row_away HAC.out ha5 HUN.out)
        have c0 := HJ5.out.cell 0
        have c1 := HJ5.out.cell 1
        have c2 : w5.cell? ⟨wr.heap.size, 2, none⟩ = some (.string a.name) := HA5.out.cell 2
        have HFR := Lib.hid (HP4.out.files1 ha5)
        have HLI := Lib.hid (HP4.out.lies1 ha5)
        have HQ5 : Hid (Q w5 U5 bb O.disk (openJ O g5 a.name) ∧ (∀ q, U5 q → U q ∨ w4.heap.size ≤ q) ∧ Away U w4 w5) := ⟨hq5, hU5, ha5⟩
        have HX10 : Hid (NRow w5 w5.heap.size A10 O.recs ∧ From A10 w4.heap.size) := ⟨hx10, hf10⟩
        clear hq5 hU5 ha5 hx10 hf10
        subst hn10
        go_wp2_with fail
        refine (HRO.out _ HFR.out HLI.out).mono ?_
        rintro e w6 ⟨A6, m6, cp6, A11, cap11, rfl, ht6, hx11, hf11, hb6⟩
        have hs6 := hb6.size
        have HJ6 := Lib.hid (HJ5.out.below hb6 (by omega))
        have HX10' : Hid (NRow w6 w6.heap.size A10 O.recs) := HX10.out.1.later hb6
        have HX11 : Hid (NRow w6 w6.heap.size A11 O.recs ∧ From A11 w5.heap.size) := ⟨hx11, hf11⟩
        have HT6 := Lib.hid ht6
        have HB6 := Lib.hid hb6
        clear hx11 hf11 ht6 hb6 c0 c1 c2 HRO HFR HLI HJ5 HA5
        have hnm6 : (if O.is = true then a.name else nul).size ≤ 20 := by split; exact hnm20; decide
        generalize (if O.is = true then a.name else nul) = nm6 at *
        generalize O.is = is6 at *
        generalize openJ O g5 a.name = j6 at *
        go_wp2_with (refine wpList_store_all rfl 33 (.tmp 5) (.tmp 67) rfl w2.heap.size (lj A6 m6 cp6 O.disk.left nm6 is6 false) rfl rfl 33 (lj Af m cp D.left nm is br) HJ6.out (j_info _ _ _ _ _ _ _) rfl (j_one _ _ _ _ _ _ _) ?_)
        intro w7 HR7 HT7
        have HP7 : Hid (Ply Q w w2.heap.size bb U5 O.disk j6 A6 m6 cp6 nm6 is6 false w7) := Ply.did hK HP4.out HQ5.out.1 HQ5.out.2.1 HQ5.out.2.2 HT6.out HB6.out HT7.out HR7.out hjs
        have HG7 := Lib.hid (nrow_turn HX10'.out (Nat.le_refl _) HX10.out.2 (by omega) HT7.out)
        have HW7 := Lib.hid (nrow_turn HX11.out.1 (Nat.le_refl _) HX11.out.2 (by omega) HT7.out)
        generalize O.recs = L at *
        obtain ⟨N, hN⟩ : ∃ N, L.length = N := ⟨_, rfl⟩
        rw [hN] at hfew ⊢
        have HLN := Lib.hid hN
        have hNb : N ≤ 9223372036854775807 := by omega
        clear hN HX10 HX10' HX11 HT6 HB6 HR7 HT7 HQ5 HJ6 HP4 HAC HRE4 HPI4 HUN
        rcases hjs with ⟨rfl, g6, rfl⟩ | ⟨rfl, rfl⟩
        all_goals
          have HS := Lib.hid (same_yes A10 A11 cap10 cap11 _ N N L w7 HLN.out HLN.out hNb HG7.out HW7.out)
          have x0 := HP7.out.row.cell 0
          have x1 := HP7.out.row.cell 1
          have x3 := HP7.out.row.cell 3
          clear HG7 HW7
          go_wp2_with fail
          refine HS.out.mono ?_
          rintro e w20 ⟨rfl, hb20⟩
          have HP8 := Lib.hid (HP7.out.later hK hb20)
          clear hb20 HS HP7 x0 x1 x3
          have x0 := HP8.out.row.cell 0
          have x1 := HP8.out.row.cell 1
          have x3 := HP8.out.row.cell 3
          have HSM := Lib.hid (lawsame_any hK _ _ _ _ _ cp6 m6 w20 HP8.out.st.has (HF5.out.more (by omega)) HP8.out.len HP8.out.files)
          go_wp2_with fail
          refine HSM.out.mono ?_
          rintro e w21 ⟨rfl, hb21⟩
          have HP9 := Lib.hid (HP8.out.later hK hb21)
          clear hb21 HSM HP8 x0 x1 x3
          go_wp2
          go_roundw
          case rel => exact ⟨k + 1, _, _, _, _, _, _, _, _, _, _, by omega, by go_num, rfl, rfl, HF5.out.more (by omega), hnm6, HP9.out⟩
          case measure => simp [intOf]; omega
      have e0 : (a.kind == 0) = false := beq_eq_false_iff_ne.2 q0
      clear q0
      have hr12 : a.rn ≤ 12 := by rw [← HJO.out.rlen]; exact Nat.le_of_not_lt fun h => HMU.out (.inr (.inr (.inr (.inr h))))
      have HRS : Hid (∀ r ∈ a.recs, r.size ≤ 100) := fun r hr => Nat.le_of_not_lt fun h => HMU.out (.inr (.inr (.inr (.inl ⟨r, hr, h⟩))))
      have HTR : Hid (¬ Too a.recs) := fun h => HMU.out (.inr (.inr (.inr h)))
      by_cases q1 : a.kind = 1
      · have e1 : (a.kind == 1) = true := beq_iff_eq.2 q1
        clear q1
        have HQ5 : Hid (Calls Tryz.prog 10 #[jp jn, .string a.data] w4 fun e w5 => ∃ U5 j5, e = .returned (.int .i64 ((addJ Sh.dig is br D nm a.data).2.2 : Int)) ∧ (Q w5 U5 bb (addJ Sh.dig is br D nm a.data).1 j5 ∧ (∀ q, U5 q → U q ∨ w4.heap.size ≤ q) ∧ Away U w4 w5) ∧ jp jn = jp j5 ∧ ((is = true ∧ ∃ g, j5 = some (g, nm, (addJ Sh.dig is br D nm a.data).2.1)) ∨ (is = false ∧ j5 = none))) := by
          rcases HP4.out.js with ⟨hi, g, hj⟩ | ⟨hi, hj⟩
          · subst hi hj
            refine (hK.add w.heap.size w4 U bb D g nm br a.data HP4.out.st.has (HFI.out.more (by omega)) (by omega) (HOK.out.top.below HP4.out.st.below) HP4.out.st.own).mono ?_
            rintro e w5 ⟨U5, h1, h2, h3, h4⟩
            exact ⟨U5, _, h1, ⟨h2, h3, h4⟩, rfl, .inl ⟨rfl, g, rfl⟩⟩
          · subst hi hj
            have hid : (addJ Sh.dig false br D nm a.data) = (D, br, 19) := by unfold addJ; rw [if_pos (.inl rfl)]
            rw [hid]
            refine (hK.addnil w4 a.data (by omega)).mono ?_
            rintro e w5 ⟨h1, h2⟩
            exact ⟨U, none, h1, ⟨hK.later HP4.out.st.has h2, fun q hq => .inl hq, Away.of h2⟩, rfl, .inr ⟨rfl, rfl⟩⟩
        have HRO : Hid (∀ W, w4.heap.size ≤ W.heap.size → Away U w4 W → FRow W W.heap.size Af D.files → (∀ q, Af = some q → q.block < W.heap.size) → Calls Tryz.prog 11 #[jval Af m cp D.left nm is br, .string a.data] W (RefJ W Af nm is (addJ Sh.dig is br D nm a.data))) := fun W hW hw h1 h2 => refadd_any (1344 + 113 * k) Af cp m D.files D.left nm a.data is br W HP4.out.len HFI.out (by omega) h2 (by omega) h1
        have HF5 := Lib.hid (fit_addJ HFI.out is br nm hda)
        generalize addJ Sh.dig is br D nm a.data = RV at *
        go_wp2_with (at_builtin; fail)
        rw [← hw4]
        clear hw4 c0 c1 c2 c3 c4 c5 e0 e1 HP
        refine HQ5.out.mono ?_
        rintro e w5 ⟨U5, j5, rfl, hq5, hjp, hjs⟩
        rw [hjp]
        clear hjp
        have hs5 := hq5.2.2.size
        have HQQ := Lib.hid hq5
        have HJ5 := Lib.hid (row_away HP4.out.row hq5.2.2 HP4.out.away)
        have HA5 := Lib.hid (row_away HAC.out hq5.2.2 HUN.out)
        have c0 := HJ5.out.cell 0
        have c1 := HJ5.out.cell 1
        have c2 := HJ5.out.cell 2
        have c3 := HJ5.out.cell 3
        have c4 := HJ5.out.cell 4
        have x3 : w5.cell? ⟨wr.heap.size, 3, none⟩ = some (.string a.data) := HA5.out.cell 3
        have x4 : w5.cell? ⟨wr.heap.size, 4, none⟩ = some (.slice a.ra a.rn a.rcap) := HA5.out.cell 4
        have HCR := Lib.hid (HRO.out _ hs5 hq5.2.2 (HP4.out.files1 hq5.2.2) (HP4.out.lies1 hq5.2.2))
        clear hq5 HQ5 HRO
        go_wp2_with fail
        refine HCR.out.mono ?_
        rintro e w6 ⟨A6, m6, cp6, rfl, ht6, hb6⟩
        have hs6 := hb6.size
        have HJ6 := Lib.hid (HJ5.out.below hb6 (by omega))
        have HT6 := Lib.hid ht6
        have HB6 := Lib.hid hb6
        clear ht6 hb6 c0 c1 c2 c3 c4 x3 x4 HCR HJ5 HA5
        go_wp2_with (refine wpList_store_all rfl 33 (.tmp 5) (.tmp 81) rfl w2.heap.size (lj A6 m6 cp6 RV.1.left nm is RV.2.1) rfl rfl 33 (lj Af m cp D.left nm is br) HJ6.out (j_info _ _ _ _ _ _ _) rfl (j_one _ _ _ _ _ _ _) ?_)
        intro w7 HR7 HT7
        have HP7 : Hid (Ply Q w w2.heap.size bb U5 RV.1 j5 A6 m6 cp6 nm is RV.2.1 w7) := Ply.did hK HP4.out HQQ.out.1 HQQ.out.2.1 HQQ.out.2.2 HT6.out HB6.out HT7.out HR7.out hjs
        clear HT6 HB6 HR7 HT7 HQQ HJ6 HP4 HAC HRE4 HPI4 HUN
        rcases hjs with ⟨rfl, g6, rfl⟩ | ⟨rfl, rfl⟩
        all_goals
          have HS := Lib.hid (same_yes (some ⟨wr.heap.size + 1, 0, none⟩) (some ⟨wr.heap.size + 1 + 1, 0, none⟩) 0 0 0 0 0 [] w7 rfl rfl (by decide) (KRow.none_ _ _ _) (KRow.none_ _ _ _))
          have x0 := HP7.out.row.cell 0
          have x1 := HP7.out.row.cell 1
          have x3 := HP7.out.row.cell 3
          go_wp2_with fail
          refine HS.out.mono ?_
          rintro e w20 ⟨rfl, hb20⟩
          have HP8 := Lib.hid (HP7.out.later hK hb20)
          clear hb20 HS HP7 x0 x1 x3
          have x0 := HP8.out.row.cell 0
          have x1 := HP8.out.row.cell 1
          have x3 := HP8.out.row.cell 3
          have HSM := Lib.hid (lawsame_any hK _ _ _ _ _ cp6 m6 w20 HP8.out.st.has (HF5.out.more (by omega)) HP8.out.len HP8.out.files)
          go_wp2_with fail
          refine HSM.out.mono ?_
          rintro e w21 ⟨rfl, hb21⟩
          have HP9 := Lib.hid (HP8.out.later hK hb21)
          clear hb21 HSM HP8 x0 x1 x3
          go_wp2
          go_roundw
          case rel => exact ⟨k + 1, _, _, _, _, _, _, _, _, _, _, by omega, by go_num, rfl, rfl, HF5.out.more (by omega), hnb, HP9.out⟩
          case measure => simp [intOf]; omega
      have e1 : (a.kind == 1) = false := beq_eq_false_iff_ne.2 q1
      clear q1
      by_cases q2 : a.kind = 2
      · have e2 : (a.kind == 2) = true := beq_iff_eq.2 q2
        clear q2
        have HQ5 : Hid (Calls Tryz.prog 12 #[jp jn, .slice a.ra a.rn a.rcap] w4 fun e w5 => ∃ U5 j5, e = .returned (.int .i64 ((swapJ Sh.dig is br D nm a.recs).2.2 : Int)) ∧ (Q w5 U5 bb (swapJ Sh.dig is br D nm a.recs).1 j5 ∧ (∀ q, U5 q → U q ∨ w4.heap.size ≤ q) ∧ Away U w4 w5) ∧ jp jn = jp j5 ∧ ((is = true ∧ ∃ g, j5 = some (g, nm, (swapJ Sh.dig is br D nm a.recs).2.1)) ∨ (is = false ∧ j5 = none))) := by
          rcases HP4.out.js with ⟨hi, g, hj⟩ | ⟨hi, hj⟩
          · subst hi hj
            refine (hK.swap w.heap.size w4 U bb D g nm br a.ra a.rn a.rcap a.recs HP4.out.st.has (HFI.out.more (by omega)) HJO.out.rlen HJO.out.rcap hr12 HRS.out HRE4.out (HOK.out.top.below HP4.out.st.below) HP4.out.st.own).mono ?_
            rintro e w5 ⟨U5, h1, h2, h3, h4⟩
            exact ⟨U5, _, h1, ⟨h2, h3, h4⟩, rfl, .inl ⟨rfl, g, rfl⟩⟩
          · subst hi hj
            have hid : (swapJ Sh.dig false br D nm a.recs) = (D, br, 19) := by unfold swapJ; rw [if_pos (.inl rfl)]
            rw [hid]
            refine (hK.swapnil w4 a.ra a.rn a.rcap a.recs HJO.out.rlen HJO.out.rcap hr12 HRS.out (HRE4.out.more (by omega))).mono ?_
            rintro e w5 ⟨h1, h2⟩
            exact ⟨U, none, h1, ⟨hK.later HP4.out.st.has h2, fun q hq => .inl hq, Away.of h2⟩, rfl, .inr ⟨rfl, rfl⟩⟩
        have HRO : Hid (∀ W, w4.heap.size ≤ W.heap.size → Away U w4 W → FRow W W.heap.size Af D.files → (∀ q, Af = some q → q.block < W.heap.size) → Calls Tryz.prog 13 #[jval Af m cp D.left nm is br, .slice a.ra a.rn a.rcap] W (RefJ W Af nm is (swapJ Sh.dig is br D nm a.recs))) := fun W hW hw h1 h2 => refswap_any (1344 + 113 * k) Af cp m D.files D.left nm a.ra a.rn a.rcap a.recs is br W HP4.out.len HFI.out (by omega) h2 (by omega) HJO.out.rlen (by omega) (fun r hr => by have := HRS.out r hr; omega) (by have := frames_low HRS.out; rw [HJO.out.rlen] at this; omega) ((HRE4.out.below (hw.below HP4.out.st.own (by omega)) (Nat.le_refl _)).more (by omega)) h1
        have HF5 := Lib.hid (fit_swapJ HFI.out (by omega) is br nm HTR.out)
        generalize swapJ Sh.dig is br D nm a.recs = RV at *
        go_wp2_with (at_builtin; fail)
        rw [← hw4]
        clear hw4 c0 c1 c2 c3 c4 c5 e0 e1 e2 HP
        refine HQ5.out.mono ?_
        rintro e w5 ⟨U5, j5, rfl, hq5, hjp, hjs⟩
        rw [hjp]
        clear hjp
        have hs5 := hq5.2.2.size
        have HQQ := Lib.hid hq5
        have HJ5 := Lib.hid (row_away HP4.out.row hq5.2.2 HP4.out.away)
        have HA5 := Lib.hid (row_away HAC.out hq5.2.2 HUN.out)
        have c0 := HJ5.out.cell 0
        have c1 := HJ5.out.cell 1
        have c2 := HJ5.out.cell 2
        have c3 := HJ5.out.cell 3
        have c4 := HJ5.out.cell 4
        have x3 : w5.cell? ⟨wr.heap.size, 3, none⟩ = some (.string a.data) := HA5.out.cell 3
        have x4 : w5.cell? ⟨wr.heap.size, 4, none⟩ = some (.slice a.ra a.rn a.rcap) := HA5.out.cell 4
        have HCR := Lib.hid (HRO.out _ hs5 hq5.2.2 (HP4.out.files1 hq5.2.2) (HP4.out.lies1 hq5.2.2))
        clear hq5 HQ5 HRO
        go_wp2_with fail
        refine HCR.out.mono ?_
        rintro e w6 ⟨A6, m6, cp6, rfl, ht6, hb6⟩
        have hs6 := hb6.size
        have HJ6 := Lib.hid (HJ5.out.below hb6 (by omega))
        have HT6 := Lib.hid ht6
        have HB6 := Lib.hid hb6
        clear ht6 hb6 c0 c1 c2 c3 c4 x3 x4 HCR HJ5 HA5
        go_wp2_with (refine wpList_store_all rfl 33 (.tmp 5) (.tmp 94) rfl w2.heap.size (lj A6 m6 cp6 RV.1.left nm is RV.2.1) rfl rfl 33 (lj Af m cp D.left nm is br) HJ6.out (j_info _ _ _ _ _ _ _) rfl (j_one _ _ _ _ _ _ _) ?_)
        intro w7 HR7 HT7
        have HP7 : Hid (Ply Q w w2.heap.size bb U5 RV.1 j5 A6 m6 cp6 nm is RV.2.1 w7) := Ply.did hK HP4.out HQQ.out.1 HQQ.out.2.1 HQQ.out.2.2 HT6.out HB6.out HT7.out HR7.out hjs
        clear HT6 HB6 HR7 HT7 HQQ HJ6 HP4 HAC HRE4 HPI4 HUN
        rcases hjs with ⟨rfl, g6, rfl⟩ | ⟨rfl, rfl⟩
        all_goals
          have HS := Lib.hid (same_yes (some ⟨wr.heap.size + 1, 0, none⟩) (some ⟨wr.heap.size + 1 + 1, 0, none⟩) 0 0 0 0 0 [] w7 rfl rfl (by decide) (KRow.none_ _ _ _) (KRow.none_ _ _ _))
          have x0 := HP7.out.row.cell 0
          have x1 := HP7.out.row.cell 1
          have x3 := HP7.out.row.cell 3
          go_wp2_with fail
          refine HS.out.mono ?_
          rintro e w20 ⟨rfl, hb20⟩
          have HP8 := Lib.hid (HP7.out.later hK hb20)
          clear hb20 HS HP7 x0 x1 x3
          have x0 := HP8.out.row.cell 0
          have x1 := HP8.out.row.cell 1
          have x3 := HP8.out.row.cell 3
          have HSM := Lib.hid (lawsame_any hK _ _ _ _ _ cp6 m6 w20 HP8.out.st.has (HF5.out.more (by omega)) HP8.out.len HP8.out.files)
          go_wp2_with fail
          refine HSM.out.mono ?_
          rintro e w21 ⟨rfl, hb21⟩
          have HP9 := Lib.hid (HP8.out.later hK hb21)
          clear hb21 HSM HP8 x0 x1 x3
          go_wp2
          go_roundw
          case rel => exact ⟨k + 1, _, _, _, _, _, _, _, _, _, _, by omega, by go_num, rfl, rfl, HF5.out.more (by omega), hnb, HP9.out⟩
          case measure => simp [intOf]; omega
      have e2 : (a.kind == 2) = false := beq_eq_false_iff_ne.2 q2
      clear q2
      by_cases q3 : a.kind = 3
      · have e3 : (a.kind == 3) = true := beq_iff_eq.2 q3
        clear q3
        have HQ5 := Lib.hid (hK.budget w4 U bb D jn a.num HP4.out.st.has (HFI.out.more (by omega)) HJO.out.num.1 HJO.out.num.2)
        have HF5 := Lib.hid (fit_budget HFI.out a.num HJO.out.num.2)
        go_wp2_with (at_builtin; fail)
        rw [← hw4]
        clear hw4 c0 c1 c2 c3 c4 c5 e0 e1 e2 e3 HP
        refine HQ5.out.mono ?_
        rintro e w5 ⟨U5, rfl, hq5⟩
        have hs5 := hq5.2.2.size
        have HQQ := Lib.hid hq5
        have HJ5 := Lib.hid (row_away HP4.out.row hq5.2.2 HP4.out.away)
        have HA5 := Lib.hid (row_away HAC.out hq5.2.2 HUN.out)
        have HFR := Lib.hid (HP4.out.files1 hq5.2.2)
        have c0 := HJ5.out.cell 0
        have c1 := HJ5.out.cell 1
        have x1 : w5.cell? ⟨wr.heap.size, 1, none⟩ = some (.int .i64 a.num) := HA5.out.cell 1
        clear hq5 HQ5
        go_wp2_with fail
        refine (refbudget_any Af m cp D.left a.num w5).mono ?_
        rintro e w6 ⟨rfl, hb6⟩
        have hs6 := hb6.size
        have HJ6 := Lib.hid (HJ5.out.below hb6 (by omega))
        have HT6 : Hid (RefTo w5.heap.size w5.heap.size Af D.files Af m w6) := RefTo.start (HFR.out.below hb6 (Nat.le_refl _)) HP4.out.len
        have HB6 := Lib.hid hb6
        have HBE : Hid (budgetV D a.num = ⟨D.files, if a.num < 0 then -1 else a.num⟩) := rfl
        rw [HBE.out] at HQQ HF5
        generalize (if a.num < 0 then -1 else a.num) = z at *
        clear hb6 c0 c1 x1 HJ5 HA5 HFR HBE
        have d0 := HJ6.out.cell 0
        have d1 := HJ6.out.cell 1
        have f0 := HJ6.out.frozen 0
        have f1 := HJ6.out.frozen 1
        obtain ⟨w7, hw7⟩ : ∃ w7, w7 = (w6.setCell ⟨w2.heap.size, 0, none⟩ (.slice Af m cp)).setCell ⟨w2.heap.size, 1, none⟩ (.int .i64 z) := ⟨_, rfl⟩
        have HT7 : Hid (Turn w2.heap.size w6 w7) := by rw [hw7]; exact turn_set2 _ _ _ _
        have HR7 : Hid (Row w7 w2.heap.size 33 (lj Af m cp z nm is br)) := by rw [hw7]; exact (HJ6.out.set 0 _).set 1 _
        have hjs := HP4.out.js
        have HP7 : Hid (Ply Q w w2.heap.size bb U5 ⟨D.files, z⟩ jn Af m cp nm is br w7) := Ply.did hK HP4.out HQQ.out.1 HQQ.out.2.1 HQQ.out.2.2 HT6.out HB6.out HT7.out HR7.out hjs
        go_wp2_with fail
        rw [← hw7]
        clear hw7 d0 d1 f0 f1 HT6 HB6 HR7 HT7 HQQ HJ6 HP4 HAC HRE4 HPI4 HUN
        rcases hjs with ⟨rfl, g6, rfl⟩ | ⟨rfl, rfl⟩
        all_goals
          have HS := Lib.hid (same_yes (some ⟨wr.heap.size + 1, 0, none⟩) (some ⟨wr.heap.size + 1 + 1, 0, none⟩) 0 0 0 0 0 [] w7 rfl rfl (by decide) (KRow.none_ _ _ _) (KRow.none_ _ _ _))
          have x0 := HP7.out.row.cell 0
          have x1 := HP7.out.row.cell 1
          have x3 := HP7.out.row.cell 3
          refine HS.out.mono ?_
          rintro e w20 ⟨rfl, hb20⟩
          have HP8 := Lib.hid (HP7.out.later hK hb20)
          clear hb20 HS HP7 x0 x1 x3
          have x0 := HP8.out.row.cell 0
          have x1 := HP8.out.row.cell 1
          have x3 := HP8.out.row.cell 3
          have HSM := Lib.hid (lawsame_any hK _ _ _ _ _ cp m w20 HP8.out.st.has (HF5.out.more (by omega)) HP8.out.len HP8.out.files)
          go_wp2_with fail
          refine HSM.out.mono ?_
          rintro e w21 ⟨rfl, hb21⟩
          have HP9 := Lib.hid (HP8.out.later hK hb21)
          clear hb21 HSM HP8 x0 x1 x3
          go_wp2
          go_roundw
          case rel => exact ⟨k + 1, _, _, _, _, _, _, _, _, _, _, by omega, by go_num, rfl, rfl, HF5.out.more (by omega), hnb, HP9.out⟩
          case measure => simp [intOf]; omega
      have e3 : (a.kind == 3) = false := beq_eq_false_iff_ne.2 q3
      clear q3
      by_cases q4 : a.kind = 4
      · have e4 : (a.kind == 4) = true := beq_iff_eq.2 q4
        clear q4
        have HQ5 := Lib.hid (hK.crash w4 U bb D jn a.pa a.pn a.pcap a.picks HP4.out.st.has (HFI.out.more (by omega)) HJO.out.plen HJO.out.pcap (by omega) HJO.out.picks (HPI4.out.more (by omega)))
        have HF5 := Lib.hid (fit_crash HFI.out a.picks)
        go_wp2_with (at_builtin; fail)
        rw [← hw4]
        clear hw4 c0 c1 c2 c3 c4 c5 e0 e1 e2 e3 e4 HP
        refine HQ5.out.mono ?_
        rintro e w5 ⟨b5, U5, rfl, hq5, hU5, hb5⟩
        have ha5 : Away U w4 w5 := Away.of hb5
        have hs5 := hb5.size
        have HQQ : Hid (Q w5 U5 b5 ⟨crashV D.files a.picks, -1⟩ none ∧ (∀ q, U5 q → U q ∨ w4.heap.size ≤ q) ∧ Away U w4 w5) := ⟨hq5, fun q hq => .inr (hU5 q hq), ha5⟩
        have HJ5 := Lib.hid (row_away HP4.out.row ha5 HP4.out.away)
        have HA5 := Lib.hid (row_away HAC.out ha5 HUN.out)
        have HPI5 : Hid (PRow w5 w5.heap.size a.pa a.picks) := (HPI4.out.below hb5 (by omega)).more (by omega)
        have HCR := Lib.hid (refcrash_any Af a.pa cp m a.pn a.pcap D.files a.picks D.left w5 HP4.out.len HJO.out.plen (by have := HP4.out.len; have := HFI.out.len; omega) (by omega) HFI.out.sure (fun f hf => by have := HFI.out.size f hf; omega) HJO.out.picks (HP4.out.files1 ha5) HPI5.out)
        have c0 := HJ5.out.cell 0
        have c1 := HJ5.out.cell 1
        have x5 : w5.cell? ⟨wr.heap.size, 5, none⟩ = some (.slice a.pa a.pn a.pcap) := HA5.out.cell 5
        clear hq5 hU5 hb5 ha5 HQ5
        go_wp2_with fail
        refine HCR.out.mono ?_
        rintro e w6 ⟨A6, cp6, rfl, ho6, hb6⟩
        have hs6 := hb6.size
        have HJ6 := Lib.hid (HJ5.out.below hb6 (by omega))
        have HT6 : Hid (RefTo w5.heap.size w5.heap.size Af (crashV D.files a.picks) A6 m w6) := owns_to ho6
        have HB6 := Lib.hid hb6
        clear hb6 ho6 c0 c1 x5 HJ5 HA5 HCR HPI5
        go_wp2_with (first
          | (refine wpList_buildTo rfl 33 _ rfl (some 119) rfl (lj A6 m cp6 (-1) nul false false).toArray (built_disk _ _ _ _) ?_)
          | (refine wpList_store_all rfl 33 (.tmp 5) (.tmp 119) rfl w2.heap.size (lj A6 m cp6 (-1) nul false false) rfl rfl 33 (lj Af m cp D.left nm is br) HJ6.out (j_info _ _ _ _ _ _ _) rfl (j_one _ _ _ _ _ _ _) ?_))
        intro w7 HR7 HT7
        have HP7 : Hid (Ply Q w w2.heap.size b5 U5 ⟨crashV D.files a.picks, -1⟩ none A6 m cp6 nul false false w7) := Ply.did hK HP4.out HQQ.out.1 HQQ.out.2.1 HQQ.out.2.2 HT6.out HB6.out HT7.out HR7.out (.inr ⟨rfl, rfl⟩)
        clear HT6 HB6 HR7 HT7 HQQ HJ6 HP4 HAC HRE4 HPI4 HUN
        have HS := Lib.hid (same_yes (some ⟨wr.heap.size + 1, 0, none⟩) (some ⟨wr.heap.size + 1 + 1, 0, none⟩) 0 0 0 0 0 [] w7 rfl rfl (by decide) (KRow.none_ _ _ _) (KRow.none_ _ _ _))
        have x0 := HP7.out.row.cell 0
        have x1 := HP7.out.row.cell 1
        have x3 := HP7.out.row.cell 3
        go_wp2_with fail
        refine HS.out.mono ?_
        rintro e w20 ⟨rfl, hb20⟩
        have HP8 := Lib.hid (HP7.out.later hK hb20)
        clear hb20 HS HP7 x0 x1 x3
        have x0 := HP8.out.row.cell 0
        have x1 := HP8.out.row.cell 1
        have x3 := HP8.out.row.cell 3
        have HSM := Lib.hid (lawsame_any hK _ _ _ _ _ cp6 m w20 HP8.out.st.has (HF5.out.more (by omega)) HP8.out.len HP8.out.files)
        go_wp2_with fail
        refine HSM.out.mono ?_
        rintro e w21 ⟨rfl, hb21⟩
        have HP9 := Lib.hid (HP8.out.later hK hb21)
        clear hb21 HSM HP8 x0 x1 x3
        go_wp2
        go_roundw
        case rel => exact ⟨k + 1, _, _, _, _, _, _, _, _, _, _, by omega, by go_num, rfl, rfl, HF5.out.more (by omega), (by decide), HP9.out⟩
        case measure => simp [intOf]; omega
      have e4 : (a.kind == 4) = false := beq_eq_false_iff_ne.2 q4
      clear q4
      have HQ5 := Lib.hid (hK.append w4 U bb D jn a.name a.data HP4.out.st.has (HFI.out.more (by omega)) (by omega) (by omega))
      have HF5 : Hid (Fit (1344 + 113 * k + 113) (appendV D a.name a.data).1) := (fit_append HFI.out a.name a.data).more (by omega)
      have HRO : Hid (∀ W, FRow W W.heap.size Af D.files → Calls Tryz.prog 19 #[dval Af m cp D.left, .string a.name, .string a.data] W (RefAns W Af (appendV D a.name a.data))) := fun W h => refappend_any Af cp m D.files D.left a.name a.data W HP4.out.len (by have := HP4.out.len; have := HFI.out.len; omega) HFI.out.low HFI.out.high (by omega) (fun f hf => by have := HFI.out.size f hf; omega) h
      generalize appendV D a.name a.data = RV at *
      go_wp2_with (at_builtin; fail)
      rw [← hw4]
      clear hw4 c0 c1 c2 c3 c4 c5 e0 e1 e2 e3 e4 HP
      refine HQ5.out.mono ?_
      rintro e w5 ⟨U5, rfl, hq5⟩
      have hs5 := hq5.2.2.size
      have HQQ := Lib.hid hq5
      have HJ5 := Lib.hid (row_away HP4.out.row hq5.2.2 HP4.out.away)
      have HA5 := Lib.hid (row_away HAC.out hq5.2.2 HUN.out)
      have HCR := Lib.hid (HRO.out _ (HP4.out.files1 hq5.2.2))
      have c0 := HJ5.out.cell 0
      have c1 := HJ5.out.cell 1
      have x2 : w5.cell? ⟨wr.heap.size, 2, none⟩ = some (.string a.name) := HA5.out.cell 2
      have x3 : w5.cell? ⟨wr.heap.size, 3, none⟩ = some (.string a.data) := HA5.out.cell 3
      clear hq5 HQ5 HRO
      go_wp2_with fail
      refine HCR.out.mono ?_
      rintro e w6 ⟨⟨A6, m6, cp6, rfl, ht6⟩, hb6⟩
      have hs6 := hb6.size
      have HJ6 := Lib.hid (HJ5.out.below hb6 (by omega))
      have HT6 : Hid (RefTo w5.heap.size w5.heap.size Af RV.1.files A6 m6 w6) := ht6
      have HB6 := Lib.hid hb6
      clear hb6 ht6 c0 c1 x2 x3 HJ5 HA5 HCR
      have d0 := HJ6.out.cell 0
      have d1 := HJ6.out.cell 1
      have f0 := HJ6.out.frozen 0
      have f1 := HJ6.out.frozen 1
      obtain ⟨w7, hw7⟩ : ∃ w7, w7 = (w6.setCell ⟨w2.heap.size, 0, none⟩ (.slice A6 m6 cp6)).setCell ⟨w2.heap.size, 1, none⟩ (.int .i64 RV.1.left) := ⟨_, rfl⟩
      have HT7 : Hid (Turn w2.heap.size w6 w7) := by rw [hw7]; exact turn_set2 _ _ _ _
      have HR7 : Hid (Row w7 w2.heap.size 33 (lj A6 m6 cp6 RV.1.left nm is br)) := by rw [hw7]; exact (HJ6.out.set 0 _).set 1 _
      have hjs := HP4.out.js
      have HP7 : Hid (Ply Q w w2.heap.size bb U5 RV.1 jn A6 m6 cp6 nm is br w7) := Ply.did hK HP4.out HQQ.out.1 HQQ.out.2.1 HQQ.out.2.2 HT6.out HB6.out HT7.out HR7.out hjs
      go_wp2_with fail
      rw [← hw7]
      clear hw7 d0 d1 f0 f1 HT6 HB6 HR7 HT7 HQQ HJ6 HP4 HAC HRE4 HPI4 HUN
      rcases hjs with ⟨rfl, g6, rfl⟩ | ⟨rfl, rfl⟩
      all_goals
        have HS := Lib.hid (same_yes (some ⟨wr.heap.size + 1, 0, none⟩) (some ⟨wr.heap.size + 1 + 1, 0, none⟩) 0 0 0 0 0 [] w7 rfl rfl (by decide) (KRow.none_ _ _ _) (KRow.none_ _ _ _))
        have x0 := HP7.out.row.cell 0
        have x1 := HP7.out.row.cell 1
        have x3 := HP7.out.row.cell 3
        refine HS.out.mono ?_
        rintro e w20 ⟨rfl, hb20⟩
        have HP8 := Lib.hid (HP7.out.later hK hb20)
        clear hb20 HS HP7 x0 x1 x3
        have x0 := HP8.out.row.cell 0
        have x1 := HP8.out.row.cell 1
        have x3 := HP8.out.row.cell 3
        have HSM := Lib.hid (lawsame_any hK _ _ _ _ _ cp6 m6 w20 HP8.out.st.has (HF5.out.more (by omega)) HP8.out.len HP8.out.files)
        go_wp2_with fail
        refine HSM.out.mono ?_
        rintro e w21 ⟨rfl, hb21⟩
        have HP9 := Lib.hid (HP8.out.later hK hb21)
        clear hb21 HSM HP8 x0 x1 x3
        go_wp2
        go_roundw
        case rel => exact ⟨k + 1, _, _, _, _, _, _, _, _, _, _, by omega, by go_num, rfl, rfl, HF5.out.more (by omega), hnb, HP9.out⟩
        case measure => simp [intOf]; omega
    · obtain rfl : k = n := by omega
      go_wp2_with fail
      refine (fixed_any hK B _ (HOK.out.later HP.out.st.below)).mono ?_
      rintro e w9 ⟨rfl, hb9⟩
      have HB9 := Lib.hid (HP.out.st.below.trans (hb9.mono HP.out.st.below.size))
      clear hb9
      go_wp2
      go_ret
      exact ⟨rfl, HB9.out⟩
end Jl
end Go.Proofs.YtogpigfepebibaaGreatDoor
