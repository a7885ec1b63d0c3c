/-
  Layer 7 (disk): a crash, file by file; the walk of the document's Crash.
-/
import Derived.Test.YtogpigfepebibaaGreatDoorMDI
import Derived.StillTailTactics
namespace Go.Proofs.YtogpigfepebibaaGreatDoor
namespace Dk
open Go.RowKit Go.ChangeShapes Kr

/-- What a crash makes of one file, by the picks that are left. -/
def crash1 (f : FF) (r : List Int) : FF := if f.sure < f.data.size then cutV f (r.headD 0) else ⟨f.name, f.data, f.data.size⟩
/-- How many picks are used. -/
def used : List FF → Nat
  | [] => 0
  | f :: t => (if f.sure < f.data.size then 1 else 0) + used t
theorem used_snoc : ∀ (t : List FF) (x : FF), used (t ++ [x]) = used t + if x.sure < x.data.size then 1 else 0
  | [], x => by simp [used]
  | f :: t, x => by
    show (if f.sure < f.data.size then 1 else 0) + used (t ++ [x]) = (if f.sure < f.data.size then 1 else 0) + used t + _
    rw [used_snoc t x]; omega
theorem used_le : ∀ t : List FF, used t ≤ t.length
  | [] => Nat.le_refl _
  | f :: t => by
    have := used_le t
    show (if f.sure < f.data.size then 1 else 0) + used t ≤ t.length + 1
    split <;> omega
theorem crash_snoc : ∀ (t : List FF) (ps : List Int) (x : FF), crashV (t ++ [x]) ps = crashV t ps ++ [crash1 x (ps.drop (used t))]
  | [], ps, x => by
    show crashV [x] ps = [] ++ [crash1 x (ps.drop 0)]
    unfold crashV crash1
    split <;> rfl
  | f :: t, ps, x => by
    show crashV (f :: (t ++ [x])) ps = _
    unfold crashV used
    split
    · rw [crash_snoc t ps.tail x]
      rw [show ps.drop (1 + used t) = ps.tail.drop (used t) by rw [List.drop_tail, Nat.add_comm]]
      rfl
    · rw [crash_snoc t ps x, Nat.zero_add]
      rfl
theorem crash_len : ∀ (l : List FF) (ps : List Int), (crashV l ps).length = l.length := fun l ps => by
  have := congrArg List.length (crash_names l ps)
  simpa using this
theorem head_drop (ps : List Int) (k : Nat) : (ps.drop k).headD 0 = ps.getD k 0 := by
  rw [List.headD_eq_head?_getD, List.head?_drop, List.getD_eq_getElem?_getD]
theorem rem_pos (z : Int) (n : Nat) (hn : 0 < n) : Int.tmod (Int.tmod z n + n) n = z % n := by
  have h1 := Int.tmod_eq_emod (a := z) (b := n)
  have h2 := Int.emod_nonneg z (show (n : Int) ≠ 0 by omega)
  have h3 := Int.emod_lt_of_pos z (show (0 : Int) < n by omega)
  have h4 : 0 ≤ Int.tmod z n + n := by
    rw [h1]; split <;> omega
  rw [Int.tmod_eq_emod_of_nonneg h4, h1]
  split
  · rw [show ((0 : Nat) : Int) = 0 from rfl, Int.sub_zero, Int.add_emod_right, Int.emod_emod]
  · rw [Int.natAbs_natCast, Int.sub_add_cancel, Int.emod_emod]

theorem owns_far {α : Type} {enc : α → List Value} {k : Nat} {T : TypeId} {w : World} {base b : Nat} {v : Value} {t : List α} (h : OwnsK enc k T w base v t) (hb : b < base) (o : Nat) (u : Value) : OwnsK enc k T (w.setCell ⟨b, o, none⟩ u) base v t := by
  refine ⟨h.1, h.2.imp id ?_⟩
  rintro ⟨g, c, cur, h1, h2, h3, h4⟩
  exact ⟨g, c, cur, h1, h2, (Below.heap_setCell w ⟨b, o, none⟩ u g (by show g ≠ b; omega)).trans h3, h4⟩
theorem owns_turn {α : Type} {enc : α → List Value} {k : Nat} {T : TypeId} {w w' : World} {base b : Nat} {v : Value} {t : List α} (h : OwnsK enc k T w base v t) (ht : Turn b w w') (hb : b < base) : OwnsK enc k T w' base v t := by
  refine ⟨h.1, h.2.imp id ?_⟩
  rintro ⟨g, c, cur, h1, h2, h3, h4⟩
  exact ⟨g, c, cur, h1, h2, (ht.2.2.2.2 g (by omega)).trans h3, h4⟩
theorem cut_front (X : ByteArray) (n : Nat) (hn : n ≤ X.size) (W : World) :
    (Instr.slice 9 (.string X) none (some (.int .i64 (n : Int))) none).run Tryz.prog W = .ok (.string (X.extract 0 n)) W := by
  rw [run_slice_string_to_if (P := Tryz.prog) W 9 X .i64 (n : Int) Tryz.underlying9]
  rw [if_pos (by omega)]
  rfl
theorem wrap_id (z : Int) (h : -9223372036854775808 ≤ z ∧ z ≤ 9223372036854775807) : IntKind.i64.wrap z = z := by
  simp [IntKind.wrap, IntKind.bits, IntKind.signed]
  omega
theorem tmod_low (z : Int) (n : Nat) (hn : 0 < n) : -(n : Int) ≤ Int.tmod z n := by
  rw [Int.tmod_eq_emod, Int.natAbs_natCast]
  have h := Int.emod_nonneg z (show (n : Int) ≠ 0 by omega)
  split <;> omega

set_option maxRecDepth 100000 in
set_option maxHeartbeats 4000000 in
theorem refcrash_any (A P : Option Addr) (cap n pn pcap : Nat) (l : List FF) (ps : List Int) (left : Int) (w : World) (hn : l.length = n) (hpn : ps.length = pn) (hnm : n ≤ 100000) (hpm : pn ≤ 100000) (hsu : ∀ f ∈ l, f.sure ≤ f.data.size) (hsz : ∀ f ∈ l, f.data.size ≤ 1000000)
    (hpz : ∀ z ∈ ps, -9223372036854775808 ≤ z ∧ z ≤ 9223372036854775807) (hx : FRow w w.heap.size A l) (hp : PRow w w.heap.size P ps) :
    Calls Tryz.prog 17 #[dval A n cap left, .slice P pn pcap] w fun e w' => ∃ A' cap', e = .returned (dval A' n cap' (-1)) ∧ OwnsF w' w.heap.size (.slice A' n cap') (crashV l ps) ∧ Below w.heap.size w w' := by
  obtain ⟨i0, hi, hz0, hz1, hz2⟩ := info_parts fileInfo
  have HX := Lib.hid hx
  have HP := Lib.hid hp
  have HN := Lib.hid hn
  have HPN := Lib.hid hpn
  have HSU := Lib.hid hsu
  have HSZ := Lib.hid hsz
  have HPZ := Lib.hid hpz
  clear hx hp hn hpn hsu hsz hpz
  obtain ⟨w0, hw0⟩ : ∃ w0, w0 = (((w.alloc (.cells #[.slice A n cap, .int .i64 left] 30)).alloc (.cells #[.slice none 0 0, .int .i64 0] 30)).alloc (.cells #[.slice none 0 0, .int .i64 (-1)] 30)).alloc (.cells #[.slice none 0 0, .int .i64 (-1)] 30) := ⟨_, rfl⟩
  have hs0 : w0.heap.size = w.heap.size + 4 := by rw [hw0]; simp
  have HB0 : Hid (Below w.heap.size w w0) := by rw [hw0]; exact ((((Below.refl _ _).alloc (Nat.le_refl _) _).alloc (by simp) _).alloc (by simp; omega) _).alloc (by simp; omega) _
  have HZ0 : Hid (Row w0 (w.heap.size + 1) 30 zdisk) := by rw [hw0]; exact ((Row.new_at _ _ _ _ (by simp) rfl).alloc _).alloc _
  have HR0 : Hid (Row w0 (w.heap.size + 1 + 1 + 1) 30 (ldisk none 0 0 (-1))) := by rw [hw0]; exact Row.new_at _ _ _ _ (by simp) rfl
  go_enter Tryz.func17, Tryz.ntmps17
  go_wp2
  rw [← hw0]
  clear hw0
  go_loopw [6, 15] (fun kk i wr => ∃ (q u cp : Nat) (A' : Option Addr), q ≤ n ∧ i = .int .i64 q ∧ kk = .int .i64 u ∧ u ≤ q ∧ Hid (used (l.take q) = u) ∧ Hid (OwnsF wr (w.heap.size + 4) (.slice A' q cp) (crashV (l.take q) ps)) ∧ Hid (Row wr (w.heap.size + 1 + 1 + 1) 30 (ldisk A' q cp (-1))) ∧ Hid (Row wr (w.heap.size + 1) 30 zdisk) ∧ Hid (Below w.heap.size w wr) ∧ w.heap.size + 4 ≤ wr.heap.size) (fun _ i _ => n - (intOf i).toNat)
  case atStart => exact ⟨0, 0, 0, none, Nat.zero_le _, rfl, rfl, Nat.le_refl _, rfl, OwnsK.nil _ _, HR0.out, HZ0.out, HB0.out, by omega⟩
  case round =>
    obtain ⟨q, u, cp, A', hk, rfl, rfl, hu, HU, HO, HR, HZ, HB, hwr⟩ := hrel
    clear HR0 HZ0 HB0
    by_cases hlt : q < n
    · have hki : (q : Int) < n := by omega
      have hxk : l[q]? = some (l[q]'(by rw [HN.out]; exact hlt)) := List.getElem?_eq_getElem _
      generalize l[q]'(by rw [HN.out]; exact hlt) = x at hxk
      obtain ⟨b1, o1, rfl, hb1, hcs⟩ := (HX.out.below HB.out (Nat.le_refl _)) q x hxk
      have c0 := hcs 0 _ (f_name x)
      rw [Nat.add_zero] at c0
      have c1 := hcs 1 _ (f_data x)
      have c2 := hcs 2 _ (f_sure x)
      have hxs := HSU.out x (List.mem_of_getElem? hxk)
      have hxz := HSZ.out x (List.mem_of_getElem? hxk)
      have HSN : Hid (crashV (l.take (q + 1)) ps = crashV (l.take q) ps ++ [crash1 x (ps.drop u)]) := by show _ = _; rw [take_snoc l q x hxk, crash_snoc, HU.out]
      have HUN : Hid (used (l.take (q + 1)) = u + if x.sure < x.data.size then 1 else 0) := by show _ = _; rw [take_snoc l q x hxk, used_snoc, HU.out]
      obtain ⟨L, hL⟩ : ∃ L, crashV (l.take q) ps = L := ⟨_, rfl⟩
      have hlq : L.length = q := by rw [← hL, crash_len, List.length_take, HN.out]; omega
      rw [hL] at HO HSN
      have HLN := Lib.hid hlq
      clear hcs hxk hL hlq
      by_cases hs : x.sure < x.data.size
      · have hsi : (x.sure : Int) < x.data.size := by omega
        by_cases hup : u < pn
        · have hui : (u : Int) < pn := by omega
          have hzk : ps[u]? = some (ps[u]'(by rw [HPN.out]; exact hup)) := List.getElem?_eq_getElem _
          generalize ps[u]'(by rw [HPN.out]; exact hup) = z at hzk
          obtain ⟨b2, o2, rfl, hb2, cz⟩ := one_cell (HP.out.below HB.out (Nat.le_refl _)) hzk rfl
          have hzb := HPZ.out z (List.mem_of_getElem? hzk)
          have cz2 := fun o => (World.cell?_alloc_lt wr o ⟨b2, o2 + u, none⟩ (by show b2 < _; omega)).trans cz
          have hui2 : ¬ (u : Int) < 0 := by omega
          have HZK : Hid ((ps.drop u).headD 0 = z) := by show _ = _; rw [head_drop, List.getD_eq_getElem?_getD, hzk]; rfl
          clear hzk
          obtain ⟨nn, hnn⟩ : ∃ nn : Nat, (x.data.size : Int) - x.sure + 1 = nn := ⟨x.data.size - x.sure + 1, by omega⟩
          have hnp : 0 < nn := by omega
          have hnb : (nn : Int) ≤ 1000001 := by omega
          have hrm := rem_pos z nn hnp
          have hme := Int.emod_lt_of_pos z (show (0 : Int) < nn by omega)
          have hmp := Int.emod_nonneg z (show (nn : Int) ≠ 0 by omega)
          have ht1 := Int.tmod_lt_of_pos z (show (0 : Int) < nn by omega)
          have ht2 := tmod_low z nn hnp
          generalize hE : z % (nn : Int) = E at hrm hme hmp
          generalize hT1 : Int.tmod z nn = t1 at hrm ht1 ht2
          obtain ⟨k2, rfl⟩ : ∃ k2 : Nat, E = k2 := ⟨E.toNat, by omega⟩
          have hk2 : x.sure + k2 ≤ x.data.size := by omega
          have hsl : ∀ W, (Instr.slice 9 (.string x.data) none (some (.int .i64 ((x.sure : Int) + (k2 : Int)))) none).run Tryz.prog W = .ok (.string (x.data.extract 0 (x.sure + k2))) W := fun W => cut_front x.data (x.sure + k2) hk2 W
          have hw1 := wrap_id (t1 + nn) (by omega)
          have hw2 := wrap_id ((x.sure : Int) + k2) (by omega)
          have HE := Lib.hid hE
          have HNN := Lib.hid hnn
          have hnz : ((nn : Int) == 0) = false := beq_eq_false_iff_ne.2 (by omega)
          have hnz2 : ¬ nn = 0 := by omega
          clear hE
          go_wp2
          clear hnn
          generalize hwq : wr.alloc (.cells #[.string x.name, .string x.data, .int .i64 (x.sure : Int)] 91) = wq
          have HBQ : Hid (Below w.heap.size w wq) := by rw [← hwq]; exact HB.out.alloc (by omega) _
          have hsq : wq.heap.size = wr.heap.size + 1 := by rw [← hwq]; simp
          obtain ⟨wd, hwd⟩ : ∃ wd : World, wd = { wq with drawn := wq.drawn + 1 } := ⟨_, rfl⟩
          have HGD : Hid (Row wd wr.heap.size 91 (encF x)) := by rw [hwd, ← hwq]; exact Row.new_at wr _ _ _ rfl rfl
          have f1 : wd.cell? ⟨wr.heap.size, 1, none⟩ = some (.string x.data) := HGD.out.cell 1
          have f2 : wd.cell? ⟨wr.heap.size, 2, none⟩ = some (.int .i64 (x.sure : Int)) := HGD.out.cell 2
          have f3 : wd.frozen? ⟨wr.heap.size, 1, none⟩ = false := HGD.out.frozen 1
          refine wp_region_still_tail 13 (by kernel_rfl) (by kernel_rfl) ?_
          rw [← hwd]
          have HBD : Hid (Below w.heap.size w wd) := by rw [hwd]; exact HBQ.out.drew
          have hsd : wd.heap.size = wr.heap.size + 1 := by rw [hwd]; exact hsq
          have HBW : Hid (Below wr.heap.size wr wd) := by rw [hwd, ← hwq]; exact ((Below.refl _ _).alloc (Nat.le_refl _) _).drew
          clear hwd hwq cz cz2 c0 c1 c2
          simp only [List.take_succ_cons, List.take_zero, List.drop_succ_cons, List.drop_zero]
          repeat still_step
          refine wpStill_nil ?_
          have f4 : wd.frozen? ⟨wr.heap.size, 2, none⟩ = false := HGD.out.frozen 2
          have HKQ : Hid (crash1 x (ps.drop u) = ⟨x.name, x.data.extract 0 (x.sure + k2), x.sure + k2⟩) := by
            show _ = _
            unfold crash1 cutV
            rw [if_pos hs, HZK.out, HNN.out, HE.out]
            rfl
          have HWE : Hid (Below wr.heap.size wr ((wd.setCell ⟨wr.heap.size, 1, none⟩ (.string (x.data.extract 0 (x.sure + k2)))).setCell ⟨wr.heap.size, 2, none⟩ (.int .i64 ((x.sure : Int) + (k2 : Int))))) := (HBW.out.setCell (Nat.le_refl _) _).setCell (Nat.le_refl _) _
          have HGE : Hid (Row ((wd.setCell ⟨wr.heap.size, 1, none⟩ (.string (x.data.extract 0 (x.sure + k2)))).setCell ⟨wr.heap.size, 2, none⟩ (.int .i64 ((x.sure : Int) + (k2 : Int)))) wr.heap.size 91 (encF ⟨x.name, x.data.extract 0 (x.sure + k2), x.sure + k2⟩)) := (HGD.out.set 1 _).set 2 _
          have HOE := Lib.hid (HO.out.keep HWE.out)
          have HRE := Lib.hid (HR.out.below HWE.out (by omega))
          have HZE := Lib.hid (HZ.out.below HWE.out (by omega))
          have HSE : Hid (((wd.setCell ⟨wr.heap.size, 1, none⟩ (.string (x.data.extract 0 (x.sure + k2)))).setCell ⟨wr.heap.size, 2, none⟩ (.int .i64 ((x.sure : Int) + (k2 : Int)))).heap.size = wr.heap.size + 1) := by show _ = _; simp [hsd]
          have e0 := HRE.out.cell 0
          have g0 := HGE.out.cell 0
          have g1 := HGE.out.cell 1
          have g2 := HGE.out.cell 2
          rw [show (ldisk A' q cp (-1))[0]? = some (.slice A' q cp) from rfl] at e0
          rw [show (encF ⟨x.name, x.data.extract 0 (x.sure + k2), x.sure + k2⟩)[0]? = some (.string x.name) from rfl] at g0
          rw [show (encF ⟨x.name, x.data.extract 0 (x.sure + k2), x.sure + k2⟩)[1]? = some (.string (x.data.extract 0 (x.sure + k2))) from rfl] at g1
          rw [show (encF ⟨x.name, x.data.extract 0 (x.sure + k2), x.sure + k2⟩)[2]? = some (.int .i64 ((x.sure : Int) + (k2 : Int))) from rfl] at g2
          rw [HKQ.out] at HSN
          rw [if_pos hs] at HUN
          go_wp2_with (at_builtin; refine wpList_append_own _ rfl _ _ 28 rfl (w.heap.size + 4) 91 i0 (.agg (encF ⟨nul, nul, 0⟩).toArray) 3 40 Tryz.underlying28 hi hz0 hz1 hz2 rfl (by decide) _ q (L.flatMap encF) rfl ?c0a ⟨wr.heap.size + 1, 0, none⟩ 1 1 (encF ⟨x.name, x.data.extract 0 (x.sure + k2), x.sure + k2⟩) rfl rfl ?c1a (encF_one _) ?c3a ?c4a ?c5a ?_)
          case c0a => have := fun o1 => HOE.out.alloc o1; unfold OwnsK at this; simp only [HLN.out] at this; exact this _
          case c3a => simp only [maxLen]; omega
          case c4a => omega
          case c5a => simp; omega
          · intro j v hj
            rw [Addr.add_lit, Nat.zero_add]
            exact new_cell ((wd.setCell ⟨wr.heap.size, 1, none⟩ (.string (x.data.extract 0 (x.sure + k2)))).setCell ⟨wr.heap.size, 2, none⟩ (.int .i64 ((x.sure : Int) + (k2 : Int)))) (encF ⟨x.name, x.data.extract 0 (x.sure + k2), x.sure + k2⟩) _ HSE.out.symm hj
          intro v' w2 hown' hgrow _
          have hO2 := OwnsK.appended HLN.out hown'
          have HL2 : Hid ((L ++ [(⟨x.name, x.data.extract 0 (x.sure + k2), x.sure + k2⟩ : FF)]).length = q + 1) := by show _ = _; rw [List.length_append, HLN.out]; rfl
          obtain ⟨A2, cap2, e⟩ := hO2.form
          rw [HL2.out] at e
          subst e
          have hse := HSE.out
          have HW2 : Hid (Below (w.heap.size + 4) ((wd.setCell ⟨wr.heap.size, 1, none⟩ (.string (x.data.extract 0 (x.sure + k2)))).setCell ⟨wr.heap.size, 2, none⟩ (.int .i64 ((x.sure : Int) + (k2 : Int)))) w2) := ((Below.refl _ _).alloc (by omega) _).grown hgrow (by simp; omega) (fun k hk => (World.ownsRow.lt HOE.out k hk).1)
          have hsw := HW2.out.size
          have HO2 := Lib.hid (owns_far hO2 (by omega : w.heap.size + 1 + 1 + 1 < w.heap.size + 4) 0 (.slice A2 (q + 1) cap2))
          have HR2 := Lib.hid (HRE.out.below HW2.out (by omega))
          have HZ2 := Lib.hid ((HZE.out.below HW2.out (by omega)).far (p := ⟨w.heap.size + 1 + 1 + 1, 0, none⟩) (by show w.heap.size + 1 ≠ w.heap.size + 1 + 1 + 1; omega) (.slice A2 (q + 1) cap2))
          have HRS : Hid (Row (w2.setCell ⟨w.heap.size + 1 + 1 + 1, 0, none⟩ (.slice A2 (q + 1) cap2)) (w.heap.size + 1 + 1 + 1) 30 (ldisk A2 (q + 1) cap2 (-1))) := HR2.out.set 0 _
          have HBS : Hid (Below w.heap.size w (w2.setCell ⟨w.heap.size + 1 + 1 + 1, 0, none⟩ (.slice A2 (q + 1) cap2))) := ((HB.out.trans (HWE.out.mono (by omega))).trans (HW2.out.mono (by omega))).setCell (by show w.heap.size ≤ w.heap.size + 1 + 1 + 1; omega) _
          have p0 : w2.cell? ⟨w.heap.size + 1 + 1 + 1, 0, none⟩ = some (.slice A' q cp) := HR2.out.cell 0
          have p1 : w2.frozen? ⟨w.heap.size + 1 + 1 + 1, 0, none⟩ = false := HR2.out.frozen 0
          have hss : w.heap.size + 4 ≤ (w2.setCell ⟨w.heap.size + 1 + 1 + 1, 0, none⟩ (.slice A2 (q + 1) cap2)).heap.size := by simp; omega
          have HSS := Lib.hid hss
          clear hO2 hown' hgrow e0 g0 g1 g2 f1 f2 f3 f4 hse hsw hss
          go_wp2
          go_roundw
          case rel => exact ⟨q + 1, u + 1, cap2, A2, by omega, by go_num, by go_num, by omega, HUN, by rw [HSN.out]; exact HO2.out, HRS, HZ2, HBS, HSS.out⟩
          case measure => simp [intOf]; omega
        · have hui : ¬ (u : Int) < pn := by omega
          have hui2 : ¬ (u : Int) < 0 := by omega
          have HZK : Hid ((ps.drop u).headD 0 = 0) := by show _ = _; rw [List.drop_of_length_le (by rw [HPN.out]; omega)]; rfl
          obtain ⟨nn, hnn⟩ : ∃ nn : Nat, (x.data.size : Int) - x.sure + 1 = nn := ⟨x.data.size - x.sure + 1, by omega⟩
          have hnp : 0 < nn := by omega
          have hnb : (nn : Int) ≤ 1000001 := by omega
          have hrm : Int.tmod (nn : Int) nn = 0 := Int.tmod_self
          have hnz2 : ¬ nn = 0 := by omega
          have hsl : ∀ W, (Instr.slice 9 (.string x.data) none (some (.int .i64 (x.sure : Int))) none).run Tryz.prog W = .ok (.string (x.data.extract 0 x.sure)) W := fun W => cut_front x.data x.sure hxs W
          have hw1 := wrap_id (nn : Int) (by omega)
          have hw2 := wrap_id (x.sure : Int) (by omega)
          have HNN := Lib.hid hnn
          go_wp2
          clear hnn
          generalize hwq : wr.alloc (.cells #[.string x.name, .string x.data, .int .i64 (x.sure : Int)] 91) = wq
          have HBQ : Hid (Below w.heap.size w wq) := by rw [← hwq]; exact HB.out.alloc (by omega) _
          have hsq : wq.heap.size = wr.heap.size + 1 := by rw [← hwq]; simp
          obtain ⟨wd, hwd⟩ : ∃ wd : World, wd = { wq with drawn := wq.drawn + 1 } := ⟨_, rfl⟩
          have HGD : Hid (Row wd wr.heap.size 91 (encF x)) := by rw [hwd, ← hwq]; exact Row.new_at wr _ _ _ rfl rfl
          have f1 : wd.cell? ⟨wr.heap.size, 1, none⟩ = some (.string x.data) := HGD.out.cell 1
          have f2 : wd.cell? ⟨wr.heap.size, 2, none⟩ = some (.int .i64 (x.sure : Int)) := HGD.out.cell 2
          have f3 : wd.frozen? ⟨wr.heap.size, 1, none⟩ = false := HGD.out.frozen 1
          refine wp_region_still_tail 13 (by kernel_rfl) (by kernel_rfl) ?_
          rw [← hwd]
          have HBD : Hid (Below w.heap.size w wd) := by rw [hwd]; exact HBQ.out.drew
          have hsd : wd.heap.size = wr.heap.size + 1 := by rw [hwd]; exact hsq
          have HBW : Hid (Below wr.heap.size wr wd) := by rw [hwd, ← hwq]; exact ((Below.refl _ _).alloc (Nat.le_refl _) _).drew
          clear hwd hwq c0 c1 c2
          simp only [List.take_succ_cons, List.take_zero, List.drop_succ_cons, List.drop_zero]
          repeat still_step
          refine wpStill_nil ?_
          have f4 : wd.frozen? ⟨wr.heap.size, 2, none⟩ = false := HGD.out.frozen 2
          have HKQ : Hid (crash1 x (ps.drop u) = ⟨x.name, x.data.extract 0 x.sure, x.sure⟩) := by
            show _ = _
            unfold crash1 cutV
            rw [if_pos hs, HZK.out, Int.zero_emod]
            rfl
          have HWE : Hid (Below wr.heap.size wr ((wd.setCell ⟨wr.heap.size, 1, none⟩ (.string (x.data.extract 0 x.sure))).setCell ⟨wr.heap.size, 2, none⟩ (.int .i64 (x.sure : Int)))) := (HBW.out.setCell (Nat.le_refl _) _).setCell (Nat.le_refl _) _
          have HGE : Hid (Row ((wd.setCell ⟨wr.heap.size, 1, none⟩ (.string (x.data.extract 0 x.sure))).setCell ⟨wr.heap.size, 2, none⟩ (.int .i64 (x.sure : Int))) wr.heap.size 91 (encF ⟨x.name, x.data.extract 0 x.sure, x.sure⟩)) := (HGD.out.set 1 _).set 2 _
          have HOE := Lib.hid (HO.out.keep HWE.out)
          have HRE := Lib.hid (HR.out.below HWE.out (by omega))
          have HZE := Lib.hid (HZ.out.below HWE.out (by omega))
          have HSE : Hid (((wd.setCell ⟨wr.heap.size, 1, none⟩ (.string (x.data.extract 0 x.sure))).setCell ⟨wr.heap.size, 2, none⟩ (.int .i64 (x.sure : Int))).heap.size = wr.heap.size + 1) := by show _ = _; simp [hsd]
          have e0 := HRE.out.cell 0
          have g0 := HGE.out.cell 0
          have g1 := HGE.out.cell 1
          have g2 := HGE.out.cell 2
          rw [show (ldisk A' q cp (-1))[0]? = some (.slice A' q cp) from rfl] at e0
          rw [show (encF ⟨x.name, x.data.extract 0 x.sure, x.sure⟩)[0]? = some (.string x.name) from rfl] at g0
          rw [show (encF ⟨x.name, x.data.extract 0 x.sure, x.sure⟩)[1]? = some (.string (x.data.extract 0 x.sure)) from rfl] at g1
          rw [show (encF ⟨x.name, x.data.extract 0 x.sure, x.sure⟩)[2]? = some (.int .i64 (x.sure : Int)) from rfl] at g2
          rw [HKQ.out] at HSN
          rw [if_pos hs] at HUN
          go_wp2_with (at_builtin; refine wpList_append_own _ rfl _ _ 28 rfl (w.heap.size + 4) 91 i0 (.agg (encF ⟨nul, nul, 0⟩).toArray) 3 40 Tryz.underlying28 hi hz0 hz1 hz2 rfl (by decide) _ q (L.flatMap encF) rfl ?d0a ⟨wr.heap.size + 1, 0, none⟩ 1 1 (encF ⟨x.name, x.data.extract 0 x.sure, x.sure⟩) rfl rfl ?d1a (encF_one _) ?d3a ?d4a ?d5a ?_)
          case d0a => have := fun o1 => HOE.out.alloc o1; unfold OwnsK at this; simp only [HLN.out] at this; exact this _
          case d3a => simp only [maxLen]; omega
          case d4a => omega
          case d5a => simp; omega
          · intro j v hj
            rw [Addr.add_lit, Nat.zero_add]
            exact new_cell ((wd.setCell ⟨wr.heap.size, 1, none⟩ (.string (x.data.extract 0 x.sure))).setCell ⟨wr.heap.size, 2, none⟩ (.int .i64 (x.sure : Int))) (encF ⟨x.name, x.data.extract 0 x.sure, x.sure⟩) _ HSE.out.symm hj
          intro v' w2 hown' hgrow _
          have hO2 := OwnsK.appended HLN.out hown'
          have HL2 : Hid ((L ++ [(⟨x.name, x.data.extract 0 x.sure, x.sure⟩ : FF)]).length = q + 1) := by show _ = _; rw [List.length_append, HLN.out]; rfl
          obtain ⟨A2, cap2, e⟩ := hO2.form
          rw [HL2.out] at e
          subst e
          have hse := HSE.out
          have HW2 : Hid (Below (w.heap.size + 4) ((wd.setCell ⟨wr.heap.size, 1, none⟩ (.string (x.data.extract 0 x.sure))).setCell ⟨wr.heap.size, 2, none⟩ (.int .i64 (x.sure : Int))) w2) := ((Below.refl _ _).alloc (by omega) _).grown hgrow (by simp; omega) (fun k hk => (World.ownsRow.lt HOE.out k hk).1)
          have hsw := HW2.out.size
          have HO2 := Lib.hid (owns_far hO2 (by omega : w.heap.size + 1 + 1 + 1 < w.heap.size + 4) 0 (.slice A2 (q + 1) cap2))
          have HR2 := Lib.hid (HRE.out.below HW2.out (by omega))
          have HZ2 := Lib.hid ((HZE.out.below HW2.out (by omega)).far (p := ⟨w.heap.size + 1 + 1 + 1, 0, none⟩) (by show w.heap.size + 1 ≠ w.heap.size + 1 + 1 + 1; omega) (.slice A2 (q + 1) cap2))
          have HRS : Hid (Row (w2.setCell ⟨w.heap.size + 1 + 1 + 1, 0, none⟩ (.slice A2 (q + 1) cap2)) (w.heap.size + 1 + 1 + 1) 30 (ldisk A2 (q + 1) cap2 (-1))) := HR2.out.set 0 _
          have HBS : Hid (Below w.heap.size w (w2.setCell ⟨w.heap.size + 1 + 1 + 1, 0, none⟩ (.slice A2 (q + 1) cap2))) := ((HB.out.trans (HWE.out.mono (by omega))).trans (HW2.out.mono (by omega))).setCell (by show w.heap.size ≤ w.heap.size + 1 + 1 + 1; omega) _
          have p0 : w2.cell? ⟨w.heap.size + 1 + 1 + 1, 0, none⟩ = some (.slice A' q cp) := HR2.out.cell 0
          have p1 : w2.frozen? ⟨w.heap.size + 1 + 1 + 1, 0, none⟩ = false := HR2.out.frozen 0
          have hss : w.heap.size + 4 ≤ (w2.setCell ⟨w.heap.size + 1 + 1 + 1, 0, none⟩ (.slice A2 (q + 1) cap2)).heap.size := by simp; omega
          have HSS := Lib.hid hss
          clear hO2 hown' hgrow e0 g0 g1 g2 f1 f2 f3 f4 hse hsw hss
          go_wp2
          go_roundw
          case rel => exact ⟨q + 1, u + 1, cap2, A2, by omega, by go_num, by go_num, by omega, HUN, by rw [HSN.out]; exact HO2.out, HRS, HZ2, HBS, HSS.out⟩
          case measure => simp [intOf]; omega
      · have hsi : ¬ (x.sure : Int) < x.data.size := by omega
        have HKQ : Hid (crash1 x (ps.drop u) = ⟨x.name, x.data, x.data.size⟩) := by
          show _ = _
          unfold crash1
          rw [if_neg hs]
        have HWE : Hid (Below wr.heap.size wr (wr.alloc (.cells #[.string x.name, .string x.data, .int .i64 (x.data.size : Int)] 91))) := (Below.refl _ _).alloc (Nat.le_refl _) _
        have HOE := Lib.hid (HO.out.keep HWE.out)
        have HRE := Lib.hid (HR.out.below HWE.out (by omega))
        have HZE := Lib.hid (HZ.out.below HWE.out (by omega))
        have HSE : Hid ((wr.alloc (.cells #[.string x.name, .string x.data, .int .i64 (x.data.size : Int)] 91)).heap.size = wr.heap.size + 1) := by show _ = _; simp
        have e0 := HRE.out.cell 0
        rw [show (ldisk A' q cp (-1))[0]? = some (.slice A' q cp) from rfl] at e0
        rw [HKQ.out] at HSN
        rw [if_neg hs, Nat.add_zero] at HUN
        go_wp2_with (at_builtin; refine wpList_append_own _ rfl _ _ 28 rfl (w.heap.size + 4) 91 i0 (.agg (encF ⟨nul, nul, 0⟩).toArray) 3 40 Tryz.underlying28 hi hz0 hz1 hz2 rfl (by decide) _ q (L.flatMap encF) rfl ?e0a ⟨wr.heap.size + 1, 0, none⟩ 1 1 (encF ⟨x.name, x.data, x.data.size⟩) rfl rfl ?e1a (encF_one _) ?e3a ?e4a ?e5a ?_)
        case e0a => have := fun o1 => HOE.out.alloc o1; unfold OwnsK at this; simp only [HLN.out] at this; exact this _
        case e3a => simp only [maxLen]; omega
        case e4a => omega
        case e5a => first | omega | (simp; omega)
        · intro j v hj
          exact hj
        intro v' w2 hown' hgrow _
        have hO2 := OwnsK.appended HLN.out hown'
        have HL2 : Hid ((L ++ [(⟨x.name, x.data, x.data.size⟩ : FF)]).length = q + 1) := by show _ = _; rw [List.length_append, HLN.out]; rfl
        obtain ⟨A2, cap2, e⟩ := hO2.form
        rw [HL2.out] at e
        subst e
        have hse := HSE.out
        have HW2 : Hid (Below (w.heap.size + 4) (wr.alloc (.cells #[.string x.name, .string x.data, .int .i64 (x.data.size : Int)] 91)) w2) := ((Below.refl _ _).alloc (by omega) _).grown hgrow (by simp; omega) (fun k hk => (World.ownsRow.lt HOE.out k hk).1)
        have hsw := HW2.out.size
        have HO2 := Lib.hid (owns_far hO2 (by omega : w.heap.size + 1 + 1 + 1 < w.heap.size + 4) 0 (.slice A2 (q + 1) cap2))
        have HR2 := Lib.hid (HRE.out.below HW2.out (by omega))
        have HZ2 := Lib.hid ((HZE.out.below HW2.out (by omega)).far (p := ⟨w.heap.size + 1 + 1 + 1, 0, none⟩) (by show w.heap.size + 1 ≠ w.heap.size + 1 + 1 + 1; omega) (.slice A2 (q + 1) cap2))
        have HRS : Hid (Row (w2.setCell ⟨w.heap.size + 1 + 1 + 1, 0, none⟩ (.slice A2 (q + 1) cap2)) (w.heap.size + 1 + 1 + 1) 30 (ldisk A2 (q + 1) cap2 (-1))) := HR2.out.set 0 _
        have HBS : Hid (Below w.heap.size w (w2.setCell ⟨w.heap.size + 1 + 1 + 1, 0, none⟩ (.slice A2 (q + 1) cap2))) := ((HB.out.trans (HWE.out.mono (by omega))).trans (HW2.out.mono (by omega))).setCell (by show w.heap.size ≤ w.heap.size + 1 + 1 + 1; omega) _
        have p0 : w2.cell? ⟨w.heap.size + 1 + 1 + 1, 0, none⟩ = some (.slice A' q cp) := HR2.out.cell 0
        have p1 : w2.frozen? ⟨w.heap.size + 1 + 1 + 1, 0, none⟩ = false := HR2.out.frozen 0
        have hss : w.heap.size + 4 ≤ (w2.setCell ⟨w.heap.size + 1 + 1 + 1, 0, none⟩ (.slice A2 (q + 1) cap2)).heap.size := by simp; omega
        have HSS := Lib.hid hss
        clear hO2 hown' hgrow e0 hse hsw hss
        go_wp2
        go_roundw
        case rel => exact ⟨q + 1, u, cap2, A2, by omega, by go_num, rfl, by omega, HUN, by rw [HSN.out]; exact HO2.out, HRS, HZ2, HBS, HSS.out⟩
        case measure => simp [intOf]; omega
    · obtain rfl : q = n := by omega
      rw [List.take_of_length_le (by rw [HN.out]; omega)] at HO
      have e0 : wr.cell? ⟨w.heap.size + 1 + 1 + 1, 0, none⟩ = some (.slice A' q cp) := HR.out.cell 0
      have e1 : wr.cell? ⟨w.heap.size + 1 + 1 + 1, 1, none⟩ = some (.int .i64 (-1)) := HR.out.cell 1
      go_wp2_with (refine wpList_store_all rfl 30 (.tmp 4) (.tmp 67) rfl (w.heap.size + 1) (ldisk A' q cp (-1)) rfl rfl 30 zdisk HZ.out (disk_info _ _ _ _) rfl (disk_one _ _ _ _) ?_)
      intro w2 HR2 HT2
      go_wp2
      have hb2 := below_turn HB.out HT2.out (by omega)
      refine bodyPost_ret (results_cell_row rfl _ _ (w.heap.size + 1) 30 (ldisk A' q cp (-1)).toArray (0, 0) _ rfl HR2.out Tryz.underlying30 rfl (by simpa using disk_info A' q cp (-1))) rfl ?_
      refine ⟨A', cp, rfl, OwnsK.less (owns_turn HO.out HT2.out (by omega)) (by omega), hb2⟩
end Dk
end Go.Proofs.YtogpigfepebibaaGreatDoor
