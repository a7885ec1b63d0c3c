/-
  Layer 7 (disk): the walk of the laws' do.
-/
import Derived.Test.YteikfdijcepimaaDQ
namespace Go.Proofs.Yteikfdijcepimaa
namespace Dk
open Go.RowKit Go.ChangeShapes Kr

/-- What an act does to a disk, and the error's number. -/
def stepV (D : DD) (a : Ac) : DD × Nat := if a.kind = 0 then appendV D a.name a.data else if a.kind = 1 then syncV D a.name else if a.kind = 2 then renameV D a.name a.to else if a.kind = 3 then removeV D a.name else if a.kind = 4 then (budgetV D a.num, 0) else (D, 0)
/-- A row that lies in no block of S, below block n. -/
def Off (S : Nat → Prop) (n : Nat) (A : Option Addr) : Prop := ∀ p, A = some p → ¬ S p.block ∧ p.block < n
theorem krow_away {α : Type} {enc : α → List Value} {k : Nat} {S : Nat → Prop} {w w' : World} {A : Option Addr} {t : List α} (h : KRow enc k w w.heap.size A t) (ha : Away S w w') (hn : ∀ p, A = some p → ¬ S p.block) : KRow enc k w' w'.heap.size A t := fun j x hx => by
  obtain ⟨b, o, h1, h2, h3⟩ := h j x hx
  exact ⟨b, o, h1, Nat.lt_of_lt_of_le h2 ha.size, fun i v hv => (ha.cell (p := ⟨b, o + j * k + i, none⟩) h2 (hn ⟨b, o, none⟩ h1)).trans (h3 i v hv)⟩
theorem row_away {S : Nat → Prop} {w w' : World} {g : Nat} {t : TypeId} {l : List Value} (h : Row w g t l) (ha : Away S w w') (hn : ¬ S g) : Row w' g t l := (ha.block g h.lt hn).trans h
theorem results_two_row {P : Program} {fn : Func} {p u v : Tmp} {ty : TypeId} (h : fn.results = #[.tmp u, .tmp v, .cell p ty]) (tmps : Array Value) (w : World) (g : Nat) (t : TypeId) (L : List Value) (d : TypeDesc)
    (hp : tmps.getD p undef = .pointer (some ⟨g, 0, none⟩)) (hg : Row w g t L) (hu : P.underlying ty = some d) (hd : (match d with | .struct _ | .array _ _ => true | _ => false) = true) (hi : (P.info? ty).map (·.size) = some L.length) :
    (results fn tmps).run P w = .ok (.tuple #[tmps.getD u undef, tmps.getD v undef, .agg L.toArray]) w := by
  have hl := run_loadVar_row (P := P) w g t ty L.toArray (0, 0) d hg hu hd (by simpa using hi)
  have hp' : tmps[p]?.getD undef = .pointer (some ⟨g, 0, none⟩) := by simpa using hp
  simp [results, h, hp', asAddr, hl]
/-- What do leaves. -/
def Did (R : World → (Nat → Prop) → Nat → DD → Prop) (S : Nat → Prop) (b : Nat) (A : Option Addr) (D D2 : DD × Nat) (w : World) (e : Ending) (w' : World) : Prop :=
  ∃ S' A' m cap', e = .returned (.tuple #[.int .i64 (D.2 : Int), .int .i64 (D2.2 : Int), dval A' m cap' D2.1.left]) ∧ R w' S' b D.1 ∧ (∀ q, S' q → S q ∨ w.heap.size ≤ q) ∧ Away S w w' ∧ D2.1.files.length = m ∧ FRow w' w'.heap.size A' D2.1.files ∧ (A' = A ∨ ∀ q, A' = some q → ¬ S' q.block ∧ w.heap.size ≤ q.block ∧ q.block < w'.heap.size)
theorem did_end {R : World → (Nat → Prop) → Nat → DD → Prop} (hK : Keeps R) {S S1 : Nat → Prop} {b cap m : Nat} {A A2 : Option Addr} {DP DA : DD × Nat} {w w0 w1 w2 wd w5 : World} (hin : ∀ q, S q → q < w.heap.size) (hoff : Off S w.heap.size A) (hb0 : Below w.heap.size w w0)
    (hr : R w1 S1 b DP.1) (hq : ∀ q, S1 q → S q ∨ w0.heap.size ≤ q) (hw : Away S w0 w1) (hbd : Below w1.heap.size w1 wd) (hb2 : Below w1.heap.size w1 w2) (hb2d : Below w2.heap.size w2 wd) (ht : Turn (w.heap.size + 1 + 1) wd w5)
    (hx : (A2 = A ∧ FRow w2 w1.heap.size A2 DA.1.files) ∨ ((∀ q, A2 = some q → w1.heap.size ≤ q.block ∧ q.block < w2.heap.size) ∧ FRow w2 w2.heap.size A2 DA.1.files)) (hl : DA.1.files.length = m) (hs : w0.heap.size = w.heap.size + 3) :
    Did R S b A DP DA w (.returned (.tuple #[.int .i64 (DP.2 : Int), .int .i64 (DA.2 : Int), dval A2 m cap DA.1.left])) w5 := by
  have hs1 := hw.size
  have hne : ∀ q, S1 q → q ≠ w.heap.size + 1 + 1 := fun q h => (hq q h).elim (fun h2 => by have := hin q h2; omega) (fun h2 => by omega)
  have hlt : ∀ q, S1 q → q < w1.heap.size := hK.inside hr
  have hs5 : w5.heap.size = wd.heap.size := ht.2.2.2.1
  refine ⟨S1, A2, m, cap, rfl, hK.keep hr fun q h => (ht.2.2.2.2 q (hne q h)).trans (hbd.block q (hlt q h)), fun q h => (hq q h).imp id (fun h2 => by omega), ?_, hl, ?_, ?_⟩
  · have h1 : Away S w w0 := Away.of hb0
    have h2 : Below w1.heap.size w1 wd := hbd
    refine ⟨ht.1.trans (h2.os.trans (hw.os.trans h1.os)), ht.2.1.trans (h2.tape.trans (hw.tape.trans h1.tape)), ht.2.2.1.trans (h2.output.trans (hw.output.trans h1.output)), by have := hbd.size; omega, fun q hql hqn => ?_⟩
    rw [ht.2.2.2.2 q (by omega), hbd.block q (by omega), hw.block q (by omega) hqn, hb0.block q hql]
  · rcases hx with ⟨e, hx⟩ | ⟨hf, hx⟩
    · subst e
      intro j x hj
      obtain ⟨b', o', h1, h2, h3⟩ := hx j x hj
      have h4 := (hoff _ h1).2
      have h5 : b' < w.heap.size := h4
      have := hbd.size
      exact ⟨b', o', h1, by omega, fun i v hv => ((World.cell?_of_block (w := wd) (a := ⟨b', _, none⟩) (ht.2.2.2.2 b' (by omega))).trans (hb2d.cell (p := ⟨b', _, none⟩) (by show b' < _; have := hb2.size; omega))).trans (h3 i v hv)⟩
    · intro j x hj
      obtain ⟨b', o', h1, h2, h3⟩ := hx j x hj
      have h5 : w1.heap.size ≤ b' := (hf _ h1).1
      have := hb2d.size
      exact ⟨b', o', h1, by omega, fun i v hv => ((World.cell?_of_block (w := wd) (a := ⟨b', _, none⟩) (ht.2.2.2.2 b' (by omega))).trans (hb2d.cell (p := ⟨b', _, none⟩) h2)).trans (h3 i v hv)⟩
  · rcases hx with ⟨e, _⟩ | ⟨hf, _⟩
    · exact .inl e
    · exact .inr fun q h => ⟨fun h2 => by have := hlt _ h2; have := hf q h; omega, by have := hf q h; omega, by have := hf q h; have := hb2d.size; omega⟩
theorem act_sit {w : World} {g : Nat} {a : Ac} {T : TypeId} (h : Row w g T (encA a)) : w.cell? ⟨g, 0, none⟩ = some (.int .i64 a.kind) ∧ w.cell? ⟨g, 1, none⟩ = some (.int .i64 a.num) ∧ w.cell? ⟨g, 2, none⟩ = some (.string a.name) ∧ w.cell? ⟨g, 3, none⟩ = some (.string a.to) ∧ w.cell? ⟨g, 4, none⟩ = some (.string a.data) :=
  ⟨h.cell 0, h.cell 1, h.cell 2, h.cell 3, h.cell 4⟩

set_option maxRecDepth 100000 in
set_option maxHeartbeats 4000000 in
theorem do_any {R : World → (Nat → Prop) → Nat → DD → Prop} (hK : Keeps R) (S : Nat → Prop) (b : Nat) (D D2 : DD) (A : Option Addr) (cap n : Nat) (a : Ac) (w : World) (hR : R w S b D) (hf : Fits D) (hf2 : Fits D2) (ha : Ok a) (had : a.data.size ≤ 10000) (hn : D2.files.length = n) (hx : FRow w w.heap.size A D2.files) (hoff : Off S w.heap.size A) :
    Calls Try.prog 11 #[ptr b, dval A n cap D2.left, .agg (encA a).toArray] w (Did R S b A (stepV D a) (stepV D2 a) w) := by
  have HIN := Lib.hid (hK.inside hR)
  have HN := Lib.hid hn
  have hnb : n ≤ 10000 := by have := hf2.len; omega
  have HLO := Lib.hid hf2.low
  have HHI := Lib.hid hf2.high
  have HOFF := Lib.hid hoff
  obtain ⟨l, left⟩ := D2
  obtain ⟨kd, num, name, to, data, pa, pn, pcap, picks⟩ := a
  obtain ⟨w0, hw0⟩ : ∃ w0, w0 = ((w.alloc (.cells #[.slice A n cap, .int .i64 left] 29)).alloc (.cells #[.int .i64 kd, .int .i64 num, .string name, .string to, .string data, .slice pa pn pcap] 33)).alloc (.cells #[.slice none 0 0, .int .i64 0] 29) := ⟨_, rfl⟩
  have hs0 : w0.heap.size = w.heap.size + 3 := by rw [hw0]; simp
  have HB0 : Hid (Below w.heap.size w w0) := by rw [hw0]; exact (((Below.refl _ _).alloc (Nat.le_refl _) _).alloc (by simp) _).alloc (by simp; omega) _
  have HD0 : Hid (Row w0 w.heap.size 29 (ldisk A n cap left)) := by rw [hw0]; exact ((Row.new_at w _ _ _ rfl rfl).alloc _).alloc _
  have HA0 : Hid (Row w0 (w.heap.size + 1) 33 (encA ⟨kd, num, name, to, data, pa, pn, pcap, picks⟩)) := by rw [hw0]; exact (Row.new_at _ _ _ _ (by simp) rfl).alloc _
  have HZ0 : Hid (Row w0 (w.heap.size + 1 + 1) 29 zdisk) := by rw [hw0]; exact Row.new_at _ _ _ _ (by simp) rfl
  have HR0 : Hid (R w0 S b D) := hK.later hR HB0.out
  have HX0 : Hid (FRow w0 w0.heap.size A l) := (KRow.below hx HB0.out (Nat.le_refl _)).more (by omega)
  have HFI := Lib.hid hf
  have HSZ : Hid (∀ f ∈ l, f.data.size ≤ 1000000) := fun f h => by have := hf2.size f h; omega
  have hnum := ha.num
  have HNN : Hid (NB name) := ha.name
  have HNT : Hid (NB to) := ha.to
  have HSD : Hid (¬ S w.heap.size) := fun h => Nat.lt_irrefl _ (HIN.out _ h)
  have HSA : Hid (¬ S (w.heap.size + 1)) := fun h => by have := HIN.out _ h; omega
  have HSZ1 : Hid (¬ S (w.heap.size + 1 + 1)) := fun h => by have := HIN.out _ h; omega
  clear hR hn hf hf2 ha hx hoff
  show Calls Try.prog 11 #[ptr b, dval A n cap left, .agg #[.int .i64 kd, .int .i64 num, .string name, .string to, .string data, .slice pa pn pcap]] w _
  go_enter Try.func11, Try.ntmps11
  by_cases h0 : kd = 0
  · subst h0
    have hst : ∀ E : DD, stepV E ⟨0, num, name, to, data, pa, pn, pcap, picks⟩ = appendV E name data := fun E => by unfold stepV; rw [if_pos rfl]
    rw [hst, hst]
    go_wp2_with fail
    rw [← hw0]
    clear hw0
    refine (hK.append w0 S b D name data HR0.out HFI.out HNN.out had).mono ?_
    rintro e w1 ⟨S1, rfl, hr1, hq1, ha1⟩
    have HX1 : Hid (FRow w1 w1.heap.size A l) := krow_away HX0.out ha1 (fun p hp => (HOFF.out p hp).1)
    have HD1 := Lib.hid (row_away HD0.out ha1 HSD.out)
    have HA1 := Lib.hid (row_away HA0.out ha1 HSA.out)
    have HZ1 := Lib.hid (row_away HZ0.out ha1 HSZ1.out)
    have HRR := Lib.hid hr1
    have HQ1 := Lib.hid hq1
    have HW1 := Lib.hid ha1
    clear hr1 hq1 ha1
    have d0 : w1.cell? ⟨w.heap.size, 0, none⟩ = some (.slice A n cap) := HD1.out.cell 0
    have d1 : w1.cell? ⟨w.heap.size, 1, none⟩ = some (.int .i64 left) := HD1.out.cell 1
    have a2 : w1.cell? ⟨w.heap.size + 1, 2, none⟩ = some (.string name) := HA1.out.cell 2
    have a4 : w1.cell? ⟨w.heap.size + 1, 4, none⟩ = some (.string data) := HA1.out.cell 4
    go_wp2_with fail
    refine (refappend_any A cap n l left name data w1 HN.out (by omega) HLO.out HHI.out (by omega) HSZ.out HX1.out).mono ?_
    rintro e w2 ⟨⟨A2, m2, cp2, rfl, hl2, hx2⟩, hb2⟩
    have HZ2 := Lib.hid ((HZ1.out.below hb2 HZ1.out.lt).alloc (.cells (ldisk A2 m2 cp2 (appendV ⟨l, left⟩ name data).1.left).toArray 29))
    have HX2 := Lib.hid hx2
    have HB2 := Lib.hid hb2
    clear hx2 hb2 d0 d1 a2 a4
    go_wp2_with fail
    obtain ⟨DA, hDA⟩ : ∃ DA, appendV ⟨l, left⟩ name data = DA := ⟨_, rfl⟩
    obtain ⟨DP, hDP⟩ : ∃ DP, appendV D name data = DP := ⟨_, rfl⟩
    rw [hDA] at hl2 HX2 HZ2 ⊢
    rw [hDP] at HRR ⊢
    obtain ⟨w3, hw3⟩ : ∃ w3, w3 = w2.alloc (.cells #[.slice A2 m2 cp2, .int .i64 DA.1.left] 29) := ⟨_, rfl⟩
    rw [← hw3]
    have HB3 : Hid (Below w1.heap.size w1 w3) := by rw [hw3]; exact HB2.out.alloc HB2.out.size _
    have hb23 : Below w2.heap.size w2 w3 := by rw [hw3]; exact (Below.refl _ _).alloc (Nat.le_refl _) _
    have HC3 : Hid (Row w3 w2.heap.size 29 (ldisk A2 m2 cp2 DA.1.left)) := by rw [hw3]; exact Row.new_at _ _ _ _ rfl rfl
    have HZ3 : Hid (Row w3 (w.heap.size + 1 + 1) 29 zdisk) := by rw [hw3]; exact HZ2.out
    have HL2 := Lib.hid hl2
    have HDA := Lib.hid hDA
    have HDP := Lib.hid hDP
    clear hw3 hDA hDP hl2
    obtain ⟨wd, hwd⟩ : ∃ wd : World, wd = { w3 with drawn := w3.drawn + 1 } := ⟨_, rfl⟩
    have HBD : Hid (Below w1.heap.size w1 wd) := by rw [hwd]; exact HB3.out.drew
    have HCD : Hid (Row wd w2.heap.size 29 (ldisk A2 m2 cp2 DA.1.left)) := by rw [hwd]; exact HC3.out
    have HZD : Hid (Row wd (w.heap.size + 1 + 1) 29 zdisk) := by rw [hwd]; exact HZ3.out
    have HB2D : Hid (Below w2.heap.size w2 wd) := by rw [hwd]; exact hb23.drew
    have f0 : wd.cell? ⟨w2.heap.size, 0, none⟩ = some (.slice A2 m2 cp2) := HCD.out.cell 0
    have f1 : wd.cell? ⟨w2.heap.size, 1, none⟩ = some (.int .i64 DA.1.left) := HCD.out.cell 1
    refine wp_region_still_tail 5 (by kernel_rfl) (by kernel_rfl) ?_
    rw [← hwd]
    clear hwd hb23
    simp only [List.take_succ_cons, List.take_zero, List.drop_succ_cons, List.drop_zero]
    repeat still_step
    refine wpStill_nil ?_
    refine wpList_store_all rfl 29 (.tmp 8) (.tmp 42) rfl (w.heap.size + 1 + 1) (ldisk A2 m2 cp2 DA.1.left) rfl rfl 29 zdisk HZD.out (disk_info _ _ _ _) rfl (disk_one _ _ _ _) ?_
    intro w5 HR5 HT5
    clear f0 f1
    go_wp2_with fail
    refine bodyPost_ret (results_two_row rfl _ _ (w.heap.size + 1 + 1) 29 (ldisk A2 m2 cp2 DA.1.left) _ rfl HR5.out Try.underlying29 rfl (disk_info _ _ _ _)) rfl ?_
    rw [HDA.out, HDP.out]
    exact did_end hK HIN.out HOFF.out HB0.out HRR.out HQ1.out HW1.out HBD.out HB2.out HB2D.out HT5.out HX2.out HL2.out (by omega)
  · by_cases h1 : kd = 1
    · subst h1
      have hst : ∀ E : DD, stepV E ⟨1, num, name, to, data, pa, pn, pcap, picks⟩ = syncV E name := fun E => by unfold stepV; rw [if_neg (show ¬ (1 : Int) = 0 by decide), if_pos rfl]
      rw [hst, hst]
      go_wp2_with fail
      rw [← hw0]
      clear hw0
      refine (hK.sync w0 S b D name HR0.out HFI.out HNN.out).mono ?_
      rintro e w1 ⟨S1, rfl, hr1, hq1, ha1⟩
      have HX1 : Hid (FRow w1 w1.heap.size A l) := krow_away HX0.out ha1 (fun p hp => (HOFF.out p hp).1)
      have HD1 := Lib.hid (row_away HD0.out ha1 HSD.out)
      have HA1 := Lib.hid (row_away HA0.out ha1 HSA.out)
      have HZ1 := Lib.hid (row_away HZ0.out ha1 HSZ1.out)
      have HRR := Lib.hid hr1
      have HQ1 := Lib.hid hq1
      have HW1 := Lib.hid ha1
      clear hr1 hq1 ha1
      have d0 : w1.cell? ⟨w.heap.size, 0, none⟩ = some (.slice A n cap) := HD1.out.cell 0
      have d1 : w1.cell? ⟨w.heap.size, 1, none⟩ = some (.int .i64 left) := HD1.out.cell 1
      have a2 : w1.cell? ⟨w.heap.size + 1, 2, none⟩ = some (.string name) := HA1.out.cell 2
      go_wp2_with fail
      refine (refsync_any A cap n l left name w1 HN.out (by omega) HLO.out HHI.out HX1.out).mono ?_
      rintro e w2 ⟨⟨A2, m2, cp2, rfl, hl2, hx2⟩, hb2⟩
      have HZ2 := Lib.hid ((HZ1.out.below hb2 HZ1.out.lt).alloc (.cells (ldisk A2 m2 cp2 (syncV ⟨l, left⟩ name).1.left).toArray 29))
      have HX2 := Lib.hid hx2
      have HB2 := Lib.hid hb2
      clear hx2 hb2 d0 d1 a2
      go_wp2_with fail
      obtain ⟨DA, hDA⟩ : ∃ DA, syncV ⟨l, left⟩ name = DA := ⟨_, rfl⟩
      obtain ⟨DP, hDP⟩ : ∃ DP, syncV D name = DP := ⟨_, rfl⟩
      rw [hDA] at hl2 HX2 HZ2 ⊢
      rw [hDP] at HRR ⊢
      obtain ⟨w3, hw3⟩ : ∃ w3, w3 = w2.alloc (.cells #[.slice A2 m2 cp2, .int .i64 DA.1.left] 29) := ⟨_, rfl⟩
      rw [← hw3]
      have HB3 : Hid (Below w1.heap.size w1 w3) := by rw [hw3]; exact HB2.out.alloc HB2.out.size _
      have hb23 : Below w2.heap.size w2 w3 := by rw [hw3]; exact (Below.refl _ _).alloc (Nat.le_refl _) _
      have HC3 : Hid (Row w3 w2.heap.size 29 (ldisk A2 m2 cp2 DA.1.left)) := by rw [hw3]; exact Row.new_at _ _ _ _ rfl rfl
      have HZ3 : Hid (Row w3 (w.heap.size + 1 + 1) 29 zdisk) := by rw [hw3]; exact HZ2.out
      have HL2 := Lib.hid hl2
      have HDA := Lib.hid hDA
      have HDP := Lib.hid hDP
      clear hw3 hDA hDP hl2
      obtain ⟨wd, hwd⟩ : ∃ wd : World, wd = { w3 with drawn := w3.drawn + 1 } := ⟨_, rfl⟩
      have HBD : Hid (Below w1.heap.size w1 wd) := by rw [hwd]; exact HB3.out.drew
      have HCD : Hid (Row wd w2.heap.size 29 (ldisk A2 m2 cp2 DA.1.left)) := by rw [hwd]; exact HC3.out
      have HZD : Hid (Row wd (w.heap.size + 1 + 1) 29 zdisk) := by rw [hwd]; exact HZ3.out
      have HB2D : Hid (Below w2.heap.size w2 wd) := by rw [hwd]; exact hb23.drew
      have f0 : wd.cell? ⟨w2.heap.size, 0, none⟩ = some (.slice A2 m2 cp2) := HCD.out.cell 0
      have f1 : wd.cell? ⟨w2.heap.size, 1, none⟩ = some (.int .i64 DA.1.left) := HCD.out.cell 1
      refine wp_region_still_tail 5 (by kernel_rfl) (by kernel_rfl) ?_
      rw [← hwd]
      clear hwd hb23
      simp only [List.take_succ_cons, List.take_zero, List.drop_succ_cons, List.drop_zero]
      repeat still_step
      refine wpStill_nil ?_
      refine wpList_store_all rfl 29 (.tmp 8) (.tmp 58) rfl (w.heap.size + 1 + 1) (ldisk A2 m2 cp2 DA.1.left) rfl rfl 29 zdisk HZD.out (disk_info _ _ _ _) rfl (disk_one _ _ _ _) ?_
      intro w5 HR5 HT5
      clear f0 f1
      go_wp2_with fail
      refine bodyPost_ret (results_two_row rfl _ _ (w.heap.size + 1 + 1) 29 (ldisk A2 m2 cp2 DA.1.left) _ rfl HR5.out Try.underlying29 rfl (disk_info _ _ _ _)) rfl ?_
      rw [HDA.out, HDP.out]
      exact did_end hK HIN.out HOFF.out HB0.out HRR.out HQ1.out HW1.out HBD.out HB2.out HB2D.out HT5.out HX2.out HL2.out (by omega)
    · by_cases h2 : kd = 2
      · subst h2
        have hst : ∀ E : DD, stepV E ⟨2, num, name, to, data, pa, pn, pcap, picks⟩ = renameV E name to := fun E => by unfold stepV; rw [if_neg (show ¬ (2 : Int) = 0 by decide), if_neg (show ¬ (2 : Int) = 1 by decide), if_pos rfl]
        rw [hst, hst]
        go_wp2_with fail
        rw [← hw0]
        clear hw0
        refine (hK.rename w0 S b D name to HR0.out HFI.out HNN.out HNT.out).mono ?_
        rintro e w1 ⟨S1, rfl, hr1, hq1, ha1⟩
        have HX1 : Hid (FRow w1 w1.heap.size A l) := krow_away HX0.out ha1 (fun p hp => (HOFF.out p hp).1)
        have HD1 := Lib.hid (row_away HD0.out ha1 HSD.out)
        have HA1 := Lib.hid (row_away HA0.out ha1 HSA.out)
        have HZ1 := Lib.hid (row_away HZ0.out ha1 HSZ1.out)
        have HRR := Lib.hid hr1
        have HQ1 := Lib.hid hq1
        have HW1 := Lib.hid ha1
        clear hr1 hq1 ha1
        have d0 : w1.cell? ⟨w.heap.size, 0, none⟩ = some (.slice A n cap) := HD1.out.cell 0
        have d1 : w1.cell? ⟨w.heap.size, 1, none⟩ = some (.int .i64 left) := HD1.out.cell 1
        have a2 : w1.cell? ⟨w.heap.size + 1, 2, none⟩ = some (.string name) := HA1.out.cell 2
        have a4 : w1.cell? ⟨w.heap.size + 1, 3, none⟩ = some (.string to) := HA1.out.cell 3
        go_wp2_with fail
        refine (refrename_any A cap n l left name to w1 HN.out (by omega) HLO.out HHI.out HX1.out).mono ?_
        rintro e w2 ⟨⟨A2, m2, cp2, rfl, hl2, hx2⟩, hb2⟩
        have HZ2 := Lib.hid ((HZ1.out.below hb2 HZ1.out.lt).alloc (.cells (ldisk A2 m2 cp2 (renameV ⟨l, left⟩ name to).1.left).toArray 29))
        have HX2 := Lib.hid hx2
        have HB2 := Lib.hid hb2
        clear hx2 hb2 d0 d1 a2 a4
        go_wp2_with fail
        obtain ⟨DA, hDA⟩ : ∃ DA, renameV ⟨l, left⟩ name to = DA := ⟨_, rfl⟩
        obtain ⟨DP, hDP⟩ : ∃ DP, renameV D name to = DP := ⟨_, rfl⟩
        rw [hDA] at hl2 HX2 HZ2 ⊢
        rw [hDP] at HRR ⊢
        obtain ⟨w3, hw3⟩ : ∃ w3, w3 = w2.alloc (.cells #[.slice A2 m2 cp2, .int .i64 DA.1.left] 29) := ⟨_, rfl⟩
        rw [← hw3]
        have HB3 : Hid (Below w1.heap.size w1 w3) := by rw [hw3]; exact HB2.out.alloc HB2.out.size _
        have hb23 : Below w2.heap.size w2 w3 := by rw [hw3]; exact (Below.refl _ _).alloc (Nat.le_refl _) _
        have HC3 : Hid (Row w3 w2.heap.size 29 (ldisk A2 m2 cp2 DA.1.left)) := by rw [hw3]; exact Row.new_at _ _ _ _ rfl rfl
        have HZ3 : Hid (Row w3 (w.heap.size + 1 + 1) 29 zdisk) := by rw [hw3]; exact HZ2.out
        have HL2 := Lib.hid hl2
        have HDA := Lib.hid hDA
        have HDP := Lib.hid hDP
        clear hw3 hDA hDP hl2
        obtain ⟨wd, hwd⟩ : ∃ wd : World, wd = { w3 with drawn := w3.drawn + 1 } := ⟨_, rfl⟩
        have HBD : Hid (Below w1.heap.size w1 wd) := by rw [hwd]; exact HB3.out.drew
        have HCD : Hid (Row wd w2.heap.size 29 (ldisk A2 m2 cp2 DA.1.left)) := by rw [hwd]; exact HC3.out
        have HZD : Hid (Row wd (w.heap.size + 1 + 1) 29 zdisk) := by rw [hwd]; exact HZ3.out
        have HB2D : Hid (Below w2.heap.size w2 wd) := by rw [hwd]; exact hb23.drew
        have f0 : wd.cell? ⟨w2.heap.size, 0, none⟩ = some (.slice A2 m2 cp2) := HCD.out.cell 0
        have f1 : wd.cell? ⟨w2.heap.size, 1, none⟩ = some (.int .i64 DA.1.left) := HCD.out.cell 1
        refine wp_region_still_tail 5 (by kernel_rfl) (by kernel_rfl) ?_
        rw [← hwd]
        clear hwd hb23
        simp only [List.take_succ_cons, List.take_zero, List.drop_succ_cons, List.drop_zero]
        repeat still_step
        refine wpStill_nil ?_
        refine wpList_store_all rfl 29 (.tmp 8) (.tmp 78) rfl (w.heap.size + 1 + 1) (ldisk A2 m2 cp2 DA.1.left) rfl rfl 29 zdisk HZD.out (disk_info _ _ _ _) rfl (disk_one _ _ _ _) ?_
        intro w5 HR5 HT5
        clear f0 f1
        go_wp2_with fail
        refine bodyPost_ret (results_two_row rfl _ _ (w.heap.size + 1 + 1) 29 (ldisk A2 m2 cp2 DA.1.left) _ rfl HR5.out Try.underlying29 rfl (disk_info _ _ _ _)) rfl ?_
        rw [HDA.out, HDP.out]
        exact did_end hK HIN.out HOFF.out HB0.out HRR.out HQ1.out HW1.out HBD.out HB2.out HB2D.out HT5.out HX2.out HL2.out (by omega)
      · by_cases h3 : kd = 3
        · subst h3
          have hst : ∀ E : DD, stepV E ⟨3, num, name, to, data, pa, pn, pcap, picks⟩ = removeV E name := fun E => by unfold stepV; rw [if_neg (show ¬ (3 : Int) = 0 by decide), if_neg (show ¬ (3 : Int) = 1 by decide), if_neg (show ¬ (3 : Int) = 2 by decide), if_pos rfl]
          rw [hst, hst]
          go_wp2_with fail
          rw [← hw0]
          clear hw0
          refine (hK.remove w0 S b D name HR0.out HFI.out HNN.out).mono ?_
          rintro e w1 ⟨S1, rfl, hr1, hq1, ha1⟩
          have HX1 : Hid (FRow w1 w1.heap.size A l) := krow_away HX0.out ha1 (fun p hp => (HOFF.out p hp).1)
          have HD1 := Lib.hid (row_away HD0.out ha1 HSD.out)
          have HA1 := Lib.hid (row_away HA0.out ha1 HSA.out)
          have HZ1 := Lib.hid (row_away HZ0.out ha1 HSZ1.out)
          have HRR := Lib.hid hr1
          have HQ1 := Lib.hid hq1
          have HW1 := Lib.hid ha1
          clear hr1 hq1 ha1
          have d0 : w1.cell? ⟨w.heap.size, 0, none⟩ = some (.slice A n cap) := HD1.out.cell 0
          have d1 : w1.cell? ⟨w.heap.size, 1, none⟩ = some (.int .i64 left) := HD1.out.cell 1
          have a2 : w1.cell? ⟨w.heap.size + 1, 2, none⟩ = some (.string name) := HA1.out.cell 2
          go_wp2_with fail
          refine (refremove_any A cap n l left name w1 HN.out (by omega) HLO.out HHI.out HX1.out).mono ?_
          rintro e w2 ⟨⟨A2, m2, cp2, rfl, hl2, hx2⟩, hb2⟩
          have HZ2 := Lib.hid ((HZ1.out.below hb2 HZ1.out.lt).alloc (.cells (ldisk A2 m2 cp2 (removeV ⟨l, left⟩ name).1.left).toArray 29))
          have HX2 := Lib.hid hx2
          have HB2 := Lib.hid hb2
          clear hx2 hb2 d0 d1 a2
          go_wp2_with fail
          obtain ⟨DA, hDA⟩ : ∃ DA, removeV ⟨l, left⟩ name = DA := ⟨_, rfl⟩
          obtain ⟨DP, hDP⟩ : ∃ DP, removeV D name = DP := ⟨_, rfl⟩
          rw [hDA] at hl2 HX2 HZ2 ⊢
          rw [hDP] at HRR ⊢
          obtain ⟨w3, hw3⟩ : ∃ w3, w3 = w2.alloc (.cells #[.slice A2 m2 cp2, .int .i64 DA.1.left] 29) := ⟨_, rfl⟩
          rw [← hw3]
          have HB3 : Hid (Below w1.heap.size w1 w3) := by rw [hw3]; exact HB2.out.alloc HB2.out.size _
          have hb23 : Below w2.heap.size w2 w3 := by rw [hw3]; exact (Below.refl _ _).alloc (Nat.le_refl _) _
          have HC3 : Hid (Row w3 w2.heap.size 29 (ldisk A2 m2 cp2 DA.1.left)) := by rw [hw3]; exact Row.new_at _ _ _ _ rfl rfl
          have HZ3 : Hid (Row w3 (w.heap.size + 1 + 1) 29 zdisk) := by rw [hw3]; exact HZ2.out
          have HL2 := Lib.hid hl2
          have HDA := Lib.hid hDA
          have HDP := Lib.hid hDP
          clear hw3 hDA hDP hl2
          obtain ⟨wd, hwd⟩ : ∃ wd : World, wd = { w3 with drawn := w3.drawn + 1 } := ⟨_, rfl⟩
          have HBD : Hid (Below w1.heap.size w1 wd) := by rw [hwd]; exact HB3.out.drew
          have HCD : Hid (Row wd w2.heap.size 29 (ldisk A2 m2 cp2 DA.1.left)) := by rw [hwd]; exact HC3.out
          have HZD : Hid (Row wd (w.heap.size + 1 + 1) 29 zdisk) := by rw [hwd]; exact HZ3.out
          have HB2D : Hid (Below w2.heap.size w2 wd) := by rw [hwd]; exact hb23.drew
          have f0 : wd.cell? ⟨w2.heap.size, 0, none⟩ = some (.slice A2 m2 cp2) := HCD.out.cell 0
          have f1 : wd.cell? ⟨w2.heap.size, 1, none⟩ = some (.int .i64 DA.1.left) := HCD.out.cell 1
          refine wp_region_still_tail 5 (by kernel_rfl) (by kernel_rfl) ?_
          rw [← hwd]
          clear hwd hb23
          simp only [List.take_succ_cons, List.take_zero, List.drop_succ_cons, List.drop_zero]
          repeat still_step
          refine wpStill_nil ?_
          refine wpList_store_all rfl 29 (.tmp 8) (.tmp 94) rfl (w.heap.size + 1 + 1) (ldisk A2 m2 cp2 DA.1.left) rfl rfl 29 zdisk HZD.out (disk_info _ _ _ _) rfl (disk_one _ _ _ _) ?_
          intro w5 HR5 HT5
          clear f0 f1
          go_wp2_with fail
          refine bodyPost_ret (results_two_row rfl _ _ (w.heap.size + 1 + 1) 29 (ldisk A2 m2 cp2 DA.1.left) _ rfl HR5.out Try.underlying29 rfl (disk_info _ _ _ _)) rfl ?_
          rw [HDA.out, HDP.out]
          exact did_end hK HIN.out HOFF.out HB0.out HRR.out HQ1.out HW1.out HBD.out HB2.out HB2D.out HT5.out HX2.out HL2.out (by omega)
        · by_cases h4 : kd = 4
          · subst h4
            have hst : ∀ E : DD, stepV E ⟨4, num, name, to, data, pa, pn, pcap, picks⟩ = (budgetV E num, 0) := fun E => by unfold stepV; rw [if_neg (show ¬ (4 : Int) = 0 by decide), if_neg (show ¬ (4 : Int) = 1 by decide), if_neg (show ¬ (4 : Int) = 2 by decide), if_neg (show ¬ (4 : Int) = 3 by decide), if_pos rfl]
            rw [hst, hst]
            go_wp2_with fail
            rw [← hw0]
            clear hw0
            refine (hK.budget w0 S b D num HR0.out HFI.out hnum.1 hnum.2).mono ?_
            rintro e w1 ⟨S1, rfl, hr1, hq1, ha1⟩
            have HX1 : Hid (FRow w1 w1.heap.size A l) := krow_away HX0.out ha1 (fun p hp => (HOFF.out p hp).1)
            have HD1 := Lib.hid (row_away HD0.out ha1 HSD.out)
            have HA1 := Lib.hid (row_away HA0.out ha1 HSA.out)
            have HZ1 := Lib.hid (row_away HZ0.out ha1 HSZ1.out)
            have HRR := Lib.hid hr1
            have HQ1 := Lib.hid hq1
            have HW1 := Lib.hid ha1
            clear hr1 hq1 ha1
            have d0 : w1.cell? ⟨w.heap.size, 0, none⟩ = some (.slice A n cap) := HD1.out.cell 0
            have d1 : w1.cell? ⟨w.heap.size, 1, none⟩ = some (.int .i64 left) := HD1.out.cell 1
            have a1 : w1.cell? ⟨w.heap.size + 1, 1, none⟩ = some (.int .i64 num) := HA1.out.cell 1
            have HBU := Lib.hid (refbudget_any A n cap left num w1)
            obtain ⟨L, hL⟩ : ∃ L, (if num < 0 then (-1 : Int) else num) = L := ⟨_, rfl⟩
            rw [hL] at HBU
            have HLL := Lib.hid hL
            clear hL
            go_wp2_with fail
            refine HBU.out.mono ?_
            rintro e w2 ⟨rfl, hb2⟩
            have HZ2 := Lib.hid (HZ1.out.below hb2 HZ1.out.lt)
            have HX2 : Hid (FRow w2 w1.heap.size A l) := HX1.out.below hb2 (Nat.le_refl _)
            have HB2 := Lib.hid hb2
            clear hb2 d0 d1 a1
            go_wp2_with (refine wpList_store_all rfl 29 (.tmp 8) (.tmp 104) rfl (w.heap.size + 1 + 1) (ldisk A n cap L) rfl rfl 29 zdisk HZ2.out (disk_info _ _ _ _) rfl (disk_one _ _ _ _) ?_)
            intro w5 HR5 HT5
            go_wp2_with fail
            refine bodyPost_ret (results_two_row rfl _ _ (w.heap.size + 1 + 1) 29 (ldisk A n cap L) _ rfl HR5.out Try.underlying29 rfl (disk_info _ _ _ _)) rfl ?_
            have hbl : budgetV ⟨l, left⟩ num = ⟨l, L⟩ := by unfold budgetV; rw [HLL.out]
            rw [hbl]
            exact did_end (DA := (⟨l, L⟩, 0)) hK HIN.out HOFF.out HB0.out HRR.out HQ1.out HW1.out HB2.out HB2.out (Below.refl _ _) HT5.out (.inl ⟨rfl, HX2.out⟩) HN.out (by omega)
          · have hst : ∀ E : DD, stepV E ⟨kd, num, name, to, data, pa, pn, pcap, picks⟩ = (E, 0) := fun E => by unfold stepV; rw [if_neg h0, if_neg h1, if_neg h2, if_neg h3, if_neg h4]
            rw [hst, hst]
            have e0 : (kd == 0) = false := beq_eq_false_iff_ne.2 h0
            have e1 : (kd == 1) = false := beq_eq_false_iff_ne.2 h1
            have e2 : (kd == 2) = false := beq_eq_false_iff_ne.2 h2
            have e3 : (kd == 3) = false := beq_eq_false_iff_ne.2 h3
            have e4 : (kd == 4) = false := beq_eq_false_iff_ne.2 h4
            go_wp2_with fail
            rw [← hw0]
            clear hw0
            obtain ⟨wd, hwd⟩ : ∃ wd : World, wd = { w0 with drawn := w0.drawn + 1 } := ⟨_, rfl⟩
            have HBD : Hid (Below w0.heap.size w0 wd) := by rw [hwd]; exact (Below.refl _ _).drew
            have HDD : Hid (Row wd w.heap.size 29 (ldisk A n cap left)) := by rw [hwd]; exact HD0.out
            have HZD : Hid (Row wd (w.heap.size + 1 + 1) 29 zdisk) := by rw [hwd]; exact HZ0.out
            have f0 : wd.cell? ⟨w.heap.size, 0, none⟩ = some (.slice A n cap) := HDD.out.cell 0
            have f1 : wd.cell? ⟨w.heap.size, 1, none⟩ = some (.int .i64 left) := HDD.out.cell 1
            refine wp_region_still_tail 3 (by kernel_rfl) (by kernel_rfl) ?_
            rw [← hwd]
            clear hwd
            simp only [List.take_succ_cons, List.take_zero, List.drop_succ_cons, List.drop_zero]
            repeat still_step
            refine wpStill_nil ?_
            refine wpList_store_all rfl 29 (.tmp 8) (.tmp 105) rfl (w.heap.size + 1 + 1) (ldisk A n cap left) rfl rfl 29 zdisk HZD.out (disk_info _ _ _ _) rfl (disk_one _ _ _ _) ?_
            intro w5 HR5 HT5
            clear f0 f1
            go_wp2_with fail
            refine bodyPost_ret (results_two_row rfl _ _ (w.heap.size + 1 + 1) 29 (ldisk A n cap left) _ rfl HR5.out Try.underlying29 rfl (disk_info _ _ _ _)) rfl ?_
            exact did_end (DP := (D, 0)) (DA := (⟨l, left⟩, 0)) hK HIN.out HOFF.out HB0.out HR0.out (fun q h => .inl h) (Away.of (Below.refl _ _)) HBD.out (Below.refl _ _) HBD.out HT5.out (.inl ⟨rfl, HX0.out⟩) HN.out (by omega)
end Dk
end Go.Proofs.Yteikfdijcepimaa
