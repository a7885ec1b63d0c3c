/-
  Layer 8 (journal): the walk of the landed Swap. Layer 8 (journal): the walk of the landed Open. Layer 8 (journal): the landed journal keeps what the laws ask.
-/
import Derived.Test.YtogpigfepebibaaGreatDoorMLF
import Derived.Test.YtogpigfepebibaaGreatDoorMPD
import Derived.Test.YtogpigfepebibaaGreatDoorMJJ
namespace Go.Proofs.YtogpigfepebibaaGreatDoor
namespace Jl
open Go.RowKit Go.ChangeShapes Kr Dk

theorem WAns.back {S : Nat → Prop} {b g : Nat} {p : ByteArray} {dv : Value} {R : DD × Nat} {w W w' : World} {e : Ending} (hb : Below w.heap.size w W) (h : WAns S b g p dv R W e w') : WAns S b g p dv R w e w' := by
  obtain ⟨S', k1, k2, k3, k4, k5⟩ := h
  exact ⟨S', k1, k2, fun q hq => (k3 q hq).imp id (Nat.le_trans hb.size), k4, away_next (Away.of hb) (fun q hq => .inl hq) k5⟩
theorem frames_few {l : List ByteArray} (h : ∀ r ∈ l, r.size ≤ 100) : (frames Sh.dig (l.map toB)).length ≤ 112 * l.length := by
  induction l with
  | nil => exact Nat.le_refl _
  | cons r l ih =>
    have h1 := ih (fun x hx => h x (List.mem_cons_of_mem _ hx))
    have h2 := h r List.mem_cons_self
    unfold frames at h1 ⊢
    rw [List.map_cons, List.flatMap_cons, List.length_append, frame_length H_len, List.length_cons]
    show 12 + r.size + _ ≤ _
    omega
theorem cells_app (x y : Bs) : Lib.byteCells x ++ Lib.strCells (ofB y) = Lib.byteCells (x ++ y) := by
  rw [Lib.strCells_toArray]
  unfold Lib.byteCells
  rw [List.map_append]

set_option maxRecDepth 100000 in
set_option maxHeartbeats 4000000 in
theorem swap_any (B : Nat) (w : World) (S : Nat → Prop) (b g : Nat) (D : DD) (p : ByteArray) (A : Option Addr) (n cap : Nat) (l : List ByteArray) (h : Rd w S b D) (hfit : Fit 40000 D) (hp : p.size ≤ 10000) (hg : Row w g T_J [ptr b, .string p]) (hsg : ¬ S g) (ho : Ok B w) (hn : l.length = n) (hn12 : n ≤ 12) (hsz : ∀ r ∈ l, r.size ≤ 100) (hx : NRow w B A l) :
    Calls Tryz.prog 12 #[.pointer (some ⟨g, 0, none⟩), .slice A n cap] w (WAns S b g p (ptr b) (restV D p (ofB (frames Sh.dig (l.map toB)))) w) := by
  have HN := Lib.hid hn
  have HX := Lib.hid hx
  have HSZ := Lib.hid hsz
  have HOK := Lib.hid ho
  have hgs := hg.lt
  have HBR := Lib.hid (broken_no w g b (hg.cell 0))
  have hfl := frames_few hsz
  rw [hn] at hfl
  have HRP : Hid (∀ W, Below w.heap.size w W → Calls Tryz.prog 26 #[.pointer (some ⟨g, 0, none⟩), .string (ofB (frames Sh.dig (l.map toB)))] W (WAns S b g p (ptr b) (restV D p (ofB (frames Sh.dig (l.map toB)))) w)) := fun W hb =>
    (replace_any W S b g D p (ofB (frames Sh.dig (l.map toB))) (rd_keep h fun q hq => hb.block q (rd_inside h q hq)) hfit (by rw [ofB_size]; omega) hp (hg.below hb hgs) hsg).mono fun e w' h => h.back hb
  have HFL : Hid (∀ k, (frames Sh.dig ((l.take k).map toB)).length ≤ 112 * k) := fun k => by
    have := frames_few (l := l.take k) (fun r hr => hsz r (List.mem_of_mem_take hr))
    rw [List.length_take] at this
    omega
  have HB0 := Lib.hid (Pk.isB_start w)
  have HW0 := Lib.hid ((Below.refl w.heap.size w).alloc (Nat.le_refl _) (.cells #[.pointer none, .slice none 0 0] 78))
  clear h hfit hp hg hsg ho hn hsz hx hfl
  generalize restV D p (ofB (frames Sh.dig (l.map toB))) = R at *
  go_enter Tryz.func12, Tryz.ntmps12
  go_wp2_with fail
  refine HBR.out.mono ?_
  rintro e _ ⟨rfl, rfl⟩
  go_wp2_with fail
  go_loopw [14] (fun i wr => ∃ k : Nat, k ≤ n ∧ i = .int .i64 k ∧ Hid (Pk.IsB w.heap.size w.heap.size (Lib.byteCells (frames Sh.dig ((l.take k).map toB))) wr) ∧ Hid (Below w.heap.size w wr)) (fun i _ => n - (intOf i).toNat)
  case atStart => exact ⟨0, Nat.zero_le _, rfl, HB0.out, HW0.out⟩
  case round =>
    obtain ⟨k, hk, rfl, HB, HW⟩ := hrel
    have hwr := HW.out.size
    clear HB0 HW0
    by_cases hlt : k < n
    · have hki : (k : Int) < n := by omega
      have hxk : l[k]? = some (l[k]'(by rw [HN.out]; exact hlt)) := List.getElem?_eq_getElem _
      generalize l[k]'(by rw [HN.out]; exact hlt) = x at hxk
      obtain ⟨b1, o, rfl, hb1, hc⟩ := Dk.one_cell (HX.out.below HW.out HOK.out.2.2) hxk rfl
      have hxs := HSZ.out x (List.mem_of_getElem? hxk)
      have HF := Lib.hid (frame_any B x wr (by omega) (HOK.out.below (HW.out.mono HOK.out.2.2)))
      have HT : Hid (frames Sh.dig ((l.take (k + 1)).map toB) = frames Sh.dig ((l.take k).map toB) ++ frame Sh.dig (toB x)) := by
        show _ = _
        rw [take_snoc l k x hxk, List.map_append, List.map_cons, List.map_nil, frames_snoc]
      have hfx : (frame Sh.dig (toB x)).length ≤ 112 := by rw [frame_length H_len, toB_length]; omega
      have hfk := HFL.out k
      generalize frame Sh.dig (toB x) = f at HF HT hfx
      generalize frames Sh.dig ((l.take k).map toB) = t at HB HT hfk
      clear hxk
      go_wp2_with fail
      refine HF.out.mono ?_
      rintro e w1 ⟨rfl, hb1'⟩
      have HW1 : Hid (Below w.heap.size w w1) := HW.out.trans (hb1'.mono hwr)
      have HB1 := Lib.hid (Pk.isB_keep HB.out hb1')
      have hw1 := HW1.out.size
      clear hb1' HF HB HW
      go_wp2_with fail
      refine (Pk.wstr_any w.heap.size w.heap.size _ (ofB f) w1 HB1.out (by rw [Lib.byteCells_length, ofB_size]; omega) hw1).mono ?_
      rintro e w2 ⟨rfl, hib, hb2⟩
      rw [cells_app, ← HT.out] at hib
      have HB2 := Lib.hid hib
      have HW2 := Lib.hid (HW1.out.trans hb2)
      clear hib hb2
      go_wp2
      go_roundw
      case rel => exact ⟨k + 1, by omega, by go_num, HB2.out, HW2.out⟩
      case measure => simp [intOf]; omega
    · obtain rfl : k = n := by omega
      rw [List.take_of_length_le (by rw [HN.out]; exact Nat.le_refl _)] at HB
      go_wp2_with fail
      refine (Tryz.Builder_String_any _ _ _ _ HB.out hwr).mono ?_
      rintro e w1 ⟨rfl, hb1⟩
      have HW1 := Lib.hid (HW.out.trans hb1)
      clear hb1
      go_wp2_with fail
      refine (HRP.out _ HW1.out).mono ?_
      intro e w2 hw2
      have HE := Lib.hid hw2
      obtain ⟨S', rfl, _⟩ := hw2
      go_wp2
      go_ret
      exact HE.out
end Jl
end Go.Proofs.YtogpigfepebibaaGreatDoor

namespace Go.Proofs.YtogpigfepebibaaGreatDoor
namespace Jl
open Go.RowKit Go.ChangeShapes Kr Dk

theorem owns_away {α : Type} {enc : α → List Value} {k : Nat} {T : TypeId} {S : Nat → Prop} {w w' : World} {base : Nat} {v : Value} {t : List α} (h : OwnsK enc k T w base v t) (ha : Away S w w') (hs : ∀ q, base ≤ q → ¬ S q) : OwnsK enc k T w' base v t := by
  refine ⟨h.1, h.2.imp id ?_⟩
  rintro ⟨g', c, cur, h1, h2, h3, h4⟩
  have hlt : g' < w.heap.size := by
    rcases Nat.lt_or_ge g' w.heap.size with h5 | h5
    · exact h5
    · rw [Array.getElem?_eq_none h5] at h3; cases h3
  exact ⟨g', c, cur, h1, h2, (ha.block g' hlt (hs g' h2)).trans h3, h4⟩
theorem read_clear {M : Nat} {D : DD} (h : Fit M D) (p : ByteArray) : readV (clearV D p).1 p = readV D p := by
  have hd : ∀ z, readV ⟨dropF D.files (nw p), z⟩ p = readV D p := fun z => by
    unfold readV
    show (match at? (dropF D.files (nw p)) p with | none => _ | some f => _) = _
    rw [dropF_at h.rise, if_neg (nw_self p)]
    rfl
  unfold clearV
  split
  · rfl
  · unfold removeV
    rw [if_neg (nw_ne p)]
    cases h2 : at? D.files (nw p) with
    | none => rfl
    | some f =>
      show readV (passV D (dropF D.files (nw p))).1 p = _
      unfold passV
      split
      · rfl
      · exact hd _
/-- What Open does to the disk, and its error's number: x the file's bytes. -/
def cutR (D : DD) (p x : ByteArray) : DD × Nat := if lenV Sh.dig x < x.size then restV D p (x.extract 0 (lenV Sh.dig x)) else clearV D p
theorem open_cut {M : Nat} {D : DD} (h : Fit M D) {p : ByteArray} (hp : p ≠ nul) : openV Sh.dig D p = if (cutR D p (readV D p).1).2 = 0 then ⟨(cutR D p (readV D p).1).1, true, recsV Sh.dig (readV D p).1, 0⟩ else ⟨(cutR D p (readV D p).1).1, false, [], (cutR D p (readV D p).1).2⟩ := by
  unfold openV
  rw [if_neg hp, read_clear h]
  generalize (readV D p).1 = x
  unfold cutR restV
  by_cases h1 : (clearV D p).2 = 0
  · rw [if_neg (by simpa using h1)]
    by_cases h2 : lenV Sh.dig x < x.size
    · rw [if_pos h2, if_pos h2, if_pos h1]
      by_cases h3 : (anewV (clearV D p).1 p (x.extract 0 (lenV Sh.dig x))).2 = 0
      · rw [if_neg (by simpa using h3), if_pos h3]
      · rw [if_pos h3, if_neg h3]
    · rw [if_neg h2, if_neg h2, if_pos h1]
  · rw [if_pos h1]
    by_cases h2 : lenV Sh.dig x < x.size
    · rw [if_pos h2, if_neg h1, if_neg h1]
    · rw [if_neg h2, if_neg h1]
theorem run_clear (D : DD) (p : ByteArray) (c : Nat) : runC [remC c (nw p)] D = clearV D p := by rw [runC_last]; rfl
/-- What Open answers. -/
def OAns (S : Nat → Prop) (b : Nat) (p : ByteArray) (O : Op) (w : World) (e : Ending) (w' : World) : Prop :=
  ∃ S' g A cap, e = .returned (.tuple #[jp (openJ O g p), .slice A O.recs.length cap, .int .i64 (O.err : Int)]) ∧ Rd w' S' b O.disk ∧ (∀ q, S' q → S q ∨ w.heap.size ≤ q) ∧ w.heap.size ≤ g ∧ (O.is = true → ¬ S' g ∧ Row w' g T_J [ptr b, .string p]) ∧ Away S w w' ∧ NRow w' w'.heap.size A O.recs ∧ From A w.heap.size

section
variable {S : Nat → Prop} {b : Nat} {p x : ByteArray} {R : DD × Nat} {w w2 W w' : World} {A : Option Addr} {cap : Nat} {e : Ending}
theorem oans_yes (hin : ∀ q, S q → q < w.heap.size) (hb : Below w.heap.size w W) (h2 : w.heap.size < w2.heap.size) (ho : OwnsN W w2.heap.size (.slice A (recsV Sh.dig x).length cap) (recsV Sh.dig x)) (hgW : w.heap.size < W.heap.size) (hw : WAns S b w.heap.size p (ptr b) R W e w') (hR : R.2 = 0) :
    OAns S b p ⟨R.1, true, recsV Sh.dig x, 0⟩ w (.returned (.tuple #[ptr w.heap.size, .slice A (recsV Sh.dig x).length cap, .int .i64 0])) w' := by
  obtain ⟨S', _, k2, k3, k4, k5⟩ := hw
  rw [if_pos hR] at k4
  have ho' : OwnsN w' w2.heap.size (.slice A (recsV Sh.dig x).length cap) (recsV Sh.dig x) := owns_away ho k5 (fun q hq h => h.elim (fun h => by have := hin q h; omega) (by omega))
  have hrow : NRow w' w'.heap.size A (recsV Sh.dig x) := OwnsK.row (enc := encN) (fun _ => rfl) ho'
  refine ⟨S', w.heap.size, A, cap, rfl, k2, fun q hq => (k3 q hq).imp id (Nat.le_trans hb.size), Nat.le_refl _, fun _ => ⟨fun h => (k3 _ h).elim (fun h => by have := hin _ h; omega) (by omega), k4⟩, ?_, hrow, (owns_from ho').less (by omega)⟩
  refine away_next (Away.of hb) (fun q hq => hq) ⟨k5.os, k5.tape, k5.output, k5.size, fun q hq hn => k5.block q hq fun h => hn (h.imp id (fun h => by omega))⟩
theorem oans_no (_hin : ∀ q, S q → q < w.heap.size) (hb : Below w.heap.size w W) (hw : WAns S b w.heap.size p (ptr b) R W e w') :
    OAns S b p ⟨R.1, false, [], R.2⟩ w (.returned (.tuple #[.pointer none, .slice none 0 0, .int .i64 (R.2 : Int)])) w' := by
  obtain ⟨S', _, k2, k3, k4, k5⟩ := hw
  refine ⟨S', w.heap.size, none, 0, rfl, k2, fun q hq => (k3 q hq).imp id (Nat.le_trans hb.size), Nat.le_refl _, fun h => by simp at h, ?_, KRow.none_ _ _ _, fun q hq => by cases hq⟩
  refine away_next (Away.of hb) (fun q hq => hq) ⟨k5.os, k5.tape, k5.output, k5.size, fun q hq hn => k5.block q hq fun h => hn (h.imp id (fun h => by omega))⟩
end

set_option maxRecDepth 100000 in
set_option maxHeartbeats 4000000 in
theorem open_any (B : Nat) (w : World) (S : Nat → Prop) (b : Nat) (D : DD) (p : ByteArray) (h : Rd w S b D) (hfit : Fit 40000 D) (hps : p.size ≤ 10000) (hp : p ≠ nul) (ho : Ok B w) :
    Calls Tryz.prog 8 #[ptr b, .string p] w (OAns S b p (openV Sh.dig D p) w) := by
  have HIN := Lib.hid (fun q (hq : S q) => rd_inside h q hq)
  have HO := Lib.hid (open_cut hfit hp)
  have hpl : (p.toList == []) = false := by
    have := eqB p nul
    rw [decide_eq_false hp, show nul.toList = [] by rw [ByteArray.toList_eq]] at this
    exact this
  have hxs := read_le hfit p
  have HRD : Hid (∀ W, Below w.heap.size w W → Calls Tryz.prog 24 #[ptr b, .string p] W fun e w' => e = .returned (.tuple #[.string (readV D p).1, .int .i64 ((readV D p).2 : Int)]) ∧ Below W.heap.size W w') := fun W hb =>
    keeps.read W S b D p (rd_keep h fun q hq => hb.block q (HIN.out q hq)) (hfit.more (by decide)) (by show p.size ≤ _; omega)
  generalize (readV D p).2 = no at HRD
  obtain ⟨x, hx⟩ : ∃ x, (readV D p).1 = x := ⟨_, rfl⟩
  rw [hx] at HO HRD hxs
  clear hx
  have HSC : Hid (∀ W, Below w.heap.size w W → Calls Tryz.prog 25 #[.string x] W fun e w' => ∃ A' cap', e = .returned (.tuple #[.slice A' (recsV Sh.dig x).length cap', .int .i64 (lenV Sh.dig x : Int)]) ∧ OwnsN w' W.heap.size (.slice A' (recsV Sh.dig x).length cap') (recsV Sh.dig x) ∧ Below W.heap.size W w') := fun W hb =>
    scan_any B x W (by omega) (ho.later hb)
  have hle := lenV_le Sh.dig x
  have HCUT : Hid (cutR D p x = if lenV Sh.dig x < x.size then restV D p (x.extract 0 (lenV Sh.dig x)) else clearV D p) := rfl
  have hcf := cut_front x (lenV Sh.dig x : Int) (lenV Sh.dig x) rfl hle
  have hcs : (x.extract 0 (lenV Sh.dig x)).size ≤ 40000 := by rw [ByteArray.size_extract]; omega
  have HRP : Hid (∀ W, Below w.heap.size w W → Row W w.heap.size T_J [ptr b, .string p] → Calls Tryz.prog 26 #[.pointer (some ⟨w.heap.size, 0, none⟩), .string (x.extract 0 (lenV Sh.dig x))] W (WAns S b w.heap.size p (ptr b) (restV D p (x.extract 0 (lenV Sh.dig x))) W)) := fun W hb hr =>
    replace_any W S b w.heap.size D p _ (rd_keep h fun q hq => hb.block q (HIN.out q hq)) hfit hcs hps hr (fun hs => by have := HIN.out _ hs; omega)
  have HCL : Hid (∀ W c X cap, Below w.heap.size w W → Row W w.heap.size T_J [ptr b, .string p] → Held w W c (ptr b) → CRow W X 0 [remC c (nw p)] → w.heap.size ≤ X →
      Calls Tryz.prog 27 #[.pointer (some ⟨w.heap.size, 0, none⟩), .string (nw p), .slice (some ⟨X, 0, none⟩) 1 cap] W (WAns S b w.heap.size p (ptr b) (clearV D p) W)) := by
    intro W c X cap hb hr h1 hcr hX
    have hno : ∀ q, w.heap.size ≤ q → ¬ S q := fun q hq hs => by have := HIN.out q hs; omega
    have hNB : NB (nw p) := by show (nw p).size ≤ _; rw [nw_size]; omega
    have hw := write_any W S b w.heap.size X 0 1 cap D (nw p) p (ptr b) [remC c (nw p)] rfl (by decide) (rd_keep h fun q hq => hb.block q (HIN.out q hq)) ⟨hfit.more (by decide), fun _ => trivial⟩ (fun c' hc => by
      obtain rfl := List.mem_singleton.1 hc
      exact rem_doing hNB (nw_ne p) h1.2.1 (hno _ h1.1) h1.2.2) hcr (hno _ hX) hr (hno _ (Nat.le_refl _))
    rw [run_clear] at hw
    exact hw
  have HRM : Hid (∀ W, Below w.heap.size w W → Calls Tryz.prog 28 #[ptr b] W fun e w' => ∃ c, e = .returned (.func (.func 52) #[] #[.pointer (some ⟨c, 0, none⟩)]) ∧ Held w w' c (ptr b) ∧ Below W.heap.size W w') := fun W hb =>
    (removing_any b (nw p) W).mono fun e w' ⟨c, h1, h2, h3⟩ => ⟨c, h1, h2.up hb, h3⟩
  have hpsz : ¬ 9223372036854775807 < p.size + 4 := by omega
  have hG0 : Row (w.alloc (.cells #[ptr b, .string p] 64)) w.heap.size T_J [ptr b, .string p] := Row.new_at _ _ _ _ rfl rfl
  obtain ⟨w1, hw1⟩ : ∃ w1, w1 = w.alloc (.cells #[ptr b, .string p] 64) := ⟨_, rfl⟩
  rw [← hw1] at hG0
  have HG1 := Lib.hid hG0
  have HB1 : Hid (Below w.heap.size w w1) := by rw [hw1]; exact (Below.refl _ _).alloc (Nat.le_refl _) _
  have hs1 : w1.heap.size = w.heap.size + 1 := by rw [hw1]; simp
  clear h hfit hps hp ho hG0
  generalize openV Sh.dig D p = O at *
  generalize x.extract 0 (lenV Sh.dig x) = y at *
  generalize restV D p y = RR at *
  generalize clearV D p = RC at *
  go_enter Tryz.func8, Tryz.ntmps8
  go_wp2_with fail
  rw [← hw1]
  clear hw1
  refine (HRD.out _ HB1.out).mono ?_
  rintro e w2 ⟨rfl, hb2⟩
  have hs2 := hb2.size
  have HB2 := Lib.hid (below_step2 HB1.out hb2)
  have HG2 := Lib.hid (HG1.out.below hb2 (by omega))
  clear hb2 HG1 HRD
  go_wp2_with fail
  refine (HSC.out _ HB2.out).mono ?_
  rintro e w3 ⟨A, cap, rfl, ho3, hb3⟩
  have hs3 := hb3.size
  have HB3 := Lib.hid (below_step2 HB2.out hb3)
  have HG3 := Lib.hid (HG2.out.below hb3 (by omega))
  have HO3 := Lib.hid ho3
  clear hb3 HG2 HSC ho3
  by_cases hlt : lenV Sh.dig x < x.size
  · have hki : (lenV Sh.dig x : Int) < x.size := by omega
    rw [if_pos hlt] at HCUT
    clear hlt
    go_wp2_with fail
    refine (HRP.out _ HB3.out HG3.out).mono ?_
    intro e w4 hw4
    have HW4 := Lib.hid hw4
    obtain ⟨S', rfl, _⟩ := hw4
    by_cases h0 : RR.2 = 0
    · have HA := Lib.hid (oans_yes (x := x) HIN.out HB3.out (by omega) HO3.out (by omega) HW4.out h0)
      rw [HCUT.out, if_pos h0] at HO
      clear HW4 HO3
      rw [h0]
      simp only [Int.natCast_zero]
      go_wp2
      go_ret3
      rw [HO.out]
      exact HA.out
    · have HA := Lib.hid (oans_no HIN.out HB3.out HW4.out)
      rw [HCUT.out, if_neg h0] at HO
      have hni : ¬ (RR.2 : Int) = 0 := by omega
      clear HW4 HO3 h0
      go_wp2
      go_ret3
      rw [HO.out]
      exact HA.out
  · have hki : ¬ (lenV Sh.dig x : Int) < x.size := by omega
    rw [if_neg hlt] at HCUT
    clear hlt
    go_wp2_with fail
    refine (HRM.out _ HB3.out).mono ?_
    rintro e w4 ⟨c, rfl, hc4, hb4⟩
    obtain ⟨w5, hw5⟩ : ∃ w5, w5 = w4.alloc (.cells #[.func (.func 52) #[] #[.pointer (some ⟨c, 0, none⟩)]] 68) := ⟨_, rfl⟩
    have hs4 := hb4.size
    have hb45 : Below w4.heap.size w4 w5 := by rw [hw5]; exact (Below.refl _ _).alloc (Nat.le_refl _) _
    have hs5 := hb45.size
    have hb35 : Below w3.heap.size w3 w5 := below_step2 hb4 hb45
    have HB5 := Lib.hid (below_step2 HB3.out hb35)
    have HO5 : Hid (OwnsN w5 w2.heap.size (.slice A (recsV Sh.dig x).length cap) (recsV Sh.dig x)) := HO3.out.keep hb35
    have HCL5 := Lib.hid (HCL.out w5 c w4.heap.size 1 HB5.out (HG3.out.below hb35 (by omega)) (hc4.below hb45) (by rw [hw5]; exact crow_new _ _ _ _ rfl) (by omega))
    clear hb45 hb35 hb4 hc4 HB3 HO3 HG3 HCL HRM
    go_wp2_with fail
    rw [← hw5]
    clear hw5
    refine HCL5.out.mono ?_
    intro e w6 hw6
    have HW6 := Lib.hid hw6
    obtain ⟨S', rfl, _⟩ := hw6
    by_cases h0 : RC.2 = 0
    · have HA := Lib.hid (oans_yes (x := x) HIN.out HB5.out (by omega) HO5.out (by omega) HW6.out h0)
      rw [HCUT.out, if_pos h0] at HO
      clear HW6 HO5
      rw [h0]
      simp only [Int.natCast_zero]
      go_wp2
      go_ret3
      rw [HO.out]
      exact HA.out
    · have HA := Lib.hid (oans_no HIN.out HB5.out HW6.out)
      rw [HCUT.out, if_neg h0] at HO
      have hni : ¬ (RC.2 : Int) = 0 := by omega
      clear HW6 HO5 h0
      go_wp2
      go_ret3
      rw [HO.out]
      exact HA.out
end Jl
end Go.Proofs.YtogpigfepebibaaGreatDoor

namespace Go.Proofs.YtogpigfepebibaaGreatDoor
namespace Jl
open Go.RowKit Go.ChangeShapes Kr Dk

/-! Journals that are broken, or not there. -/
set_option maxRecDepth 100000 in
theorem add_broken (w : World) (g : Nat) (x : ByteArray) (h : w.cell? ⟨g, 0, none⟩ = some (.pointer none)) : Calls Tryz.prog 10 #[.pointer (some ⟨g, 0, none⟩), .string x] w fun e w' => e = .returned (.int .i64 19) ∧ w = w' := by
  have HB := Lib.hid (broken_yes w g h)
  clear h
  go_enter Tryz.func10, Tryz.ntmps10
  go_wp2_with fail
  refine HB.out.mono ?_
  rintro e _ ⟨rfl, rfl⟩
  go_wp2
  go_ret
  exact ⟨rfl, rfl⟩
set_option maxRecDepth 100000 in
theorem add_nil (w : World) (x : ByteArray) : Calls Tryz.prog 10 #[.pointer none, .string x] w fun e w' => e = .returned (.int .i64 19) ∧ w = w' := by
  have HB := Lib.hid (broken_nil w)
  go_enter Tryz.func10, Tryz.ntmps10
  go_wp2_with fail
  refine HB.out.mono ?_
  rintro e _ ⟨rfl, rfl⟩
  go_wp2
  go_ret
  exact ⟨rfl, rfl⟩
set_option maxRecDepth 100000 in
theorem swap_broken (w : World) (g : Nat) (A : Option Addr) (n cap : Nat) (h : w.cell? ⟨g, 0, none⟩ = some (.pointer none)) : Calls Tryz.prog 12 #[.pointer (some ⟨g, 0, none⟩), .slice A n cap] w fun e w' => e = .returned (.int .i64 19) ∧ w = w' := by
  have HB := Lib.hid (broken_yes w g h)
  clear h
  go_enter Tryz.func12, Tryz.ntmps12
  go_wp2_with fail
  refine HB.out.mono ?_
  rintro e _ ⟨rfl, rfl⟩
  go_wp2
  go_ret
  exact ⟨rfl, rfl⟩
set_option maxRecDepth 100000 in
theorem swap_nil (w : World) (A : Option Addr) (n cap : Nat) : Calls Tryz.prog 12 #[.pointer none, .slice A n cap] w fun e w' => e = .returned (.int .i64 19) ∧ w = w' := by
  have HB := Lib.hid (broken_nil w)
  go_enter Tryz.func12, Tryz.ntmps12
  go_wp2_with fail
  refine HB.out.mono ?_
  rintro e _ ⟨rfl, rfl⟩
  go_wp2
  go_ret
  exact ⟨rfl, rfl⟩
set_option maxRecDepth 100000 in
theorem open_nul (w : World) (b : Nat) : Calls Tryz.prog 8 #[ptr b, .string nul] w fun e w' => e = .returned (.tuple #[.pointer none, .slice none 0 0, .int .i64 1]) ∧ w = w' := by
  have hpl : ((nul : ByteArray).toList == []) = true := by rw [ByteArray.toList_eq]; rfl
  go_enter Tryz.func8, Tryz.ntmps8
  go_wp2
  go_ret3
  exact ⟨rfl, rfl⟩

/-- The landed disk, and a journal on it: Q of the laws. -/
def Qd (w : World) (U : Nat → Prop) (b : Nat) (D : DD) : Jn → Prop
  | none => Rd w U b D
  | some (g, nm, br) => ∃ S : Nat → Prop, (∀ q, U q ↔ S q ∨ q = g) ∧ ¬ S g ∧ Rd w S b D ∧ Row w g T_J [if br = true then .pointer none else ptr b, .string nm] ∧ nm.size ≤ 10000
section
variable {w w' : World} {U : Nat → Prop} {b : Nat} {D D' : DD} {j : Jn}
theorem qd_disk (h : Qd w U b D j) : ∃ S : Nat → Prop, (∀ q, S q → U q) ∧ Rd w S b D ∧ ∀ {S' : Nat → Prop} {w' : World} {D' : DD}, Rd w' S' b D' → (∀ q, S' q → S q ∨ w.heap.size ≤ q) → Away S w w' → ∃ U' : Nat → Prop, Qd w' U' b D' j ∧ (∀ q, U' q → U q ∨ w.heap.size ≤ q) := by
  cases j with
  | none => exact ⟨U, fun _ h => h, h, fun {S'} {_} {_} h1 h2 _ => ⟨S', h1, h2⟩⟩
  | some t =>
    obtain ⟨g, nm, br⟩ := t
    obtain ⟨S, h1, h2, h3, h4, h5⟩ := h
    refine ⟨S, fun q hq => (h1 q).2 (.inl hq), h3, fun {S'} {w'} {D'} k1 k2 k3 => ⟨fun q => S' q ∨ q = g, ⟨S', fun q => Iff.rfl, fun hs => (k2 g hs).elim h2 (fun h => by have := h4.lt; omega), k1, (k3.block g h4.lt h2).trans h4, h5⟩, fun q hq => ?_⟩⟩
    rcases hq with hq | hq
    · exact (k2 q hq).imp (fun h => (h1 q).2 (.inl h)) id
    · exact .inl ((h1 q).2 (.inr hq))
theorem qd_keep (h : Qd w U b D j) (hk : ∀ q, U q → w'.heap[q]? = w.heap[q]?) : Qd w' U b D j := by
  cases j with
  | none => exact rd_keep h hk
  | some t =>
    obtain ⟨g, nm, br⟩ := t
    obtain ⟨S, h1, h2, h3, h4, h5⟩ := h
    exact ⟨S, h1, h2, rd_keep h3 fun q hq => hk q ((h1 q).2 (.inl hq)), (hk g ((h1 g).2 (.inr rfl))).trans h4, h5⟩
theorem qd_inside (h : Qd w U b D j) : ∀ q, U q → q < w.heap.size := by
  cases j with
  | none => exact rd_inside h
  | some t =>
    obtain ⟨g, nm, br⟩ := t
    obtain ⟨S, h1, h2, h3, h4, h5⟩ := h
    intro q hq
    rcases (h1 q).1 hq with hq | rfl
    · exact rd_inside h3 q hq
    · exact h4.lt
theorem qd_bound (h : Qd w U b D j) : ∀ f ∈ D.files, NB f.name := by
  obtain ⟨S, _, h2, _⟩ := qd_disk h
  exact rd_bound h2
/-- A call of the disk's that writes. -/
theorem qd_wrote {n : Nat} {args : Array Value} {v : Value} (h : Qd w U b D j) (hc : ∀ S, Rd w S b D → Calls Tryz.prog n args w (Wrote Rd S b D' w v)) : Calls Tryz.prog n args w (Leaves Qd U b D' j w v) := by
  obtain ⟨S, h1, h2, h3⟩ := qd_disk h
  refine (hc S h2).mono ?_
  rintro e w' ⟨S', rfl, k1, k2, k3⟩
  obtain ⟨U', k4, k5⟩ := h3 k1 k2 k3
  exact ⟨U', rfl, k4, k5, away_more k3 h1⟩
/-- A call of the journal's. -/
theorem qd_wans {n g : Nat} {args : Array Value} {nm : ByteArray} {R : DD × Nat} (h : Qd w U b D (some (g, nm, false))) (hc : ∀ S, Rd w S b D → ¬ S g → Row w g T_J [ptr b, .string nm] → nm.size ≤ 10000 → Calls Tryz.prog n args w (WAns S b g nm (ptr b) R w)) :
    Calls Tryz.prog n args w (Leaves Qd U b R.1 (some (g, nm, R.2 != 0)) w (.int .i64 (R.2 : Int))) := by
  obtain ⟨S, h1, h2, h3, h4, h5⟩ := h
  refine (hc S h3 h2 h4 h5).mono ?_
  rintro e w' ⟨S', rfl, k2, k3, k4, k5⟩
  refine ⟨fun q => S' q ∨ q = g, rfl, ⟨S', fun q => Iff.rfl, fun hs => (k3 g hs).elim h2 (fun h => by have := h4.lt; omega), k2, ?_, h5⟩, fun q hq => ?_, away_more k5 fun q hq => (h1 q).2 hq⟩
  · by_cases h0 : R.2 = 0
    · rw [if_pos h0] at k4
      rw [h0]
      exact k4
    · rw [if_neg h0] at k4
      rw [show (R.2 != 0) = true by simpa using h0]
      exact k4
  · rcases hq with hq | hq
    · exact (k3 q hq).imp (fun h => (h1 q).2 (.inl h)) id
    · exact .inl ((h1 q).2 (.inr hq))
theorem qd_still {n g : Nat} {args : Array Value} {nm : ByteArray} (h : Qd w U b D (some (g, nm, true))) (hc : w.cell? ⟨g, 0, none⟩ = some (.pointer none) → Calls Tryz.prog n args w fun e w' => e = .returned (.int .i64 19) ∧ w = w') : Calls Tryz.prog n args w (Leaves Qd U b D (some (g, nm, true)) w (.int .i64 19)) := by
  have h4 : w.cell? ⟨g, 0, none⟩ = some (.pointer none) := by
    obtain ⟨S, h1, h2, h3, h4, h5⟩ := h
    exact h4.cell 0
  refine (hc h4).mono ?_
  rintro e _ ⟨rfl, rfl⟩
  exact ⟨U, rfl, h, fun q hq => .inl hq, Away.of (Below.refl _ _)⟩
end
theorem fit_big {D : DD} (h : Fits D) : Dk.Fits D := h.more (by decide)

theorem jkeeps : JKeeps Qd where
  keep := qd_keep
  inside := qd_inside
  bound := qd_bound
  new := fun w => keeps.new w
  append := fun w U b D j p x h hf hp hx => qd_wrote h fun S hr => keeps.append w S b D p x hr (fit_big hf) (by show p.size ≤ _; omega) (by omega)
  budget := fun w U b D j z h hf h1 h2 => qd_wrote h fun S hr => keeps.budget w S b D z hr (fit_big hf) h1 h2
  read := fun w U b D j p h hf hp => by
    obtain ⟨S, _, h2, _⟩ := qd_disk h
    exact keeps.read w S b D p h2 (fit_big hf) hp
  names := fun w U b D j h hf => by
    obtain ⟨S, _, h2, _⟩ := qd_disk h
    exact keeps.names w S b D h2 (fit_big hf)
  crash := fun w U b D j A n cap ps h hf hn hnc hnm hpz hp => by
    obtain ⟨S, _, h2, _⟩ := qd_disk h
    exact keeps.crash w S b D A n cap ps h2 (fit_big hf) hn hnc (by omega) hpz hp
  frame := fun B w x ho hx => frame_any B x w (by omega) ho
  long := fun w x h1 h2 => frame_long x w h1 h2
  scan := fun B w x ho hx => (scan_any B x w (by omega) ho).mono fun e w' ⟨A, cap, h1, h2, h3⟩ => ⟨A, _, cap, h1, rfl, OwnsK.row (enc := encN) (fun _ => rfl) h2, h3⟩
  open_ := fun B w U b D j p h hf hp ho hB => by
    obtain ⟨S, h1, h2, h3⟩ := qd_disk h
    by_cases hp0 : p = nul
    · subst hp0
      have hO : openV Sh.dig D nul = ⟨D, false, [], 1⟩ := by unfold openV; rw [if_pos rfl]
      rw [hO]
      refine (open_nul w b).mono ?_
      rintro e _ ⟨rfl, rfl⟩
      exact ⟨S, 0, none, 0, 0, rfl, h2, fun q hq => .inl (h1 q hq), Away.of (Below.refl _ _), rfl, KRow.none_ _ _ _, fun q hq => by cases hq⟩
    · refine (open_any B w S b D p h2 hf hp hp0 ho).mono ?_
      rintro e w' ⟨S', g, A, cap, rfl, k1, k2, k3, k4, k5, k6, k7⟩
      cases hi : (openV Sh.dig D p).is with
      | false =>
        refine ⟨S', g, A, _, cap, rfl, ?_, fun q hq => (k2 q hq).imp (h1 q) id, away_more k5 h1, rfl, k6, k7⟩
        unfold openJ
        rw [hi, if_neg (by simp)]
        exact k1
      | true =>
        obtain ⟨k8, k9⟩ := k4 hi
        refine ⟨fun q => S' q ∨ q = g, g, A, _, cap, rfl, ?_, fun q hq => ?_, away_more k5 h1, rfl, k6, k7⟩
        · unfold openJ
          rw [hi, if_pos rfl]
          exact ⟨S', fun q => Iff.rfl, k8, k1, k9, hp⟩
        · rcases hq with hq | rfl
          · exact (k2 q hq).imp (h1 q) id
          · exact .inr k3
  add := fun B w U b D g nm br x h hf hx ho hB => by
    cases br with
    | true =>
      have hA : addJ Sh.dig true true D nm x = (D, true, 19) := by unfold addJ; rw [if_pos (.inr rfl)]
      rw [hA]
      exact qd_still h fun hc => add_broken w g x hc
    | false =>
      have hA : addJ Sh.dig true false D nm x = brokeV (putV D nm (ofB (frame Sh.dig (toB x)))) := by
        unfold addJ
        rw [if_neg (by simp [Idle]), frameV_ok (by omega)]
        rfl
      rw [hA]
      exact qd_wans h fun S hr hs hg hn => add_any B w S b g D nm x hr hf hx hn hg hs ho
  swap := fun B w U b D g nm br A n cap l h hf hn hnc h12 hsz hx ho hB => by
    cases br with
    | true =>
      have hA : swapJ Sh.dig true true D nm l = (D, true, 19) := by unfold swapJ; rw [if_pos (.inr rfl)]
      rw [hA]
      exact qd_still h fun hc => swap_broken w g A n cap hc
    | false =>
      have hA : swapJ Sh.dig true false D nm l = brokeV (restV D nm (ofB (frames Sh.dig (l.map toB)))) := by
        unfold swapJ
        rw [if_neg (by simp [Idle]), framesV_ok (fun r hr => by have := hsz r hr; omega)]
        rfl
      rw [hA]
      exact qd_wans h fun S hr hs hg hnm => swap_any B w S b g D nm A n cap l hr hf hnm hg hs ho hn h12 hsz hx
  addnil := fun w x _ => (add_nil w x).mono fun e w' ⟨h1, h2⟩ => ⟨h1, by rw [h2]; exact Below.refl _ _⟩
  swapnil := fun w A n cap l _ _ _ _ _ => (swap_nil w A n cap).mono fun e w' ⟨h1, h2⟩ => ⟨h1, by rw [h2]; exact Below.refl _ _⟩
end Jl
end Go.Proofs.YtogpigfepebibaaGreatDoor
