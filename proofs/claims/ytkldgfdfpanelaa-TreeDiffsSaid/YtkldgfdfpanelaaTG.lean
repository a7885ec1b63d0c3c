/-
  Layer 5 (tree): the walk of the document's Diff.
-/
import Derived.Test.YtkldgfdfpanelaaTF
namespace Go.Proofs.Ytkldgfdfpanelaa
namespace Tr
open Go.RowKit Go.ChangeShapes Pt

theorem chgInfo : (Try.prog.info? 43).map (fun i => (i.zero, i.size, i.bytes)) = some (some (.agg #[.string ⟨#[]⟩, .int .i64 0]), 2, 24) := by kernel_rfl

abbrev Ch := Bs × Nat
def cellsC : List Ch → List Value
  | [] => []
  | f :: t => SV f.1 :: .int .i64 f.2 :: cellsC t
theorem cellsC_length : ∀ t : List Ch, (cellsC t).length = t.length * 2
  | [] => rfl
  | f :: t => by
    have := cellsC_length t
    simp only [cellsC, List.length_cons]
    omega
theorem cellsC_append : ∀ s t : List Ch, cellsC (s ++ t) = cellsC s ++ cellsC t
  | [], t => rfl
  | f :: s, t => by
    simp only [cellsC, List.cons_append, cellsC_append s t]
theorem cellsC_at : ∀ (t : List Ch) (j : Nat) (f : Ch), t[j]? = some f → (cellsC t)[j * 2]? = some (SV f.1) ∧ (cellsC t)[j * 2 + 1]? = some (.int .i64 f.2)
  | [], j, f, h => by simp at h
  | g :: t, 0, f, h => by
    injection h with h
    subst h
    exact ⟨rfl, rfl⟩
  | g :: t, j + 1, f, h => by
    have h2 := cellsC_at t j f h
    rw [show (j + 1) * 2 = j * 2 + 1 + 1 by omega]
    exact h2

/-- A row of changes that a call has made. -/
def OwnsC (w : World) (base : Nat) (v : Value) (t : List Ch) : Prop := w.ownsRow base 43 2 v t.length (cellsC t)
theorem OwnsC.alloc' {w : World} {base : Nat} {v : Value} {t : List Ch} (h : OwnsC w base v t) (o : Obj) : OwnsC (w.alloc o) base v t := World.ownsRow.alloc h o
theorem OwnsC.less {w : World} {b b' : Nat} {v : Value} {t : List Ch} (h : OwnsC w b v t) (hb : b' ≤ b) : OwnsC w b' v t := by
  refine ⟨h.1, h.2.imp id ?_⟩
  rintro ⟨g, cap, cur, h1, h2, h3⟩
  exact ⟨g, cap, cur, h1, Nat.le_trans hb h2, h3⟩
theorem OwnsC.drewN {w : World} {b : Nat} {v : Value} {t : List Ch} (h : OwnsC w b v t) (n : Nat) : OwnsC (w.drewN n) b v t := h
theorem OwnsC.later {w w' : World} {b : Nat} {g n cap : Nat} {t : List Ch} (h : OwnsC w b (.slice (some ⟨g, 0, none⟩) n cap) t) {B : Nat} (hb : Below B w w') (hB : w.heap.size ≤ B) : OwnsC w' b (.slice (some ⟨g, 0, none⟩) n cap) t := by
  refine ⟨h.1, h.2.imp id ?_⟩
  rintro ⟨g', c, cur, h1, h2, h3, h4⟩
  injection h1 with h1
  injection h1 with h1
  injection h1 with h1
  subst h1
  have hlt : g < w.heap.size := by
    rcases Nat.lt_or_ge g w.heap.size with h5 | h5
    · exact h5
    · rw [Array.getElem?_eq_none h5] at h3; cases h3
  exact ⟨g, c, cur, by simp_all, h2, (hb.block g (by omega)).trans h3, h4⟩

/-- A slice's address under which changes stand, below block B. -/
def CRow (w : World) (B : Nat) (A : Option Addr) (t : List Ch) : Prop :=
  ∀ j f, t[j]? = some f → ∃ b o s, A = some ⟨b, o, none⟩ ∧ b < B ∧ s.data.toList = f.1 ∧ w.cell? ⟨b, o + j * 2, none⟩ = some (.string s) ∧ w.cell? ⟨b, o + j * 2 + 1, none⟩ = some (.int .i64 f.2)
theorem CRow.keep {w w' : World} {B : Nat} {A : Option Addr} {t : List Ch} (h : CRow w B A t) (hk : ∀ p : Addr, p.block < B → w'.cell? p = w.cell? p) : CRow w' B A t := fun j x hx => by
  obtain ⟨b, o, s, h1, h2, h3, h4, h5⟩ := h j x hx
  exact ⟨b, o, s, h1, h2, h3, (hk _ h2).trans h4, (hk _ h2).trans h5⟩
theorem CRow.more {w : World} {B B' : Nat} {A : Option Addr} {t : List Ch} (h : CRow w B A t) (hB : B ≤ B') : CRow w B' A t := fun j x hx => by
  obtain ⟨b, o, s, h1, h2, h3⟩ := h j x hx
  exact ⟨b, o, s, h1, by omega, h3⟩
theorem OwnsC.row {w : World} {base : Nat} {A : Option Addr} {cap n : Nat} {t : List Ch} (h : OwnsC w base (.slice A n cap) t) : CRow w w.heap.size A t := by
  intro j x hx
  have hl := (List.getElem?_eq_some_iff.1 hx).1
  rcases h.2 with ⟨_, h0⟩ | ⟨g, cap', cur, hv, _⟩
  · omega
  · injection hv with hA
    subst hA
    have hlt := (h.lt g rfl).2
    obtain ⟨c1, c2⟩ := cellsC_at t j x hx
    have hc := h.cells (g := g) rfl (j * 2) (SV x.1) c1
    have hd := h.cells (g := g) rfl (j * 2 + 1) (.int .i64 x.2) c2
    refine ⟨g, 0, ⟨x.1.toArray⟩, rfl, hlt, by simp, ?_, ?_⟩
    · rw [show (⟨g, 0, none⟩ : Addr).add (j * 2) = ⟨g, 0 + j * 2, none⟩ from by unfold Addr.add; split <;> simp_all] at hc
      exact hc
    · rw [show (⟨g, 0, none⟩ : Addr).add (j * 2 + 1) = ⟨g, 0 + j * 2 + 1, none⟩ from by unfold Addr.add; split <;> simp_all [Nat.add_assoc]] at hd
      exact hd

/-- What a call that answers changes leaves. -/
def AnsC (w : World) (t : List Ch) (e : Ending) (w' : World) : Prop :=
  ∃ g m cap, e = .returned (.slice (some ⟨g, 0, none⟩) m cap) ∧ t.length = m ∧ OwnsC w' w.heap.size (.slice (some ⟨g, 0, none⟩) m cap) t ∧ Below w.heap.size w w'

/-- The differences of the first paths. -/
def diffTo (a b all : List Fl) (k : Nat) : List Ch := diffL a b (all.take k)
theorem diffTo_succ {a b all : List Fl} {k : Nat} {x : Fl} (hx : all[k]? = some x) : diffTo a b all (k + 1) = diffTo a b all k ++ if 0 < kindV a b x.1 then [(x.1, kindV a b x.1)] else [] := by
  unfold diffTo diffL
  rw [take_snoc all k x hx, List.map_append, List.filter_append]
  by_cases h : 0 < kindV a b x.1
  · rw [if_pos h]; simp [h]
  · rw [if_neg h]; simp [h]

theorem kind_gone {a b : List Fl} {p : Bs} (hb : get b p = none) : kindV a b p = 2 := by
  unfold kindV; rw [hb]
theorem kind_added {a b : List Fl} {p y : Bs} (ha : get a p = none) (hb : get b p = some y) : kindV a b p = 1 := by
  unfold kindV; rw [ha, hb]
theorem kind_both {a b : List Fl} {p x y : Bs} (ha : get a p = some x) (hb : get b p = some y) : kindV a b p = if x = y then 0 else 3 := by
  unfold kindV; rw [ha, hb]
/-- The files at hand: those of an argument, or a row of the call's own. -/
def LRow (w : World) (B : Nat) (A : Option Addr) (n cap : Nat) (t : List Fl) : Prop :=
  FRow w B A t ∨ ∃ g, A = some ⟨g, 0, none⟩ ∧ OwnsF w B (.slice A n cap) t
theorem LRow.row {w : World} {B n cap : Nat} {A : Option Addr} {t : List Fl} (h : LRow w B A n cap t) (hB : B ≤ w.heap.size) : FRow w w.heap.size A t := by
  rcases h with h | ⟨g, rfl, h⟩
  · exact h.more hB
  · exact h.row
theorem LRow.later {w w' : World} {B n cap B' : Nat} {A : Option Addr} {t : List Fl} (h : LRow w B A n cap t) (hb : Below B' w w') (hB : B ≤ w.heap.size) (hB' : w.heap.size ≤ B') : LRow w' B A n cap t := by
  rcases h with h | ⟨g, rfl, h⟩
  · exact .inl (h.below hb (by omega))
  · exact .inr ⟨g, rfl, h.later hb hB'⟩
theorem OwnsF.heap {w : World} {b g n cap : Nat} {t : List Fl} (h : OwnsF w b (.slice (some ⟨g, 0, none⟩) n cap) t) : ∃ cur, w.heap[g]? = some (.cells cur 29 (0, 0)) := by
  rcases h.2 with ⟨h1, _⟩ | ⟨g', c, cur, h1, _, h3, _⟩
  · cases h1
  · injection h1 with h1
    injection h1 with h1
    injection h1 with h1
    subst h1
    exact ⟨cur, h3⟩
theorem OwnsC.heap {w : World} {b g n cap : Nat} {t : List Ch} (h : OwnsC w b (.slice (some ⟨g, 0, none⟩) n cap) t) : ∃ cur, w.heap[g]? = some (.cells cur 43 (0, 0)) := by
  rcases h.2 with ⟨h1, _⟩ | ⟨g', c, cur, h1, _, h3, _⟩
  · cases h1
  · injection h1 with h1
    injection h1 with h1
    injection h1 with h1
    subst h1
    exact ⟨cur, h3⟩
theorem own_ne {w : World} {b b' g g' n n' cap cap' : Nat} {s : List Fl} {t : List Ch} (h : OwnsF w b (.slice (some ⟨g, 0, none⟩) n cap) s) (h' : OwnsC w b' (.slice (some ⟨g', 0, none⟩) n' cap') t) : g ≠ g' := by
  rintro rfl
  obtain ⟨c1, e1⟩ := h.heap
  obtain ⟨c2, e2⟩ := h'.heap
  rw [e1] at e2
  injection e2 with e2
  injection e2 with _ e2
  exact absurd e2 (by decide)
theorem LRow.grown {w w' : World} {B b n cap g q cap2 : Nat} {A : Option Addr} {t : List Fl} {l : List Ch} (h : LRow w B A n cap t) (ho : OwnsC w b (.slice (some ⟨g, 0, none⟩) q cap2) l) (hg : w.grownBy w' (some g)) (hB : B ≤ b) (hB2 : B ≤ w.heap.size) : LRow w' B A n cap t := by
  have hgb := (ho.lt g rfl).1
  rcases h with h | ⟨g1, rfl, h⟩
  · refine .inl (h.keep fun p hp => ?_)
    exact World.cell?_of_block (w := w) (hg.block p.block (by omega) (fun e => by injection e with e; omega))
  · exact .inr ⟨g1, rfl, h.kept hg (.inr (fun e => own_ne h ho (by injection e)))⟩

set_option maxRecDepth 100000 in
set_option maxHeartbeats 8000000 in
theorem refdiff_any (A A' : Option Addr) (cap cap' B n m : Nat) (a b : List Fl) (w : World) (hn : a.length = n) (hm : b.length = m) (hnm : n ≤ 40000) (hmm : m ≤ 40000) (hl : ∀ f ∈ a, f.1.length ≤ 100000) (hl' : ∀ f ∈ b, f.1.length ≤ 100000) (hx : FRow w B A a) (hy : FRow w B A' b) (hB : B ≤ w.heap.size) :
    Calls Try.prog 23 #[.slice A n cap, .slice A' m cap'] w (AnsC w (diffV a b)) := by
  obtain ⟨i0, hi, hz0, hz1, hz2⟩ := info_parts chgInfo
  obtain ⟨w0, hw0⟩ : ∃ w0, w0 = w.alloc (.cells #[] 43) := ⟨_, rfl⟩
  have hs0 : w0.heap.size = w.heap.size + 1 := by rw [hw0]; simp
  have HB0 : Hid (Below w.heap.size w w0) := by rw [hw0]; exact (Below.refl _ _).alloc (Nat.le_refl _) _
  have HX0 : Hid (FRow w0 w.heap.size A a) := by rw [hw0]; exact (hx.more hB).alloc (Nat.le_refl _) _
  have HY0 : Hid (FRow w0 w.heap.size A' b) := by rw [hw0]; exact (hy.more hB).alloc (Nat.le_refl _) _
  have ho0 : OwnsC w0 w.heap.size (.slice (some ⟨w.heap.size, 0, none⟩) 0 0) [] := by
    rw [hw0]
    exact World.ownsRow_lit (base := w.heap.size) (e := 43) (size := 2) w #[] 0 (Nat.le_refl _) (by decide) rfl
  have HO0 := Lib.hid ho0
  have HN := Lib.hid hn
  have HM := Lib.hid hm
  have HL := Lib.hid hl
  have HL' := Lib.hid hl'
  clear ho0 hx hy hn hm hl hl'
  obtain ⟨c, hc⟩ : ∃ c, tcheck a = c := ⟨_, rfl⟩
  obtain ⟨c', hc'⟩ : ∃ c, tcheck b = c := ⟨_, rfl⟩
  have HCA := Lib.hid (fun W (h : FRow W w.heap.size A a) (hW : w.heap.size ≤ W.heap.size) => refcheck_any A cap w.heap.size n a c hc W HN.out (by omega) HL.out h hW)
  have HCB := Lib.hid (fun W (h : FRow W w.heap.size A' b) (hW : w.heap.size ≤ W.heap.size) => refcheck_any A' cap' w.heap.size m b c' hc' W HM.out (by omega) HL'.out h hW)
  by_cases hc0 : c = 0
  · by_cases hc1 : c' = 0
    · subst hc0 hc1
      have HPV : Hid (diffV a b = diffL a b (allV a b)) := by
        show _ = _
        unfold diffV; rw [if_pos ⟨hc, hc'⟩]
      have HRA := Lib.hid ((tree_iff a).1 hc).2.1
      clear hc hc'
      go_enter Try.func23, Try.ntmps23
      go_wp2_with fail
      rw [← hw0]
      clear hw0
      refine (HCA.out _ HX0.out (by omega)).mono ?_
      rintro e w1 ⟨rfl, hb1⟩
      have HB1 := Lib.hid (HB0.out.trans (hb1.mono HB0.out.size))
      have HX1 := Lib.hid (HX0.out.below hb1 (by omega))
      have HY1 := Lib.hid (HY0.out.below hb1 (by omega))
      have HN1 := Lib.hid (HO0.out.later hb1 (Nat.le_refl _))
      clear hb1
      go_wp2_with fail
      refine (HCB.out _ HY1.out HB1.out.size).mono ?_
      rintro e w2 ⟨rfl, hb2⟩
      have HB2 := Lib.hid (HB1.out.trans (hb2.mono HB1.out.size))
      have HX2 := Lib.hid (HX1.out.below hb2 HB1.out.size)
      have HY2 := Lib.hid (HY1.out.below hb2 HB1.out.size)
      have HN2 := Lib.hid (HN1.out.later hb2 (Nat.le_refl _))
      clear hb2
      go_wp2_with fail
      go_loopw [6, 27] (fun v i wr => ∃ (k mm : Nat) (A1 : Option Addr) (cap1 : Nat), k ≤ m ∧ i = .int .i64 k ∧ v = .slice A1 mm cap1 ∧ mm ≤ n + k ∧ Hid ((allV a (b.take k)).length = mm) ∧ Hid (LRow wr w.heap.size A1 mm cap1 (allV a (b.take k))) ∧ Hid (FRow wr w.heap.size A a) ∧ Hid (FRow wr w.heap.size A' b) ∧ Hid (OwnsC wr w.heap.size (.slice (some ⟨w.heap.size, 0, none⟩) 0 0) []) ∧ Hid (Below w.heap.size w wr)) (fun _ i _ => m - (intOf i).toNat)
      case atStart => exact ⟨0, n, A, cap, Nat.zero_le _, rfl, rfl, Nat.le_refl _, HN.out, .inl HX2.out, HX2.out, HY2.out, HN2.out, HB2.out⟩
      case round =>
        obtain ⟨k, mm, A1, cap1, hk, rfl, rfl, hmk, HLN, HR, HX, HY, HO, HBW⟩ := hrel
        clear HX2 HY2 HN2 HB2 HX1 HY1 HN1 HB1
        by_cases hlt : k < m
        · have hki : (k : Int) < m := by omega
          have hxk : b[k]? = some (b[k]'(by rw [HM.out]; exact hlt)) := List.getElem?_eq_getElem _
          generalize b[k]'(by rw [HM.out]; exact hlt) = x at hxk
          obtain ⟨b1, o1, sp, sd, rfl, hb1, hsp, hsd, cP, cD⟩ := HY.out k x hxk
          obtain rfl : x = (sp.data.toList, sd.data.toList) := Prod.ext hsp.symm hsd.symm
          have hst : allV a (b.take (k + 1)) = withF (allV a (b.take k)) (sp.data.toList, sd.data.toList) := by rw [take_snoc b k _ hxk, allV_snoc]
          have hri := (allV_spec HRA.out (b.take k)).1
          obtain ⟨L, hL⟩ : ∃ L, allV a (b.take k) = L := ⟨_, rfl⟩
          rw [hL] at HLN HR hst hri
          have hlen := withF_len (sp.data.toList, sd.data.toList) hri
          have HW := Lib.hid (with_any A1 cap1 wr.heap.size mm L sp sd wr HLN.out (by omega) (HR.out.row HBW.out.size) (Nat.le_refl _))
          have HLE : Hid ((withF L (sp.data.toList, sd.data.toList)).length ≤ mm + 1) := by rw [← HLN.out]; exact hlen
          have HST := Lib.hid hst
          clear hst hri hlen hxk hsp hsd hL
          go_wp2_with fail
          refine HW.out.mono ?_
          rintro e w3 ⟨g, m3, cp, rfl, hm3, ho3, hb3⟩
          have hm3' : m3 ≤ mm + 1 := by have := HLE.out; omega
          have HR3 : Hid (LRow w3 w.heap.size (some ⟨g, 0, none⟩) m3 cp (withF L (sp.data.toList, sd.data.toList))) := .inr ⟨g, rfl, ho3.less HBW.out.size⟩
          have HM3 := Lib.hid hm3
          have HB3 := Lib.hid (HBW.out.trans (hb3.mono HBW.out.size))
          have HX3 := Lib.hid (HX.out.below hb3 HBW.out.size)
          have HY3 := Lib.hid (HY.out.below hb3 HBW.out.size)
          have HO3 := Lib.hid (HO.out.later hb3 (Nat.le_refl _))
          clear ho3 hb3 hm3
          go_wp2_with fail
          go_roundw
          case rel => exact ⟨k + 1, m3, _, cp, by omega, by go_num, rfl, by omega, by rw [HST.out]; exact HM3.out, by rw [HST.out]; exact HR3.out, HX3.out, HY3.out, HO3.out, HB3.out⟩
          case measure => simp [intOf]; omega
        · have hkm : k = m := by omega
          subst hkm
          have hall : b.take k = b := List.take_of_length_le (by rw [HM.out]; exact Nat.le_refl _)
          rw [hall] at HLN HR
          obtain ⟨L, hL⟩ : ∃ L, allV a b = L := ⟨_, rfl⟩
          rw [hL] at HLN HR HPV
          clear hL hall
          go_wp2_with fail
          go_loopw [5, 39] (fun v i wr => ∃ (k g q cap2 : Nat), k ≤ mm ∧ i = .int .i64 k ∧ v = .slice (some ⟨g, 0, none⟩) q cap2 ∧ q ≤ k ∧ Hid ((diffTo a b L k).length = q) ∧ Hid (OwnsC wr w.heap.size (.slice (some ⟨g, 0, none⟩) q cap2) (diffTo a b L k)) ∧ Hid (FRow wr w.heap.size A a) ∧ Hid (FRow wr w.heap.size A' b) ∧ Hid (LRow wr w.heap.size A1 mm cap1 L) ∧ Hid (Below w.heap.size w wr)) (fun _ i _ => mm - (intOf i).toNat)
          case atStart => exact ⟨0, _, 0, 0, Nat.zero_le _, rfl, rfl, Nat.le_refl _, rfl, HO.out, HX.out, HY.out, HR.out, HBW.out⟩
          case round =>
            obtain ⟨k, g, q, cap2, hk, rfl, rfl, hqk, HLQ, HOC, HX2, HY2, HR2, HB2⟩ := hrel
            clear HX HY HR HO HBW
            by_cases hlt : k < mm
            · have hki : (k : Int) < mm := by omega
              have hxk : L[k]? = some (L[k]'(by rw [HLN.out]; exact hlt)) := List.getElem?_eq_getElem _
              generalize L[k]'(by rw [HLN.out]; exact hlt) = x at hxk
              obtain ⟨b1, o1, sp, sd, rfl, hb1, hsp, hsd, cP, cD⟩ := (HR2.out.row HB2.out.size) k x hxk
              obtain rfl : x = (sp.data.toList, sd.data.toList) := Prod.ext hsp.symm hsd.symm
              have hst := diffTo_succ (a := a) (b := b) hxk
              obtain ⟨D, hD⟩ : ∃ D, diffTo a b L k = D := ⟨_, rfl⟩
              rw [hD] at HLQ HOC hst
              obtain ⟨va, hva⟩ : ∃ va, get a sp.data.toList = va := ⟨_, rfl⟩
              obtain ⟨vb, hvb⟩ : ∃ vb, get b sp.data.toList = vb := ⟨_, rfl⟩
              obtain ⟨X, hX⟩ : ∃ X : ByteArray, X = ⟨(va.getD []).toArray⟩ := ⟨_, rfl⟩
              obtain ⟨Y, hY⟩ : ∃ Y : ByteArray, Y = ⟨(vb.getD []).toArray⟩ := ⟨_, rfl⟩
              have HGA := Lib.hid (fun W (h : FRow W w.heap.size A a) => refget_any A cap w.heap.size n a sp X va.isSome (by rw [hva, hX]) (by rw [hva]) W HN.out (by omega) h)
              have HGB := Lib.hid (fun W (h : FRow W w.heap.size A' b) => refget_any A' cap' w.heap.size _ b sp Y vb.isSome (by rw [hvb, hY]) (by rw [hvb]) W HM.out (by omega) h)
              clear hxk hsp hsd hD
              cases vb with
              | none =>
                rw [kind_gone hvb] at hst
                clear hva hvb
                have HST : Hid (diffTo a b L (k + 1) = D ++ [(sp.data.toList, 2)]) := by show _ = _; rw [hst, if_pos (by omega)]
                clear hst hX hY
                go_wp2_with fail
                refine (HGA.out _ HX2.out).mono ?_
                rintro e w4 ⟨rfl, d4, rfl⟩
                go_wp2_with fail
                refine (HGB.out _ (HY2.out.drewN d4)).mono ?_
                rintro e w5 ⟨rfl, d5, hw5⟩
                have HB5 : Hid (Below w.heap.size w w5) := by rw [hw5]; exact below_drewN (below_drewN HB2.out _) _
                have HX5 : Hid (FRow w5 w.heap.size A a) := by rw [hw5]; exact HX2
                have HY5 : Hid (FRow w5 w.heap.size A' b) := by rw [hw5]; exact HY2
                have HR5 : Hid (LRow w5 w.heap.size (some ⟨b1, o1, none⟩) mm cap1 L) := by rw [hw5]; exact HR2
                have HOC5 : Hid (OwnsC w5 w.heap.size (.slice (some ⟨g, 0, none⟩) q cap2) D) := by rw [hw5]; exact HOC
                have cP5 : w5.cell? ⟨b1, o1 + k * 2, none⟩ = some (.string sp) := by rw [hw5]; exact cP
                have hw5s : wr.heap.size = w5.heap.size := by rw [hw5]; rfl
                clear hw5
                have HB6 : Hid (Below w.heap.size w (w5.alloc (.cells #[.string sp, .int .i64 2] 43))) := HB5.out.alloc HB5.out.size _
                have HA6 : Hid (Below w5.heap.size w5 (w5.alloc (.cells #[.string sp, .int .i64 2] 43))) := (Below.refl _ _).alloc (Nat.le_refl _) _
                have HO6 : Hid (OwnsC (w5.alloc (.cells #[.string sp, .int .i64 2] 43)) w.heap.size (.slice (some ⟨g, 0, none⟩) q cap2) D) := HOC5.out.alloc' _
                go_wp2_with (at_builtin; refine wpList_append_own _ rfl _ _ 40 rfl (w.heap.size) 43 i0 (.agg #[.string ⟨#[]⟩, .int .i64 0]) 2 24 Try.underlying40 hi hz0 hz1 hz2 rfl (by decide) _ q (cellsC (D)) rfl ?c0k2 ⟨w5.heap.size + 1, 0, none⟩ 1 1 [.string sp, .int .i64 2] rfl rfl ?c1k2 ?c2k2 ?c3k2 ?c4k2 ?c5k2 ?_)
                case c0k2 => have := HO6.out.alloc' (.cells #[.string sp, .int .i64 2] 43); unfold OwnsC at this; rw [HLQ.out] at this; exact this
                case c2k2 => intro u hu; simp only [List.mem_cons, List.mem_nil_iff, or_false] at hu; rcases hu with rfl | rfl <;> rfl
                case c3k2 => simp only [maxLen]; omega
                case c4k2 => omega
                case c5k2 => have := HB6.out.size; simp at this ⊢; omega
                · rintro (_ | _ | j) u hj
                  · simp only [List.getElem?_cons_zero, Option.some.injEq] at hj
                    subst hj
                    simp [Addr.add]
                  · simp only [List.getElem?_cons_succ, List.getElem?_cons_zero, Option.some.injEq] at hj
                    subst hj
                    simp [Addr.add]
                  · simp at hj
                intro v' w7 hown' hgrow _
                obtain ⟨g7, cap7, rfl, _, _⟩ := hown'.form (by omega)
                have HW7 := Lib.hid ((HB6.out.alloc (by have := HB6.out.size; simp at this ⊢; omega) _).grown hgrow (by have := HB6.out.size; simp at this ⊢; omega) (fun q hq => (HO6.out.lt q hq).1))
                have HLN7 : Hid ((D ++ [(sp.data.toList, 2)]).length = q + 1) := by show _ = _; rw [List.length_append, HLQ.out]; rfl
                have HO7 : Hid (OwnsC w7 (w.heap.size) (.slice (some ⟨g7, 0, none⟩) (q + 1) cap7) (D ++ [(sp.data.toList, 2)])) := by
                  show OwnsC _ _ _ _
                  unfold OwnsC
                  rw [HLN7.out, cellsC_append]
                  simp only [SV_str] at hown'
                  exact hown'
                have HG7 := Lib.hid hgrow
                clear hown' hgrow
                have HA7 : Hid (Below w5.heap.size w5 ((w5.alloc (.cells #[.string sp, .int .i64 2] 43)).alloc (.cells #[.string sp, .int .i64 2] 43))) := HA6.out.alloc (by simp) _
                have HX7 := Lib.hid (HX5.out.keep (w' := w7) fun p hp => (HW7.out.cell hp).trans (HB5.out.cell hp).symm)
                have HY7 := Lib.hid (HY5.out.keep (w' := w7) fun p hp => (HW7.out.cell hp).trans (HB5.out.cell hp).symm)
                have HR7 : Hid (LRow w7 w.heap.size (some ⟨b1, o1, none⟩) mm cap1 L) := by
                  refine ((HR5.out.later HA7.out HB5.out.size (Nat.le_refl _)).grown ((HO6.out.alloc' _)) HG7.out (Nat.le_refl _) ?_)
                  have := HB5.out.size
                  simp
                  omega
                go_wp2
                go_roundw
                case rel => exact ⟨k + 1, g7, q + 1, cap7, by omega, by go_num, rfl, by omega, by rw [HST.out]; exact HLN7.out, by rw [HST.out]; exact HO7.out, HX7.out, HY7.out, HR7.out, HW7.out⟩
                case measure => simp [intOf]; omega
              | some y =>
                cases va with
                | none =>
                  rw [kind_added hva hvb] at hst
                  clear hva hvb
                  have HST : Hid (diffTo a b L (k + 1) = D ++ [(sp.data.toList, 1)]) := by show _ = _; rw [hst, if_pos (by omega)]
                  clear hst hX hY
                  go_wp2_with fail
                  refine (HGA.out _ HX2.out).mono ?_
                  rintro e w4 ⟨rfl, d4, rfl⟩
                  go_wp2_with fail
                  refine (HGB.out _ (HY2.out.drewN d4)).mono ?_
                  rintro e w5 ⟨rfl, d5, hw5⟩
                  have HB5 : Hid (Below w.heap.size w w5) := by rw [hw5]; exact below_drewN (below_drewN HB2.out _) _
                  have HX5 : Hid (FRow w5 w.heap.size A a) := by rw [hw5]; exact HX2
                  have HY5 : Hid (FRow w5 w.heap.size A' b) := by rw [hw5]; exact HY2
                  have HR5 : Hid (LRow w5 w.heap.size (some ⟨b1, o1, none⟩) mm cap1 L) := by rw [hw5]; exact HR2
                  have HOC5 : Hid (OwnsC w5 w.heap.size (.slice (some ⟨g, 0, none⟩) q cap2) D) := by rw [hw5]; exact HOC
                  have cP5 : w5.cell? ⟨b1, o1 + k * 2, none⟩ = some (.string sp) := by rw [hw5]; exact cP
                  have hw5s : wr.heap.size = w5.heap.size := by rw [hw5]; rfl
                  clear hw5
                  have HB6 : Hid (Below w.heap.size w (w5.alloc (.cells #[.string sp, .int .i64 1] 43))) := HB5.out.alloc HB5.out.size _
                  have HA6 : Hid (Below w5.heap.size w5 (w5.alloc (.cells #[.string sp, .int .i64 1] 43))) := (Below.refl _ _).alloc (Nat.le_refl _) _
                  have HO6 : Hid (OwnsC (w5.alloc (.cells #[.string sp, .int .i64 1] 43)) w.heap.size (.slice (some ⟨g, 0, none⟩) q cap2) D) := HOC5.out.alloc' _
                  go_wp2_with (at_builtin; refine wpList_append_own _ rfl _ _ 40 rfl (w.heap.size) 43 i0 (.agg #[.string ⟨#[]⟩, .int .i64 0]) 2 24 Try.underlying40 hi hz0 hz1 hz2 rfl (by decide) _ q (cellsC (D)) rfl ?c0k1 ⟨w5.heap.size + 1, 0, none⟩ 1 1 [.string sp, .int .i64 1] rfl rfl ?c1k1 ?c2k1 ?c3k1 ?c4k1 ?c5k1 ?_)
                  case c0k1 => have := HO6.out.alloc' (.cells #[.string sp, .int .i64 1] 43); unfold OwnsC at this; rw [HLQ.out] at this; exact this
                  case c2k1 => intro u hu; simp only [List.mem_cons, List.mem_nil_iff, or_false] at hu; rcases hu with rfl | rfl <;> rfl
                  case c3k1 => simp only [maxLen]; omega
                  case c4k1 => omega
                  case c5k1 => have := HB6.out.size; simp at this ⊢; omega
                  · rintro (_ | _ | j) u hj
                    · simp only [List.getElem?_cons_zero, Option.some.injEq] at hj
                      subst hj
                      simp [Addr.add]
                    · simp only [List.getElem?_cons_succ, List.getElem?_cons_zero, Option.some.injEq] at hj
                      subst hj
                      simp [Addr.add]
                    · simp at hj
                  intro v' w7 hown' hgrow _
                  obtain ⟨g7, cap7, rfl, _, _⟩ := hown'.form (by omega)
                  have HW7 := Lib.hid ((HB6.out.alloc (by have := HB6.out.size; simp at this ⊢; omega) _).grown hgrow (by have := HB6.out.size; simp at this ⊢; omega) (fun q hq => (HO6.out.lt q hq).1))
                  have HLN7 : Hid ((D ++ [(sp.data.toList, 1)]).length = q + 1) := by show _ = _; rw [List.length_append, HLQ.out]; rfl
                  have HO7 : Hid (OwnsC w7 (w.heap.size) (.slice (some ⟨g7, 0, none⟩) (q + 1) cap7) (D ++ [(sp.data.toList, 1)])) := by
                    show OwnsC _ _ _ _
                    unfold OwnsC
                    rw [HLN7.out, cellsC_append]
                    simp only [SV_str] at hown'
                    exact hown'
                  have HG7 := Lib.hid hgrow
                  clear hown' hgrow
                  have HA7 : Hid (Below w5.heap.size w5 ((w5.alloc (.cells #[.string sp, .int .i64 1] 43)).alloc (.cells #[.string sp, .int .i64 1] 43))) := HA6.out.alloc (by simp) _
                  have HX7 := Lib.hid (HX5.out.keep (w' := w7) fun p hp => (HW7.out.cell hp).trans (HB5.out.cell hp).symm)
                  have HY7 := Lib.hid (HY5.out.keep (w' := w7) fun p hp => (HW7.out.cell hp).trans (HB5.out.cell hp).symm)
                  have HR7 : Hid (LRow w7 w.heap.size (some ⟨b1, o1, none⟩) mm cap1 L) := by
                    refine ((HR5.out.later HA7.out HB5.out.size (Nat.le_refl _)).grown ((HO6.out.alloc' _)) HG7.out (Nat.le_refl _) ?_)
                    have := HB5.out.size
                    simp
                    omega
                  go_wp2
                  go_roundw
                  case rel => exact ⟨k + 1, g7, q + 1, cap7, by omega, by go_num, rfl, by omega, by rw [HST.out]; exact HLN7.out, by rw [HST.out]; exact HO7.out, HX7.out, HY7.out, HR7.out, HW7.out⟩
                  case measure => simp [intOf]; omega
                | some x =>
                  rw [kind_both hva hvb] at hst
                  by_cases hxy : x = y
                  · have hXY : (X.toList == Y.toList) = true := by rw [ByteArray.toList_eq, ByteArray.toList_eq, hX, hY]; simp [hxy]
                    rw [if_pos hxy] at hst
                    clear hva hvb hxy
                    have HST : Hid (diffTo a b L (k + 1) = D) := by show _ = _; rw [hst, if_neg (by omega), List.append_nil]
                    clear hst hX hY
                    go_wp2_with fail
                    refine (HGA.out _ HX2.out).mono ?_
                    rintro e w4 ⟨rfl, d4, rfl⟩
                    go_wp2_with fail
                    refine (HGB.out _ (HY2.out.drewN d4)).mono ?_
                    rintro e w5 ⟨rfl, d5, hw5⟩
                    have HB5 : Hid (Below w.heap.size w w5) := by rw [hw5]; exact below_drewN (below_drewN HB2.out _) _
                    have HX5 : Hid (FRow w5 w.heap.size A a) := by rw [hw5]; exact HX2
                    have HY5 : Hid (FRow w5 w.heap.size A' b) := by rw [hw5]; exact HY2
                    have HR5 : Hid (LRow w5 w.heap.size (some ⟨b1, o1, none⟩) mm cap1 L) := by rw [hw5]; exact HR2
                    have HOC5 : Hid (OwnsC w5 w.heap.size (.slice (some ⟨g, 0, none⟩) q cap2) D) := by rw [hw5]; exact HOC
                    have cP5 : w5.cell? ⟨b1, o1 + k * 2, none⟩ = some (.string sp) := by rw [hw5]; exact cP
                    have hw5s : wr.heap.size = w5.heap.size := by rw [hw5]; rfl
                    clear hw5
                    have HB6 : Hid (Below w.heap.size w (w5.alloc (.cells #[.string sp, .int .i64 0] 43))) := HB5.out.alloc HB5.out.size _
                    have HA6 : Hid (Below w5.heap.size w5 (w5.alloc (.cells #[.string sp, .int .i64 0] 43))) := (Below.refl _ _).alloc (Nat.le_refl _) _
                    have HO6 : Hid (OwnsC (w5.alloc (.cells #[.string sp, .int .i64 0] 43)) w.heap.size (.slice (some ⟨g, 0, none⟩) q cap2) D) := HOC5.out.alloc' _
                    go_wp2
                    have HX7 := Lib.hid (HX5.out.below HA6.out HB5.out.size)
                    have HY7 := Lib.hid (HY5.out.below HA6.out HB5.out.size)
                    have HR7 := Lib.hid (HR5.out.later HA6.out HB5.out.size (Nat.le_refl _))
                    go_roundw
                    case rel => exact ⟨k + 1, g, q, cap2, by omega, by go_num, rfl, by omega, by rw [HST.out]; exact HLQ.out, by rw [HST.out]; exact HO6.out, HX7.out, HY7.out, HR7.out, HB6.out⟩
                    case measure => simp [intOf]; omega
                  · have hXY : (X.toList == Y.toList) = false := by rw [ByteArray.toList_eq, ByteArray.toList_eq, hX, hY]; simp [hxy]
                    rw [if_neg hxy] at hst
                    clear hva hvb hxy
                    have HST : Hid (diffTo a b L (k + 1) = D ++ [(sp.data.toList, 3)]) := by show _ = _; rw [hst, if_pos (by omega)]
                    clear hst hX hY
                    go_wp2_with fail
                    refine (HGA.out _ HX2.out).mono ?_
                    rintro e w4 ⟨rfl, d4, rfl⟩
                    go_wp2_with fail
                    refine (HGB.out _ (HY2.out.drewN d4)).mono ?_
                    rintro e w5 ⟨rfl, d5, hw5⟩
                    have HB5 : Hid (Below w.heap.size w w5) := by rw [hw5]; exact below_drewN (below_drewN HB2.out _) _
                    have HX5 : Hid (FRow w5 w.heap.size A a) := by rw [hw5]; exact HX2
                    have HY5 : Hid (FRow w5 w.heap.size A' b) := by rw [hw5]; exact HY2
                    have HR5 : Hid (LRow w5 w.heap.size (some ⟨b1, o1, none⟩) mm cap1 L) := by rw [hw5]; exact HR2
                    have HOC5 : Hid (OwnsC w5 w.heap.size (.slice (some ⟨g, 0, none⟩) q cap2) D) := by rw [hw5]; exact HOC
                    have cP5 : w5.cell? ⟨b1, o1 + k * 2, none⟩ = some (.string sp) := by rw [hw5]; exact cP
                    have hw5s : wr.heap.size = w5.heap.size := by rw [hw5]; rfl
                    clear hw5
                    have HB6 : Hid (Below w.heap.size w (w5.alloc (.cells #[.string sp, .int .i64 3] 43))) := HB5.out.alloc HB5.out.size _
                    have HA6 : Hid (Below w5.heap.size w5 (w5.alloc (.cells #[.string sp, .int .i64 3] 43))) := (Below.refl _ _).alloc (Nat.le_refl _) _
                    have HO6 : Hid (OwnsC (w5.alloc (.cells #[.string sp, .int .i64 3] 43)) w.heap.size (.slice (some ⟨g, 0, none⟩) q cap2) D) := HOC5.out.alloc' _
                    go_wp2_with (at_builtin; refine wpList_append_own _ rfl _ _ 40 rfl (w.heap.size) 43 i0 (.agg #[.string ⟨#[]⟩, .int .i64 0]) 2 24 Try.underlying40 hi hz0 hz1 hz2 rfl (by decide) _ q (cellsC (D)) rfl ?c0k3 ⟨w5.heap.size + 1, 0, none⟩ 1 1 [.string sp, .int .i64 3] rfl rfl ?c1k3 ?c2k3 ?c3k3 ?c4k3 ?c5k3 ?_)
                    case c0k3 => have := HO6.out.alloc' (.cells #[.string sp, .int .i64 3] 43); unfold OwnsC at this; rw [HLQ.out] at this; exact this
                    case c2k3 => intro u hu; simp only [List.mem_cons, List.mem_nil_iff, or_false] at hu; rcases hu with rfl | rfl <;> rfl
                    case c3k3 => simp only [maxLen]; omega
                    case c4k3 => omega
                    case c5k3 => have := HB6.out.size; simp at this ⊢; omega
                    · rintro (_ | _ | j) u hj
                      · simp only [List.getElem?_cons_zero, Option.some.injEq] at hj
                        subst hj
                        simp [Addr.add]
                      · simp only [List.getElem?_cons_succ, List.getElem?_cons_zero, Option.some.injEq] at hj
                        subst hj
                        simp [Addr.add]
                      · simp at hj
                    intro v' w7 hown' hgrow _
                    obtain ⟨g7, cap7, rfl, _, _⟩ := hown'.form (by omega)
                    have HW7 := Lib.hid ((HB6.out.alloc (by have := HB6.out.size; simp at this ⊢; omega) _).grown hgrow (by have := HB6.out.size; simp at this ⊢; omega) (fun q hq => (HO6.out.lt q hq).1))
                    have HLN7 : Hid ((D ++ [(sp.data.toList, 3)]).length = q + 1) := by show _ = _; rw [List.length_append, HLQ.out]; rfl
                    have HO7 : Hid (OwnsC w7 (w.heap.size) (.slice (some ⟨g7, 0, none⟩) (q + 1) cap7) (D ++ [(sp.data.toList, 3)])) := by
                      show OwnsC _ _ _ _
                      unfold OwnsC
                      rw [HLN7.out, cellsC_append]
                      simp only [SV_str] at hown'
                      exact hown'
                    have HG7 := Lib.hid hgrow
                    clear hown' hgrow
                    have HA7 : Hid (Below w5.heap.size w5 ((w5.alloc (.cells #[.string sp, .int .i64 3] 43)).alloc (.cells #[.string sp, .int .i64 3] 43))) := HA6.out.alloc (by simp) _
                    have HX7 := Lib.hid (HX5.out.keep (w' := w7) fun p hp => (HW7.out.cell hp).trans (HB5.out.cell hp).symm)
                    have HY7 := Lib.hid (HY5.out.keep (w' := w7) fun p hp => (HW7.out.cell hp).trans (HB5.out.cell hp).symm)
                    have HR7 : Hid (LRow w7 w.heap.size (some ⟨b1, o1, none⟩) mm cap1 L) := by
                      refine ((HR5.out.later HA7.out HB5.out.size (Nat.le_refl _)).grown ((HO6.out.alloc' _)) HG7.out (Nat.le_refl _) ?_)
                      have := HB5.out.size
                      simp
                      omega
                    go_wp2
                    go_roundw
                    case rel => exact ⟨k + 1, g7, q + 1, cap7, by omega, by go_num, rfl, by omega, by rw [HST.out]; exact HLN7.out, by rw [HST.out]; exact HO7.out, HX7.out, HY7.out, HR7.out, HW7.out⟩
                    case measure => simp [intOf]; omega
            · obtain rfl : k = mm := by omega
              have hall : diffTo a b L k = diffL a b L := by unfold diffTo; rw [List.take_of_length_le (by rw [HLN.out]; exact Nat.le_refl _)]
              rw [hall] at HLQ HOC
              go_wp2
              go_ret
              unfold AnsC
              rw [HPV.out]
              exact ⟨g, q, cap2, rfl, HLQ.out, HOC.out, HB2.out⟩
    · have HPV : Hid (diffV a b = []) := by
        show _ = _
        unfold diffV; rw [if_neg (fun h => hc1 (hc'.symm.trans h.2))]
      have h2i : ((c' : Int) != 0) = true := by simp; omega
      subst hc0
      clear hc hc'
      go_enter Try.func23, Try.ntmps23
      go_wp2_with fail
      rw [← hw0]
      clear hw0
      refine (HCA.out _ HX0.out (by omega)).mono ?_
      rintro e w1 ⟨rfl, hb1⟩
      have HB1 := Lib.hid (HB0.out.trans (hb1.mono HB0.out.size))
      have HY1 := Lib.hid (HY0.out.below hb1 (by omega))
      have HN1 := Lib.hid (HO0.out.later hb1 (Nat.le_refl _))
      clear hb1
      go_wp2_with fail
      refine (HCB.out _ HY1.out HB1.out.size).mono ?_
      rintro e w2 ⟨rfl, hb2⟩
      have HB2 := Lib.hid (HB1.out.trans (hb2.mono HB1.out.size))
      have HN2 := Lib.hid (HN1.out.later hb2 (Nat.le_refl _))
      clear hb2
      go_wp2_with fail
      go_ret
      unfold AnsC
      rw [HPV.out]
      exact ⟨_, 0, 0, rfl, rfl, HN2.out, HB2.out⟩
  · have HPV : Hid (diffV a b = []) := by
      show _ = _
      unfold diffV; rw [hc, if_neg (fun h => hc0 h.1)]
    have h2i : ((c : Int) != 0) = true := by simp; omega
    clear hc
    go_enter Try.func23, Try.ntmps23
    go_wp2_with fail
    rw [← hw0]
    clear hw0
    refine (HCA.out _ HX0.out (by omega)).mono ?_
    rintro e w1 ⟨rfl, hb1⟩
    have HB1 := Lib.hid (HB0.out.trans (hb1.mono HB0.out.size))
    have HN1 := Lib.hid (HO0.out.later hb1 (Nat.le_refl _))
    clear hb1
    go_wp2_with fail
    go_ret
    unfold AnsC
    rw [HPV.out]
    exact ⟨_, 0, 0, rfl, rfl, HN1.out, HB1.out⟩
end Tr
end Go.Proofs.Ytkldgfdfpanelaa
