/-
  Layer 5 (tree): the walk of the document's Put.
-/
import Derived.Test.YtkldgfdfpanelaaTD
namespace Go.Proofs.Ytkldgfdfpanelaa
namespace Tr
open Go.RowKit Go.ChangeShapes Pt

/-- What a call that answers files leaves. -/
def AnsF (w : World) (t : List Fl) (e : Ending) (w' : World) : Prop :=
  ∃ g m cap, e = .returned (.slice (some ⟨g, 0, none⟩) m cap) ∧ t.length = m ∧ OwnsF w' w.heap.size (.slice (some ⟨g, 0, none⟩) m cap) t ∧ Below w.heap.size w w'

theorem OwnsF.later {w w' : World} {b : Nat} {g n cap : Nat} {t : List Fl} (h : OwnsF w b (.slice (some ⟨g, 0, none⟩) n cap) t) {B : Nat} (hb : Below B w w') (hB : w.heap.size ≤ B) : OwnsF w' b (.slice (some ⟨g, 0, none⟩) n cap) t := by
  refine ⟨h.1, h.2.imp id ?_⟩
  rintro ⟨g', c, cur, h1, h2, h3, h4⟩
  injection h1 with h1
  injection h1 with h1
  injection h1 with h1
  subst h1
  have hlt : g < w.heap.size := by
    rcases Nat.lt_or_ge g w.heap.size with h5 | h5
    · exact h5
    · rw [Array.getElem?_eq_none h5] at h3; cases h3
  exact ⟨g, c, cur, by simp_all, h2, (hb.block g (by omega)).trans h3, h4⟩

set_option maxRecDepth 100000 in
set_option maxHeartbeats 4000000 in
theorem refput_any (A : Option Addr) (cap B n : Nat) (t : List Fl) (s d : ByteArray) (w : World) (hn : t.length = n) (hnm : n ≤ 90000) (hl : ∀ f ∈ t, f.1.length ≤ 100000) (hs : s.size ≤ 100000) (hx : FRow w B A t) (hB : B ≤ w.heap.size) :
    Calls Try.prog 15 #[.slice A n cap, .agg #[.string s, .string d]] w (AnsF w (putV t (s.data.toList, d.data.toList))) := by
  obtain ⟨w0, hw0⟩ : ∃ w0, w0 = (w.alloc (.cells #[.string s, .string d] 29)).alloc (.cells #[] 29) := ⟨_, rfl⟩
  have hs0 : w0.heap.size = w.heap.size + 2 := by rw [hw0]; simp
  have HB0 : Hid (Below w.heap.size w w0) := by rw [hw0]; exact ((Below.refl _ _).alloc (Nat.le_refl _) _).alloc (by simp) _
  have HX0 : Hid (FRow w0 w.heap.size A t) := by rw [hw0]; exact ((hx.more hB).alloc (Nat.le_refl _) _).alloc (by simp) _
  have HC0 : Hid (w0.cell? ⟨w.heap.size, 0, none⟩ = some (.string s)) := by show _ = _; rw [hw0]; simp
  have HC1 : Hid (w0.cell? ⟨w.heap.size, 1, none⟩ = some (.string d)) := by show _ = _; rw [hw0]; simp
  have ho0 : OwnsF w0 w.heap.size (.slice (some ⟨w.heap.size + 1, 0, none⟩) 0 0) [] := by
    have := World.ownsRow_lit (base := w.heap.size) (e := 29) (size := 2) (w.alloc (.cells #[.string s, .string d] 29)) #[] 0 (by simp) (by decide) rfl
    rw [hw0]
    simp only [World.size_alloc] at this
    exact this
  have HO0 := Lib.hid ho0
  have HN := Lib.hid hn
  have HL := Lib.hid hl
  clear ho0 hx hn hl
  obtain ⟨c, hc⟩ : ∃ c, tcheck t = c := ⟨_, rfl⟩
  have HCH := Lib.hid (fun W (h : FRow W w.heap.size A t) (hW : w.heap.size ≤ W.heap.size) => refcheck_any A cap w.heap.size n t c hc W HN.out (by omega) HL.out h hW)
  by_cases hc0 : c = 0
  · subst hc0
    obtain ⟨q, hq⟩ : ∃ q, withF t (s.data.toList, d.data.toList) = q := ⟨_, rfl⟩
    have HW := Lib.hid (fun W (h : FRow W w.heap.size A t) (hW : w.heap.size ≤ W.heap.size) => with_any A cap w.heap.size n t s d W HN.out (by omega) h hW)
    rw [hq] at HW
    obtain ⟨c2, hc2⟩ : ∃ c2, tcheck q = c2 := ⟨_, rfl⟩
    have hrise := ((tree_iff t).1 hc).2.1
    have hql : ∀ f ∈ q, f.1.length ≤ 100000 := fun f hf => by
      rw [← hq] at hf
      rcases (withF_mem _ hrise f).1 hf with rfl | ⟨h, _⟩
      · show s.data.toList.length ≤ _; rw [data_length]; exact hs
      · exact HL.out f h
    have hqn : q.length ≤ n + 1 := by rw [← hq, ← HN.out]; exact withF_len _ hrise
    have HQL := Lib.hid hql
    have HPV : Hid (putV t (s.data.toList, d.data.toList) = if c2 = 0 then q else []) := by
      show _ = _
      unfold putV; rw [hc, hq, hc2]; simp
    have HC2 := Lib.hid (fun W g m cp (hm : q.length = m) (h : FRow W W.heap.size (some ⟨g, 0, none⟩) q) => refcheck_any (some ⟨g, 0, none⟩) cp W.heap.size m q c2 hc2 W hm (by omega) hql h (Nat.le_refl _))
    clear hc hq hc2 hrise hql
    go_enter Try.func15, Try.ntmps15
    go_wp2_with fail
    rw [← hw0]
    clear hw0
    refine (HCH.out _ HX0.out (by omega)).mono ?_
    rintro e w1 ⟨rfl, hb1⟩
    have HB1 := Lib.hid (HB0.out.trans (hb1.mono HB0.out.size))
    have HX1 := Lib.hid (HX0.out.below hb1 (by omega))
    have hs1 : w.heap.size + 2 ≤ w1.heap.size := by have := hb1.size; omega
    have hc1 : w1.cell? ⟨w.heap.size, 0, none⟩ = some (.string s) := (hb1.cell (p := ⟨w.heap.size, 0, none⟩) (by show w.heap.size < _; omega)).trans HC0.out
    have hd1 : w1.cell? ⟨w.heap.size, 1, none⟩ = some (.string d) := (hb1.cell (p := ⟨w.heap.size, 1, none⟩) (by show w.heap.size < _; omega)).trans HC1.out
    have HN1 := Lib.hid (HO0.out.later hb1 (Nat.le_refl _))
    clear hb1
    go_wp2_with fail
    refine (HW.out _ HX1.out (by omega)).mono ?_
    rintro e w2 ⟨g, m, cp, rfl, hm, ho2, hb2⟩
    have HB2 := Lib.hid (HB1.out.trans (hb2.mono HB1.out.size))
    have HN2 := Lib.hid (HN1.out.later hb2 (Nat.le_refl _))
    have HQ2 := Lib.hid (HC2.out w2 g m cp hm ho2.row)
    have HO2 := Lib.hid (ho2.less HB1.out.size)
    have HM := Lib.hid hm
    clear hb2 ho2 hm
    go_wp2_with fail
    refine HQ2.out.mono ?_
    rintro e w3 ⟨rfl, hb3⟩
    have HB3 := Lib.hid (HB2.out.trans (hb3.mono HB2.out.size))
    have HN3 := Lib.hid (HN2.out.later hb3 (Nat.le_refl _))
    have HO3 := Lib.hid (HO2.out.later hb3 (Nat.le_refl _))
    clear hb3
    by_cases h2 : c2 = 0
    · have h2i : ((c2 : Int) != 0) = false := by subst h2; rfl
      rw [if_pos h2] at HPV
      go_wp2_with fail
      go_ret
      unfold AnsF
      rw [HPV.out]
      exact ⟨g, m, cp, rfl, HM.out, HO3.out, HB3.out⟩
    · have h2i : ((c2 : Int) != 0) = true := by simp; omega
      rw [if_neg h2] at HPV
      go_wp2_with fail
      go_ret
      unfold AnsF
      rw [HPV.out]
      exact ⟨_, 0, 0, rfl, rfl, HN3.out, HB3.out⟩
  · have HPV : Hid (putV t (s.data.toList, d.data.toList) = []) := by
      show _ = _
      unfold putV; rw [hc, if_neg hc0]
    have h2i : ((c : Int) != 0) = true := by simp; omega
    clear hc
    go_enter Try.func15, Try.ntmps15
    go_wp2_with fail
    rw [← hw0]
    clear hw0
    refine (HCH.out _ HX0.out (by omega)).mono ?_
    rintro e w1 ⟨rfl, hb1⟩
    have HB1 := Lib.hid (HB0.out.trans (hb1.mono HB0.out.size))
    have HN1 := Lib.hid (HO0.out.later hb1 (Nat.le_refl _))
    clear hb1
    go_wp2_with fail
    go_ret
    unfold AnsF
    rw [HPV.out]
    exact ⟨_, 0, 0, rfl, rfl, HN1.out, HB1.out⟩
end Tr
end Go.Proofs.Ytkldgfdfpanelaa
