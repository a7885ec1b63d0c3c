/-
  Layer 5 (tree): rows of files that a call has made, and the walk of the document's with.
-/
import Derived.Test.YtkldgfdfpanelaaTC
namespace Go.Proofs.Ytkldgfdfpanelaa
namespace Tr
open Go.RowKit Go.ChangeShapes Pt

theorem fileInfo : (Try.prog.info? 29).map (fun i => (i.zero, i.size, i.bytes)) = some (some (.agg #[.string ⟨#[]⟩, .string ⟨#[]⟩]), 2, 32) := by kernel_rfl

def cellsF : List Fl → List Value
  | [] => []
  | f :: t => SV f.1 :: SV f.2 :: cellsF t
theorem cellsF_length : ∀ t : List Fl, (cellsF t).length = t.length * 2
  | [] => rfl
  | f :: t => by
    have := cellsF_length t
    simp only [cellsF, List.length_cons]
    omega
theorem cellsF_append : ∀ s t : List Fl, cellsF (s ++ t) = cellsF s ++ cellsF t
  | [], t => rfl
  | f :: s, t => by
    simp only [cellsF, List.cons_append, cellsF_append s t]
theorem cellsF_at : ∀ (t : List Fl) (j : Nat) (f : Fl), t[j]? = some f → (cellsF t)[j * 2]? = some (SV f.1) ∧ (cellsF t)[j * 2 + 1]? = some (SV f.2)
  | [], j, f, h => by simp at h
  | g :: t, 0, f, h => by
    injection h with h
    subst h
    exact ⟨rfl, rfl⟩
  | g :: t, j + 1, f, h => by
    have h2 := cellsF_at t j f h
    rw [show (j + 1) * 2 = j * 2 + 1 + 1 by omega]
    exact h2

/-- A row of files that a call has made. -/
def OwnsF (w : World) (base : Nat) (v : Value) (t : List Fl) : Prop := w.ownsRow base 29 2 v t.length (cellsF t)

theorem OwnsF.nil (w : World) (base : Nat) : OwnsF w base (.slice none 0 0) [] := World.ownsRow_nil _ _ _ _
theorem OwnsF.form {w : World} {base : Nat} {v : Value} {t : List Fl} (h : OwnsF w base v t) : ∃ A cap, v = .slice A t.length cap := by
  rcases h.2 with ⟨hv, h0⟩ | ⟨g, cap, cur, hv, _⟩
  · exact ⟨none, 0, by rw [hv, h0]⟩
  · exact ⟨_, _, hv⟩
theorem OwnsF.row {w : World} {base : Nat} {A : Option Addr} {cap n : Nat} {t : List Fl} (h : OwnsF w base (.slice A n cap) t) : FRow w w.heap.size A t := by
  intro j x hx
  have hl := (List.getElem?_eq_some_iff.1 hx).1
  rcases h.2 with ⟨_, h0⟩ | ⟨g, cap', cur, hv, _⟩
  · omega
  · injection hv with hA
    subst hA
    have hlt := (h.lt g rfl).2
    obtain ⟨c1, c2⟩ := cellsF_at t j x hx
    have hc := h.cells (g := g) rfl (j * 2) (SV x.1) c1
    have hd := h.cells (g := g) rfl (j * 2 + 1) (SV x.2) c2
    refine ⟨g, 0, ⟨x.1.toArray⟩, ⟨x.2.toArray⟩, rfl, hlt, by simp, by simp, ?_, ?_⟩
    · rw [show (⟨g, 0, none⟩ : Addr).add (j * 2) = ⟨g, 0 + j * 2, none⟩ from by unfold Addr.add; split <;> simp_all] at hc
      exact hc
    · rw [show (⟨g, 0, none⟩ : Addr).add (j * 2 + 1) = ⟨g, 0 + j * 2 + 1, none⟩ from by unfold Addr.add; split <;> simp_all [Nat.add_assoc]] at hd
      exact hd

theorem OwnsF.alloc' {w : World} {base : Nat} {v : Value} {t : List Fl} (h : OwnsF w base v t) (o : Obj) : OwnsF (w.alloc o) base v t := World.ownsRow.alloc h o
theorem OwnsF.less {w : World} {b b' : Nat} {v : Value} {t : List Fl} (h : OwnsF w b v t) (hb : b' ≤ b) : OwnsF w b' v t := by
  refine ⟨h.1, h.2.imp id ?_⟩
  rintro ⟨g, cap, cur, h1, h2, h3⟩
  exact ⟨g, cap, cur, h1, Nat.le_trans hb h2, h3⟩
theorem beqB (a b : Bs) : (a == b) = decide (a = b) := by by_cases h : a = b <;> simp [h]
theorem below_drewN {B : Nat} {a w : World} (h : Below B a w) (n : Nat) : Below B a (w.drewN n) := h.trans ⟨rfl, rfl, rfl, Nat.le_refl _, fun _ _ => rfl⟩
theorem OwnsF.drewN {w : World} {b : Nat} {v : Value} {t : List Fl} (h : OwnsF w b v t) (n : Nat) : OwnsF (w.drewN n) b v t := h

set_option maxRecDepth 100000 in
set_option maxHeartbeats 4000000 in
theorem with_any (A : Option Addr) (cap B n : Nat) (t : List Fl) (s d : ByteArray) (w : World) (hn : t.length = n) (hnm : n ≤ 100000) (hx : FRow w B A t) (hB : B ≤ w.heap.size) :
    Calls Try.prog 32 #[.slice A n cap, .agg #[.string s, .string d]] w fun e w' =>
      ∃ g m cap, e = .returned (.slice (some ⟨g, 0, none⟩) m cap) ∧ (withF t (s.data.toList, d.data.toList)).length = m ∧ OwnsF w' w.heap.size (.slice (some ⟨g, 0, none⟩) m cap) (withF t (s.data.toList, d.data.toList)) ∧ Below w.heap.size w w' := by
  obtain ⟨i0, hi, hz0, hz1, hz2⟩ := info_parts fileInfo
  have HX := Lib.hid (hx.more hB)
  have HN := Lib.hid hn
  clear hx hn
  obtain ⟨f, hf⟩ : ∃ f, f = (s.data.toList, d.data.toList) := ⟨_, rfl⟩
  obtain ⟨w0, hw0⟩ : ∃ w0, w0 = w.alloc (.cells #[.string s, .string d] 29) := ⟨_, rfl⟩
  have hs0 : w0.heap.size = w.heap.size + 1 := by rw [hw0]; simp
  have ho0 : OwnsF (w0.alloc (.cells #[] 29)) (w.heap.size + 1) (.slice (some ⟨w.heap.size + 1, 0, none⟩) 0 0) [] := by
    have := World.ownsRow_lit (base := w.heap.size + 1) (e := 29) (size := 2) w0 #[] 0 (by omega) (by decide) rfl
    rw [hs0] at this
    exact this
  have HO0 := Lib.hid ho0
  have HBW0 : Hid (Below (w.heap.size + 1) w0 (w0.alloc (.cells #[] 29))) := (Below.refl _ _).alloc (by omega) _
  have HC0 : Hid (w0.cell? ⟨w.heap.size, 0, none⟩ = some (.string s)) := by show _ = _; rw [hw0]; simp
  have HC1 : Hid (w0.cell? ⟨w.heap.size, 1, none⟩ = some (.string d)) := by show _ = _; rw [hw0]; simp
  have HX0 : Hid (FRow w0 w.heap.size A t) := by rw [hw0]; exact HX.out.alloc (Nat.le_refl _) _
  have HBE : Hid (∀ W, Below (w.heap.size + 1) w0 W → Below w.heap.size w W) := fun W hW => by
    rw [hw0] at hW
    exact ((Below.refl _ _).alloc (Nat.le_refl _) _).trans (hW.mono (by omega))
  clear ho0
  go_enter Try.func32, Try.ntmps32
  go_wp2
  rw [← hw0]
  clear hw0 HX
  go_loopw [5, 6, 11] (fun v dn i wr => ∃ (k g m cap : Nat) (b : Bool), k ≤ n ∧ i = .int .i64 k ∧ v = .slice (some ⟨g, 0, none⟩) m cap ∧ dn = .bool b ∧ m ≤ 2 * k ∧ Hid ((withRun f (t.take k)).1.length = m) ∧ Hid ((withRun f (t.take k)).2 = b) ∧ Hid (OwnsF wr (w.heap.size + 1) (.slice (some ⟨g, 0, none⟩) m cap) (withRun f (t.take k)).1) ∧ Hid (Below (w.heap.size + 1) w0 wr)) (fun _ _ i _ => n - (intOf i).toNat)
  case atStart => exact ⟨0, w.heap.size + 1, 0, 0, false, Nat.zero_le _, rfl, rfl, rfl, by omega, rfl, rfl, HO0.out, HBW0.out⟩
  case round =>
    obtain ⟨k, g, m, cap1, b, hk, rfl, rfl, rfl, hm, HLN, HDN, HO, HBW⟩ := hrel
    clear HO0
    have hcS := (HBW.out.cell (p := ⟨w.heap.size, 0, none⟩) (Nat.lt_succ_self _)).trans HC0.out
    have hcD := (HBW.out.cell (p := ⟨w.heap.size, 1, none⟩) (Nat.lt_succ_self _)).trans HC1.out
    have hws : w.heap.size + 1 ≤ wr.heap.size := by have := HBW.out.size; omega
    obtain ⟨L, hL⟩ : ∃ L, (withRun f (t.take k)).1 = L := ⟨_, rfl⟩
    rw [hL] at HLN HO
    have hpair : withRun f (t.take k) = (L, b) := by rw [← hL, ← HDN.out]
    by_cases hlt : k < n
    · have hki : (k : Int) < n := by omega
      have hxk : t[k]? = some (t[k]'(by rw [HN.out]; exact hlt)) := List.getElem?_eq_getElem _
      generalize t[k]'(by rw [HN.out]; exact hlt) = x at hxk
      obtain ⟨b1, o1, sp, sd, rfl, hb1, hsp, hsd, cP0, cD0⟩ := HX0.out k x hxk
      have cP := (HBW.out.cell (p := ⟨b1, o1 + k * 2, none⟩) (by show b1 < _; omega)).trans cP0
      have cD := (HBW.out.cell (p := ⟨b1, o1 + k * 2 + 1, none⟩) (by show b1 < _; omega)).trans cD0
      have hst : withRun f (t.take (k + 1)) = withStep f (withRun f (t.take k)) x := by rw [take_snoc t k x hxk, withRun_snoc]
      obtain rfl : x = (sp.data.toList, sd.data.toList) := Prod.ext hsp.symm hsd.symm
      have hfs : f.1 = s.data.toList := by rw [hf]
      have hbl : Op.bytesLess s.toList sp.toList = decide (f.1 < sp.data.toList) := by rw [bytesLess_eq, ByteArray.toList_eq, ByteArray.toList_eq, hfs]
      have he1 : (s.toList == sp.toList) = decide (f.1 = sp.data.toList) := by
        rw [ByteArray.toList_eq, ByteArray.toList_eq, hfs]; exact beqB _ _
      have he2 : (sp.toList == s.toList) = decide (sp.data.toList = f.1) := by
        rw [ByteArray.toList_eq, ByteArray.toList_eq, hfs]; exact beqB _ _
      rw [hpair] at hst
      unfold withStep at hst
      simp only at hst
      clear hL hpair HDN hxk hsp hsd cP0 cD0 hfs
      have HF := Lib.hid hf
      clear hf
      cases b
      · by_cases hsl : f.1 ≤ sp.data.toList
        · by_cases heq : sp.data.toList = f.1
          · have hnl : ¬ f.1 < sp.data.toList := by rw [heq]; exact lt_no
            rw [decide_eq_false hnl] at hbl
            rw [decide_eq_true heq.symm] at he1
            rw [decide_eq_true heq] at he2
            have HST : Hid (withRun f (t.take (k + 1)) = (L ++ [f], true)) := by show _ = _; rw [hst]; simp [hsl, heq]
            clear hst hsl heq hnl
            go_wp2
            go_quiet (fail)
            obtain ⟨w1, hw1⟩ : ∃ W, W = wr.drewN nq := ⟨_, rfl⟩
            rw [← hw1]
            have cP1 : w1.cell? ⟨b1, o1 + k * 2, none⟩ = some (.string sp) := by rw [hw1]; exact cP
            have cD1 : w1.cell? ⟨b1, o1 + k * 2 + 1, none⟩ = some (.string sd) := by rw [hw1]; exact cD
            have cS1 : w1.cell? ⟨w.heap.size, 0, none⟩ = some (.string s) := by rw [hw1]; exact hcS
            have cF1 : w1.cell? ⟨w.heap.size, 1, none⟩ = some (.string d) := by rw [hw1]; exact hcD
            have HO1 : Hid (OwnsF w1 (w.heap.size + 1) (.slice (some ⟨g, 0, none⟩) m cap1) L) := by rw [hw1]; exact HO
            have HW1 : Hid (Below (w.heap.size + 1) w0 w1) := by rw [hw1]; exact below_drewN HBW.out _
            clear hw1
            go_wp2_with (at_builtin; refine wpList_append_own _ rfl _ _ 22 rfl (w.heap.size + 1) 29 i0 (.agg #[.string ⟨#[]⟩, .string ⟨#[]⟩]) 2 32 Try.underlying22 hi hz0 hz1 hz2 rfl (by decide) _ m (cellsF (L)) rfl ?c0a ⟨w1.heap.size, 0, none⟩ 1 1 [.string s, .string d] rfl rfl ?c1a ?c2a ?c3a ?c4a ?c5a ?_)
            case c0a => have := HO1.out.alloc' (.cells #[.string s, .string d] 29); unfold OwnsF at this; rw [HLN.out] at this; exact this
            case c2a => intro u hu; simp only [List.mem_cons, List.mem_nil_iff, or_false] at hu; rcases hu with rfl | rfl <;> rfl
            case c3a => simp only [maxLen]; omega
            case c4a => omega
            case c5a => have := HW1.out.size; simp at this ⊢; omega
            · rintro (_ | _ | j) u hj
              · simp only [List.getElem?_cons_zero, Option.some.injEq] at hj
                subst hj
                simp [Addr.add]
              · simp only [List.getElem?_cons_succ, List.getElem?_cons_zero, Option.some.injEq] at hj
                subst hj
                simp [Addr.add]
              · simp at hj
            intro v' w2 hown' hgrow _
            obtain ⟨g2, cap2, rfl, _, _⟩ := hown'.form (by omega)
            have HW2 := Lib.hid ((HW1.out.alloc (by have := HW1.out.size; simp at this ⊢; omega) _).grown hgrow (by have := HW1.out.size; simp at this ⊢; omega) (fun q hq => (HO1.out.lt q hq).1))
            have HLN2 : Hid ((L ++ [(s.data.toList, d.data.toList)]).length = m + 1) := by show _ = _; rw [List.length_append, HLN.out]; rfl
            have HO2 : Hid (OwnsF w2 (w.heap.size + 1) (.slice (some ⟨g2, 0, none⟩) (m + 1) cap2) (L ++ [(s.data.toList, d.data.toList)])) := by
              show OwnsF _ _ _ _
              unfold OwnsF
              rw [HLN2.out, cellsF_append]
              simp only [SV_str] at hown'
              exact hown'
            clear hown' hgrow
            have hcS2 : w2.cell? ⟨w.heap.size, 0, none⟩ = some (.string s) := (HW2.out.cell (p := ⟨w.heap.size, 0, none⟩) (Nat.lt_succ_self _)).trans HC0.out
            have cP2 : w2.cell? ⟨b1, o1 + k * 2, none⟩ = some (.string sp) := by
              have h1 : w1.cell? ⟨b1, o1 + k * 2, none⟩ = some (.string sp) := cP1
              exact ((HW2.out.cell (p := ⟨b1, o1 + k * 2, none⟩) (by show b1 < _; omega)).trans (HW1.out.cell (p := ⟨b1, o1 + k * 2, none⟩) (by show b1 < _; omega)).symm).trans h1
            go_wp2
            go_quiet (fail)
            go_wp2
            go_roundw
            case rel => exact ⟨k + 1, g2, m + 1, cap2, true, by omega, by go_num, rfl, rfl, by omega, by rw [HST.out, HF.out]; exact HLN2.out, by rw [HST.out]; rfl, by rw [HST.out, HF.out]; exact HO2.out.drewN _, below_drewN HW2.out _⟩
            case measure => simp [intOf]; omega
          · have hlq : f.1 < sp.data.toList := lt_of hsl (fun e => heq e.symm)
            rw [decide_eq_true hlq] at hbl
            rw [decide_eq_false (fun e => heq e.symm)] at he1
            rw [decide_eq_false heq] at he2
            have HST : Hid (withRun f (t.take (k + 1)) = (L ++ [f] ++ [(sp.data.toList, sd.data.toList)], true)) := by show _ = _; rw [hst]; simp [hsl, heq]
            clear hst hsl heq hlq
            go_wp2
            go_quiet (fail)
            obtain ⟨w1, hw1⟩ : ∃ W, W = wr.drewN nq := ⟨_, rfl⟩
            rw [← hw1]
            have cP1 : w1.cell? ⟨b1, o1 + k * 2, none⟩ = some (.string sp) := by rw [hw1]; exact cP
            have cD1 : w1.cell? ⟨b1, o1 + k * 2 + 1, none⟩ = some (.string sd) := by rw [hw1]; exact cD
            have cS1 : w1.cell? ⟨w.heap.size, 0, none⟩ = some (.string s) := by rw [hw1]; exact hcS
            have cF1 : w1.cell? ⟨w.heap.size, 1, none⟩ = some (.string d) := by rw [hw1]; exact hcD
            have HO1 : Hid (OwnsF w1 (w.heap.size + 1) (.slice (some ⟨g, 0, none⟩) m cap1) L) := by rw [hw1]; exact HO
            have HW1 : Hid (Below (w.heap.size + 1) w0 w1) := by rw [hw1]; exact below_drewN HBW.out _
            clear hw1
            go_wp2_with (at_builtin; refine wpList_append_own _ rfl _ _ 22 rfl (w.heap.size + 1) 29 i0 (.agg #[.string ⟨#[]⟩, .string ⟨#[]⟩]) 2 32 Try.underlying22 hi hz0 hz1 hz2 rfl (by decide) _ m (cellsF (L)) rfl ?c0b ⟨w1.heap.size, 0, none⟩ 1 1 [.string s, .string d] rfl rfl ?c1b ?c2b ?c3b ?c4b ?c5b ?_)
            case c0b => have := HO1.out.alloc' (.cells #[.string s, .string d] 29); unfold OwnsF at this; rw [HLN.out] at this; exact this
            case c2b => intro u hu; simp only [List.mem_cons, List.mem_nil_iff, or_false] at hu; rcases hu with rfl | rfl <;> rfl
            case c3b => simp only [maxLen]; omega
            case c4b => omega
            case c5b => have := HW1.out.size; simp at this ⊢; omega
            · rintro (_ | _ | j) u hj
              · simp only [List.getElem?_cons_zero, Option.some.injEq] at hj
                subst hj
                simp [Addr.add]
              · simp only [List.getElem?_cons_succ, List.getElem?_cons_zero, Option.some.injEq] at hj
                subst hj
                simp [Addr.add]
              · simp at hj
            intro v' w2 hown' hgrow _
            obtain ⟨g2, cap2, rfl, _, _⟩ := hown'.form (by omega)
            have HW2 := Lib.hid ((HW1.out.alloc (by have := HW1.out.size; simp at this ⊢; omega) _).grown hgrow (by have := HW1.out.size; simp at this ⊢; omega) (fun q hq => (HO1.out.lt q hq).1))
            have HLN2 : Hid ((L ++ [(s.data.toList, d.data.toList)]).length = m + 1) := by show _ = _; rw [List.length_append, HLN.out]; rfl
            have HO2 : Hid (OwnsF w2 (w.heap.size + 1) (.slice (some ⟨g2, 0, none⟩) (m + 1) cap2) (L ++ [(s.data.toList, d.data.toList)])) := by
              show OwnsF _ _ _ _
              unfold OwnsF
              rw [HLN2.out, cellsF_append]
              simp only [SV_str] at hown'
              exact hown'
            clear hown' hgrow
            have cP2 : w2.cell? ⟨b1, o1 + k * 2, none⟩ = some (.string sp) := (((HW2.out.cell (p := ⟨b1, o1 + k * 2, none⟩) (by show b1 < _; omega)).trans (HW1.out.cell (p := ⟨b1, o1 + k * 2, none⟩) (by show b1 < _; omega)).symm)).trans cP1
            have cD2 : w2.cell? ⟨b1, o1 + k * 2 + 1, none⟩ = some (.string sd) := (((HW2.out.cell (p := ⟨b1, o1 + k * 2 + 1, none⟩) (by show b1 < _; omega)).trans (HW1.out.cell (p := ⟨b1, o1 + k * 2 + 1, none⟩) (by show b1 < _; omega)).symm)).trans cD1
            have cS2 : w2.cell? ⟨w.heap.size, 0, none⟩ = some (.string s) := (HW2.out.cell (p := ⟨w.heap.size, 0, none⟩) (Nat.lt_succ_self _)).trans HC0.out
            go_wp2
            go_quiet (fail)
            obtain ⟨w3, hw3⟩ : ∃ W, W = w2.drewN nq := ⟨_, rfl⟩
            rw [← hw3]
            have cP3 : w3.cell? ⟨b1, o1 + k * 2, none⟩ = some (.string sp) := by rw [hw3]; exact cP2
            have cD3 : w3.cell? ⟨b1, o1 + k * 2 + 1, none⟩ = some (.string sd) := by rw [hw3]; exact cD2
            have HO3 : Hid (OwnsF w3 (w.heap.size + 1) (.slice (some ⟨g2, 0, none⟩) (m + 1) cap2) (L ++ [(s.data.toList, d.data.toList)])) := by rw [hw3]; exact HO2
            have HW3 : Hid (Below (w.heap.size + 1) w0 w3) := by rw [hw3]; exact below_drewN HW2.out _
            clear hw3
            go_wp2_with (at_builtin; refine wpList_append_own _ rfl _ _ 22 rfl (w.heap.size + 1) 29 i0 (.agg #[.string ⟨#[]⟩, .string ⟨#[]⟩]) 2 32 Try.underlying22 hi hz0 hz1 hz2 rfl (by decide) _ (m + 1) (cellsF ((L ++ [(s.data.toList, d.data.toList)]))) rfl ?c0c ⟨w3.heap.size, 0, none⟩ 1 1 [.string sp, .string sd] rfl rfl ?c1c ?c2c ?c3c ?c4c ?c5c ?_)
            case c0c => have := HO3.out.alloc' (.cells #[.string sp, .string sd] 29); unfold OwnsF at this; rw [HLN2.out] at this; exact this
            case c2c => intro u hu; simp only [List.mem_cons, List.mem_nil_iff, or_false] at hu; rcases hu with rfl | rfl <;> rfl
            case c3c => simp only [maxLen]; omega
            case c4c => omega
            case c5c => have := HW3.out.size; simp at this ⊢; omega
            · rintro (_ | _ | j) u hj
              · simp only [List.getElem?_cons_zero, Option.some.injEq] at hj
                subst hj
                simp [Addr.add]
              · simp only [List.getElem?_cons_succ, List.getElem?_cons_zero, Option.some.injEq] at hj
                subst hj
                simp [Addr.add]
              · simp at hj
            intro v' w4 hown' hgrow _
            obtain ⟨g4, cap4, rfl, _, _⟩ := hown'.form (by omega)
            have HW4 := Lib.hid ((HW3.out.alloc (by have := HW3.out.size; simp at this ⊢; omega) _).grown hgrow (by have := HW3.out.size; simp at this ⊢; omega) (fun q hq => (HO3.out.lt q hq).1))
            have HLN4 : Hid (((L ++ [(s.data.toList, d.data.toList)]) ++ [(sp.data.toList, sd.data.toList)]).length = (m + 1) + 1) := by show _ = _; rw [List.length_append, HLN2.out]; rfl
            have HO4 : Hid (OwnsF w4 (w.heap.size + 1) (.slice (some ⟨g4, 0, none⟩) ((m + 1) + 1) cap4) ((L ++ [(s.data.toList, d.data.toList)]) ++ [(sp.data.toList, sd.data.toList)])) := by
              show OwnsF _ _ _ _
              unfold OwnsF
              rw [HLN4.out, cellsF_append]
              simp only [SV_str] at hown'
              exact hown'
            clear hown' hgrow
            go_wp2
            go_roundw
            case rel => exact ⟨k + 1, g4, m + 1 + 1, cap4, true, by omega, by go_num, rfl, rfl, by omega, by rw [HST.out, HF.out]; exact HLN4.out, by rw [HST.out]; rfl, by rw [HST.out, HF.out]; exact HO4.out, HW4.out⟩
            case measure => simp [intOf]; omega
        · have hxs : sp.data.toList < f.1 := List.not_le.1 hsl
          have hnl : ¬ f.1 < sp.data.toList := fun h => lt_no (lt_lt h hxs)
          have heq : sp.data.toList ≠ f.1 := ne_of hxs
          rw [decide_eq_false hnl] at hbl
          rw [decide_eq_false (fun e => heq e.symm)] at he1
          rw [decide_eq_false heq] at he2
          have HST : Hid (withRun f (t.take (k + 1)) = (L ++ [(sp.data.toList, sd.data.toList)], false)) := by show _ = _; rw [hst]; simp [hsl, heq]
          clear hst hsl heq hnl hxs
          go_wp2
          go_quiet (fail)
          obtain ⟨w1, hw1⟩ : ∃ W, W = wr.drewN nq := ⟨_, rfl⟩
          rw [← hw1]
          have cP1 : w1.cell? ⟨b1, o1 + k * 2, none⟩ = some (.string sp) := by rw [hw1]; exact cP
          have cD1 : w1.cell? ⟨b1, o1 + k * 2 + 1, none⟩ = some (.string sd) := by rw [hw1]; exact cD
          have cS1 : w1.cell? ⟨w.heap.size, 0, none⟩ = some (.string s) := by rw [hw1]; exact hcS
          have cF1 : w1.cell? ⟨w.heap.size, 1, none⟩ = some (.string d) := by rw [hw1]; exact hcD
          have HO1 : Hid (OwnsF w1 (w.heap.size + 1) (.slice (some ⟨g, 0, none⟩) m cap1) L) := by rw [hw1]; exact HO
          have HW1 : Hid (Below (w.heap.size + 1) w0 w1) := by rw [hw1]; exact below_drewN HBW.out _
          clear hw1
          go_wp2
          go_quiet (fail)
          obtain ⟨w3, hw3⟩ : ∃ W, W = w1.drewN nq := ⟨_, rfl⟩
          rw [← hw3]
          have cP3 : w3.cell? ⟨b1, o1 + k * 2, none⟩ = some (.string sp) := by rw [hw3]; exact cP1
          have cD3 : w3.cell? ⟨b1, o1 + k * 2 + 1, none⟩ = some (.string sd) := by rw [hw3]; exact cD1
          have HO3 : Hid (OwnsF w3 (w.heap.size + 1) (.slice (some ⟨g, 0, none⟩) (m) cap1) (L)) := by rw [hw3]; exact HO1
          have HW3 : Hid (Below (w.heap.size + 1) w0 w3) := by rw [hw3]; exact below_drewN HW1.out _
          clear hw3
          go_wp2_with (at_builtin; refine wpList_append_own _ rfl _ _ 22 rfl (w.heap.size + 1) 29 i0 (.agg #[.string ⟨#[]⟩, .string ⟨#[]⟩]) 2 32 Try.underlying22 hi hz0 hz1 hz2 rfl (by decide) _ m (cellsF (L)) rfl ?c0d ⟨w3.heap.size, 0, none⟩ 1 1 [.string sp, .string sd] rfl rfl ?c1d ?c2d ?c3d ?c4d ?c5d ?_)
          case c0d => have := HO3.out.alloc' (.cells #[.string sp, .string sd] 29); unfold OwnsF at this; rw [HLN.out] at this; exact this
          case c2d => intro u hu; simp only [List.mem_cons, List.mem_nil_iff, or_false] at hu; rcases hu with rfl | rfl <;> rfl
          case c3d => simp only [maxLen]; omega
          case c4d => omega
          case c5d => have := HW3.out.size; simp at this ⊢; omega
          · rintro (_ | _ | j) u hj
            · simp only [List.getElem?_cons_zero, Option.some.injEq] at hj
              subst hj
              simp [Addr.add]
            · simp only [List.getElem?_cons_succ, List.getElem?_cons_zero, Option.some.injEq] at hj
              subst hj
              simp [Addr.add]
            · simp at hj
          intro v' w4 hown' hgrow _
          obtain ⟨g4, cap4, rfl, _, _⟩ := hown'.form (by omega)
          have HW4 := Lib.hid ((HW3.out.alloc (by have := HW3.out.size; simp at this ⊢; omega) _).grown hgrow (by have := HW3.out.size; simp at this ⊢; omega) (fun q hq => (HO3.out.lt q hq).1))
          have HLN4 : Hid ((L ++ [(sp.data.toList, sd.data.toList)]).length = m + 1) := by show _ = _; rw [List.length_append, HLN.out]; rfl
          have HO4 : Hid (OwnsF w4 (w.heap.size + 1) (.slice (some ⟨g4, 0, none⟩) (m + 1) cap4) (L ++ [(sp.data.toList, sd.data.toList)])) := by
            show OwnsF _ _ _ _
            unfold OwnsF
            rw [HLN4.out, cellsF_append]
            simp only [SV_str] at hown'
            exact hown'
          clear hown' hgrow
          go_wp2
          go_roundw
          case rel => exact ⟨k + 1, g4, m + 1, cap4, false, by omega, by go_num, rfl, rfl, by omega, by rw [HST.out]; exact HLN4.out, by rw [HST.out]; rfl, by rw [HST.out]; exact HO4.out, HW4.out⟩
          case measure => simp [intOf]; omega
      · by_cases heq : sp.data.toList = f.1
        · rw [decide_eq_true heq] at he2
          have HST : Hid (withRun f (t.take (k + 1)) = (L, true)) := by show _ = _; rw [hst]; simp [heq]
          clear hst heq he1 hbl
          go_wp2
          go_quiet (fail)
          obtain ⟨w1, hw1⟩ : ∃ W, W = wr.drewN nq := ⟨_, rfl⟩
          rw [← hw1]
          have cP1 : w1.cell? ⟨b1, o1 + k * 2, none⟩ = some (.string sp) := by rw [hw1]; exact cP
          have cD1 : w1.cell? ⟨b1, o1 + k * 2 + 1, none⟩ = some (.string sd) := by rw [hw1]; exact cD
          have cS1 : w1.cell? ⟨w.heap.size, 0, none⟩ = some (.string s) := by rw [hw1]; exact hcS
          have cF1 : w1.cell? ⟨w.heap.size, 1, none⟩ = some (.string d) := by rw [hw1]; exact hcD
          have HO1 : Hid (OwnsF w1 (w.heap.size + 1) (.slice (some ⟨g, 0, none⟩) m cap1) L) := by rw [hw1]; exact HO
          have HW1 : Hid (Below (w.heap.size + 1) w0 w1) := by rw [hw1]; exact below_drewN HBW.out _
          clear hw1
          go_wp2
          go_quiet (fail)
          obtain ⟨w3, hw3⟩ : ∃ W, W = w1.drewN nq := ⟨_, rfl⟩
          rw [← hw3]
          have cP3 : w3.cell? ⟨b1, o1 + k * 2, none⟩ = some (.string sp) := by rw [hw3]; exact cP1
          have cD3 : w3.cell? ⟨b1, o1 + k * 2 + 1, none⟩ = some (.string sd) := by rw [hw3]; exact cD1
          have HO3 : Hid (OwnsF w3 (w.heap.size + 1) (.slice (some ⟨g, 0, none⟩) (m) cap1) (L)) := by rw [hw3]; exact HO1
          have HW3 : Hid (Below (w.heap.size + 1) w0 w3) := by rw [hw3]; exact below_drewN HW1.out _
          clear hw3
          go_wp2
          go_roundw
          case rel => exact ⟨k + 1, g, m, cap1, true, by omega, by go_num, rfl, rfl, by omega, by rw [HST.out]; exact HLN.out, by rw [HST.out]; rfl, by rw [HST.out]; exact HO3.out, HW3.out⟩
          case measure => simp [intOf]; omega
        · rw [decide_eq_false heq] at he2
          have HST : Hid (withRun f (t.take (k + 1)) = (L ++ [(sp.data.toList, sd.data.toList)], true)) := by show _ = _; rw [hst]; simp [heq]
          clear hst heq he1 hbl
          go_wp2
          go_quiet (fail)
          obtain ⟨w1, hw1⟩ : ∃ W, W = wr.drewN nq := ⟨_, rfl⟩
          rw [← hw1]
          have cP1 : w1.cell? ⟨b1, o1 + k * 2, none⟩ = some (.string sp) := by rw [hw1]; exact cP
          have cD1 : w1.cell? ⟨b1, o1 + k * 2 + 1, none⟩ = some (.string sd) := by rw [hw1]; exact cD
          have cS1 : w1.cell? ⟨w.heap.size, 0, none⟩ = some (.string s) := by rw [hw1]; exact hcS
          have cF1 : w1.cell? ⟨w.heap.size, 1, none⟩ = some (.string d) := by rw [hw1]; exact hcD
          have HO1 : Hid (OwnsF w1 (w.heap.size + 1) (.slice (some ⟨g, 0, none⟩) m cap1) L) := by rw [hw1]; exact HO
          have HW1 : Hid (Below (w.heap.size + 1) w0 w1) := by rw [hw1]; exact below_drewN HBW.out _
          clear hw1
          go_wp2
          go_quiet (fail)
          obtain ⟨w3, hw3⟩ : ∃ W, W = w1.drewN nq := ⟨_, rfl⟩
          rw [← hw3]
          have cP3 : w3.cell? ⟨b1, o1 + k * 2, none⟩ = some (.string sp) := by rw [hw3]; exact cP1
          have cD3 : w3.cell? ⟨b1, o1 + k * 2 + 1, none⟩ = some (.string sd) := by rw [hw3]; exact cD1
          have HO3 : Hid (OwnsF w3 (w.heap.size + 1) (.slice (some ⟨g, 0, none⟩) (m) cap1) (L)) := by rw [hw3]; exact HO1
          have HW3 : Hid (Below (w.heap.size + 1) w0 w3) := by rw [hw3]; exact below_drewN HW1.out _
          clear hw3
          go_wp2_with (at_builtin; refine wpList_append_own _ rfl _ _ 22 rfl (w.heap.size + 1) 29 i0 (.agg #[.string ⟨#[]⟩, .string ⟨#[]⟩]) 2 32 Try.underlying22 hi hz0 hz1 hz2 rfl (by decide) _ m (cellsF (L)) rfl ?c0e ⟨w3.heap.size, 0, none⟩ 1 1 [.string sp, .string sd] rfl rfl ?c1e ?c2e ?c3e ?c4e ?c5e ?_)
          case c0e => have := HO3.out.alloc' (.cells #[.string sp, .string sd] 29); unfold OwnsF at this; rw [HLN.out] at this; exact this
          case c2e => intro u hu; simp only [List.mem_cons, List.mem_nil_iff, or_false] at hu; rcases hu with rfl | rfl <;> rfl
          case c3e => simp only [maxLen]; omega
          case c4e => omega
          case c5e => have := HW3.out.size; simp at this ⊢; omega
          · rintro (_ | _ | j) u hj
            · simp only [List.getElem?_cons_zero, Option.some.injEq] at hj
              subst hj
              simp [Addr.add]
            · simp only [List.getElem?_cons_succ, List.getElem?_cons_zero, Option.some.injEq] at hj
              subst hj
              simp [Addr.add]
            · simp at hj
          intro v' w4 hown' hgrow _
          obtain ⟨g4, cap4, rfl, _, _⟩ := hown'.form (by omega)
          have HW4 := Lib.hid ((HW3.out.alloc (by have := HW3.out.size; simp at this ⊢; omega) _).grown hgrow (by have := HW3.out.size; simp at this ⊢; omega) (fun q hq => (HO3.out.lt q hq).1))
          have HLN4 : Hid ((L ++ [(sp.data.toList, sd.data.toList)]).length = m + 1) := by show _ = _; rw [List.length_append, HLN.out]; rfl
          have HO4 : Hid (OwnsF w4 (w.heap.size + 1) (.slice (some ⟨g4, 0, none⟩) (m + 1) cap4) (L ++ [(sp.data.toList, sd.data.toList)])) := by
            show OwnsF _ _ _ _
            unfold OwnsF
            rw [HLN4.out, cellsF_append]
            simp only [SV_str] at hown'
            exact hown'
          clear hown' hgrow
          go_wp2
          go_roundw
          case rel => exact ⟨k + 1, g4, m + 1, cap4, true, by omega, by go_num, rfl, rfl, by omega, by rw [HST.out]; exact HLN4.out, by rw [HST.out]; rfl, by rw [HST.out]; exact HO4.out, HW4.out⟩
          case measure => simp [intOf]; omega
    · obtain rfl : k = n := by omega
      have hall : t.take k = t := List.take_of_length_le (by rw [HN.out]; exact Nat.le_refl _)
      rw [hall] at hpair
      have HF := Lib.hid hf
      cases b
      · have HWF : Hid (withF t f = L ++ [(s.data.toList, d.data.toList)]) := by show _ = _; unfold withF; rw [hpair]; simp [hf]
        clear hpair hall hL HDN hf
        have HFW : Hid (withF t (s.data.toList, d.data.toList) = L ++ [(s.data.toList, d.data.toList)]) := by show _ = _; rw [← HWF.out, ← HF.out]
        clear HWF
        go_wp2_with (at_builtin; refine wpList_append_own _ rfl _ _ 22 rfl (w.heap.size + 1) 29 i0 (.agg #[.string ⟨#[]⟩, .string ⟨#[]⟩]) 2 32 Try.underlying22 hi hz0 hz1 hz2 rfl (by decide) _ m (cellsF (L)) rfl ?c0f ⟨wr.heap.size, 0, none⟩ 1 1 [.string s, .string d] rfl rfl ?c1f ?c2f ?c3f ?c4f ?c5f ?_)
        case c0f => have := HO.out.alloc' (.cells #[.string s, .string d] 29); unfold OwnsF at this; rw [HLN.out] at this; exact this
        case c2f => intro u hu; simp only [List.mem_cons, List.mem_nil_iff, or_false] at hu; rcases hu with rfl | rfl <;> rfl
        case c3f => simp only [maxLen]; omega
        case c4f => omega
        case c5f => have := HBW.out.size; simp at this ⊢; omega
        · rintro (_ | _ | j) u hj
          · simp only [List.getElem?_cons_zero, Option.some.injEq] at hj
            subst hj
            simp [Addr.add]
          · simp only [List.getElem?_cons_succ, List.getElem?_cons_zero, Option.some.injEq] at hj
            subst hj
            simp [Addr.add]
          · simp at hj
        intro v' w2 hown' hgrow _
        obtain ⟨g2, cap2, rfl, _, _⟩ := hown'.form (by omega)
        have HW2 := Lib.hid ((HBW.out.alloc (by have := HBW.out.size; simp at this ⊢; omega) _).grown hgrow (by have := HBW.out.size; simp at this ⊢; omega) (fun q hq => (HO.out.lt q hq).1))
        have HLN2 : Hid ((L ++ [(s.data.toList, d.data.toList)]).length = m + 1) := by show _ = _; rw [List.length_append, HLN.out]; rfl
        have HO2 : Hid (OwnsF w2 (w.heap.size + 1) (.slice (some ⟨g2, 0, none⟩) (m + 1) cap2) (L ++ [(s.data.toList, d.data.toList)])) := by
          show OwnsF _ _ _ _
          unfold OwnsF
          rw [HLN2.out, cellsF_append]
          simp only [SV_str] at hown'
          exact hown'
        clear hown' hgrow
        go_wp2
        go_ret
        rw [HFW.out]
        exact ⟨g2, m + 1, cap2, rfl, HLN2.out, HO2.out.less (Nat.le_succ _), HBE.out _ HW2.out⟩
      · have HWF : Hid (withF t f = L) := by show _ = _; unfold withF; rw [hpair]; simp
        clear hpair hall hL HDN hf
        have HFW : Hid (withF t (s.data.toList, d.data.toList) = L) := by show _ = _; rw [← HF.out]; exact HWF.out
        clear HWF
        go_wp2
        go_ret
        rw [HFW.out]
        exact ⟨g, m, cap1, rfl, HLN.out, HO.out.less (Nat.le_succ _), HBE.out _ HBW.out⟩
end Tr
end Go.Proofs.Ytkldgfdfpanelaa
