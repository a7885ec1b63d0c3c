/-
  Layer 5 (tree): the walk of Put.
-/
import Derived.Test.YtkldgfdfpanelaaUG
namespace Go.Proofs.Ytkldgfdfpanelaa
namespace Tr
open Go.RowKit Go.ChangeShapes Pt

def after (q : Bs) (f : Fl) : Bool := decide (q < f.1)
set_option maxRecDepth 100000 in
set_option maxHeartbeats 2000000 in
theorem pput (c B : Nat) (q : ByteArray) (w : World) (hc : w.cell? ⟨c, 0, none⟩ = some (.string q)) (hcB : c < B) : Pred 30 c (after q.data.toList) B w := by
  intro W s d hW
  have hcW := (hW.cell (p := ⟨c, 0, none⟩) hcB).trans hc
  have hcl : c < W.heap.size := World.block_lt_of_cell? W _ hcW
  have he : (!Op.bytesLess s.toList q.toList && !(s.toList == q.toList)) = after q.data.toList (s.data.toList, d.data.toList) := by
    rw [bytesLess_eq, ByteArray.toList_eq, ByteArray.toList_eq]
    unfold after
    by_cases h1 : q.data.toList < s.data.toList
    · have h2 : ¬ s.data.toList < q.data.toList := fun h => lt_no (lt_lt h1 h)
      have h3 : ¬ s.data.toList = q.data.toList := fun h => ne_of h1 h.symm
      rw [beqB, decide_eq_false h2, decide_eq_false h3, decide_eq_true h1]; rfl
    · by_cases h3 : s.data.toList = q.data.toList
      · rw [beqB, decide_eq_true h3, decide_eq_false h1, Bool.not_true, Bool.and_false]
      · have h2 : s.data.toList < q.data.toList := lt_of (List.not_lt.1 h1) h3
        rw [decide_eq_true h2, decide_eq_false h1]; rfl
  have HB0 : Hid (Below W.heap.size W (W.alloc (.cells #[.string s, .string d] 29))) := (Below.refl _ _).alloc (Nat.le_refl _) _
  obtain ⟨b, hb⟩ : ∃ b, after q.data.toList (s.data.toList, d.data.toList) = b := ⟨_, rfl⟩
  rw [hb] at he ⊢
  have hcW2 : (W.alloc (.cells #[.string s, .string d] 29)).cell? ⟨c, 0, none⟩ = some (.string q) := (World.cell?_alloc_lt W _ _ hcl).trans hcW
  clear hb hW hc
  go_enter Try.func30, Try.ntmps30
  go_wp2
  go_ret
  exact ⟨rfl, HB0.out⟩

theorem fnd_cons (p : Fl → Bool) (x : Fl) (t : List Fl) : fnd p (x :: t) = if p x = true then 0 else fnd p t + 1 := by
  unfold fnd
  rw [List.findIdx?_cons]
  by_cases h : p x = true
  · rw [if_pos h, if_pos h]
  · rw [if_neg h, if_neg h]
    cases List.findIdx? p t <;> simp
theorem fnd_le (p : Fl → Bool) : ∀ t : List Fl, fnd p t ≤ t.length
  | [] => Nat.le_refl _
  | x :: t => by
    rw [fnd_cons]
    have := fnd_le p t
    split <;> simp
    omega
theorem split_at (q : Bs) : ∀ l : List Fl, Rise l → (∀ x ∈ l, x.1 ≠ q) → l.take (fnd (after q) l) = l.filter (fun x => decide (x.1 < q)) ∧ l.drop (fnd (after q) l) = l.filter (fun x => decide (q < x.1))
  | [], _, _ => ⟨rfl, rfl⟩
  | x :: l, h, hn => by
    obtain ⟨h1, h2⟩ := List.pairwise_cons.1 h
    obtain ⟨i1, i2⟩ := split_at q l h2 (fun y hy => hn y (List.mem_cons_of_mem _ hy))
    rw [fnd_cons]
    by_cases ha : after q x = true
    · have hqx : q < x.1 := of_decide_eq_true ha
      have hall : ∀ y ∈ l, q < y.1 := fun y hy => lt_lt hqx (h1 y hy)
      have hxn : ¬ x.1 < q := fun h3 => lt_no (lt_lt h3 hqx)
      rw [if_pos ha, List.take_zero, List.drop_zero, List.filter_cons, List.filter_cons, if_neg (by simpa using hxn), if_pos (by simpa using hqx)]
      constructor
      · symm
        rw [List.filter_eq_nil_iff]
        intro y hy h3
        exact lt_no (lt_lt (of_decide_eq_true h3) (hall y hy))
      · rw [filter_id (fun y hy => decide_eq_true (hall y hy))]
    · have hqx : ¬ q < x.1 := fun h3 => ha (decide_eq_true h3)
      have hxq : x.1 < q := lt_of (List.not_lt.1 hqx) (hn x List.mem_cons_self)
      rw [if_neg ha, List.take_succ_cons, List.drop_succ_cons, List.filter_cons, List.filter_cons, if_pos (by simpa using hxq), if_neg (by simpa using hqx), i1, i2]
      exact ⟨rfl, rfl⟩
/-- Put in its place among the others: the document's. -/
theorem put_with {t : List Fl} (h : Rise t) (f : Fl) : putAt (outV t f.1) (fnd (after f.1) (outV t f.1)) f = withF t f := by
  obtain ⟨h1, h2⟩ := split_at f.1 (outV t f.1) (by unfold outV; exact h.filter _) (fun x hx => by
    unfold outV at hx
    have := (List.mem_filter.1 hx).2
    unfold isPath at this
    simpa using this)
  rw [withF_eq f h]
  unfold putAt withAt
  rw [h1, h2]
  have e : ∀ g : Fl → Bool, (∀ x, g x = true → x.1 ≠ f.1) → (outV t f.1).filter g = t.filter g := fun g hg => by
    unfold outV
    rw [List.filter_filter]
    congr 1
    funext x
    by_cases h3 : g x = true
    · have := hg x h3
      unfold isPath
      simp [h3, this]
    · simp [h3]
  rw [e _ (fun x hx => ne_of (of_decide_eq_true hx)), e _ (fun x hx => (ne_of (of_decide_eq_true hx)).symm)]

set_option maxRecDepth 100000 in
set_option maxHeartbeats 4000000 in
theorem put_any : PPut := by
  intro A cap n t s d w hn hf hx hs hd
  have hnl : n ≤ 1000 := by rw [← hn]; exact hf.1
  obtain ⟨w0, hw0⟩ : ∃ w0, w0 = w.alloc (.cells #[.string s, .string d] 29) := ⟨_, rfl⟩
  have hs0 : w0.heap.size = w.heap.size + 1 := by rw [hw0]; simp
  have HB0 : Hid (Below w.heap.size w w0) := by rw [hw0]; exact (Below.refl _ _).alloc (Nat.le_refl _) _
  have HX0 : Hid (FRow w0 w.heap.size A t) := by rw [hw0]; exact hx.alloc (Nat.le_refl _) _
  have hc0 : w0.cell? ⟨w.heap.size, 0, none⟩ = some (.string s) := by rw [hw0]; simp
  have hd0 : w0.cell? ⟨w.heap.size, 1, none⟩ = some (.string d) := by rw [hw0]; simp
  have HC0 := Lib.hid hc0
  have HD0 := Lib.hid hd0
  obtain ⟨b, hb⟩ : ∃ b, decide (tcheck t = 0) = b := ⟨_, rfl⟩
  have HT := Lib.hid (istree_any A cap n t b w0 hb hn hf (HX0.out.more (by omega)))
  cases b
  · have HV : Hid (putV t (s.data.toList, d.data.toList) = []) := by
      show _ = _
      unfold putV; rw [if_neg (of_decide_eq_false hb)]
    clear hx hn hf hb hc0 hd0
    go_enter Try.func12, Try.ntmps12
    go_wp2_with fail
    rw [← hw0]
    clear hw0
    refine HT.out.mono ?_
    rintro e w1 ⟨rfl, hb1⟩
    have HB1 := Lib.hid (HB0.out.trans (hb1.mono (by omega)))
    clear hb1
    go_wp2_with fail
    go_ret
    refine AnsO.got ?_
    rw [HV.out]
    exact ⟨none, 0, 0, rfl, rfl, OwnsF.nil _ _, HB1.out⟩
  · have hrise := ((tree_iff t).1 (of_decide_eq_true hb)).2.1
    obtain ⟨q, hq⟩ : ∃ q, withF t (s.data.toList, d.data.toList) = q := ⟨_, rfl⟩
    obtain ⟨c2, hc2⟩ : ∃ c, decide (tcheck q = 0) = c := ⟨_, rfl⟩
    have HV : Hid (putV t (s.data.toList, d.data.toList) = if c2 = true then q else []) := by
      show _ = _
      unfold putV; rw [if_pos (of_decide_eq_true hb), hq, ← hc2]
      by_cases h : tcheck q = 0 <;> simp [h]
    have hpw : putAt (outV t s.data.toList) (fnd (after s.data.toList) (outV t s.data.toList)) (s.data.toList, d.data.toList) = q := by rw [← hq]; exact put_with hrise (s.data.toList, d.data.toList)
    have hql : ∀ f ∈ q, f.1.length ≤ 1000 ∧ f.2.length ≤ 1000 := fun f hf' => by
      rw [← hq] at hf'
      rcases (withF_mem _ hrise f).1 hf' with rfl | ⟨h, _⟩
      · exact ⟨hs, hd⟩
      · exact hf.2 f h
    have hqn : q.length ≤ n + 1 := by rw [← hq, ← hn]; exact withF_len _ hrise
    obtain ⟨l, hl⟩ : ∃ l, outV t s.data.toList = l := ⟨_, rfl⟩
    have hln : l.length ≤ n := by rw [← hl, ← hn]; unfold outV; exact List.length_filter_le _ _
    obtain ⟨k, hk⟩ : ∃ k, fnd (after s.data.toList) l = k := ⟨_, rfl⟩
    have hkl : k ≤ l.length := by rw [← hk]; exact fnd_le _ _
    rw [hl, hk] at hpw
    have HW := Lib.hid (fun W (h : FRow W w.heap.size A t) (hW : w.heap.size ≤ W.heap.size) => without_any A cap w.heap.size n t s W hn (by omega) h hW)
    rw [hl] at HW
    have HF := Lib.hid (fun W A' cap' m (hm : l.length = m) (h : FRow W W.heap.size A' l) (hc : W.cell? ⟨w.heap.size, 0, none⟩ = some (.string s)) (hW : w.heap.size < W.heap.size) => find_any 30 w.heap.size (enters_of Try.func30 (by kernel_rfl) rfl) (after s.data.toList) A' cap' W.heap.size m k l hk W (pput w.heap.size W.heap.size s W hc hW) hm (by omega) h (Nat.le_refl _))
    have HI := Lib.hid (fun W A' cap' B m vb (hm : l.length = m) (ho : OwnsF W B (.slice A' m cap') l) (hB : B ≤ W.heap.size) (hv : W.heap[vb]? = some (.cells #[.string s, .string d] 29 (0, 0))) (hvg : ∀ g, A' = some ⟨g, 0, none⟩ → vb ≠ g) => insert_any A' cap' B m k vb l s d W (by omega) hm (by omega) ho hB hv hvg)
    rw [hpw] at HI
    have hqm : ∀ m, l.length = m → q.length = m + 1 := fun m hm => by rw [← hpw, putAt_length hkl, hm]
    have HQM := Lib.hid hqm
    have HT2 := Lib.hid (fun W A' cap' m (hm : q.length = m) (h : FRow W W.heap.size A' q) => istree_gen A' cap' m q c2 W hc2 hm (by omega) hql h)
    clear hx hn hf hb hc0 hd0 hrise hq hc2 hpw hql hqn hl hln hk hkl hqm
    go_enter Try.func12, Try.ntmps12
    go_wp2_with fail
    rw [← hw0]
    clear hw0
    refine HT.out.mono ?_
    rintro e w1 ⟨rfl, hb1⟩
    have HB1 := Lib.hid (HB0.out.trans (hb1.mono (by omega)))
    have HX1 := Lib.hid (HX0.out.below hb1 (by omega))
    have hs1 : w.heap.size + 1 ≤ w1.heap.size := by have := hb1.size; omega
    have f1 : w1.cell? ⟨w.heap.size, 0, none⟩ = some (.string s) := (hb1.cell (p := ⟨w.heap.size, 0, none⟩) (by show w.heap.size < _; omega)).trans HC0.out
    have f2 : w1.cell? ⟨w.heap.size, 1, none⟩ = some (.string d) := (hb1.cell (p := ⟨w.heap.size, 1, none⟩) (by show w.heap.size < _; omega)).trans HD0.out
    clear hb1
    go_wp2_with fail
    refine (HW.out w1 HX1.out (by omega)).mono ?_
    rintro e w2 ⟨A2, m, cap2, rfl, hm, ho2, hb2⟩
    have HB2 := Lib.hid (HB1.out.trans (hb2.mono (by omega)))
    have hs2 : w1.heap.size ≤ w2.heap.size := hb2.size
    have f3 : w2.cell? ⟨w.heap.size, 0, none⟩ = some (.string s) := (hb2.cell (p := ⟨w.heap.size, 0, none⟩) (by show w.heap.size < _; omega)).trans f1
    have f4 : w2.cell? ⟨w.heap.size, 1, none⟩ = some (.string d) := (hb2.cell (p := ⟨w.heap.size, 1, none⟩) (by show w.heap.size < _; omega)).trans f2
    have HO2 := Lib.hid ho2
    have HM := Lib.hid hm
    have HF2 := Lib.hid (HF.out w2 A2 cap2 m hm ho2.row f3 (by omega))
    clear hb2 ho2 hm
    go_wp2_with fail
    refine HF2.out.mono ?_
    rintro e w3 ⟨rfl, hb3⟩
    have HB3 := Lib.hid (HB2.out.trans (hb3.mono (by omega)))
    have hs3 : w2.heap.size ≤ w3.heap.size := hb3.size
    have f5 : w3.cell? ⟨w.heap.size, 0, none⟩ = some (.string s) := (hb3.cell (p := ⟨w.heap.size, 0, none⟩) (by show w.heap.size < _; omega)).trans f3
    have f6 : w3.cell? ⟨w.heap.size, 1, none⟩ = some (.string d) := (hb3.cell (p := ⟨w.heap.size, 1, none⟩) (by show w.heap.size < _; omega)).trans f4
    have HO3 := Lib.hid (HO2.out.keep hb3)
    have HI3 := Lib.hid (HI.out (w3.alloc (.cells #[.string s, .string d] 29)) A2 cap2 w1.heap.size m w3.heap.size HM.out (HO3.out.alloc' _) (by simp; omega) (heap_alloc_new w3 _) (fun g hg e => by
      have := (HO3.out.lt g (by rw [hg]; rfl)).2
      omega))
    have HB3' : Hid (Below w.heap.size w (w3.alloc (.cells #[.string s, .string d] 29))) := HB3.out.alloc (by omega) _
    clear hb3 f1 f2 f3 f4
    go_wp2_with fail
    refine HI3.out.mono ?_
    rintro e w5 ⟨A5, cap5, rfl, ho5, hb5⟩
    have HB5 := Lib.hid (HB3'.out.trans (hb5.mono (by omega)))
    have hs5 : w3.heap.size ≤ w5.heap.size := by have := hb5.size; simp at this; omega
    have HO5 := Lib.hid ho5
    have HT5 := Lib.hid (HT2.out w5 A5 cap5 (m + 1) (HQM.out m HM.out) ho5.row)
    clear hb5 ho5
    go_wp2_with fail
    refine HT5.out.mono ?_
    rintro e w6 ⟨rfl, hb6⟩
    have HB6 := Lib.hid (HB5.out.trans (hb6.mono (by omega)))
    have HO6 := Lib.hid ((HO5.out.keep hb6).less (b' := w.heap.size) (by omega))
    clear hb6
    cases c2
    · have HV' : Hid (putV t (s.data.toList, d.data.toList) = []) := HV.out
      go_wp2_with fail
      go_ret
      refine AnsO.got ?_
      rw [HV'.out]
      exact ⟨none, 0, 0, rfl, rfl, OwnsF.nil _ _, HB6.out⟩
    · have HV' : Hid (putV t (s.data.toList, d.data.toList) = q) := HV.out
      go_wp2_with fail
      go_ret
      refine AnsO.got ?_
      rw [HV'.out]
      exact ⟨A5, m + 1, cap5, rfl, HQM.out m HM.out, HO6.out, HB6.out⟩
end Tr
end Go.Proofs.Ytkldgfdfpanelaa
