/-
  Layer 5 (tree): rows of files written in place: the walks of slices.Clone, slices.DeleteFunc, without.
-/
import Derived.Test.YtkldgfdfpanelaaUA
import Derived.Laws.IdiomCopy
namespace Go.Proofs.Ytkldgfdfpanelaa
namespace Tr
open Go.RowKit Go.ChangeShapes Pt

theorem list_put {xs r : List Value} {o : Nat} {v : Value} (h : o + 1 + r.length ≤ xs.length) : (xs.set o v).take (o + 1) ++ r ++ (xs.set o v).drop (o + 1 + r.length) = xs.take o ++ (v :: r) ++ xs.drop (o + (v :: r).length) := by
  have h1 : (xs.set o v).take (o + 1) = xs.take o ++ [v] := by
    rw [List.take_set, List.take_add_one, List.getElem?_eq_getElem (by omega : o < xs.length)]
    simp only [Option.toList_some]
    rw [List.set_append_right _ _ (by simp; omega)]
    congr 1
    have : o - (xs.take o).length = 0 := by simp; omega
    rw [this]; rfl
  have h2 : (xs.set o v).drop (o + 1 + r.length) = xs.drop (o + (v :: r).length) := by
    rw [List.drop_set, if_pos (by omega)]
    congr 1
    simp; omega
  rw [h1, h2]
  simp

/-- Cells written one by one into a row that a call has made. -/
theorem row_stores {B g n cap : Nat} {e : TypeId} {size : Nat} : ∀ (vs : List Value) (o : Nat) (xs : List Value) (w : World), w.ownsRow B e size (.slice (some ⟨g, 0, none⟩) n cap) n xs → o + vs.length ≤ n * size →
    (w.setCells g o vs).ownsRow B e size (.slice (some ⟨g, 0, none⟩) n cap) n (xs.take o ++ vs ++ xs.drop (o + vs.length)) ∧ w.grownBy (w.setCells g o vs) (some g)
  | [], o, xs, w, h, hl => ⟨by simpa [World.setCells] using h, ⟨rfl, rfl, rfl, Nat.le_refl _, fun _ _ _ => rfl⟩⟩
  | v :: r, o, xs, w, h, hl => by
    obtain ⟨h1, h2⟩ := World.ownsRow.stored h o v
    have hx := h.1
    simp only [List.length_cons] at hl
    obtain ⟨h3, h4⟩ := row_stores r (o + 1) (xs.set o v) (w.setCell ⟨g, o, none⟩ v) h1 (by omega)
    rw [list_put (by omega)] at h3
    exact ⟨h3, ⟨h4.os.trans h2.os, h4.tape.trans h2.tape, h4.output.trans h2.output, Nat.le_trans h2.size h4.size, fun k hk hn => (h4.block k (Nat.lt_of_lt_of_le hk h2.size) hn).trans (h2.block k hk hn)⟩⟩
/-- Fewer of a row's first elements. -/
theorem row_less {w : World} {B g n cap m : Nat} {e : TypeId} {size : Nat} {xs : List Value} (h : w.ownsRow B e size (.slice (some ⟨g, 0, none⟩) n cap) n xs) (hm : m ≤ n) : w.ownsRow B e size (.slice (some ⟨g, 0, none⟩) m cap) m (xs.take (m * size)) := by
  have hms : m * size ≤ n * size := Nat.mul_le_mul_right _ hm
  rcases h.2 with ⟨h', _⟩ | ⟨g', cap', cur, h', hb, hg, hnc, hcm, hcs, htake⟩
  · simp at h'
  · simp only [Value.slice.injEq, Option.some.injEq, Addr.mk.injEq, and_true, true_and] at h'
    obtain ⟨rfl, rfl⟩ := h'
    refine ⟨by rw [List.length_take, h.1]; omega, .inr ⟨g, cap, cur, rfl, hb, hg, by omega, hcm, hcs, ?_⟩⟩
    rw [← htake, List.take_take]; congr 1; omega

theorem OwnsF.keep {w w' : World} {b : Nat} {v : Value} {t : List Fl} (h : OwnsF w b v t) (hb : Below w.heap.size w w') : OwnsF w' b v t := by
  refine ⟨h.1, h.2.imp id ?_⟩
  rintro ⟨g', c, cur, h1, h2, h3, h4⟩
  have hlt : g' < w.heap.size := by
    rcases Nat.lt_or_ge g' w.heap.size with h5 | h5
    · exact h5
    · rw [Array.getElem?_eq_none h5] at h3; cases h3
  exact ⟨g', c, cur, h1, h2, (hb.block g' hlt).trans h3, h4⟩
theorem cellsF_take : ∀ (t : List Fl) (k : Nat), cellsF (t.take k) = (cellsF t).take (k * 2)
  | [], k => by simp [cellsF]
  | f :: t, 0 => by simp [cellsF]
  | f :: t, k + 1 => by
    rw [List.take_succ_cons, show (k + 1) * 2 = k * 2 + 1 + 1 by omega]
    simp only [cellsF, List.take_succ_cons, cellsF_take t k]
theorem cellsF_drop : ∀ (t : List Fl) (k : Nat), cellsF (t.drop k) = (cellsF t).drop (k * 2)
  | [], k => by simp [cellsF]
  | f :: t, 0 => by simp
  | f :: t, k + 1 => by
    rw [List.drop_succ_cons, show (k + 1) * 2 = k * 2 + 1 + 1 by omega]
    simp only [cellsF, List.drop_succ_cons, cellsF_drop t k]
/-- One file put in the place of one. -/
theorem OwnsF.put {w : World} {B g n cap k : Nat} {t : List Fl} (h : OwnsF w B (.slice (some ⟨g, 0, none⟩) n cap) t) (hn : t.length = n) (hk : k < n) (s d : ByteArray) :
    OwnsF ((w.setCell ⟨g, k * 2, none⟩ (.string s)).setCell ⟨g, k * 2 + 1, none⟩ (.string d)) B (.slice (some ⟨g, 0, none⟩) n cap) (t.take k ++ (s.data.toList, d.data.toList) :: t.drop (k + 1)) ∧ w.grownBy ((w.setCell ⟨g, k * 2, none⟩ (.string s)).setCell ⟨g, k * 2 + 1, none⟩ (.string d)) (some g) := by
  subst hn
  have h' := row_stores [.string s, .string d] (k * 2) (cellsF t) w h (by simp; omega)
  refine ⟨?_, h'.2⟩
  unfold OwnsF
  have hl : (t.take k ++ (s.data.toList, d.data.toList) :: t.drop (k + 1)).length = t.length := by simp; omega
  rw [hl, cellsF_append, cellsF_take]
  simp only [cellsF, cellsF_drop]
  have h2 := h'.1
  simp only [SV_str, List.append_assoc, List.cons_append, List.nil_append, List.length_cons, List.length_nil] at h2
  rw [show (k + 1) * 2 = k * 2 + (0 + 1 + 1) by omega]
  exact h2

theorem OwnsF.frozenAt' {w : World} {B g n cap : Nat} {t : List Fl} (h : OwnsF w B (.slice (some ⟨g, 0, none⟩) n cap) t) (j : Nat) (hn : t.length = n) : w.frozen? ⟨g, j, none⟩ = false := by
  subst hn
  exact World.ownsRow.frozenAt h j
theorem Pred.more {g c : Nat} {p : Fl → Bool} {B B' : Nat} {w : World} (h : Pred g c p B w) (hB : B ≤ B') : Pred g c p B' w := fun W s d hW => h W s d (hW.mono hB)
theorem Pred.at {g c : Nat} {p : Fl → Bool} {B : Nat} {w w' : World} (h : Pred g c p B w) (hb : Below B w w') : Pred g c p B w' := fun W s d hW => h W s d (hb.trans hW)

/-- 'clear(s)' of elements of whatever size. -/
theorem run_clear_k {P : Program} (w : World) (t e ty : TypeId) (z : Value) (ht : P.underlying t = some (.slice e)) (hv : ∀ w, (zeroValue e).run P w = .ok z w) (b o n c : Nat) (hn : 0 < n)
    (h1 : ∀ v ∈ (Builtin.zeroCells z.cells n).toList, v.oneCell' = true)
    (hc : ∀ j, j < (Builtin.zeroCells z.cells n).toList.length → (w.cell? ⟨b, o + j, none⟩).isSome = true) (hf : ∀ j, j < (Builtin.zeroCells z.cells n).toList.length → w.frozen? ⟨b, o + j, none⟩ = false) :
    (Builtin.clear_ #[t] ty #[.slice (some ⟨b, o, none⟩) n c]).run P w = .ok (.tuple #[]) (w.setCells b o (Builtin.zeroCells z.cells n).toList) := by
  have hst := run_storeCells_cells (P := P) b o (Builtin.zeroCells z.cells n).toList 0 w (by simpa using hc) (by simpa using hf) h1
  simp only [Nat.add_zero] at hst
  obtain ⟨m, rfl⟩ : ∃ m, n = m + 1 := ⟨n - 1, by omega⟩
  simp [Builtin.clear_, run_underlying ht, hv, hst]

def noFile : Value := .agg #[.string ⟨#[]⟩, .string ⟨#[]⟩]
theorem noFile_cells : noFile.cells = #[.string ⟨#[]⟩, .string ⟨#[]⟩] := by kernel_rfl
theorem zeros_len (n : Nat) : (Builtin.zeroCells noFile.cells n).toList.length = n * 2 := by rw [noFile_cells]; simp [Builtin.zeroCells]
theorem zeros_all (n : Nat) : ∀ v ∈ (Builtin.zeroCells noFile.cells n).toList, v = .string ⟨#[]⟩ := by
  intro v hv
  rw [noFile_cells] at hv
  unfold Builtin.zeroCells at hv
  rw [Array.toList_map, List.mem_map] at hv
  obtain ⟨i, _, rfl⟩ := hv
  have : i % 2 = 0 ∨ i % 2 = 1 := by omega
  rcases this with h | h <;> simp [h]
theorem zeros_one (n : Nat) : ∀ v ∈ (Builtin.zeroCells noFile.cells n).toList, v.oneCell' = true := fun v hv => by rw [zeros_all n v hv]; rfl

/-- Of the first j files those that stay. -/
def stay (p : Fl → Bool) (t : List Fl) (j : Nat) : List Fl := (t.take j).filter (fun x => !p x)
theorem stay_succ {p : Fl → Bool} {t : List Fl} {j : Nat} {x : Fl} (hx : t[j]? = some x) : stay p t (j + 1) = stay p t j ++ if p x = true then [] else [x] := by
  unfold stay
  rw [take_snoc t j x hx, List.filter_append]
  by_cases h : p x = true
  · rw [if_pos h]; simp [h]
  · rw [if_neg h]; simp [h]
theorem stay_le (p : Fl → Bool) (t : List Fl) (j : Nat) : (stay p t j).length ≤ j := by
  unfold stay
  exact Nat.le_trans (List.length_filter_le _ _) (by rw [List.length_take]; omega)
theorem stay_all {p : Fl → Bool} {t : List Fl} {j : Nat} (ho : ∀ i f, i < j → t[i]? = some f → p f = false) : stay p t j = t.take j := by
  unfold stay
  rw [List.filter_eq_self]
  intro f hf
  obtain ⟨i, hi⟩ := List.getElem?_of_mem hf
  rw [List.getElem?_take] at hi
  split at hi
  · rename_i h; rw [ho i f h hi]; rfl
  · cases hi

/-- What a call that hands back its slice, with fewer files in it, leaves. -/
def AnsK (A : Option Addr) (cap B : Nat) (w : World) (t : List Fl) (e : Ending) (w' : World) : Prop :=
  ∃ m, e = .returned (.slice A m cap) ∧ t.length = m ∧ OwnsF w' B (.slice A m cap) t ∧ Below B w w'

set_option maxRecDepth 100000 in
set_option maxHeartbeats 2000000 in
theorem deletef_any (g c : Nat) (eg : ∀ args w, (callFunc g args).run Try.prog w = .ok (.enter g args) w) (p : Fl → Bool) (A : Option Addr) (cap B n : Nat) (t : List Fl) (w : World) (hp : Pred g c p B w) (hn : t.length = n) (hnm : n ≤ 100000) (ho : OwnsF w B (.slice A n cap) t) (hB : B ≤ w.heap.size) :
    Calls Try.prog 39 #[.slice A n cap, .func (.func g) #[] #[.pointer (some ⟨c, 0, none⟩)]] w (AnsK A cap B w (t.filter (fun x => !p x))) := by
  have HI := Lib.hid (index_any g c eg p A cap w.heap.size n t w (hp.more hB) hn (by omega) ho.row (Nat.le_refl _))
  rcases idx_cases p t with ⟨h1, h2⟩ | ⟨q, x0, h1, h2, h3, h4⟩
  · rw [h1] at HI
    have HF : Hid (t.filter (fun x => !p x) = t) := List.filter_eq_self.2 fun f hf => by rw [h2 f hf]; rfl
    have HO := Lib.hid ho
    have HN := Lib.hid hn
    clear h1 h2 hp ho hn
    go_enter Try.func39, Try.ntmps39
    go_wp2_with fail
    refine HI.out.mono ?_
    rintro e w1 ⟨rfl, hb1⟩
    have HB1 := Lib.hid hb1
    clear hb1
    go_wp2_with fail
    go_ret
    unfold AnsK
    rw [HF.out]
    exact ⟨n, rfl, HN.out, HO.out.keep HB1.out, HB1.out.mono hB⟩
  · rw [h1] at HI
    have hqn : q < n := by rw [← hn]; exact (List.getElem?_eq_some_iff.1 h2).1
    obtain ⟨gr, rfl⟩ : ∃ gr, A = some ⟨gr, 0, none⟩ := by
      rcases ho.2 with ⟨h, _⟩ | ⟨gr, _, _, h, _⟩
      · injection h with h5 h6; omega
      · injection h with h5; exact ⟨gr, h5⟩
    have hgr := ho.lt gr rfl
    have hs0 : stay p t q = t.take q := stay_all h4
    have hs1 : stay p t (q + 1) = t.take q := by rw [stay_succ h2, hs0, if_pos h3, List.append_nil]
    have HS1 := Lib.hid hs1
    have HO := Lib.hid ho
    have HN := Lib.hid hn
    have HP := Lib.hid hp
    have hqi : (q : Int) < n := by omega
    have hne : ((q : Int) == -1) = false := beq_eq_false_iff_ne.2 (by omega)
    clear h1 h2 h3 h4 hp ho hn hs0 hs1
    go_enter Try.func39, Try.ntmps39
    go_wp2_with fail
    refine HI.out.mono ?_
    rintro e w1 ⟨rfl, hb1⟩
    have HB1 := Lib.hid hb1
    have HO1 := Lib.hid (HO.out.keep hb1)
    clear hb1
    go_wp2_with fail
    go_loopw [5, 6] (fun i j wr => ∃ k m : Nat, k ≤ n ∧ m < k ∧ i = .int .i64 m ∧ j = .int .i64 k ∧ Hid ((stay p t k).length = m) ∧ Hid (OwnsF wr B (.slice (some ⟨gr, 0, none⟩) n cap) (stay p t k ++ t.drop m)) ∧ Hid (Below B w wr)) (fun _ j _ => n - (intOf j).toNat)
    case atStart =>
      refine ⟨q + 1, q, by omega, by omega, rfl, by go_num, ?_, ?_, HB1.out.mono hB⟩
      · show _ = _
        rw [HS1.out, List.length_take, HN.out]; omega
      · show OwnsF _ _ _ _
        rw [HS1.out, List.take_append_drop]; exact HO1.out
    case round =>
      obtain ⟨k, m, hk, hm, rfl, rfl, HLN, HOW, HBW⟩ := hrel
      by_cases hlt : k < n
      · have hki : (k : Int) < n := by omega
        have hmi : (m : Int) < n := by omega
        have hxk : t[k]? = some (t[k]'(by rw [HN.out]; exact hlt)) := List.getElem?_eq_getElem _
        generalize t[k]'(by rw [HN.out]; exact hlt) = x at hxk
        have hxk' : (stay p t k ++ t.drop m)[k]? = some x := by
          rw [List.getElem?_append_right (by rw [HLN.out]; omega), HLN.out, List.getElem?_drop, ← hxk]
          congr 1; omega
        have hlen : (stay p t k ++ t.drop m).length = n := by rw [List.length_append, HLN.out, List.length_drop, HN.out]; omega
        have hxm : (stay p t k ++ t.drop m)[m]? = some ((stay p t k ++ t.drop m)[m]'(by rw [hlen]; omega)) := List.getElem?_eq_getElem _
        generalize (stay p t k ++ t.drop m)[m]'(by rw [hlen]; omega) = y at hxm
        obtain ⟨b1, o1, sp, sd, e1, hb1, hsp, hsd, cP, cD⟩ := HOW.out.row k x hxk'
        injection e1 with e1
        injection e1 with e1 e2
        subst e1 e2
        obtain ⟨b2, o2, yp, yd, e1, hb2, hyp, hyd, cP', cD'⟩ := HOW.out.row m y hxm
        injection e1 with e1
        injection e1 with e1 e2
        subst e1 e2
        obtain rfl : x = (sp.data.toList, sd.data.toList) := Prod.ext hsp.symm hsd.symm
        rw [Nat.zero_add] at cP cD cP' cD'
        have HLEN := Lib.hid hlen
        have hst := stay_succ (p := p) hxk
        have hz1 := HOW.out.frozenAt' (m * 2) hlen
        have hz2 := HOW.out.frozenAt' (m * 2 + 1) hlen
        have HB0 : Hid (Below wr.heap.size wr (wr.alloc (.cells #[.string sp, .string sd] 29))) := (Below.refl _ _).alloc (Nat.le_refl _) _
        have HBx : Hid (Below B w (wr.alloc (.cells #[.string sp, .string sd] 29))) := HBW.out.trans (HB0.out.mono (by have := HBW.out.size; omega))
        have HC := Lib.hid (HP.out _ sp sd HBx.out)
        clear hxk hxk' hxm hsp hsd hyp hyd hlen
        have HFX : Hid (∀ W, Below (wr.alloc (.cells #[.string sp, .string sd] 29)).heap.size (wr.alloc (.cells #[.string sp, .string sd] 29)) W →
            W.cell? ⟨wr.heap.size, 0, none⟩ = some (.string sp) ∧ W.cell? ⟨wr.heap.size, 1, none⟩ = some (.string sd) ∧ W.cell? ⟨gr, m * 2, none⟩ = some (.string yp) ∧ W.cell? ⟨gr, m * 2 + 1, none⟩ = some (.string yd) ∧
            W.frozen? ⟨gr, m * 2, none⟩ = false ∧ W.frozen? ⟨gr, m * 2 + 1, none⟩ = false ∧ Hid (OwnsF W B (.slice (some ⟨gr, 0, none⟩) n cap) (stay p t k ++ t.drop m)) ∧ Hid (Below B w W)) := fun W hW => by
          have hsz : (wr.alloc (.cells #[.string sp, .string sd] 29)).heap.size = wr.heap.size + 1 := by simp
          have hg1 : gr < (wr.alloc (.cells #[.string sp, .string sd] 29)).heap.size := by omega
          refine ⟨(hW.cell (by show wr.heap.size < _; omega)).trans (by simp), (hW.cell (by show wr.heap.size < _; omega)).trans (by simp), (hW.cell hg1).trans ((World.cell?_alloc_lt wr _ _ hb2).trans cP'), (hW.cell hg1).trans ((World.cell?_alloc_lt wr _ _ hb2).trans cD'), ?_, ?_, ?_, ?_⟩
          · exact OwnsF.frozenAt' ((HOW.out.alloc' _).keep hW) _ HLEN.out
          · exact OwnsF.frozenAt' ((HOW.out.alloc' _).keep hW) _ HLEN.out
          · exact (HOW.out.alloc' _).keep hW
          · exact HBx.out.trans (hW.mono (by have := HBW.out.size; omega))
        cases hq : p (sp.data.toList, sd.data.toList)
        · rw [hq] at HC hst
          have hst2 : stay p t (k + 1) = stay p t k ++ [(sp.data.toList, sd.data.toList)] := hst
          have HST := Lib.hid hst2
          clear hst hst2 hq
          go_wp2_with (go_at_fn g; refine HC.out.mono ?_; rintro e w' ⟨rfl, hb'⟩; obtain ⟨f1, f2, f3, f4, f5, f6, HO', HB'⟩ := HFX.out _ hb'; clear hb')
          have HST2 : Hid ((stay p t (k + 1)).length = m + 1) := by show _ = _; rw [HST.out, List.length_append, HLN.out]; rfl
          obtain ⟨ho2, hg2⟩ := HO'.out.put (k := m) HLEN.out (by omega) sp sd
          have HO2 : Hid (OwnsF ((w'.setCell ⟨gr, m * 2, none⟩ (.string sp)).setCell ⟨gr, m * 2 + 1, none⟩ (.string sd)) B (.slice (some ⟨gr, 0, none⟩) n cap) (stay p t (k + 1) ++ t.drop (m + 1))) := by
            show OwnsF _ _ _ _
            have e1 : (stay p t k ++ t.drop m).take m = stay p t k := by rw [List.take_append_of_le_length (by rw [HLN.out]; omega)]; exact List.take_of_length_le (by rw [HLN.out]; omega)
            have e2 : (stay p t k ++ t.drop m).drop (m + 1) = t.drop (m + 1) := by rw [List.drop_append, List.drop_of_length_le (by rw [HLN.out]; omega), HLN.out, List.nil_append, List.drop_drop]; congr 1; omega
            rw [e1, e2] at ho2
            rw [HST.out, List.append_assoc]
            exact ho2
          have HB2 : Hid (Below B w ((w'.setCell ⟨gr, m * 2, none⟩ (.string sp)).setCell ⟨gr, m * 2 + 1, none⟩ (.string sd))) := HB'.out.grown hg2 (by have := HB'.out.size; omega) (fun q hq => by cases hq; exact hgr.1)
          clear ho2 hg2
          go_roundw
          case rel => exact ⟨k + 1, m + 1, by omega, by omega, by go_num, by go_num, HST2.out, HO2.out, HB2.out⟩
          case measure => simp [intOf]; omega
        · rw [hq] at HC hst
          rw [if_pos rfl, List.append_nil] at hst
          have HST := Lib.hid hst
          clear hst hq
          go_wp2_with (go_at_fn g; refine HC.out.mono ?_; rintro e w' ⟨rfl, hb'⟩; obtain ⟨f1, f2, f3, f4, f5, f6, HO', HB'⟩ := HFX.out _ hb'; clear hb')
          go_roundw
          case rel => exact ⟨k + 1, m, by omega, by omega, rfl, by go_num, by rw [HST.out]; exact HLN.out, by rw [HST.out]; exact HO'.out, HB'.out⟩
          case measure => simp [intOf]; omega
      · obtain rfl : k = n := by omega
        have hlen : (stay p t k ++ t.drop m).length = k := by rw [List.length_append, HLN.out, List.length_drop, HN.out]; omega
        have hcap : k ≤ cap := by
          rcases HOW.out.2 with ⟨h, _⟩ | ⟨g', cap', cur, h, _, _, h5, _⟩
          · simp at h
          · injection h with h1 h2 h3
            rw [hlen] at h5; omega
        have hcm : ¬ cap = m := by omega
        have hmi : (m : Int) ≤ k := by omega
        have hkm : 0 < k - m := by omega
        have hzv : ∀ w, (zeroValue 29).run Try.prog w = .ok noFile w := Try.zeroValue29
        obtain ⟨zs, hzs⟩ : ∃ zs, (Builtin.zeroCells noFile.cells (k - m)).toList = zs := ⟨_, rfl⟩
        have hzl : zs.length = (k - m) * 2 := by rw [← hzs]; exact zeros_len _
        have hcl := run_clear_k (P := Try.prog) wr 22 29 0 noFile Try.underlying22 hzv gr (m * 2) (k - m) (cap - m) hkm (zeros_one _) (fun j hj => by
          rw [hzs, hzl] at hj
          have ho' := HOW.out
          unfold OwnsF at ho'
          rw [hlen] at ho'
          rw [World.ownsRow.cellAt ho' (m * 2 + j) (by omega), List.getElem?_eq_getElem (by rw [cellsF_length, hlen]; omega)]
          rfl) (fun j _ => HOW.out.frozenAt' _ hlen)
        rw [hzs] at hcl
        obtain ⟨W2, hW2⟩ : ∃ W2, W2 = wr.setCells gr (m * 2) zs := ⟨_, rfl⟩
        rw [← hW2] at hcl
        have ho2 := row_stores zs (m * 2) (cellsF (stay p t k ++ t.drop m)) wr (by have h := HOW.out; unfold OwnsF at h; rw [hlen] at h; exact h) (by rw [hzl]; omega)
        rw [← hW2] at ho2
        have hall : stay p t k = t.filter (fun x => !p x) := by unfold stay; rw [List.take_of_length_le (by rw [HN.out]; omega)]
        have HO2 : Hid (OwnsF W2 B (.slice (some ⟨gr, 0, none⟩) m cap) (t.filter (fun x => !p x))) := by
          show OwnsF _ _ _ _
          have h := row_less ho2.1 (m := m) (by omega)
          unfold OwnsF
          rw [← hall, HLN.out]
          rw [cellsF_append, List.take_append_of_le_length (by rw [List.length_append, List.length_take, List.length_append, cellsF_length, cellsF_length, HLN.out]; omega), List.take_append_of_le_length (by rw [List.length_take, List.length_append, cellsF_length, cellsF_length, HLN.out]; omega), List.take_take, Nat.min_self, List.take_append_of_le_length (by rw [cellsF_length, HLN.out]; omega), List.take_of_length_le (by rw [cellsF_length, HLN.out]; omega)] at h
          exact h
        have HB2 : Hid (Below B w W2) := HBW.out.grown ho2.2 (by have := HBW.out.size; omega) (fun q hq => by cases hq; exact hgr.1)
        have HLF : Hid ((t.filter (fun x => !p x)).length = m) := by show _ = _; rw [← hall]; exact HLN.out
        clear hzv hW2 ho2 hall hzs hzl hlen hnm hkm hm
        go_wp2
        go_ret
        exact ⟨m, rfl, HLF.out, HO2.out, HB2.out⟩
end Tr
end Go.Proofs.Ytkldgfdfpanelaa
