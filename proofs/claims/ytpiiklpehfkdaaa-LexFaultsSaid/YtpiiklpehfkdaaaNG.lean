/-
  Layer 9 (lex): the document's All; what a division of a text answers.
-/
import Derived.Test.YtpiiklpehfkdaaaNQ
import Derived.Deep.AppendLies
import Derived.Deep.RegionHeld3
namespace Go.Proofs.Ytpiiklpehfkdaaa
namespace Lx
open Go.RowKit Kr

abbrev T_K : TypeId := 33
def encT (t : Tk) : List Value := [.int .i64 (t.kind : Int), .string (ofB t.text), .int .i64 (t.line : Int), .int .i64 (t.col : Int)]
theorem encT_length (t : Tk) : (encT t).length = 4 := rfl
theorem encT_one (t : Tk) : ∀ u ∈ encT t, u.oneCell' = true := fun u hu => by
  unfold encT at hu
  simp only [List.mem_cons, List.mem_nil_iff, or_false] at hu
  rcases hu with rfl | rfl | rfl | rfl <;> rfl
abbrev OwnsT (w : World) (base : Nat) (v : Value) (l : List Tk) : Prop := OwnsK encT 4 T_K w base v l
abbrev TRow (w : World) (B : Nat) (A : Option Addr) (l : List Tk) : Prop := KRow encT 4 w B A l
theorem tokInfo : (Try.prog.info? T_K).map (fun i => (i.zero, i.size, i.bytes)) = some (some (.agg #[.int .i64 0, .string ⟨#[]⟩, .int .i64 0, .int .i64 0]), 4, 40) := by kernel_rfl
/-- What a text is divided into: tokens, an error's number, its place. -/
def ansV (s : Bs) : List Tk × Nat × Pl := if 65536 < s.length then ([], 6, (1, 1)) else match cut (1, 1) s with | .inr e => ([], e.1, e.2) | .inl l => (l, 0, (0, 0))
/-- What a call that divides a text leaves. -/
def AllAns (s : Bs) (w : World) (e : Ending) (w' : World) : Prop :=
  ∃ A n cap, e = .returned (.tuple #[.slice A n cap, .int .i64 ((ansV s).2.1 : Int), vpl (ansV s).2.2]) ∧ (ansV s).1.length = n ∧ TRow w' w'.heap.size A (ansV s).1 ∧ Below w.heap.size w w'
theorem ans_long {s : Bs} (h : 65536 < s.length) : ansV s = ([], 6, (1, 1)) := if_pos h
theorem ans_no {s : Bs} (h : ¬ 65536 < s.length) {n : Nat} {p : Pl} (hc : cut (1, 1) s = .inr (n, p)) : ansV s = ([], n, p) := by unfold ansV; rw [if_neg h, hc]
theorem ans_yes {s : Bs} (h : ¬ 65536 < s.length) {l : List Tk} (hc : cut (1, 1) s = .inl l) : ansV s = (l, 0, (0, 0)) := by unfold ansV; rw [if_neg h, hc]
theorem app_app (a b : List Tk) (X : Ans) : appA a (appA b X) = appA (a ++ b) X := by
  cases X with
  | inr e => rfl
  | inl m => show Sum.inl _ = Sum.inl _; rw [List.append_assoc]
/-- A piece that is right, taken. -/
theorem cut_take {T : Bs} {k : Nat} (hk : k < T.length) (h0 : (firstV (T.drop k)).err = 0) :
    cut (plT T k) (T.drop k) = appA (if (firstV (T.drop k)).kind = 0 then [] else [⟨(firstV (T.drop k)).kind, (firstV (T.drop k)).text, (plT T k).1, (plT T k).2⟩]) (cut (plT T (k + (firstV (T.drop k)).size)) (T.drop (k + (firstV (T.drop k)).size))) := by
  have hne : T.drop k ≠ [] := fun e => by have := congrArg List.length e; rw [List.length_drop, List.length_nil] at this; omega
  rw [cut_step hne, if_neg (by rw [h0]; simp), ← pl_more, List.drop_drop]
  generalize firstV (T.drop k) = c
  cases cut (plT T (k + c.size)) (T.drop (k + c.size)) with
  | inr e => rfl
  | inl l =>
    show Sum.inl _ = Sum.inl _
    by_cases hc : c.kind = 0
    · rw [if_pos hc, if_pos hc]; rfl
    · rw [if_neg hc, if_neg hc]; rfl
theorem cut_bad {T : Bs} {k : Nat} (hk : k < T.length) (h0 : (firstV (T.drop k)).err ≠ 0) : cut (plT T k) (T.drop k) = .inr ((firstV (T.drop k)).err, plT T k) := by
  have hne : T.drop k ≠ [] := fun e => by have := congrArg List.length e; rw [List.length_drop, List.length_nil] at this; omega
  rw [cut_step hne, if_pos h0]
theorem first_fits {T : Bs} {k : Nat} (hk : k < T.length) (h0 : (firstV (T.drop k)).err = 0) : 0 < (firstV (T.drop k)).size ∧ k + (firstV (T.drop k)).size ≤ T.length := by
  have hne : T.drop k ≠ [] := fun e => by have := congrArg List.length e; rw [List.length_drop, List.length_nil] at this; omega
  have := first_size hne h0
  rw [List.length_drop] at this
  omega
theorem new_cell (w : World) (cs : List Value) (T : TypeId) {j : Nat} {u : Value} (h : cs[j]? = some u) : (w.alloc (.cells cs.toArray T)).cell? ⟨w.heap.size, j, none⟩ = some u := ((Row.new_at w T cs.toArray cs rfl rfl).cell j).trans h
theorem cut_end {T : Bs} {k : Nat} (hk : T.length ≤ k) (p : Pl) : cut p (T.drop k) = .inl [] := by rw [List.drop_of_length_le hk, cut_nil]

theorem owns_apart {w w' : World} {base : Nat} {v : Value} {t : List Tk} (h : OwnsT w base v t) (hk : ∀ q, base ≤ q → q < w.heap.size → w'.heap[q]? = w.heap[q]?) : OwnsT w' base v t := by
  refine ⟨h.1, h.2.imp id ?_⟩
  rintro ⟨g', c, cur, h1, h2, h3, h4⟩
  have hlt : g' < w.heap.size := by
    rcases Nat.lt_or_ge g' w.heap.size with h5 | h5
    · exact h5
    · rw [Array.getElem?_eq_none h5] at h3; cases h3
  exact ⟨g', c, cur, h1, h2, (hk g' h2 hlt).trans h3, h4⟩
theorem owns_set {w : World} {base : Nat} {v : Value} {t : List Tk} (h : OwnsT w base v t) {p : Addr} (hp : p.block < base) (u : Value) : OwnsT (w.setCell p u) base v t :=
  owns_apart h fun q hq _ => Below.heap_setCell w p u q (by omega)

section
variable {P : Program}
theorem results_tmps_cell {fn : Func} {p q u : Tmp} {ty : TypeId} (h : fn.results = #[.tmp p, .tmp q, .cell u ty]) (tmps : Array Value) (w : World) :
    (results fn tmps).run P w = ((asAddr (tmps.getD u undef)).run P w).andThen fun a w₁ => ((loadVar ty a).run P w₁).andThen fun v w₂ => .ok (.tuple #[tmps.getD p undef, tmps.getD q undef, v]) w₂ := by
  simp only [results, h]
  simp [Sem.run_bind, Result.andThen]
/-- Three results, the last one a struct that lies in a block. -/
theorem results_tmps_row {fn : Func} {p q u : Tmp} {ty : TypeId} (h : fn.results = #[.tmp p, .tmp q, .cell u ty]) (tmps : Array Value) (w : World) (g : Nat) (t : TypeId) (L : List Value) (d : TypeDesc)
    (hp : tmps.getD u undef = .pointer (some ⟨g, 0, none⟩)) (hg : Row w g t L) (hu : P.underlying ty = some d) (hd : (match d with | .struct _ | .array _ _ => true | _ => false) = true) (hi : (P.info? ty).map (·.size) = some L.length) :
    (results fn tmps).run P w = .ok (.tuple #[tmps.getD p undef, tmps.getD q undef, .agg L.toArray]) w := by
  rw [results_tmps_cell h, hp]
  have hl := run_loadVar_row (P := P) w g t ty L.toArray (0, 0) d hg hu hd (by simpa using hi)
  simp [asAddr, Result.andThen, hl]
end

set_option maxRecDepth 100000 in
set_option maxHeartbeats 4000000 in
theorem refall_any (s : ByteArray) (w : World) : Calls Try.prog 10 #[.string s] w (AllAns (toB s) w) := by
  obtain ⟨i0, hi, hz0, hz1, hz2⟩ := info_parts tokInfo
  obtain ⟨T, hT⟩ : ∃ T, toB s = T := ⟨_, rfl⟩
  have HT := Lib.hid hT
  have HTL : Hid (T.length = s.size) := by show _ = _; rw [← hT]; rfl
  rw [hT]
  clear hT
  by_cases hbig : 65536 < s.size
  · have HE : Hid (ansV T = ([], 6, (1, 1))) := ans_long (by rw [HTL.out]; exact hbig)
    have hki : (65536 : Int) < s.size := by omega
    go_enter Try.func10, Try.ntmps10
    go_wp2
    refine bodyPost_ret (results_tmps_row rfl _ _ w.heap.size 26 (lpl (1, 1)) _ rfl (Row.new_at _ _ _ _ rfl rfl) Try.underlying26 rfl (by kernel_rfl)) rfl ?_
    refine ⟨none, 0, 0, by rw [HE.out]; rfl, by rw [HE.out]; rfl, by rw [HE.out]; exact KRow.none_ _ _ _, (Below.refl _ _).alloc (Nat.le_refl _) _⟩
  · have hki : ¬ (65536 : Int) < s.size := by omega
    have hkn : ¬ 65536 < T.length := by rw [HTL.out]; exact hbig
    have HKN := Lib.hid hkn
    clear hkn
    go_enter Try.func10, Try.ntmps10
    go_wp2
    go_loopw [5, 6] (fun o i wr => ∃ (k cp : Nat) (A : Option Addr) (acc : List Tk), k ≤ s.size ∧ acc.length ≤ k ∧ i = .int .i64 k ∧ o = .slice A acc.length cp ∧ Hid (OwnsT wr (w.heap.size + 1) (.slice A acc.length cp) acc) ∧ Hid (Row wr w.heap.size 26 (lpl (0, 0))) ∧ Hid (Below w.heap.size w wr) ∧ Hid (cut (1, 1) T = appA acc (cut (plT T k) (T.drop k)))) (fun _ i _ => s.size - (intOf i).toNat)
    case atStart =>
      refine ⟨0, 0, none, [], Nat.zero_le _, Nat.le_refl _, rfl, rfl, OwnsK.nil _ _, Row.new_at _ _ _ _ rfl rfl, (Below.refl _ _).alloc (Nat.le_refl _) _, ?_⟩
      show cut (1, 1) T = appA [] (cut (1, 1) T)
      cases cut (1, 1) T <;> rfl
    case round =>
      obtain ⟨k, cp, A, acc, hk, hal, rfl, rfl, HO, HRW, HB, HC⟩ := hrel
      have hwr := HB.out.size
      have hwr1 := HRW.out.lt
      by_cases hlt : k < s.size
      · have hki2 : (k : Int) < s.size := by omega
        have hsf := cut_from s (k : Int) k rfl hk
        rw [HT.out] at hsf
        have hne : toB (ofB (T.drop k)) ≠ [] := by
          rw [toB_ofB]
          intro e
          have := congrArg List.length e
          rw [List.length_drop, List.length_nil, HTL.out] at this
          omega
        have hzf : (ofB (T.drop k)).size ≤ 1000000 := by rw [ofB_size, List.length_drop]; have := HTL.out; omega
        have HF := Lib.hid (fun W => reffirst_any (ofB (T.drop k)) W hne hzf)
        rw [toB_ofB] at HF
        have HAT := Lib.hid (fun W => refat_any s k W hk (by omega))
        rw [HT.out] at HAT
        by_cases he : (firstV (T.drop k)).err = 0
        · have hfit := first_fits (by rw [HTL.out]; exact hlt) he
          rw [HTL.out] at hfit
          have hct := cut_take (T := T) (k := k) (by rw [HTL.out]; exact hlt) he
          have HC2 : Hid (cut (1, 1) T = appA (acc ++ (if (firstV (T.drop k)).kind = 0 then [] else [⟨(firstV (T.drop k)).kind, (firstV (T.drop k)).text, (plT T k).1, (plT T k).2⟩])) (cut (plT T (k + (firstV (T.drop k)).size)) (T.drop (k + (firstV (T.drop k)).size)))) := by
            show _ = _
            rw [HC.out, hct, app_app]
          clear hct HC
          generalize firstV (T.drop k) = c at *
          obtain ⟨c1, c2, c3, c4⟩ := c
          simp only at he hfit
          subst he
          obtain ⟨hf1, hf2⟩ := hfit
          have HPL : Hid (adv (1, 1) (T.take k) = plT T k) := rfl
          rw [HPL.out] at HAT
          generalize ofB (T.drop k) = sx at *
          by_cases hk0 : c1 = 0
          · subst hk0
            have HC3 : Hid (cut (1, 1) T = appA acc (cut (plT T (k + c3)) (T.drop (k + c3)))) := by
              have := HC2.out
              rw [if_pos rfl, List.append_nil] at this
              exact this
            clear HC2
            go_wp2_with (go_at_call 20; refine (HF.out _).mono ?_; rintro e w1 ⟨rfl, hb1⟩)
            go_roundw
            case rel => exact ⟨k + c3, cp, A, acc, by omega, by omega, by go_num, rfl, (HO.out.keep (hb1.mono (Nat.le_refl _))).alloc _, (HRW.out.below hb1 hwr1).alloc _, (HB.out.trans (hb1.mono hwr)).alloc (by have := hb1.size; omega) _, HC3.out⟩
            case measure => simp [intOf]; omega
          · have hki0 : (0 : Int) < c1 := by omega
            have HPB := Lib.hid (pl_bounds T k)
            obtain ⟨p, hp⟩ : ∃ p, plT T k = p := ⟨_, rfl⟩
            rw [hp] at HAT HPB HC2
            obtain ⟨pl, pc⟩ := p
            have HC3 : Hid (cut (1, 1) T = appA (acc ++ [⟨c1, c2, pl, pc⟩]) (cut (plT T (k + c3)) (T.drop (k + c3)))) := by
              have := HC2.out
              rw [if_neg hk0] at this
              exact this
            clear HC2 hp hk0 HPL
            go_wp2_with (go_at_call 20; refine (HF.out _).mono ?_; rintro e w1 ⟨rfl, hb1⟩)
            obtain ⟨w2, hw2⟩ : ∃ W, W = w1.alloc (.cells #[.int .i64 (c1 : Int), .string (ofB c2), .int .i64 (c3 : Int), .int .i64 0] 47) := ⟨_, rfl⟩
            have HB2 : Hid (Below w.heap.size w w2) := by rw [hw2]; exact (HB.out.trans (hb1.mono hwr)).alloc (by have := hb1.size; omega) _
            have HRW2 : Hid (Row w2 w.heap.size 26 (lpl (0, 0))) := by rw [hw2]; exact (HRW.out.below hb1 hwr1).alloc _
            have HO2 : Hid (OwnsT w2 (w.heap.size + 1) (.slice A acc.length cp) acc) := by rw [hw2]; exact (HO.out.keep hb1).alloc _
            have HPC2 : Hid (Row w2 w1.heap.size 47 (lpc ⟨c1, c2, c3, 0⟩)) := by rw [hw2]; exact Row.new_at _ _ _ _ rfl rfl
            rw [← hw2]
            have HNB : Hid (some w1.heap.size ≠ (Value.slice A acc.length cp).ownBlock) := fun e => Nat.lt_irrefl _ (World.ownsRow.lt (HO.out.keep hb1) w1.heap.size e.symm).2
            clear hw2 hb1 HO HRW HB
            have hs2 : w.heap.size + 1 ≤ w2.heap.size := HRW2.out.lt
            have HPF : Hid (∀ W, Below w2.heap.size w2.drew W → W.cell? ⟨w1.heap.size, 0, none⟩ = some (.int .i64 (c1 : Int)) ∧ W.cell? ⟨w1.heap.size, 1, none⟩ = some (.string (ofB c2))) := fun W hW => by
              have h1 := (HPC2.out.drewN 1).below hW HPC2.out.lt
              exact ⟨h1.cell 0, h1.cell 1⟩
            have HOW : Hid (∀ W, Below w2.heap.size w2.drew W → (W.alloc (.cells (encT ⟨c1, c2, pl, pc⟩).toArray T_K)).ownsRow (w.heap.size + 1) T_K 4 (.slice A acc.length cp) acc.length (acc.flatMap encT)) := fun W hW => (OwnsK.keep (HO2.out.drewN 1) hW).alloc _
            have HM : Hid (acc.length + 1 ≤ maxLen ∧ (acc.length + 1) * 40 ≤ 140737488355328) := ⟨by unfold maxLen; omega, by omega⟩
            have HS2 : Hid (∀ W, Below w2.heap.size w2.drew W → w.heap.size + 1 ≤ (W.alloc (.cells (encT ⟨c1, c2, pl, pc⟩).toArray T_K)).heap.size) := fun W hW => by have h1 := hW.size; have h2 : w2.drew.heap.size = w2.heap.size := rfl; rw [World.size_alloc]; omega
            have HPA : Hid (∀ W, Below w2.heap.size w2.drew W → ∀ o : Obj, (W.alloc o).cell? ⟨w1.heap.size, 0, none⟩ = some (.int .i64 (c1 : Int)) ∧ (W.alloc o).cell? ⟨w1.heap.size, 1, none⟩ = some (.string (ofB c2))) := fun W hW o => by
              have h1 := ((HPC2.out.drewN 1).below hW HPC2.out.lt).alloc o
              exact ⟨h1.cell 0, h1.cell 1⟩
            have HPG : Hid (∀ W, Below w2.heap.size w2.drew W → ∀ (o : Obj) (W5 : World), (W.alloc o).grownBy W5 (Value.slice A acc.length cp).ownBlock → W5.cell? ⟨w1.heap.size, 0, none⟩ = some (.int .i64 (c1 : Int)) ∧ W5.cell? ⟨w1.heap.size, 1, none⟩ = some (.string (ofB c2))) := fun W hW o W5 hg => by
              have h1 := (((HPC2.out.drewN 1).below hW HPC2.out.lt).alloc o).grown hg HNB.out
              exact ⟨h1.cell 0, h1.cell 1⟩
            have hS0 := HPF.out _ (Below.refl _ _)
            go_region_held3 (fun W : World => W.cell? ⟨w1.heap.size, 0, none⟩ = some (.int .i64 (c1 : Int)) ∧ W.cell? ⟨w1.heap.size, 1, none⟩ = some (.string (ofB c2)))
              (first | exact hS0 | assumption | exact hS4 _)
              ((first
                | (go_at_call 15; (refine Calls.mono (HAT.out _) ?_); rintro e w3 ⟨rfl, hb3⟩; have hS3 := HPF.out _ hb3; have hS4 := HPA.out _ hb3)
                | (refine step_append_lies _ rfl (.tmp 31) (.tmp 40) 23 rfl (w.heap.size + 1) T_K i0 (.agg #[.int .i64 0, .string ⟨#[]⟩, .int .i64 0, .int .i64 0]) 4 40 Try.underlying23 hi hz0 hz1 hz2 rfl (by decide) (.slice A acc.length cp) acc.length (acc.flatMap encT) (by simp [Act.eval]) (HOW.out _ hb3) ⟨w3.heap.size, 0, none⟩ 1 1 (encT ⟨c1, c2, pl, pc⟩) (by simp [Act.eval]) rfl (World.news_of_block (heap_alloc_new _ _)) (encT_one _) (by decide) HM.out.1 HM.out.2 (HS2.out _ hb3) _ rfl ?_; intro g5 cp5 w5 hown5 hgrow5 hw5 hlt5; have hS5 := HPG.out _ hb3 _ _ hgrow5)))
            all_goals
              have hb5 : Below w.heap.size w (w3.alloc (.cells (encT ⟨c1, c2, pl, pc⟩).toArray T_K)) := ((HB2.out.drew).trans (hb3.mono (Nat.le_of_succ_le hs2))).alloc (Nat.le_trans (Nat.le_of_succ_le hs2) hb3.size) _
              have HB5 := Lib.hid (hb5.grown hgrow5 (by have := hb3.size; rw [World.size_alloc]; show _ ≤ w3.heap.size + 1; have h2 : w2.drew.heap.size = w2.heap.size := rfl; omega) (fun q hq => Nat.le_of_succ_le (World.ownsRow.lt HO2.out q hq).1))
              have HRW5 := Lib.hid ((((HRW2.out.drewN 1).below hb3 HRW2.out.lt).alloc (.cells (encT ⟨c1, c2, pl, pc⟩).toArray T_K)).grown hgrow5 (fun e => by have := (World.ownsRow.lt HO2.out _ e.symm).1; omega))
              have HO5 : Hid (OwnsT w5 (w.heap.size + 1) (.slice (some ⟨g5, 0, none⟩) (acc.length + 1) cp5) (acc ++ [⟨c1, c2, pl, pc⟩])) := OwnsK.appended rfl hown5
              have hla : (acc ++ [(⟨c1, c2, pl, pc⟩ : Tk)]).length = acc.length + 1 := by rw [List.length_append, List.length_singleton]
              have HLA := Lib.hid hla
              obtain ⟨z0, z1⟩ := hS5
              have z2 : w5.cell? ⟨w1.heap.size, 2, none⟩ = some (.int .i64 (c3 : Int)) := ((((HPC2.out.drewN 1).below hb3 HPC2.out.lt).alloc (.cells (encT ⟨c1, c2, pl, pc⟩).toArray T_K)).grown hgrow5 HNB.out).cell 2
              clear hb5 hown5 hgrow5 hw5 hlt5 hb3 hS0 hS4 hla
              go_wp2
              go_roundw
              case rel => exact ⟨k + c3, cp5, some ⟨g5, 0, none⟩, acc ++ [Tk.mk c1 c2 pl pc], by omega, by rw [HLA.out]; omega, by go_num, by rw [HLA.out], by rw [HLA.out]; exact HO5.out, HRW5.out, HB5.out, HC3.out⟩
              case measure => simp [intOf]; omega
        · have HE : Hid (ansV T = ([], (firstV (T.drop k)).err, plT T k)) := by
            refine ans_no HKN.out ?_
            rw [HC.out, cut_bad (by rw [HTL.out]; exact hlt) he]
            rfl
          have hei : ¬ ((firstV (T.drop k)).err : Int) = 0 := by omega
          generalize firstV (T.drop k) = c at *
          obtain ⟨c1, c2, c3, c4⟩ := c
          have HPL : Hid (adv (1, 1) (T.take k) = plT T k) := rfl
          rw [HPL.out] at HAT
          have HPB := Lib.hid (pl_bounds T k)
          generalize plT T k = p at *
          obtain ⟨pl, pc⟩ := p
          simp only at hei HE
          generalize ofB (T.drop k) = sx at *
          go_wp2_with (go_at_call 20; refine (HF.out _).mono ?_; rintro e w1 ⟨rfl, hb1⟩)
          obtain ⟨w2, hw2⟩ : ∃ W, W = w1.alloc (.cells (lpc ⟨c1, c2, c3, c4⟩).toArray 47) := ⟨_, rfl⟩
          have HB2 : Hid (Below w.heap.size w w2) := by rw [hw2]; exact (HB.out.trans (hb1.mono hwr)).alloc (by have := hb1.size; omega) _
          have HRW2 : Hid (Row w2 w.heap.size 26 (lpl (0, 0))) := by rw [hw2]; exact (HRW.out.below hb1 hwr1).alloc _
          have HPC2 : Hid (Row w2 w1.heap.size 47 (lpc ⟨c1, c2, c3, c4⟩)) := by rw [hw2]; exact Row.new_at _ _ _ _ rfl rfl
          rw [← hw2]
          clear hw2 hb1 HO HRW HB
          have z3 := HPC2.out.cell 3
          have e0 := HRW2.out.cell 0
          have e1 := HRW2.out.cell 1
          have d0 := HRW2.out.frozen 0
          have d1 := HRW2.out.frozen 1
          have HPF : Hid (∀ W, Below w2.heap.size w2.drew W → W.cell? ⟨w1.heap.size, 3, none⟩ = some (.int .i64 (c4 : Int)) ∧ W.cell? ⟨w.heap.size, 0, none⟩ = some (.int .i64 0) ∧ W.cell? ⟨w.heap.size, 1, none⟩ = some (.int .i64 0) ∧ W.frozen? ⟨w.heap.size, 0, none⟩ = false ∧ W.frozen? ⟨w.heap.size, 1, none⟩ = false) := fun W hW => by
            have h1 := (HPC2.out.drewN 1).below hW HPC2.out.lt
            have h2 := (HRW2.out.drewN 1).below hW HRW2.out.lt
            exact ⟨h1.cell 3, h2.cell 0, h2.cell 1, h2.frozen 0, h2.frozen 1⟩
          go_region_with (go_at_call 15; refine (HAT.out _).mono ?_; rintro e w3 ⟨rfl, hb3⟩; obtain ⟨y3, y0, y1, x0, x1⟩ := HPF.out _ hb3)
          all_goals
            have HR3 := Lib.hid ((((HRW2.out.drewN 1).below hb3 HRW2.out.lt).set 0 (.int .i64 (pl : Int))).set 1 (.int .i64 (pc : Int)))
            have HB3 := Lib.hid (((HB2.out.drew.trans (hb3.mono HB2.out.size)).setCell (p := ⟨w.heap.size, 0, none⟩) (Nat.le_refl _) (.int .i64 (pl : Int))).setCell (p := ⟨w.heap.size, 1, none⟩) (Nat.le_refl _) (.int .i64 (pc : Int)))
            clear hb3 y3 y0 y1 x0 x1
            go_wp2
            refine bodyPost_ret (results_tmps_row rfl _ _ w.heap.size 26 (lpl (pl, pc)) _ rfl HR3.out Try.underlying26 rfl (by kernel_rfl)) rfl ?_
            refine ⟨none, 0, 0, by rw [HE.out]; rfl, by rw [HE.out]; rfl, by rw [HE.out]; exact KRow.none_ _ _ _, HB3.out⟩
      · have hki2 : ¬ (k : Int) < s.size := by omega
        have HE : Hid (ansV T = (acc, 0, (0, 0))) := by
          refine ans_yes HKN.out ?_
          rw [HC.out, cut_end (by rw [HTL.out]; omega)]
          show Sum.inl (acc ++ []) = _
          rw [List.append_nil]
        have d0 := HRW.out.frozen 0
        have d1 := HRW.out.frozen 1
        have e0 := HRW.out.cell 0
        have e1 := HRW.out.cell 1
        have HR2 := Lib.hid ((HRW.out.set 0 (.int .i64 0)).set 1 (.int .i64 0))
        have HB2 := Lib.hid ((HB.out.setCell (p := ⟨w.heap.size, 0, none⟩) (Nat.le_refl _) (.int .i64 0)).setCell (p := ⟨w.heap.size, 1, none⟩) (Nat.le_refl _) (.int .i64 0))
        have HK2 := Lib.hid (OwnsK.row (enc := encT) (fun _ => rfl) (owns_set (owns_set HO.out (p := ⟨w.heap.size, 0, none⟩) (Nat.lt_succ_self _) (.int .i64 0)) (p := ⟨w.heap.size, 1, none⟩) (Nat.lt_succ_self _) (.int .i64 0)))
        go_wp2
        refine bodyPost_ret (results_tmps_row rfl _ _ w.heap.size 26 (lpl (0, 0)) _ rfl HR2.out Try.underlying26 rfl (by kernel_rfl)) rfl ?_
        refine ⟨A, acc.length, cp, by rw [HE.out]; rfl, by rw [HE.out], ?_, HB2.out⟩
        rw [HE.out]
        exact HK2.out
end Lx
end Go.Proofs.Ytpiiklpehfkdaaa
