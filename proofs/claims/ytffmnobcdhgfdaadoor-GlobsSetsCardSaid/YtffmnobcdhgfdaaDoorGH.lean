/-
  Layer 4 (globs): a range over an iterator that writes a cell of its own between two rounds (strings.SplitSeq).
-/
import Derived.Test.YtffmnobcdhgfdaaDoorGE
import Derived.Test.YtffmnobcdhgfdaaDoorGL
namespace Go.Proofs.YtffmnobcdhgfdaaDoor
namespace Gl
open Go.RowKit Go.Shelf Pt
attribute [local go_sem] Oper.semAt_some

/-- What is said of a world abides new blocks, a change of block Bn, and of what is no cells from block B on. -/
def StabC (Bn B : Nat) (J : List Pc → World → Prop) : Prop :=
  ∀ s W W' row, J s W → W.grownBy W' row → (∀ r, row = some r → r = Bn ∨ (B ≤ r ∧ ∃ o : Obj, W.heap[r]? = some o ∧ o.isCells = false)) → J s W'
theorem StabC.put {Bn B : Nat} {J : List Pc → World → Prop} (h : StabC Bn B J) {s : List Pc} {W : World} {l : Nat} {o : Obj} (o' : Obj) (hs : J s W) (hB : B ≤ l) (hl : W.heap[l]? = some o) (ho : o.isCells = false) : J s (W.putObj l o') :=
  h s W _ (some l) hs (grownBy_putObj' W l o') (fun r e => by cases e; exact .inr ⟨hB, o, hl, ho⟩)
theorem StabC.alloc {Bn B : Nat} {J : List Pc → World → Prop} (h : StabC Bn B J) {s : List Pc} {W : World} (o : Obj) (hs : J s W) : J s (W.alloc o) :=
  h s W _ none hs (World.grownBy_alloc W o none) (fun r e => by cases e)

/-- The iterator's word: it yields one by one, whatever the round keeps. -/
def SeqC (n gf : Nat) (lb : Array Value) (Bn : Nat) (S Sp : List Pc → Prop) (N : Nat) (w : World) : Prop :=
  ∀ (l : Nat) (J Jx : List Pc → World → Prop) (W : World), Below w.heap.size w W → StabC Bn W.heap.size J → StabC Bn W.heap.size Jx →
    (∀ pre x W1, J pre W1 → pre.length < N → YieldAt Fence.wide (n - 1) Tryd.prog l #[.string x.1] W1 fun e W' =>
      (e = .returned (.bool true) ∧ J (pre ++ [x]) W' ∧ Below w.heap.size W1 W') ∨ (e = .returned (.bool false) ∧ Jx (pre ++ [x]) W')) →
    J [] W →
    CallsIn Fence.wide n Tryd.prog gf (#[.func (.yield l) #[] #[]] ++ lb) W fun e W' => (∃ v, e = .returned v) ∧ ((∃ xs, S xs ∧ J xs W') ∨ (∃ pre, Sp pre ∧ Jx pre W'))

theorem range_cell {n : Nat} {g : Operand} {ps : Array Tmp} {assign body : Code} {Q : Exit → Act → World → Prop} {a : Act} {w : World} (h1 : 1 ≤ n)
    {gf Bn N : Nat} {lb : Array Value} (hg : a.eval g = .func (.func gf) #[] lb) (eg : ∀ args w, (callFunc gf args).run Tryd.prog w = .ok (.enter gf args) w)
    {S Sp : List Pc → Prop} (hBn : Bn < w.heap.size) (hseq : SeqC (n - 1) gf lb Bn S Sp N w) (hps : ps.size = 1)
    (I Ix : List Pc → World → Prop) (hI : StabC Bn w.heap.size I) (hIx : StabC Bn w.heap.size Ix) (h0 : I [] w) (a₁ : Pc → Act)
    (hassign : ∀ (l : Nat) (x : Pc) (W : World) (K : Act → World → Prop), K (a₁ x) W →
      assign.wpIn (Fence.wide.inRound l) (n - 1 - 1) Tryd.prog (Exit.then K (fun _ _ _ => False)) { tmps := (ps.zip #[Value.string x.1]).foldl (fun t (p, v) => t.setIfInBounds p v) a.tmps, defers := [] } W)
    (hbody : ∀ (l : Nat) (pre : List Pc) (x : Pc) (W : World), I pre W → pre.length < N → body.wpIn (Fence.wide.inRound l) (n - 1 - 1) Tryd.prog (ownPostK (Below w.heap.size) I (fun c pre W => c = .ret ∧ Ix pre W) (pre ++ [x]) W) (a₁ x) W)
    (hdone : ∀ (D : Nat) (xs : List Pc) (W : World), w.heap.size ≤ D → S xs → I xs W → W.heap[D]? = some (.deferred (some [])) → Q .normal { a with defers := { target := .collected D, args := #[] } :: a.defers } W)
    (hstop : ∀ (D : Nat) (pre : List Pc) (W : World), w.heap.size ≤ D → Sp pre → Ix pre W → W.heap[D]? = some (.deferred (some [])) → Code.ret.wpIn Fence.wide n Tryd.prog Q { a with defers := { target := .collected D, args := #[] } :: a.defers } W) :
    (Code.rangeFunc g ps assign body).wpIn Fence.wide n Tryd.prog Q a w := by
  refine wpIn_rangeFunc fun fn hfn => ?_
  have hro : Fence.wide.round = none := rfl
  rw [hro]
  -- the loop's record, at block b + 1; what its rounds defer, at block b
  obtain ⟨b, hb⟩ : ∃ b, w.heap.size = b := ⟨_, rfl⟩
  obtain ⟨R, hR⟩ : ∃ R : LoopState → Option Code → Loop, R = fun st pe => { state := st, pending := pe, fn, tmps := a.tmps, params := ps, assign, body, defers := w.heap.size } := ⟨_, rfl⟩
  obtain ⟨W1, hW1⟩ : ∃ W1, (w.alloc (.deferred (some []))).alloc (.loop (R .ready none)) = W1 := ⟨_, rfl⟩
  have hz1 : W1.heap.size = b + 2 := by rw [← hW1, ← hb]; simp
  have hrec : W1.heap[b + 1]? = some (.loop (R .ready none)) := by
    rw [← hW1, ← hb]; have := World.alloc_heap_new (w.alloc (.deferred (some []))) (.loop (R .ready none)); rwa [World.size_alloc] at this
  have hdef : W1.heap[b]? = some (.deferred (some [])) := by
    rw [← hW1, ← hb]; exact (Below.heap_alloc _ _ _ (by simp)).trans (World.alloc_heap_new w _)
  have hbel : Below w.heap.size w W1 := by
    rw [← hW1]; exact ((Below.refl _ w).alloc (Nat.le_refl _) _).alloc (by simp) _
  have hi1 : I [] W1 := by rw [← hW1]; exact hI.alloc _ (hI.alloc _ h0)
  -- what block k holds stays, where neither that block nor another loop's is turned
  have keep : ∀ {A B : World} {row : Option Nat} {k : Nat} {o : Obj}, A.grownBy B row → (∀ r, row = some r → r = Bn ∨ (W1.heap.size ≤ r ∧ ∃ o : Obj, A.heap[r]? = some o ∧ o.isCells = false)) → b ≤ k → k < b + 2 → A.heap[k]? = some o → B.heap[k]? = some o := by
    intro A B row k o hgr hr hk1 hk2 ho
    refine (hgr.block k (Array.getElem?_eq_some_iff.1 ho).1 (fun e => ?_)).trans ho
    rcases hr k e.symm with h | ⟨h, _⟩ <;> omega
  have weak : ∀ {A : World} {row : Option Nat}, (∀ r, row = some r → r = Bn ∨ (W1.heap.size ≤ r ∧ ∃ o : Obj, A.heap[r]? = some o ∧ o.isCells = false)) → (∀ r, row = some r → r = Bn ∨ (w.heap.size ≤ r ∧ ∃ o : Obj, A.heap[r]? = some o ∧ o.isCells = false)) := by
    intro A row hr r e
    rcases hr r e with h | ⟨h, ho⟩
    · exact .inl h
    · exact .inr ⟨by omega, ho⟩
  refine ⟨b + 1, [{ target := .collected b, args := #[] }], W1, { target := .fn (.func gf) lb, args := #[.func (.yield (b + 1)) #[] #[]] }, W1, gf, #[.func (.yield (b + 1)) #[] #[]] ++ lb, W1, ?_, ?_, ?_, ?_, fun _ => h1, ?_⟩
  · rw [← hW1, hR, ← hb]; exact run_enterLoop_outer _ _ _ _ _
  · simp only [resolve, hg]
    simp [go_sem]
  · intro f' hf'; simp [Target.leads] at hf'; subst hf'; trivial
  · simp [invoke, go_sem, eg]
  refine (hseq (b + 1) (fun pre W => I pre W ∧ W.heap[b + 1]? = some (.loop (R .ready none)) ∧ W.heap[b]? = some (.deferred (some [])))
    (fun pre W => Ix pre W ∧ W.heap[b + 1]? = some (.loop (R .done (some .ret))) ∧ W.heap[b]? = some (.deferred (some []))) W1 hbel
    (fun s A B row hs hgr hr => ⟨hI s A B row hs.1 hgr (weak hr), keep hgr hr (by omega) (by omega) hs.2.1, keep hgr hr (by omega) (by omega) hs.2.2⟩)
    (fun s A B row hs hgr hr => ⟨hIx s A B row hs.1 hgr (weak hr), keep hgr hr (by omega) (by omega) hs.2.1, keep hgr hr (by omega) (by omega) hs.2.2⟩)
    ?_ ⟨hi1, hrec, hdef⟩).mono ?_
  · rintro pre x W ⟨hi, hl, hk⟩ hlen
    have hsz := (Array.getElem?_eq_some_iff.1 hl).1
    have hy := run_yield (P := Tryd.prog) (args := #[.string x.1]) hl (by rw [hR]; exact hps.symm)
    rw [hR] at hy
    refine ⟨fn, _, assign, body, hy, roundIn_of_wpIn hfn (hassign _ x W _ ⟨_, run_beginRound hl (by rw [hR]), ?_⟩)⟩
    have hl2 : (W.putObj (b + 1) (.loop { R .ready none with state := .busy })).heap[b + 1]? = some (.loop { R .ready none with state := .busy }) := World.putObj_heap_same hsz
    have hk2 : (W.putObj (b + 1) (.loop { R .ready none with state := .busy })).heap[b]? = some (.deferred (some [])) := (World.putObj_heap_other (by omega)).trans hk
    have hw2 : Below w.heap.size W (W.putObj (b + 1) (.loop { R .ready none with state := .busy })) := belowK_b (Nat.le_refl _) W (b + 1) _ _ (by omega) hl rfl rfl
    refine wpIn_mono (hbody _ pre x _ (hI.put _ hi (by omega) hl rfl) hlen) ?_
    rintro e a3 W3 hp
    have ending : ∀ jump : Option Code, KeepsOthers (W.putObj (b + 1) (.loop { R .ready none with state := .busy })) W3 →
        (Instr.endRound (b + 1) jump).run Tryd.prog W3 = .ok (.bool jump.isNone) (W3.putObj (b + 1) (.loop (R (if jump.isNone then .ready else .done) jump))) ∧ W3.heap[b + 1]? = some (.loop { R .ready none with state := .busy }) ∧
        (W3.putObj (b + 1) (.loop (R (if jump.isNone then .ready else .done) jump))).heap[b + 1]? = some (.loop (R (if jump.isNone then .ready else .done) jump)) ∧ (W3.putObj (b + 1) (.loop (R (if jump.isNone then .ready else .done) jump))).heap[b]? = some (.deferred (some [])) := by
      intro jump hko
      have hl3 := hko.same _ _ hl2 rfl
      have hr := run_endRound (P := Tryd.prog) jump hl3
      rw [hR] at hr hl3 ⊢
      exact ⟨hr, hl3, World.putObj_heap_same (Array.getElem?_eq_some_iff.1 hl3).1, (World.putObj_heap_other (by omega)).trans (hko.same _ _ hk2 rfl)⟩
    cases e with
    | normal =>
      obtain ⟨hko, hbe, hi3⟩ := hp
      obtain ⟨hr, hl3, hl4, hk4⟩ := ending none hko
      exact ⟨_, _, hr, .inl ⟨rfl, ⟨hI.put _ hi3 (by omega) hl3 rfl, hl4, hk4⟩, (hw2.trans hbe).trans (belowK_b (Nat.le_refl _) W3 (b + 1) _ _ (by omega) hl3 rfl rfl)⟩⟩
    | ret =>
      obtain ⟨hko, _, hi3⟩ := hp
      obtain ⟨hr, hl3, hl4, hk4⟩ := ending (some .ret) hko
      exact ⟨_, _, hr, .inr ⟨rfl, hIx.put _ hi3 (by omega) hl3 rfl, hl4, hk4⟩⟩
    | exit id => exact absurd hp.2.1 (by simp)
    | goto t => exact absurd hp.2.1 (by simp)
    | panic ch => exact hp.elim
    | outgrown => exact hp.elim
  · rintro e W2 ⟨⟨v, rfl⟩, (⟨xs, hS, hi, hl, hk⟩ | ⟨pre, hSp, hi, hl, hk⟩)⟩
    · have hr := run_endLoop (P := Tryd.prog) hl (by rw [hR]; simp)
      rw [hR] at hr
      exact ⟨none, _, hr, by rw [hb] at hdone; exact hdone b xs _ (Nat.le_refl _) hS (hI.put _ hi (by omega) hl rfl) ((World.putObj_heap_other (by omega)).trans hk)⟩
    · have hr := run_endLoop (P := Tryd.prog) hl (by rw [hR]; simp)
      rw [hR] at hr
      exact ⟨some .ret, _, hr, by rw [hb] at hstop; exact hstop b pre _ (Nat.le_refl _) hSp (hIx.put _ hi (by omega) hl rfl) ((World.putObj_heap_other (by omega)).trans hk)⟩
end Gl
end Go.Proofs.YtffmnobcdhgfdaaDoor
