/-
  Proved: for every list of lists of strings and every list of picks the law JournalRows returns true and leaves its arguments as they were: rows of texts that are added as records are, behind a crash, and opened again, the rows that they were. Conditions: the four tables that the row lists (math/bits.deBruijn32tab, math/bits.deBruijn64tab, internal/strconv.uint64pow10, bloomery/sha.roundKeys) hold what the texts of the program and of the library lay into them when the call begins, which the card ties to those texts; nothing else.
-/
import Derived.Test.YtogpigfepebibaaDoorCards
import Derived.Test.YtogpigfepebibaaDoorTie
import Derived.Test.YtogpigfepebibaaDoorMLW
import Derived.Test.YtogpigfepebibaaDoorMLH
import Derived.Test.YtogpigfepebibaaDoorMJR
import Derived.Lay
import Derived.Deep.DeepWitnessRowRef
namespace Go.Proofs.YtogpigfepebibaaDoor
namespace LawRows
open Go.ChangeShapes Go.WideShapes Go.ChangeAt Go.RowKit

set_option maxRecDepth 100000 in
theorem contract (H : Type) (enc : TypeId × Value → H) (W : World) (base : Nat) (args : Array Value) (ds gs : List (DataW H)) (before : List MemPlace)
    (hval : ∀ (j : Nat) t v, Tryd.f8.params[j]? = some t → args[j]? = some v → Value.okWide Tryd.prog W .any base t v)
    (hW : DataW.Whole enc Tryd.prog Tryd.f8.params.toList Rows.journalRowsSpec.vars false W args.toList ds gs before)
    (hsz : (DataW.weightsEach Tryd.prog (Tryd.f8.params.toList ++ Rows.journalRowsSpec.plain.varTypes Tryd.prog) (ds ++ gs)).all (· ≤ reachBytes) = true)
    (hL : laidMetH Tryd.prog Rows.journalRowsRow.laid W) :
    Calls Tryd.prog 8 args W fun e W' => ∃ v, e = .returned v ∧ Rows.journalRowsSpec.post enc Tryd.prog Tryd.f8 false true false false W args v W' := by
  have hW' := hW
  obtain ⟨p, q, hA0, hV, rfl, hfz, hnd⟩ := hW
  have hA : DataW.TrodAll enc Tryd.prog W 0 (fun _ => true) true Tryd.f8.params.toList args.toList ds p := hA0
  rw [Tryd.params8] at hA hval hsz
  obtain ⟨v0, vs0, d0, ds0, p0, q0, hargs0, hd0, hp0, h0, r0⟩ := trodAll_cons hA
  obtain ⟨v1, vs1, d1, ds1, p1, q1, hargs1, hd1, hp1, h1, r1⟩ := trodAll_cons r0
  obtain ⟨hn1, hn2, hn3⟩ := trodAll_nil r1
  subst hn1 hn2 hn3
  subst hargs1 hd1 hp1
  subst hd0 hp0
  obtain rfl : args = #[v0, v1] := by cases args; simp_all
  obtain ⟨rfl, rfl⟩ := trodVars_none hV
  have hlt0 : ∀ x ∈ p0, x.block < W.heap.size := fun x hx => by simpa using hW'.lt x (by simp [hx])
  have hlt1 : ∀ x ∈ p1, x.block < W.heap.size := fun x hx => by simpa using hW'.lt x (by simp [hx])
  have h0k := h0
  obtain ⟨A0, cap0, n0, t0, rfl, hn0, hnn0, hr0, hok0⟩ := Jl.open_rrows (hval 0 51 v0 rfl rfl) h0 (Dk.weights_of hsz (j := 0) rfl rfl)
  have h1k := h1
  obtain ⟨A1, cap1, n1, t1, rfl, hn1, hc1, hnn1, hr1, hz1⟩ := Dk.open_ints (hval 1 39 v1 rfl rfl) h1 (Dk.weights_of hsz (j := 1) rfl rfl)
  have htab := Jl.tabs_of hL rfl
  refine (Jl.rows_law Jl.jkeeps Jl.packk W.heap.size W A0 cap0 n0 t0 A1 cap1 n1 t1 htab.1 htab.2 hn0 hnn0 hok0 hr0 hn1 hc1 (by omega) hr1 hz1 (fun hb => Jl.pt_keep htab.2 hb)).mono fun e W' ⟨he, hb⟩ => ?_
  subst he
  have hk0 := Below.trod Dk.laidOut (by kernel_rfl) (of_decide_eq_true (by kernel_rfl)) h0k hb hlt0
  have hk1 := Below.trod Dk.laidOut (by kernel_rfl) (of_decide_eq_true (by kernel_rfl)) h1k hb hlt1
  refine ⟨_, rfl, _, _, _, [] ++ [], p0 ++ (p1 ++ []), [], hW', ?_, ?_, rfl, hb.frame _, fun h => by cases h⟩
  · exact trodAll_cons_mk (shut_bool Tryd.underlying4 _) trodAll_mk0
  · exact trodAll_cons_mk hk0 (trodAll_cons_mk hk1 trodAll_mk0)

noncomputable def world (os : Os) : World := World.laidAll Tryd.prog os Rows.journalRowsRow.laid
theorem laid_met (os : Os) : laidMet Tryd.prog Rows.journalRowsRow.laid ((world os).forCall (fun _ _ => 0) ⟨#[], #[.slice none 0 0, .slice none 0 0], []⟩).memory :=
  laidMet_laidAll #[.slice none 0 0, .slice none 0 0] (by kernel_rfl) (by kernel_rfl)
theorem reads (os : Os) {H : Type} (enc : TypeId × Value → H) : ∃ places, DataW.whole enc Tryd.prog ((world os).forCall (fun _ _ => 0) ⟨#[], #[.slice none 0 0, .slice none 0 0], []⟩).memory Tryd.f8.params.toList Rows.journalRowsSpec.vars false (#[.slice none 0 0, .slice none 0 0] : Array Value).toList 8 = some ([.nil, .nil], [], places) :=
  ⟨[], by kernel_rfl⟩

set_option maxRecDepth 100000 in
theorem lifted (os : Os) (started : os.Started) (H : Type) (enc : TypeId × Value → H) (F : Stop.Interp) :
    ReturnsInHanded {} Tryd.checked os 8 .any ((OpenSpec.ofChange Rows.journalRowsSpec).preRow enc Tryd.prog Tryd.f8 Rows.journalRowsRow.domain false Rows.journalRowsRow.laid) (((OpenSpec.ofChange Rows.journalRowsSpec).at F).post enc Tryd.prog Tryd.f8 false true false false) := by
  obtain ⟨places, hx⟩ := reads os enc
  refine returnsInHanded_of_row (C := Tryd.checked) (s := OpenSpec.ofChange Rows.journalRowsSpec) Dk.own started (by kernel_rfl) Tryd.func8
    (witness_row_at (enc := enc) (C := Tryd.checked) false (world os) #[.slice none 0 0, .slice none 0 0] (World.laidAll_os _ _ _) (by kernel_rfl) (by kernel_rfl) (by kernel_rfl)
      (OpenSpec.preRow_of_cond 8 hx (by kernel_rfl) (fun k hk => by cases hk) (by kernel_rfl) (laid_met os))) ?_
  intro W base args ds gs before hval hW _ _ hsz hL _ _
  exact contract H enc W base args ds gs before hval hW hsz hL

theorem said : Rows.JournalRowsSaid :=
  OpenClaim.holds_of_cond 8 Tryd.f8 rfl rfl rfl rfl rfl rfl rfl ⟨rfl, rfl, rfl, rfl, rfl⟩ rfl rfl rfl rfl rfl (by kernel_rfl) Tryd.func8 (by kernel_rfl)
    (of_decide_eq_true (by kernel_rfl)) (by unfold Func.isWrapper; first | (rw [if_pos (by decide +kernel)]; kernel_rfl) | (rw [if_neg (by decide +kernel)]; exact ⟨rfl, rfl⟩))
    (fun os started H enc _ F => by rw [OpenClaim.pre_eq_preRow]; exact lifted os started H enc F)

theorem plain (f : FuncId) (fn : Func) (hf : Tryd.pinned.checked.prog.funcNamed "bloomery/bloomerylaw08.JournalRows" = some f) (hfn : Tryd.pinned.checked.prog.funcs[f]? = some fn) :
    false = Tryd.pinned.checked.prog.looks [] ∧ ∀ (j : Nat) t, fn.params[j]? = some t → Tryd.pinned.checked.prog.wantsStandIn t = false := by
  obtain rfl : f = 8 := Option.some.inj ((show Tryd.prog.funcNamed "bloomery/bloomerylaw08.JournalRows" = some 8 by kernel_rfl).symm.trans hf) |>.symm
  obtain rfl : fn = Tryd.f8 := (Option.some.inj (Tryd.func8.symm.trans hfn)).symm
  refine ⟨by kernel_rfl, fun j t ht => ?_⟩
  rw [Tryd.params8] at ht
  have hm := Array.mem_of_getElem? ht
  have h : t = 51 ∨ t = 39 := by simpa using hm
  rcases h with rfl | rfl
  · exact (show Tryd.prog.wantsStandIn 51 = false by kernel_rfl)
  · exact (show Tryd.prog.wantsStandIn 39 = false by kernel_rfl)

end LawRows

/-- The card. -/
theorem journalRows_holds : Rows.JournalRowsCardSaid :=
  Claim7.holds_tied_plain_at .later [] _ _ _ _ LawRows.said (fun _ h => by cases h) (by kernel_rfl) (fun _ h => by cases h) journalRows_row_tie rfl ⟨rfl, rfl⟩ (by kernel_rfl) rfl LawRows.plain (by kernel_rfl)
end Go.Proofs.YtogpigfepebibaaDoor
