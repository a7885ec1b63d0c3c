/-
  Proved: for every two lists of strings, every number of eight bits and every list of picks the law JournalSwaps returns true and leaves its arguments as they were: however few writing calls pass, and whatever a crash leaves, a journal that is opened again has all that it had, or just what was to be put in place; the latter if that was answered OK. Conditions: the one table that the row lists (bloomery/sha.roundKeys) holds what the program's text lays into it when the call begins, which the card ties to that text; nothing else.
-/
import Derived.Test.YtogpigfepebibaaDoorCards
import Derived.Test.YtogpigfepebibaaDoorTie
import Derived.Test.YtogpigfepebibaaDoorMEV
import Derived.Test.YtogpigfepebibaaDoorMLH
import Derived.Test.YtogpigfepebibaaDoorMJR
import Derived.Lay
import Derived.Deep.DeepWitnessRowRef
namespace Go.Proofs.YtogpigfepebibaaDoor
namespace LawSwaps
open Go.ChangeShapes Go.WideShapes Go.ChangeAt Go.RowKit

set_option maxRecDepth 100000 in
theorem contract (H : Type) (enc : TypeId × Value → H) (W : World) (base : Nat) (args : Array Value) (ds gs : List (DataW H)) (before : List MemPlace)
    (hval : ∀ (j : Nat) t v, Tryd.f7.params[j]? = some t → args[j]? = some v → Value.okWide Tryd.prog W .any base t v)
    (hW : DataW.Whole enc Tryd.prog Tryd.f7.params.toList Rows.journalSwapsSpec.vars false W args.toList ds gs before)
    (hsz : (DataW.weightsEach Tryd.prog (Tryd.f7.params.toList ++ Rows.journalSwapsSpec.plain.varTypes Tryd.prog) (ds ++ gs)).all (· ≤ reachBytes) = true)
    (hL : laidMetH Tryd.prog Rows.journalSwapsRow.laid W) :
    Calls Tryd.prog 7 args W fun e W' => ∃ v, e = .returned v ∧ Rows.journalSwapsSpec.post enc Tryd.prog Tryd.f7 false true false false W args v W' := by
  have hW' := hW
  obtain ⟨p, q, hA0, hV, rfl, hfz, hnd⟩ := hW
  have hA : DataW.TrodAll enc Tryd.prog W 0 (fun _ => true) true Tryd.f7.params.toList args.toList ds p := hA0
  rw [Tryd.params7] at hA hval hsz
  obtain ⟨v0, vs0, d0, ds0, p0, q0, hargs0, hd0, hp0, h0, r0⟩ := trodAll_cons hA
  obtain ⟨v1, vs1, d1, ds1, p1, q1, hargs1, hd1, hp1, h1, r1⟩ := trodAll_cons r0
  obtain ⟨v2, vs2, d2, ds2, p2, q2, hargs2, hd2, hp2, h2, r2⟩ := trodAll_cons r1
  obtain ⟨v3, vs3, d3, ds3, p3, q3, hargs3, hd3, hp3, h3, r3⟩ := trodAll_cons r2
  obtain ⟨hn1, hn2, hn3⟩ := trodAll_nil r3
  subst hn1 hn2 hn3
  subst hargs3 hd3 hp3
  subst hargs2 hd2 hp2
  subst hargs1 hd1 hp1
  subst hd0 hp0
  obtain rfl : args = #[v0, v1, v2, v3] := by cases args; simp_all
  obtain ⟨rfl, rfl⟩ := trodVars_none hV
  have hlt0 : ∀ x ∈ p0, x.block < W.heap.size := fun x hx => by simpa using hW'.lt x (by simp [hx])
  have hlt1 : ∀ x ∈ p1, x.block < W.heap.size := fun x hx => by simpa using hW'.lt x (by simp [hx])
  have hlt2 : ∀ x ∈ p2, x.block < W.heap.size := fun x hx => by simpa using hW'.lt x (by simp [hx])
  have hlt3 : ∀ x ∈ p3, x.block < W.heap.size := fun x hx => by simpa using hW'.lt x (by simp [hx])
  have h0k := h0
  obtain ⟨A0, cap0, n0, t0, rfl, hn0, hc0, hnn0, hr0, hz0⟩ := Jl.open_strs (hval 0 30 v0 rfl rfl) h0 (Dk.weights_of hsz (j := 0) rfl rfl)
  have h1k := h1
  obtain ⟨A1, cap1, n1, t1, rfl, hn1, hc1, hnn1, hr1, hz1⟩ := Jl.open_strs (hval 1 30 v1 rfl rfl) h1 (Dk.weights_of hsz (j := 1) rfl rfl)
  have h2k := h2
  obtain ⟨z2, rfl, hdd2, hpp2, hi2⟩ := open_int Tryd.underlying5 (hval 2 5 v2 rfl rfl) h2
  obtain ⟨n2, rfl, hn2⟩ := Dk.u8_nat hi2
  have h3k := h3
  obtain ⟨A3, cap3, n3, t3, rfl, hn3, hc3, hnn3, hr3, hz3⟩ := Dk.open_ints (hval 3 39 v3 rfl rfl) h3 (Dk.weights_of hsz (j := 3) rfl rfl)
  have htab := Jl.tab_of hL rfl
  refine (Jl.swaps_law Jl.jkeeps W.heap.size W A0 A1 cap0 cap1 n0 n1 t0 t1 n2 A3 cap3 n3 t3 htab hn0 (by omega) (fun r hr => by have := hz0 r hr; omega) hr0 hn1 (by omega) hc1 (fun r hr => by have := hz1 r hr; omega) hr1 (by omega) hn3 hc3 (by omega) hr3 hz3).mono fun e W' ⟨he, hb⟩ => ?_
  subst he
  have hk0 := Below.trod Dk.laidOut (by kernel_rfl) (of_decide_eq_true (by kernel_rfl)) h0k hb hlt0
  have hk1 := Below.trod Dk.laidOut (by kernel_rfl) (of_decide_eq_true (by kernel_rfl)) h1k hb hlt1
  have hk2 := Below.trod Dk.laidOut (by kernel_rfl) (of_decide_eq_true (by kernel_rfl)) h2k hb hlt2
  have hk3 := Below.trod Dk.laidOut (by kernel_rfl) (of_decide_eq_true (by kernel_rfl)) h3k hb hlt3
  refine ⟨_, rfl, _, _, _, [] ++ [], p0 ++ (p1 ++ (p2 ++ (p3 ++ []))), [], hW', ?_, ?_, rfl, hb.frame _, fun h => by cases h⟩
  · exact trodAll_cons_mk (shut_bool Tryd.underlying4 _) trodAll_mk0
  · exact trodAll_cons_mk hk0 (trodAll_cons_mk hk1 (trodAll_cons_mk hk2 (trodAll_cons_mk hk3 trodAll_mk0)))

noncomputable def world (os : Os) : World := World.laidAll Tryd.prog os Rows.journalSwapsRow.laid
theorem laid_met (os : Os) : laidMet Tryd.prog Rows.journalSwapsRow.laid ((world os).forCall (fun _ _ => 0) ⟨#[], #[.slice none 0 0, .slice none 0 0, .int .u8 0, .slice none 0 0], []⟩).memory :=
  laidMet_laidAll #[.slice none 0 0, .slice none 0 0, .int .u8 0, .slice none 0 0] (by kernel_rfl) (by kernel_rfl)
theorem reads (os : Os) {H : Type} (enc : TypeId × Value → H) : ∃ places, DataW.whole enc Tryd.prog ((world os).forCall (fun _ _ => 0) ⟨#[], #[.slice none 0 0, .slice none 0 0, .int .u8 0, .slice none 0 0], []⟩).memory Tryd.f7.params.toList Rows.journalSwapsSpec.vars false (#[.slice none 0 0, .slice none 0 0, .int .u8 0, .slice none 0 0] : Array Value).toList 8 = some ([.nil, .nil, .lit (.int .u8 0), .nil], [], places) :=
  ⟨[], by kernel_rfl⟩

set_option maxRecDepth 100000 in
theorem lifted (os : Os) (started : os.Started) (H : Type) (enc : TypeId × Value → H) (F : Stop.Interp) :
    ReturnsInHanded {} Tryd.checked os 7 .any ((OpenSpec.ofChange Rows.journalSwapsSpec).preRow enc Tryd.prog Tryd.f7 Rows.journalSwapsRow.domain false Rows.journalSwapsRow.laid) (((OpenSpec.ofChange Rows.journalSwapsSpec).at F).post enc Tryd.prog Tryd.f7 false true false false) := by
  obtain ⟨places, hx⟩ := reads os enc
  refine returnsInHanded_of_row (C := Tryd.checked) (s := OpenSpec.ofChange Rows.journalSwapsSpec) Dk.own started (by kernel_rfl) Tryd.func7
    (witness_row_at (enc := enc) (C := Tryd.checked) false (world os) #[.slice none 0 0, .slice none 0 0, .int .u8 0, .slice none 0 0] (World.laidAll_os _ _ _) (by kernel_rfl) (by kernel_rfl) (by kernel_rfl)
      (OpenSpec.preRow_of_cond 8 hx (by kernel_rfl) (fun k hk => by cases hk) (by kernel_rfl) (laid_met os))) ?_
  intro W base args ds gs before hval hW _ _ hsz hL _ _
  exact contract H enc W base args ds gs before hval hW hsz hL

theorem said : Rows.JournalSwapsSaid :=
  OpenClaim.holds_of_cond 7 Tryd.f7 rfl rfl rfl rfl rfl rfl rfl ⟨rfl, rfl, rfl, rfl, rfl⟩ rfl rfl rfl rfl rfl (by kernel_rfl) Tryd.func7 (by kernel_rfl)
    (of_decide_eq_true (by kernel_rfl)) (by unfold Func.isWrapper; first | (rw [if_pos (by decide +kernel)]; kernel_rfl) | (rw [if_neg (by decide +kernel)]; exact ⟨rfl, rfl⟩))
    (fun os started H enc _ F => by rw [OpenClaim.pre_eq_preRow]; exact lifted os started H enc F)

theorem plain (f : FuncId) (fn : Func) (hf : Tryd.pinned.checked.prog.funcNamed "bloomery/bloomerylaw08.JournalSwaps" = some f) (hfn : Tryd.pinned.checked.prog.funcs[f]? = some fn) :
    false = Tryd.pinned.checked.prog.looks [] ∧ ∀ (j : Nat) t, fn.params[j]? = some t → Tryd.pinned.checked.prog.wantsStandIn t = false := by
  obtain rfl : f = 7 := Option.some.inj ((show Tryd.prog.funcNamed "bloomery/bloomerylaw08.JournalSwaps" = some 7 by kernel_rfl).symm.trans hf) |>.symm
  obtain rfl : fn = Tryd.f7 := (Option.some.inj (Tryd.func7.symm.trans hfn)).symm
  refine ⟨by kernel_rfl, fun j t ht => ?_⟩
  rw [Tryd.params7] at ht
  have hm := Array.mem_of_getElem? ht
  have h : t = 30 ∨ t = 30 ∨ t = 5 ∨ t = 39 := by simpa using hm
  rcases h with rfl | rfl | rfl | rfl
  · exact (show Tryd.prog.wantsStandIn 30 = false by kernel_rfl)
  · exact (show Tryd.prog.wantsStandIn 30 = false by kernel_rfl)
  · exact (show Tryd.prog.wantsStandIn 5 = false by kernel_rfl)
  · exact (show Tryd.prog.wantsStandIn 39 = false by kernel_rfl)

end LawSwaps

/-- The card. -/
theorem journalSwaps_holds : Rows.JournalSwapsCardSaid :=
  Claim7.holds_tied_plain_at .later [] _ _ _ _ LawSwaps.said (fun _ h => by cases h) (by kernel_rfl) (fun _ h => by cases h) journalSwaps_row_tie rfl ⟨rfl, rfl⟩ (by kernel_rfl) rfl LawSwaps.plain (by kernel_rfl)
end Go.Proofs.YtogpigfepebibaaDoor
