/-
  Layer 4 (globs): the walk of the recursive inner function: which parts can be reached.
-/
import Derived.Test.YtffmnobcdhgfdaaDoorGC
namespace Go.Proofs.YtffmnobcdhgfdaaDoor
namespace Gl
open Go.RowKit Pt

theorem srow_set {w : World} {B : Nat} {A : Option Addr} {xs : List Bs} (h : SRow w B A xs) (p : Addr) (v : Value) (hp : B ≤ p.block) : SRow (w.setCell p v) B A xs :=
  h.keep fun q hq => World.cell?_setCell_other _ _ _ _ (fun e => by subst e; omega)
theorem grown_set (w : World) (g j : Nat) (v : Value) : w.grownBy (w.setCell ⟨g, j, none⟩ v) (some g) :=
  ⟨rfl, rfl, rfl, Nat.le_of_eq (by simp), fun k _ hne => Below.heap_setCell _ _ _ _ (fun e => hne (by rw [e]))⟩
theorem star_beq {s : ByteArray} {x : Bs} (h : s.data.toList = x) : (s.toList == [42, 42]) = decide (x = star) := by
  rw [ByteArray.toList_eq, h, Bool.eq_iff_iff, beq_iff_eq, decide_eq_true_iff]; rfl

set_option maxHeartbeats 1000000 in
set_option maxRecDepth 100000 in
theorem reach_any (br bp bf cap cap' B g n : Nat) (A : Option Addr) (ps : List Bs) (hn : ps.length = n) (hnm : n ≤ 100000) (hBg : B ≤ g) (h1 : br ≠ g) (h2 : bp ≠ g) (h3 : bf ≠ g) :
    ∀ (d i : Nat) (L : List Bool) (w : World), n - i < d → i ≤ n → L.length = n + 1 →
      Hid (w.cell? ⟨br, 0, none⟩ = some (.slice (some ⟨g, 0, none⟩) (n + 1) cap)) → Hid (w.cell? ⟨bp, 0, none⟩ = some (.slice A n cap')) →
      Hid (w.cell? ⟨bf, 0, none⟩ = some (.func (.func 49) #[] #[.pointer (some ⟨br, 0, none⟩), .pointer (some ⟨bp, 0, none⟩), .pointer (some ⟨bf, 0, none⟩)])) →
      Hid (SRow w B A ps) → Hid (Bl w g L) →
      Calls Tryd.prog 49 #[.int .i64 i, .pointer (some ⟨br, 0, none⟩), .pointer (some ⟨bp, 0, none⟩), .pointer (some ⟨bf, 0, none⟩)] w fun e w' => e = .returned (.tuple #[]) ∧ Bl w' g (reach ps i L) ∧ w.grownBy w' (some g) := by
  have HN := Lib.hid hn
  clear hn
  intro d
  induction d with
  | zero => intro i L w hd; omega
  | succ d ih =>
    intro i L w hd hi hL HR HP HF HS HB
    have cR := HR.out
    have cP := HP.out
    have c1 := HB.out.at i (by omega)
    have f1 := HB.out.fr i (by omega)
    have HB1 := Lib.hid (HB.out.set i true (by omega))
    have HG := Lib.hid (grown_set w g i (.bool true))
    have cP2 : (w.setCell ⟨g, i, none⟩ (.bool true)).cell? ⟨bp, 0, none⟩ = some (.slice A n cap') := (World.cell?_setCell_other _ _ _ _ (fun e => h2 (congrArg Addr.block e).symm)).trans cP
    have hcn : (n : Int) ≤ 100000 := by omega
    have hci : (i : Int) ≤ n := by omega
    by_cases hlt : i + 1 < n
    · have hli : (i : Int) + 1 < n := by omega
      have hxi : ps[i]? = some (ps[i]'(by rw [HN.out]; omega)) := List.getElem?_eq_getElem _
      generalize ps[i]'(by rw [HN.out]; omega) = x at hxi
      have HS1 := Lib.hid (srow_set HS.out ⟨g, i, none⟩ (.bool true) hBg)
      obtain ⟨b, o, s, rfl, _, hsx, cS⟩ := HS1.out i x hxi
      have hsb := star_beq hsx
      by_cases hst : x = star
      · rw [decide_eq_true hst] at hsb
        have hgo : goesOn ps i := ⟨by rw [HN.out]; exact hlt, by rw [hxi, hst]⟩
        have HRE := Lib.hid (reach_on L hgo)
        have cF2 : (w.setCell ⟨g, i, none⟩ (.bool true)).cell? ⟨bf, 0, none⟩ = _ := (World.cell?_setCell_other _ _ _ _ (fun e => h3 (congrArg Addr.block e).symm)).trans HF.out
        have cR2 : (w.setCell ⟨g, i, none⟩ (.bool true)).cell? ⟨br, 0, none⟩ = _ := (World.cell?_setCell_other _ _ _ _ (fun e => h1 (congrArg Addr.block e).symm)).trans HR.out
        have HIH := Lib.hid (ih (i + 1) (L.set i true) (w.setCell ⟨g, i, none⟩ (.bool true)) (by omega) (by omega) (by rw [List.length_set]; exact hL) cR2 cP2 cF2 HS1.out HB1.out)
        clear ih hgo hst hsx hxi cR2 HR HP HF HS HB
        go_enter Tryd.func49, Tryd.ntmps49
        go_wp2_with fail
        rw [show ((i : Int) + 1) = ((i + 1 : Nat) : Int) by omega]
        refine HIH.out.mono ?_
        rintro e w' ⟨rfl, hb', hg'⟩
        have HB' := Lib.hid hb'
        have HG' := Lib.hid hg'
        clear hb' hg'
        go_wp2
        go_end0
        exact ⟨rfl, by rw [HRE.out]; exact HB'.out, HG.out.trans HG'.out⟩
      · rw [decide_eq_false hst] at hsb
        have hgo : ¬ goesOn ps i := fun h => hst (Option.some.inj (hxi.symm.trans h.2))
        have HRE := Lib.hid (reach_off L hgo)
        clear ih hgo hst hsx hxi HR HP HF HS HB
        go_enter Tryd.func49, Tryd.ntmps49
        go_wp2
        go_end0
        exact ⟨rfl, by rw [HRE.out]; exact HB1.out, HG.out⟩
    · have hli : ¬ ((i : Int) + 1 < n) := by omega
      have hgo : ¬ goesOn ps i := fun h => hlt (by have := h.1; rw [HN.out] at this; exact this)
      have HRE := Lib.hid (reach_off L hgo)
      clear ih hgo HR HP HF HS HB
      go_enter Tryd.func49, Tryd.ntmps49
      go_wp2
      go_end0
      exact ⟨rfl, by rw [HRE.out]; exact HB1.out, HG.out⟩
end Gl
end Go.Proofs.YtffmnobcdhgfdaaDoor
