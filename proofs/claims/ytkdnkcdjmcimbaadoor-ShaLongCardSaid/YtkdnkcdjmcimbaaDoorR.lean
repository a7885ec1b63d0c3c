/-
  Layer 2 (sha): the walks of the laws ShaNil and ShaSums.
-/
import Derived.Test.YtkdnkcdjmcimbaaDoorQ
namespace Go.Proofs.YtkdnkcdjmcimbaaDoor
namespace Sh
open Go.RowKit

set_option maxRecDepth 100000 in
set_option maxHeartbeats 2000000 in
theorem nil_law (s : ByteArray) (w : World) (hs : s.size ≤ 140737488355328) (htab : Tab w) (hb0 : 0 < w.heap.size) :
    Calls Tryd.prog 7 #[.string s] w fun e w' => e = .returned (.bool true) ∧ Below w.heap.size w w' := by
  have HT := Lib.hid htab
  clear htab
  by_cases h300 : 300 < s.size
  · have h3 : (300 : Int) < s.size := by omega
    clear h300
    go_enter Tryd.func7, Tryd.ntmps7
    go_wp2_with fail
    refine (fixed_any w HT.out hb0).mono ?_
    rintro e w1 ⟨rfl, hb1⟩
    have HB := Lib.hid hb1
    clear hb1
    go_wp2
    go_ret
    exact ⟨rfl, HB.out⟩
  · have h3 : (s.size : Int) ≤ 300 := by omega
    have heq := eq_same (dig []) (dig_length _)
    have hng := no_guard
    clear h300
    go_enter Tryd.func7, Tryd.ntmps7
    go_wp2_with fail
    refine (niladd_any s w).mono ?_
    rintro e w' ⟨rfl, rfl⟩
    go_wp2_with fail
    refine (nilsum_any w HT.out hb0).mono ?_
    rintro e w1 ⟨rfl, hb1⟩
    have HB1 := Lib.hid hb1
    have hs1 := hb1.size
    clear hb1
    go_wp2_with fail
    refine (sum_any none 0 [] w1 (SRow.none_ _ _ _) (by decide) (by decide) (HT.out.below HB1.out hb0) (by omega)).mono ?_
    rintro e w2 ⟨rfl, hb2⟩
    have HB2 := Lib.hid (HB1.out.trans (hb2.mono hs1))
    have hs2 := hb2.size
    clear hb2
    simp only [List.flatten_nil]
    go_wp2_with fail
    refine (sum_any none 0 [] w2 (SRow.none_ _ _ _) (by decide) (by decide) (HT.out.below HB2.out hb0) (by omega)).mono ?_
    rintro e w3 ⟨rfl, hb3⟩
    have HB3 := Lib.hid (HB2.out.trans (hb3.mono (by omega)))
    have hs3 := hb3.size
    clear hb3
    simp only [List.flatten_nil]
    go_wp2_with fail
    refine (refsum_any ⟨#[]⟩ w3 (by decide)).mono ?_
    rintro e w4 ⟨rfl, hb4⟩
    have HB4 := Lib.hid (HB3.out.trans (hb4.mono (by omega)))
    have hs4 := hb4.size
    clear hb4
    rw [show (⟨#[]⟩ : ByteArray).data.toList = [] from rfl]
    go_wp2_with fail
    refine (fixed_any w4 (HT.out.below HB4.out hb0) (by omega)).mono ?_
    rintro e w5 ⟨rfl, hb5⟩
    have HB5 := Lib.hid (HB4.out.trans (hb5.mono (by omega)))
    clear hb5
    go_wp2
    go_ret
    exact ⟨rfl, HB5.out⟩

set_option maxRecDepth 100000 in
set_option maxHeartbeats 2000000 in
theorem sums_law (A : Option Addr) (cap : Nat) (xs : List Bs) (w : World) (hx : SRow w w.heap.size A xs) (hn : xs.length ≤ 140737488355328) (htab : Tab w) (hb0 : 0 < w.heap.size) :
    Calls Tryd.prog 3 #[.slice A xs.length cap] w fun e w' => e = .returned (.bool true) ∧ Below w.heap.size w w' := by
  have HT := Lib.hid htab
  have HX := Lib.hid hx
  have hj := joined_any A cap w.heap.size xs w hx hn
  obtain ⟨n, hln⟩ : ∃ n, xs.length = n := ⟨_, rfl⟩
  have HL := Lib.hid hln
  rw [hln] at hj hn ⊢
  have HJ := Lib.hid hj
  have heq := eq_same (dig xs.flatten) (dig_length _)
  have hng := no_guard
  clear htab hx hj hln
  go_enter Tryd.func3, Tryd.ntmps3
  go_wp2_with fail
  refine HJ.out.mono ?_
  rintro e w' ⟨X, b, rfl, hb, rfl⟩
  cases b
  · clear hb
    go_wp2_with fail
    refine (fixed_any w HT.out hb0).mono ?_
    rintro e w1 ⟨rfl, hb1⟩
    have HB := Lib.hid hb1
    clear hb1
    go_wp2
    go_ret
    exact ⟨rfl, HB.out⟩
  · obtain ⟨hX, h20, h300⟩ := hb rfl
    have hsum := sum_any A cap xs w HX.out (by omega) (by omega) HT.out hb0
    rw [HL.out] at hsum
    have href : ∀ W, Calls Tryd.prog 11 #[.string X] W fun e w' => e = .returned (.agg (bvals (dig xs.flatten)).toArray) ∧ Below W.heap.size W w' := fun W => by
      have h := refsum_any X W (by rw [← data_length, hX]; omega)
      rw [hX] at h
      exact h
    have HSUM := Lib.hid hsum
    have HREF := Lib.hid href
    clear hb hX h20 h300 hsum href
    go_wp2_with fail
    refine HSUM.out.mono ?_
    rintro e w1 ⟨rfl, hb1⟩
    have HB1 := Lib.hid hb1
    have hs1 := hb1.size
    clear hb1
    go_wp2_with fail
    refine (HREF.out w1).mono ?_
    rintro e w2 ⟨rfl, hb2⟩
    have HB2 := Lib.hid (HB1.out.trans (hb2.mono hs1))
    have hs2 := hb2.size
    clear hb2
    go_wp2_with fail
    refine (fixed_any w2 (HT.out.below HB2.out hb0) (by omega)).mono ?_
    rintro e w3 ⟨rfl, hb3⟩
    have HB3 := Lib.hid (HB2.out.trans (hb3.mono (by omega)))
    clear hb3
    go_wp2
    go_ret
    exact ⟨rfl, HB3.out⟩
end Sh
end Go.Proofs.YtkdnkcdjmcimbaaDoor
