/-
  Layer 1 (pack): the walks of the laws PackRows and PackTexts.
-/
import Derived.Test.YthjnbjfcjjnkaaaDoorG
namespace Go.Proofs.YthjnbjfcjjnkaaaDoor
namespace Pk
open Go.RowKit

theorem enc_le (xs : List Bs) : (enc xs).length ≤ 2 * tot xs := by
  induction xs with
  | nil => simp [enc]
  | cons s r ih =>
    have hd := Lib.decDigits_length s.length
    have hl : Lib.nDigits s.length ≤ s.length + 1 := by
      by_cases h : s.length = 0
      · rw [h, Lib.nDigits_small (by omega)]; omega
      · have := nDigits_le_self s.length (by omega); omega
    simp only [enc, tot, List.length_append, List.length_cons]
    omega

theorem below_dn {B : Nat} {a w : World} (h : Below B a w) (n : Nat) : Below B a (w.drewN n) := ⟨h.os, h.tape, h.output, h.size, h.block⟩

theorem back_data (l : Bs) : (⟨l.toArray⟩ : ByteArray).data.toList = l := by simp

theorem not_long {xs : List Bs} (h : longB xs = false) : tot xs ≤ 5000 := by simp [longB] at h; omega

set_option maxHeartbeats 1000000 in
set_option maxRecDepth 100000 in
theorem rows_law (A : Option Addr) (cap : Nat) (xs : List Bs) (w : World) (hx : SRow w w.heap.size A xs) (hn : xs.length ≤ 140737488355328) (hs : ∀ x ∈ xs, x.length ≤ 140737488355328) (htab : Tab w.heap.size w) :
    Calls Tryd.prog 3 #[.slice A xs.length cap] w fun e w' => e = .returned (.bool true) ∧ Below w.heap.size w w' := by
  have HX := Lib.hid hx
  have HS := Lib.hid hs
  have HT := Lib.hid htab
  obtain ⟨n, hln⟩ : ∃ n, xs.length = n := ⟨_, rfl⟩
  have HL := Lib.hid hln
  rw [hln] at hn ⊢
  clear hx hs htab hln
  go_enter Tryd.func3, Tryd.ntmps3
  go_wp2_with fail
  refine (alive_any w HT.out).mono ?_
  rintro e w1 ⟨rfl, hb1⟩
  have hcl := long_any A cap w.heap.size xs w1 (HX.out.below hb1 (Nat.le_refl _)) (by have := HL.out; omega) HS.out
  rw [HL.out] at hcl
  have HCL := Lib.hid hcl
  have HB1 := Lib.hid hb1
  clear hcl hb1
  go_wp2_with fail
  refine HCL.out.mono ?_
  rintro e w' ⟨rfl, rfl⟩
  cases hlg : longB xs
  · have htot := not_long hlg
    have hel := enc_le xs
    have HX1 : SRow w1 w.heap.size A xs := HX.out.below HB1.out (Nat.le_refl _)
    have htab1 : Tab w1.heap.size w1 := Lib.tabBelow_of_tabIs (HT.out.on HB1.out).here
    have hcr := row_any A cap xs w1 (HX1.more HB1.out.size) (by have := HL.out; omega) (by omega) htab1
    rw [HL.out] at hcr
    have HCR := Lib.hid hcr
    have HXH := Lib.hid HX1
    clear hcr HX1 htab1 HCL hlg
    go_wp2_with fail
    refine HCR.out.mono ?_
    rintro e w2 ⟨rfl, hb2⟩
    have HB2 := Lib.hid hb2
    have hct := texts_any ⟨(enc xs).toArray⟩ w2 (by show (enc xs).toArray.size ≤ _; rw [List.size_toArray]; omega)
    rw [back_data] at hct
    have HCT := Lib.hid hct
    clear hct hb2 HCR
    go_wp2_with fail
    refine HCT.out.mono ?_
    rintro e w3 ⟨v, rfl, ho, hb3⟩
    rw [dec_enc xs (fun s hsx => by have := tot_mem hsx; omega)] at ho ⊢
    obtain ⟨A', cap', rfl⟩ := ho.form
    have HO := Lib.hid ho
    have hw3 : Below w.heap.size w w3 := (HB1.out.trans (HB2.out.mono HB1.out.size)).trans (hb3.mono ((HB1.out.trans (HB2.out.mono HB1.out.size)).size))
    have HW3 := Lib.hid hw3
    have hcf := refrow_any A cap w.heap.size xs w3 (HX.out.below hw3 (Nat.le_refl _)) hw3.size (by have := HL.out; omega) (by omega)
    rw [HL.out] at hcf
    have HCF := Lib.hid hcf
    clear ho hw3 hb3 hcf HCT
    rw [HL.out]
    go_wp2_with fail
    refine HCF.out.mono ?_
    rintro e w4 ⟨rfl, hb4⟩
    have hw4 : Below w.heap.size w w4 := HW3.out.trans (hb4.mono HW3.out.size)
    have hcs := same_any A' A cap' cap w3.heap.size xs xs w4 (HO.out.row.below hb4 (Nat.le_refl _)) ((HX.out.below hw4 (Nat.le_refl _)).more HW3.out.size) (by have := HL.out; omega) (by have := HL.out; omega)
    rw [HL.out, decide_eq_true (rfl : xs = xs)] at hcs
    have HCS := Lib.hid hcs
    have HW4 := Lib.hid hw4
    clear hcs hw4 hb4
    go_wp2_with fail
    refine HCS.out.mono ?_
    rintro e w5 ⟨rfl, k, rfl⟩
    go_wp2
    go_ret
    exact ⟨rfl, below_dn HW4.out k⟩
  · have HW := HB1.out
    go_wp2
    go_ret
    exact ⟨rfl, HW⟩
end Pk
end Go.Proofs.YthjnbjfcjjnkaaaDoor
