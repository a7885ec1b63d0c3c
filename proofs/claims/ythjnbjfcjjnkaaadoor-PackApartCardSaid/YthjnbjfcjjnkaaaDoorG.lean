/-
  Layer 1 (pack): the walk of the chapter's example.
-/
import Derived.Test.YthjnbjfcjjnkaaaDoorF
namespace Go.Proofs.YthjnbjfcjjnkaaaDoor
namespace Pk
open Go.RowKit

theorem ex_dec : dec (⟨#[50, 58, 97, 98, 48, 58]⟩ : ByteArray).data.toList = (0, [[97, 98], []]) := by decide
theorem ex_enc : (⟨(enc [[97, 98], []]).toArray⟩ : ByteArray) = ⟨#[50, 58, 97, 98, 48, 58]⟩ := by
  simp only [enc, List.length_cons, List.length_nil]
  rw [Lib.decDigits_one (by omega), Lib.decDigits_one (by omega)]
  rfl

set_option maxHeartbeats 1000000 in
set_option maxRecDepth 100000 in
theorem alive_any (w : World) (htab : Tab w.heap.size w) :
    Calls Tryd.prog 8 #[] w fun e w' => e = .returned (.bool true) ∧ Below w.heap.size w w' := by
  have HT := Lib.hid htab
  clear htab
  go_enter Tryd.func8, Tryd.ntmps8
  go_wp2_with fail
  refine (texts_any _ _ (by decide)).mono ?_
  rintro e w1 ⟨v, rfl, ho, hb⟩
  rw [ex_dec] at ho ⊢
  obtain ⟨A, cap, rfl⟩ := ho.form
  have hs1 := hb.size
  obtain ⟨b0, o0, s0, rfl, hb0, hs0, hc0⟩ := ho.row 0 [97, 98] rfl
  obtain rfl : s0 = ⟨#[97, 98]⟩ := by rw [← str_back s0, hs0]
  have hrow : SRow (w1.alloc (.cells #[.string ⟨#[97, 98]⟩, .string ⟨#[]⟩] 9)) (w1.alloc (.cells #[.string ⟨#[97, 98]⟩, .string ⟨#[]⟩] 9)).heap.size (some ⟨w1.heap.size, 0, none⟩) [[97, 98], []] := by
    rintro (_ | _ | j) x hx
    · obtain rfl : [97, 98] = x := by simpa using hx
      exact ⟨w1.heap.size, 0, ⟨#[97, 98]⟩, rfl, by simp, rfl, by rw [World.cell?_alloc_at _ _ _ _ rfl]; rfl⟩
    · obtain rfl : [] = x := by simpa using hx
      exact ⟨w1.heap.size, 0, ⟨#[]⟩, rfl, by simp, rfl, by rw [World.cell?_alloc_at _ _ _ _ rfl]; rfl⟩
    · simp at hx
  have hbelow : Below w.heap.size w (w1.alloc (.cells #[.string ⟨#[97, 98]⟩, .string ⟨#[]⟩] 9)) := hb.alloc hs1 _
  have htab1 : Tab (w1.alloc (.cells #[.string ⟨#[97, 98]⟩, .string ⟨#[]⟩] 9)).heap.size (w1.alloc (.cells #[.string ⟨#[97, 98]⟩, .string ⟨#[]⟩] 9)) :=
    Lib.tabBelow_of_tabIs (HT.out.on hbelow).here
  have hcall := row_any (some ⟨w1.heap.size, 0, none⟩) 2 [[97, 98], []] _ hrow (by decide) (by have h := congrArg ByteArray.size ex_enc; have h2 : (enc [[97, 98], []]).toArray.size = 6 := h; rw [List.size_toArray] at h2; omega) htab1
  rw [ex_enc] at hcall
  have HC := Lib.hid hcall
  have HB := Lib.hid hbelow
  have hc1 : (w1.alloc (.cells #[.string ⟨#[97, 98]⟩, .string ⟨#[]⟩] 9)).cell? ⟨b0, o0 + 0, none⟩ = some (.string ⟨#[97, 98]⟩) := (World.cell?_alloc_lt _ _ _ hb0).trans hc0
  have HC1 := Lib.hid hc1
  clear ho hb hrow hbelow htab1 hcall hc1 hc0
  go_wp2_with fail
  refine HC.out.mono ?_
  rintro e w2 ⟨rfl, hb2⟩
  have hc2 : w2.cell? ⟨b0, o0, none⟩ = some (.string ⟨#[97, 98]⟩) := (hb2.cell (p := ⟨b0, o0, none⟩) (by show b0 < _; simp; omega)).trans HC1.out
  have hfin : Below w.heap.size w w2 := HB.out.trans (hb2.mono HB.out.size)
  have HF := Lib.hid hfin
  clear hfin
  go_wp2
  go_ret
  exact ⟨rfl, HF.out⟩
end Pk
end Go.Proofs.YthjnbjfcjjnkaaaDoor
