/-
  Layer 1 (pack): the walk of the law PackTexts.
-/
import Derived.Test.YthjnbjfcjjnkaaaDoorH
import Derived.Test.YthjnbjfcjjnkaaaDoorI
namespace Go.Proofs.YthjnbjfcjjnkaaaDoor
namespace Pk
open Go.RowKit

set_option maxHeartbeats 1000000 in
set_option maxRecDepth 100000 in
theorem texts_law (b : ByteArray) (w : World) (hs : b.size ≤ 140737488355328) (htab : Tab w.heap.size w) :
    Calls Tryd.prog 4 #[.string b] w fun e w' => e = .returned (.bool true) ∧ Below w.heap.size w w' := by
  have HT := Lib.hid htab
  clear htab
  by_cases hlg : 5000 < b.size
  · have hlg' : (5000 : Int) < b.size := by omega
    clear hlg
    go_enter Tryd.func4, Tryd.ntmps4
    go_wp2_with fail
    refine (alive_any w HT.out).mono ?_
    rintro e w1 ⟨rfl, hb1⟩
    have HB := Lib.hid hb1
    clear hb1
    go_wp2
    go_ret
    exact ⟨rfl, HB.out⟩
  · have hlg' : (b.size : Int) ≤ 5000 := by omega
    clear hlg
    go_enter Tryd.func4, Tryd.ntmps4
    go_wp2_with fail
    refine (alive_any w HT.out).mono ?_
    rintro e w1 ⟨rfl, hb1⟩
    have HB1 := Lib.hid hb1
    clear hb1
    go_wp2_with fail
    refine (texts_any b w1 (by omega)).mono ?_
    rintro e w2 ⟨v, rfl, ho, hb2⟩
    obtain ⟨A, cap, rfl⟩ := ho.form
    have HO := Lib.hid ho
    have hw2 : Below w.heap.size w w2 := HB1.out.trans (hb2.mono HB1.out.size)
    have HW2 := Lib.hid hw2
    clear ho hw2 hb2
    go_wp2_with fail
    refine (reftexts_any b w2 (by omega)).mono ?_
    rintro e w3 ⟨v', rfl, ho', hb3⟩
    obtain ⟨A', cap', rfl⟩ := ho'.form
    have hw3 : Below w.heap.size w w3 := HW2.out.trans (hb3.mono HW2.out.size)
    have hx3 : SRow w3 w3.heap.size A (dec b.data.toList).2 := (HO.out.row.below hb3 (Nat.le_refl _)).more hb3.size
    have hy3 := ho'.row
    have hback : (dec b.data.toList).1 = 0 → enc (dec b.data.toList).2 = b.data.toList := fun h => dec_back (Prod.ext h rfl)
    have hlen : (dec b.data.toList).1 = 0 → (dec b.data.toList).2.length ≤ 5000 := fun h => by
      have h1 := congrArg List.length (hback h)
      have h2 := enc_len (dec b.data.toList).2
      rw [data_length] at h1
      omega
    have hnil : (dec b.data.toList).1 ≠ 0 → (dec b.data.toList).2.length = 0 := fun h => by rw [dec_zero h]; rfl
    generalize dec b.data.toList = r at *
    obtain ⟨err, xs⟩ := r
    simp only at hback hlen hnil hx3 hy3 HO ho' ⊢
    have hxl : xs.length ≤ 9223372036854775807 := by
      by_cases h : err = 0
      · have := hlen h; omega
      · have := hnil h; omega
    have hcs := same_any A A' cap cap' w3.heap.size xs xs w3 hx3 hy3 hxl hxl
    rw [decide_eq_true (rfl : xs = xs)] at hcs
    have HCS := Lib.hid hcs
    have HW3 := Lib.hid hw3
    have HX3 := Lib.hid hx3
    by_cases h0 : err = 0
    · subst h0
      have hlen5 := hlen rfl
      have henc := hback rfl
      have hel : (enc xs).length ≤ 140737488355328 := by rw [henc, data_length]; omega
      have htab3 : ∀ k, Tab (w3.drewN k).heap.size (w3.drewN k) := fun k => Lib.tabBelow_of_tabIs (HT.out.on (below_dn HW3.out k)).here
      have hrow := fun k => row_any A cap xs (w3.drewN k) (HX3.out.drewN k) (by omega) hel (htab3 k)
      have hb : (⟨(enc xs).toArray⟩ : ByteArray) = b := by rw [henc, str_back]
      rw [hb] at hrow
      have HR := Lib.hid hrow
      generalize xs.length = n at *
      clear hcs hw3 hx3 hy3 ho' hb3 hback hlen hnil hrow hb henc hel htab3 HO
      go_wp2_with fail
      refine HCS.out.mono ?_
      rintro e w4 ⟨rfl, k, rfl⟩
      go_wp2_with fail
      refine (HR.out k).mono ?_
      rintro e w5 ⟨rfl, hb5⟩
      have hfin : Below w.heap.size w w5 := (below_dn HW3.out k).trans (hb5.mono HW3.out.size)
      have HF := Lib.hid hfin
      clear hfin hb5
      go_wp2
      go_ret
      exact ⟨rfl, HF.out⟩
    · have hne : ((err : Int) != 0) = true := by rw [bne_iff_ne]; omega
      generalize xs.length = n at *
      clear hcs hw3 hx3 hy3 ho' hb3 hback hlen hnil HO h0
      go_wp2_with fail
      refine HCS.out.mono ?_
      rintro e w4 ⟨rfl, k, rfl⟩
      go_wp2
      go_ret
      exact ⟨rfl, below_dn HW3.out k⟩
end Pk
end Go.Proofs.YthjnbjfcjjnkaaaDoor
