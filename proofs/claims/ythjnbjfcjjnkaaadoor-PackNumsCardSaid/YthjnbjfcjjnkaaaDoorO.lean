/-
  Layer 1 (pack): the walk of the law PackNums.
-/
import Derived.Test.YthjnbjfcjjnkaaaDoorH
import Derived.Test.YthjnbjfcjjnkaaaDoorN
namespace Go.Proofs.YthjnbjfcjjnkaaaDoor
namespace Pk
open Go.RowKit

set_option maxHeartbeats 2000000 in
set_option maxRecDepth 100000 in
theorem nums_law (n : Int) (s : ByteArray) (w : World) (h0 : -9223372036854775808 ≤ n) (h1 : n ≤ 9223372036854775807) (hs : s.size ≤ 140737488355328) (htab : Tab w.heap.size w) (hvars : VarsAt w) :
    Calls Tryd.prog 6 #[.int .i64 n, .string s] w fun e w' => e = .returned (.bool true) ∧ Below w.heap.size w w' := by
  have HT := Lib.hid htab
  have HV := Lib.hid hvars
  clear htab hvars
  by_cases hlg : 2000 < s.size
  · have hlg' : (2000 : Int) < s.size := by omega
    clear hlg
    go_enter Tryd.func6, Tryd.ntmps6
    go_wp2_with fail
    refine (alive_any w HT.out).mono ?_
    rintro e w1 ⟨rfl, hb1⟩
    have HB := Lib.hid hb1
    clear hb1
    go_wp2
    go_ret
    exact ⟨rfl, HB.out⟩
  · have hlg' : (s.size : Int) ≤ 2000 := by omega
    clear hlg
    have hn : inR n := ⟨h0, h1⟩
    have HN := Lib.hid hn
    have hT : ∀ W, Below w.heap.size w W → Tab W.heap.size W := fun W hW => Lib.tabBelow_of_tabIs (HT.out.on hW).here
    have hV : ∀ W, Below w.heap.size w W → VarsAt W := fun W hW => HV.out.on hW
    have HTT := Lib.hid hT
    have HVV := Lib.hid hV
    clear hn hT hV
    go_enter Tryd.func6, Tryd.ntmps6
    go_wp2_with fail
    refine (alive_any w HT.out).mono ?_
    rintro e w1 ⟨rfl, hb1⟩
    have HB1 := Lib.hid hb1
    clear hb1
    go_wp2_with fail
    refine (int_any s hs w1 (HTT.out _ HB1.out) (HVV.out _ HB1.out)).mono ?_
    rintro e w2 ⟨v, ok, rfl, hi, hb2⟩
    have HB2 : Hid (Below w.heap.size w w2) := Lib.hid (HB1.out.trans (hb2.mono HB1.out.size))
    have HI := Lib.hid hi
    clear hb2 hi HB1
    go_wp2_with fail
    refine (refint_any s (by omega) w2).mono ?_
    rintro e w3 ⟨v', ok', rfl, hi', hb3⟩
    obtain ⟨rfl, rfl⟩ := HI.out.one hi'
    have HB3 : Hid (Below w.heap.size w w3) := Lib.hid (HB2.out.trans (hb3.mono HB2.out.size))
    clear hb3 hi' HB2
    go_wp2_with fail
    refine (num_any n HN.out w3 (HTT.out _ HB3.out).here).mono ?_
    rintro e w4 ⟨rfl, hb4⟩
    have HB4 : Hid (Below w.heap.size w w4) := Lib.hid (HB3.out.trans (hb4.mono HB3.out.size))
    have hlen := itoa_len n HN.out
    have hci := int_any ⟨(Lib.itoa n).toArray⟩ (by show (Lib.itoa n).toArray.size ≤ _; rw [List.size_toArray]; omega) w4 (HTT.out _ HB4.out) (HVV.out _ HB4.out)
    rw [back_data] at hci
    have HCI := Lib.hid hci
    clear hb4 hci hlen HB3
    go_wp2_with fail
    refine HCI.out.mono ?_
    rintro e w5 ⟨k, back, rfl, hk, hb5⟩
    have hone : IntIs (Lib.itoa n) n true := .inl ⟨rfl, HN.out, rfl⟩
    obtain ⟨rfl, rfl⟩ := hone.one hk
    have HB5 : Hid (Below w.heap.size w w5) := Lib.hid (HB4.out.trans (hb5.mono HB4.out.size))
    clear hb5 hk hone HCI HB4
    obtain ⟨t, ht⟩ : ∃ t : ByteArray, t = ⟨(Lib.itoa n).toArray⟩ := ⟨_, rfl⟩
    have hc1 := num_any n HN.out w5 (HTT.out _ HB5.out).here
    have hc2 := fun W => refnum_any (n.natAbs + 1) n (by omega) HN.out W
    rw [← ht] at hc1
    simp only [← ht] at hc2
    have HC1 := Lib.hid hc1
    have HC2 := Lib.hid hc2
    clear hc1 hc2 ht
    go_wp2_with fail
    refine HC1.out.mono ?_
    rintro e w6 ⟨rfl, hb6⟩
    have HB6 : Hid (Below w.heap.size w w6) := Lib.hid (HB5.out.trans (hb6.mono HB5.out.size))
    clear hb6 HC1 HB5
    cases ok
    · go_wp2_with fail
      refine (HC2.out _).mono ?_
      rintro e w7 ⟨rfl, hb7⟩
      have HB7 : Hid (Below w.heap.size w w7) := Lib.hid (HB6.out.trans (hb7.mono HB6.out.size))
      clear hb7 HC2
      go_wp2
      go_ret
      exact ⟨rfl, HB7.out⟩
    · have hv : inR v ∧ Lib.itoa v = s.data.toList := by
        rcases HI.out with ⟨_, a, b⟩ | ⟨a, _⟩
        · exact ⟨a, b⟩
        · cases a
      have hx : (⟨(Lib.itoa v).toArray⟩ : ByteArray) = s := by rw [hv.2, str_back]
      have HVI := Lib.hid hv.1
      have hc3 := fun W hW => num_any v HVI.out W (HTT.out W hW).here
      simp only [hx] at hc3
      have HC3 := Lib.hid hc3
      clear hc3 hx hv
      go_wp2_with fail
      refine (HC2.out _).mono ?_
      rintro e w7 ⟨rfl, hb7⟩
      have HB7 : Hid (Below w.heap.size w w7) := Lib.hid (HB6.out.trans (hb7.mono HB6.out.size))
      clear hb7 HC2 HB6
      go_wp2_with fail
      refine (HC3.out _ HB7.out).mono ?_
      rintro e w8 ⟨rfl, hb8⟩
      have HB8 : Hid (Below w.heap.size w w8) := Lib.hid (HB7.out.trans (hb8.mono HB7.out.size))
      clear hb8 HC3
      go_wp2
      go_ret
      exact ⟨rfl, HB8.out⟩
end Pk
end Go.Proofs.YthjnbjfcjjnkaaaDoor
