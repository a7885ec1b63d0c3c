/-
  Layer 1 (pack): the walks of the document's answers digits and Row.
-/
import Derived.Test.YtkldgfdfpanelaaDoorPD
import Derived.Laws.IdiomStrings
namespace Go.Proofs.YtkldgfdfpanelaaDoor
namespace Pk
open Go.RowKit

theorem str_app (a b : List UInt8) : (⟨(a ++ b).toArray⟩ : ByteArray) = ⟨a.toArray⟩ ++ ⟨b.toArray⟩ := by
  apply ByteArray.ext
  rw [ByteArray.data_append]
  simp
theorem str_back (s : ByteArray) : (⟨s.data.toList.toArray⟩ : ByteArray) = s := by
  apply ByteArray.ext
  simp

/-- One byte, made and turned into a string. -/
theorem conv_one (z : Int) (l : List UInt8) (c : UInt8) (hl : l = [c]) (hz : (c.toNat : Int) = z) (w : World) :
    (convert 50 9 (.slice (some ⟨w.heap.size, 0, none⟩) 1 1)).run Tryd.prog (w.alloc (.cells #[.int .u8 z] 5)) = .ok (.string ⟨l.toArray⟩) (w.alloc (.cells #[.int .u8 z] 5)) := by
  subst hl
  refine run_convert_bytes_back (P := Tryd.prog) _ 50 9 5 ⟨w.heap.size, 0, none⟩ 1 [c] Tryd.underlying50 Tryd.underlying5 Tryd.underlying9 ?_
  rintro (_ | j) hj
  · rw [show (⟨w.heap.size, 0, none⟩ : Addr).add 0 = ⟨w.heap.size, 0, none⟩ from rfl, World.cell?_alloc_at _ _ _ _ rfl]
    simp [hz]
  · simp at hj

set_option maxRecDepth 100000 in
theorem digits_small (z : Int) (h0 : 0 ≤ z) (h1 : z < 10) (w : World) :
    Calls Tryd.prog 31 #[.int .i64 z] w fun e w' => e = .returned (.string ⟨(Lib.decDigits z.toNat).toArray⟩) ∧ Below w.heap.size w w' := by
  have hcv := conv_one (48 + z) (Lib.decDigits z.toNat) (UInt8.ofNat (48 + z.toNat)) (Lib.decDigits_one (by omega)) (by rw [(isD_dg z.toNat (by omega)).2]; omega) w
  generalize Lib.decDigits z.toNat = l at *
  go_enter Tryd.func31, Tryd.ntmps31
  go_wp2
  go_ret
  exact ⟨rfl, (Below.refl _ _).alloc (Nat.le_refl _) _⟩

theorem nDigits_le_self : ∀ u : Nat, 1 ≤ u → Lib.nDigits u ≤ u := by
  intro u
  induction u using Nat.strongRecOn with
  | _ u ih =>
    intro h
    by_cases h0 : u < 10
    · rw [Lib.nDigits_small h0]; exact h
    · rw [Lib.nDigits_big h0]
      have := ih (u / 10) (by omega) (by omega)
      omega

set_option maxRecDepth 100000 in
theorem digits_any : ∀ (n : Nat) (z : Int), z.toNat < n → 0 ≤ z → z ≤ 9223372036854775807 → ∀ (w : World),
    Calls Tryd.prog 31 #[.int .i64 z] w fun e w' => e = .returned (.string ⟨(Lib.decDigits z.toNat).toArray⟩) ∧ Below w.heap.size w w'
  | 0, z, h, _, _, _ => by omega
  | n + 1, z, hn, h0, h1, w => by
    by_cases hs : z < 10
    · exact digits_small z h0 hs w
    · have h10 : 10 ≤ z := by omega
      have ih := digits_any n (z / 10) (by omega) (by omega) (by omega) w
      have hr := fun W => digits_small (z % 10) (by omega) (by omega) W
      have hfin : Lib.decDigits z.toNat = Lib.decDigits (z / 10).toNat ++ Lib.decDigits (z % 10).toNat := by
        rw [Lib.decDigits, dif_neg (by omega), Lib.decDigits_one (i := (z % 10).toNat) (by omega)]
        congr 2
        · omega
        · congr 2; omega
      have hlen : (Lib.decDigits (z / 10).toNat).length + (Lib.decDigits (z % 10).toNat).length ≤ 9223372036854775807 := by
        have h2 := congrArg List.length hfin
        have h3 := nDigits_le_self z.toNat (by omega)
        rw [List.length_append, Lib.decDigits_length] at h2
        omega
      have IH := Lib.hid ih
      have HR := Lib.hid hr
      have HF := Lib.hid hfin
      clear ih hr hfin
      go_enter Tryd.func31, Tryd.ntmps31
      go_wp2_with fail
      refine IH.out.mono ?_
      rintro e w1 ⟨rfl, hb1⟩
      generalize hg1 : Lib.decDigits (z / 10).toNat = l1 at *
      go_wp2_with fail
      refine (HR.out w1).mono ?_
      rintro e w2 ⟨rfl, hb2⟩
      generalize hg2 : Lib.decDigits (z % 10).toNat = l2 at *
      have HG1 := Lib.hid hg1
      have HG2 := Lib.hid hg2
      clear hg1 hg2
      go_wp2
      go_ret
      rw [HF.out, ← str_app]
      exact ⟨rfl, hb1.trans (hb2.mono hb1.size)⟩

/-- Whatever nonnegative number. -/
theorem digits_of (n : Nat) (h : n ≤ 140737488355328) (w : World) :
    Calls Tryd.prog 31 #[.int .i64 n] w fun e w' => e = .returned (.string ⟨(Lib.decDigits n).toArray⟩) ∧ Below w.heap.size w w' := by
  have := digits_any (n + 1) n (by omega) (by omega) (by omega) w
  rwa [Int.toNat_natCast] at this

set_option maxHeartbeats 800000 in
set_option maxRecDepth 100000 in
theorem refrow_any (A : Option Addr) (cap B : Nat) (xs : List Bs) (w : World) (hx : SRow w B A xs) (hB : B ≤ w.heap.size) (hn : xs.length ≤ 140737488355328) (he : (enc xs).length ≤ 140737488355328) :
    Calls Tryd.prog 17 #[.slice A xs.length cap] w fun e w' => e = .returned (.string ⟨(enc xs).toArray⟩) ∧ Below w.heap.size w w' := by
  have HX := Lib.hid hx
  have HE := Lib.hid he
  clear hx he
  generalize hln : xs.length = n at *
  have HL := Lib.hid hln
  clear hln
  go_enter Tryd.func17, Tryd.ntmps17
  go_wp2
  go_loopw [3, 8] (fun t i wr => ∃ k : Nat, k ≤ n ∧ i = .int .i64 k ∧ t = .string ⟨(enc (xs.take k)).toArray⟩ ∧ Below w.heap.size w wr) (fun _ i _ => n - (intOf i).toNat)
  case atStart => exact ⟨0, Nat.zero_le _, rfl, rfl, Below.refl _ _⟩
  case round =>
    obtain ⟨k, hk, rfl, rfl, hbw⟩ := hrel
    have HW := Lib.hid hbw
    have hsz : w.heap.size ≤ wr.heap.size := hbw.size
    clear hbw
    by_cases hlt : k < n
    · have hxk : xs[k]? = some (xs[k]'(by rw [HL.out]; exact hlt)) := List.getElem?_eq_getElem _
      generalize xs[k]'(by rw [HL.out]; exact hlt) = x at hxk
      obtain ⟨b, o, s, rfl, hbl, hsx, hc0⟩ := HX.out k x hxk
      have hc : wr.cell? ⟨b, o + k, none⟩ = some (.string s) := (HW.out.cell (p := ⟨b, o + k, none⟩) (by show b < _; omega)).trans hc0
      have hsn := enc_snoc xs k x hxk
      have hle := enc_take_le xs (k + 1)
      rw [hsn] at hle
      have hel := HE.out
      rw [← hsx, data_length] at hsn hle
      simp only [List.length_append, data_length, List.length_cons, List.length_nil] at hle
      have h1 : s.size ≤ 140737488355328 := by omega
      have hfin : (⟨(enc (xs.take (k + 1))).toArray⟩ : ByteArray) = ⟨(enc (xs.take k)).toArray⟩ ++ ((⟨(Lib.decDigits s.size).toArray⟩ ++ ⟨#[58]⟩) ++ s) := by
        rw [hsn, str_app, str_app, str_app, str_back s, ByteArray.append_assoc, ByteArray.append_assoc, ByteArray.append_assoc]
      have HF := Lib.hid hfin
      have h2 : (enc (xs.take k)).length + (Lib.decDigits s.size).length + 1 + s.size ≤ 140737488355328 := by omega
      clear hfin hc0 hsn hle hsx hxk hel
      go_wp2_with fail
      refine (digits_of s.size h1 wr).mono ?_
      rintro e w1 ⟨rfl, hb1⟩
      have hw1 : Below w.heap.size w w1 := HW.out.trans (hb1.mono hsz)
      go_wp2
      go_roundw
      case rel => exact ⟨k + 1, by omega, by go_num, by rw [HF.out], hw1⟩
      case measure => simp [intOf]; omega
    · have hw := HW.out
      have ht : xs.take k = xs := List.take_of_length_le (by rw [HL.out]; omega)
      have HTK := Lib.hid ht
      clear ht HW
      go_wp2
      go_ret
      rw [← HTK.out]
      exact ⟨by rw [HTK.out]; simp [HTK.out], hw⟩
end Pk
end Go.Proofs.YtkldgfdfpanelaaDoor
