/-
  Layer 1 (pack): the walk of Row.
-/
import Derived.Test.YtkldgfdfpanelaaDoorPC
import Derived.Test.YtkldgfdfpanelaaDoorShelf
import Derived.Lib.AppendIntMem
import Derived.Lib.UnsafeStr
namespace Go.Proofs.YtkldgfdfpanelaaDoor
namespace Pk
open Go.RowKit Go.Sort

abbrev Tab (B : Nat) (w : World) : Prop := Lib.TabBelow Tryd.prog B w "internal/strconv.uint64pow10" .u64 Lib.pow10Tab

theorem below_grow (B : Nat) (w : World) (k : Nat) (os : Array Obj) (hB : B ≤ w.heap.size) : Below B w (grow (w.drewN k) os) := by
  refine ⟨rfl, rfl, rfl, ?_, ?_⟩
  · simp [grow]
  · intro b hb
    have hb' : b < w.heap.size := by omega
    simp [grow, Array.getElem?_append, hb']

theorem itoa_any (n : Nat) (hn : n ≤ 140737488355328) (w : World) (htab : Lib.TabIs Tryd.prog w "internal/strconv.uint64pow10" .u64 Lib.pow10Tab) :
    Calls Tryd.prog 22 #[.int .i64 n] w fun e w' => e = .returned (.string ⟨(Lib.decDigits n).toArray⟩) ∧ Below w.heap.size w w' := by
  refine (Tryd.strconv_Itoa n (by omega) (by omega) w htab).mono ?_
  rintro e w' ⟨rfl, k, os, rfl⟩
  exact ⟨by rw [Lib.itoa_nonneg], below_grow _ _ _ _ (Nat.le_refl _)⟩

theorem grown_of_below {w w' : World} (h : Below w.heap.size w w') (row : Option Nat) : w.grownBy w' row := ⟨h.os, h.tape, h.output, h.size, fun i hi _ => h.block i hi⟩

theorem owns_keep {w w' : World} {base e size n : Nat} {v : Value} {xs : List Value} (h : w.ownsRow base e size v n xs) (hb : Below w.heap.size w w') : w'.ownsRow base e size v n xs :=
  h.kept (row := none) (grown_of_below hb none) (by cases v.ownBlock <;> simp)

theorem bat_keep {B b : Nat} {p : Value} {bs : List Value} {w w' : World} (h : Lib.BuilderAt 53 5 B b p bs w) (hb : Below w.heap.size w w') : Lib.BuilderAt 53 5 B b p bs w' := by
  have hlt := h.lt
  obtain ⟨hB, v, hbk, hown, hne⟩ := h
  exact ⟨hB, v, (hb.block b hlt).trans hbk, owns_keep hown hb, hne⟩

theorem isB_keep {B b : Nat} {bs : List Value} {w w' : World} (h : IsB B b bs w) (hb : Below w.heap.size w w') : IsB B b bs w' := by
  rcases h with h | h
  · exact .inl (bat_keep h hb)
  · exact .inr (bat_keep h hb)

theorem enc_take_le (xs : List Bs) (k : Nat) : (enc (xs.take k)).length ≤ (enc xs).length := by
  have h := enc_append (xs.take k) (xs.drop k)
  rw [List.take_append_drop] at h
  rw [h, List.length_append]
  omega

theorem enc_snoc (xs : List Bs) (k : Nat) (x : Bs) (h : xs[k]? = some x) : enc (xs.take (k + 1)) = enc (xs.take k) ++ Lib.decDigits x.length ++ [58] ++ x := by
  rw [take_snoc xs k x h, enc_append]
  simp [enc]

set_option maxHeartbeats 800000 in
set_option maxRecDepth 100000 in
theorem row_any (A : Option Addr) (cap : Nat) (xs : List Bs) (w : World) (hx : SRow w w.heap.size A xs) (hn : xs.length ≤ 140737488355328) (he : (enc xs).length ≤ 140737488355328) (htab : Tab w.heap.size w) :
    Calls Tryd.prog 13 #[.slice A xs.length cap] w fun e w' => e = .returned (.string ⟨(enc xs).toArray⟩) ∧ Below w.heap.size w w' := by
  have HX := Lib.hid hx
  have HE := Lib.hid he
  have HT := Lib.hid htab
  clear hx he htab
  generalize hln : xs.length = n at *
  have HL := Lib.hid hln
  clear hln
  have HB0 := Lib.hid (isB_start w)
  have HW0 := Lib.hid ((Below.refl w.heap.size w).alloc (Nat.le_refl _) (.cells #[.pointer none, .slice none 0 0] 53))
  go_enter Tryd.func13, Tryd.ntmps13
  go_wp2
  go_loopw [8] (fun i wr => ∃ k : Nat, k ≤ n ∧ i = .int .i64 k ∧ IsB w.heap.size w.heap.size (Lib.byteCells (enc (xs.take k))) wr ∧ Below w.heap.size w wr) (fun i _ => n - (intOf i).toNat)
  case atStart => exact ⟨0, Nat.zero_le _, rfl, HB0.out, HW0.out⟩
  case round =>
    obtain ⟨k, hk, rfl, hb, hbw⟩ := hrel
    have HB := Lib.hid hb
    have HW := Lib.hid hbw
    have hsz : w.heap.size ≤ wr.heap.size := hbw.size
    clear hb hbw HB0 HW0
    by_cases hlt : k < n
    · have hxk : xs[k]? = some (xs[k]'(by rw [HL.out]; exact hlt)) := List.getElem?_eq_getElem _
      generalize xs[k]'(by rw [HL.out]; exact hlt) = x at hxk
      obtain ⟨b, o, s, rfl, hbl, hsx, hc0⟩ := HX.out k x hxk
      have hc : wr.cell? ⟨b, o + k, none⟩ = some (.string s) := (HW.out.cell (p := ⟨b, o + k, none⟩) hbl).trans hc0
      have hsn := enc_snoc xs k x hxk
      have hle := enc_take_le xs (k + 1)
      rw [hsn] at hle
      have hel := HE.out
      rw [← hsx, data_length] at hsn hle
      simp only [List.length_append, data_length, List.length_cons, List.length_nil] at hle
      have h1 : s.size ≤ 140737488355328 := by omega
      have h2 : (Lib.byteCells (enc (xs.take k))).length + (⟨(Lib.decDigits s.size).toArray⟩ : ByteArray).size ≤ 140737488355328 := by
        rw [Lib.byteCells_length]
        show _ + (Lib.decDigits s.size).toArray.size ≤ _
        rw [List.size_toArray]; omega
      have h3 : (Lib.byteCells (enc (xs.take k)) ++ Lib.strCells ⟨(Lib.decDigits s.size).toArray⟩).length + 1 ≤ 140737488355328 := by
        rw [List.length_append, Lib.byteCells_length, Lib.strCells_toArray, Lib.byteCells_length]; omega
      have h4 : (Lib.byteCells (enc (xs.take k)) ++ Lib.strCells ⟨(Lib.decDigits s.size).toArray⟩ ++ [Value.int .u8 58]).length + s.size ≤ 140737488355328 := by
        rw [List.length_append, List.length_append, Lib.byteCells_length, Lib.strCells_toArray, Lib.byteCells_length, List.length_singleton]; omega
      have h5 : Lib.byteCells (enc (xs.take k)) ++ Lib.strCells ⟨(Lib.decDigits s.size).toArray⟩ ++ [Value.int .u8 58] ++ Lib.strCells s = Lib.byteCells (enc (xs.take (k + 1))) := by
        rw [hsn, Lib.byteCells_append, Lib.byteCells_append, Lib.byteCells_append, Lib.strCells_toArray, Lib.strCells_eq]; rfl
      have H2 := Lib.hid h2
      have H3 := Lib.hid h3
      have H4 := Lib.hid h4
      have H5 := Lib.hid h5
      clear hc0 hsn hle hsx hxk h2 h3 h4 h5 hel
      go_wp2_with fail
      refine (itoa_any s.size h1 wr (HT.out.on HW.out).here).mono ?_
      rintro e w1 ⟨rfl, hb1⟩
      have hw1 : Below w.heap.size w w1 := HW.out.trans (hb1.mono hsz)
      have hB1 := isB_keep HB.out hb1
      have hz1 := hw1.size
      go_wp2_with fail
      refine (wstr_any _ _ _ _ _ hB1 H2.out hz1).mono ?_
      rintro e w2 ⟨rfl, hB2, hb2⟩
      have hw2 : Below w.heap.size w w2 := hw1.trans hb2
      have hz2 := hw2.size
      go_wp2_with fail
      refine (wbyte_any _ _ _ _ _ hB2 H3.out hz2).mono ?_
      rintro e w3 ⟨rfl, hB3, hb3⟩
      have hw3 : Below w.heap.size w w3 := hw2.trans hb3
      have hz3 := hw3.size
      go_wp2_with fail
      refine (wstr_any _ _ _ _ _ hB3 H4.out hz3).mono ?_
      rintro e w4 ⟨rfl, hB4, hb4⟩
      rw [H5.out] at hB4
      have hw4 : Below w.heap.size w w4 := hw3.trans hb4
      go_wp2
      go_roundw
      case rel => exact ⟨k + 1, by omega, by go_num, hB4, hw4⟩
      case measure => simp [intOf]; omega
    · have hB' := HB.out
      rw [List.take_of_length_le (by rw [HL.out]; omega)] at hB'
      clear HB
      go_wp2_with fail
      refine (Tryd.Builder_String_any _ _ _ _ hB' hsz).mono ?_
      rintro e w1 ⟨rfl, hb1⟩
      have hw1 : Below w.heap.size w w1 := HW.out.trans hb1
      go_wp2
      go_ret
      exact ⟨rfl, hw1⟩
end Pk
end Go.Proofs.YtkldgfdfpanelaaDoor
