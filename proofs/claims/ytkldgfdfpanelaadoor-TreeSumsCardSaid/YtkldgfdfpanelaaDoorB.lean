/-
  Layer 3 (path): the library's Cut at a stroke, HasPrefix.
-/
import Derived.Test.YtkldgfdfpanelaaDoorA
import Derived.Test.YtkldgfdfpanelaaDoorShelf
import Derived.Below
import Derived.Deep.Draws
namespace Go.Proofs.YtkldgfdfpanelaaDoor
namespace Pt
open Go.RowKit

theorem idx_no (l : Bs) (h : (47 : UInt8) ∉ l) : Lib.indexByte l 47 = -1 := by
  induction l with
  | nil => rfl
  | cons c l ih =>
    have h1 : (c == 47) = false := by rw [beq_eq_false_iff_ne]; exact fun e => h (by simp [e])
    unfold Lib.indexByte
    rw [h1, ih (fun hm => h (by simp [hm]))]
    rfl
theorem idx_at (a b : Bs) (h : (47 : UInt8) ∉ a) : Lib.indexByte (a ++ 47 :: b) 47 = (a.length : Int) := by
  induction a with
  | nil => rfl
  | cons c l ih =>
    have h1 : (c == 47) = false := by rw [beq_eq_false_iff_ne]; exact fun e => h (by simp [e])
    rw [List.cons_append]
    unfold Lib.indexByte
    rw [h1, ih (fun hm => h (by simp [hm]))]
    have h2 : ((l.length : Int) == -1) = false := by rw [beq_eq_false_iff_ne]; omega
    rw [h2]
    simp

theorem cutin_no (s : ByteArray) (h : (47 : UInt8) ∉ s.data.toList) (w : World) :
    Calls Tryd.prog 65 #[.string s, .string ⟨#[47]⟩] w fun e w' => e = .returned (.tuple #[.string s, .string ⟨#[]⟩, .bool false]) ∧ ∃ n, w' = w.drewN n := by
  have hx := Tryd.stringslite_Index_one s 47 w
  rw [idx_no _ h] at hx
  have HX := Lib.hid hx
  clear hx h
  go_enter Tryd.func65, Tryd.ntmps65
  go_wp2_with fail
  refine HX.out.mono ?_
  rintro e w' ⟨rfl, rfl⟩
  go_wp2
  go_ret3
  exact ⟨rfl, 0, by rw [World.drewN_zero]⟩

theorem cutin_yes (s : ByteArray) (a b : Bs) (hs : s.size ≤ 140737488355328) (h : (47 : UInt8) ∉ a) (he : s.data.toList = a ++ 47 :: b) (w : World) :
    Calls Tryd.prog 65 #[.string s, .string ⟨#[47]⟩] w fun e w' => e = .returned (.tuple #[.string (s.extract 0 a.length), .string (s.extract (a.length + 1) s.size), .bool true]) ∧ ∃ n, w' = w.drewN n := by
  have hx := Tryd.stringslite_Index_one s 47 w
  rw [he, idx_at _ _ h] at hx
  have hl : a.length + 1 ≤ s.size := by rw [← data_length, he, List.length_append, List.length_cons]; omega
  generalize a.length = n at hx hl ⊢
  have HX := Lib.hid hx
  clear hx h he
  have c1 : (0 : Int) ≤ n := by omega
  have c2 : (n : Int) + 1 ≤ s.size := by omega
  go_enter Tryd.func65, Tryd.ntmps65
  go_wp2_with fail
  refine HX.out.mono ?_
  rintro e w' ⟨rfl, rfl⟩
  go_wp2
  go_quiet (fail)
  go_wp2
  go_ret3
  exact ⟨rfl, _, rfl⟩

theorem cut_no (s : ByteArray) (h : (47 : UInt8) ∉ s.data.toList) (w : World) :
    Calls Tryd.prog 58 #[.string s, .string ⟨#[47]⟩] w fun e w' => e = .returned (.tuple #[.string s, .string ⟨#[]⟩, .bool false]) ∧ ∃ n, w' = w.drewN n := by
  have HX := Lib.hid (cutin_no s h w)
  clear h
  go_enter Tryd.func58, Tryd.ntmps58
  go_wp2_with fail
  refine HX.out.mono ?_
  rintro e w' ⟨rfl, n, rfl⟩
  go_wp2
  go_ret3
  exact ⟨rfl, n, rfl⟩

theorem cut_yes (s : ByteArray) (a b : Bs) (hs : s.size ≤ 140737488355328) (h : (47 : UInt8) ∉ a) (he : s.data.toList = a ++ 47 :: b) (w : World) :
    Calls Tryd.prog 58 #[.string s, .string ⟨#[47]⟩] w fun e w' => e = .returned (.tuple #[.string (s.extract 0 a.length), .string (s.extract (a.length + 1) s.size), .bool true]) ∧ ∃ n, w' = w.drewN n := by
  have HX := Lib.hid (cutin_yes s a b hs h he w)
  clear h he
  go_enter Tryd.func58, Tryd.ntmps58
  go_wp2_with fail
  refine HX.out.mono ?_
  rintro e w' ⟨rfl, n, rfl⟩
  go_wp2
  go_ret3
  exact ⟨rfl, n, rfl⟩

theorem pre_any (s p : ByteArray) (b : Bool) (hb : p.data.toList.isPrefixOf s.data.toList = b) (w : World) :
    Calls Tryd.prog 34 #[.string s, .string p] w fun e w' => e = .returned (.bool b) ∧ w = w' := by
  refine (Tryd.strings_HasPrefix s p w).mono ?_
  rintro e w' ⟨rfl, rfl⟩
  exact ⟨by rw [← hb]; rfl, rfl⟩

theorem getD_bang (s : ByteArray) (j : Nat) (hj : j < s.size) : s.data.toList.getD j 0 = s.data[j]! := by
  rw [getElem!_pos s.data j (by simpa using hj), List.getD_eq_getElem?_getD, List.getElem?_eq_getElem (by rw [data_length]; exact hj)]
  simp
theorem u8_46 (x : UInt8) : ((x.toNat : Int) = 46) ↔ x = 46 := by
  constructor
  · intro h
    have : x.toNat = 46 := by omega
    exact UInt8.toNat_inj.1 this
  · rintro rfl; rfl
end Pt
end Go.Proofs.YtkldgfdfpanelaaDoor
