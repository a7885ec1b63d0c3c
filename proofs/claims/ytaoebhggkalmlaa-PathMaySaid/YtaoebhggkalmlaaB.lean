/-
  Layer 3 (path): the library's Cut at a stroke, HasPrefix, TrimSuffix, LastIndexByte.
-/
import Derived.Test.YtaoebhggkalmlaaA
import Derived.Test.YtaoebhggkalmlaaShelf
import Derived.Below
import Derived.Deep.Draws
namespace Go.Proofs.Ytaoebhggkalmlaa
namespace Pt
open Go.RowKit

theorem idx_no (l : Bs) (h : (47 : UInt8) ∉ l) : Lib.indexByte l 47 = -1 := by
  induction l with
  | nil => rfl
  | cons c l ih =>
    have h1 : (c == 47) = false := by rw [beq_eq_false_iff_ne]; exact fun e => h (by simp [e])
    unfold Lib.indexByte
    rw [h1, ih (fun hm => h (by simp [hm]))]
    rfl
theorem idx_at (a b : Bs) (h : (47 : UInt8) ∉ a) : Lib.indexByte (a ++ 47 :: b) 47 = (a.length : Int) := by
  induction a with
  | nil => rfl
  | cons c l ih =>
    have h1 : (c == 47) = false := by rw [beq_eq_false_iff_ne]; exact fun e => h (by simp [e])
    rw [List.cons_append]
    unfold Lib.indexByte
    rw [h1, ih (fun hm => h (by simp [hm]))]
    have h2 : ((l.length : Int) == -1) = false := by rw [beq_eq_false_iff_ne]; omega
    rw [h2]
    simp

theorem cutin_no (s : ByteArray) (h : (47 : UInt8) ∉ s.data.toList) (w : World) :
    Calls Try.prog 38 #[.string s, .string ⟨#[47]⟩] w fun e w' => e = .returned (.tuple #[.string s, .string ⟨#[]⟩, .bool false]) ∧ ∃ n, w' = w.drewN n := by
  have hx := Try.stringslite_Index_one s 47 w
  rw [idx_no _ h] at hx
  have HX := Lib.hid hx
  clear hx h
  go_enter Try.func38, Try.ntmps38
  go_wp2_with fail
  refine HX.out.mono ?_
  rintro e w' ⟨rfl, rfl⟩
  go_wp2
  go_ret3
  exact ⟨rfl, 0, by rw [World.drewN_zero]⟩

theorem cutin_yes (s : ByteArray) (a b : Bs) (hs : s.size ≤ 140737488355328) (h : (47 : UInt8) ∉ a) (he : s.data.toList = a ++ 47 :: b) (w : World) :
    Calls Try.prog 38 #[.string s, .string ⟨#[47]⟩] w fun e w' => e = .returned (.tuple #[.string (s.extract 0 a.length), .string (s.extract (a.length + 1) s.size), .bool true]) ∧ ∃ n, w' = w.drewN n := by
  have hx := Try.stringslite_Index_one s 47 w
  rw [he, idx_at _ _ h] at hx
  have hl : a.length + 1 ≤ s.size := by rw [← data_length, he, List.length_append, List.length_cons]; omega
  generalize a.length = n at hx hl ⊢
  have HX := Lib.hid hx
  clear hx h he
  have c1 : (0 : Int) ≤ n := by omega
  have c2 : (n : Int) + 1 ≤ s.size := by omega
  go_enter Try.func38, Try.ntmps38
  go_wp2_with fail
  refine HX.out.mono ?_
  rintro e w' ⟨rfl, rfl⟩
  go_wp2
  go_quiet (fail)
  go_wp2
  go_ret3
  exact ⟨rfl, _, rfl⟩

theorem cut_no (s : ByteArray) (h : (47 : UInt8) ∉ s.data.toList) (w : World) :
    Calls Try.prog 34 #[.string s, .string ⟨#[47]⟩] w fun e w' => e = .returned (.tuple #[.string s, .string ⟨#[]⟩, .bool false]) ∧ ∃ n, w' = w.drewN n := by
  have HX := Lib.hid (cutin_no s h w)
  clear h
  go_enter Try.func34, Try.ntmps34
  go_wp2_with fail
  refine HX.out.mono ?_
  rintro e w' ⟨rfl, n, rfl⟩
  go_wp2
  go_ret3
  exact ⟨rfl, n, rfl⟩

theorem cut_yes (s : ByteArray) (a b : Bs) (hs : s.size ≤ 140737488355328) (h : (47 : UInt8) ∉ a) (he : s.data.toList = a ++ 47 :: b) (w : World) :
    Calls Try.prog 34 #[.string s, .string ⟨#[47]⟩] w fun e w' => e = .returned (.tuple #[.string (s.extract 0 a.length), .string (s.extract (a.length + 1) s.size), .bool true]) ∧ ∃ n, w' = w.drewN n := by
  have HX := Lib.hid (cutin_yes s a b hs h he w)
  clear h he
  go_enter Try.func34, Try.ntmps34
  go_wp2_with fail
  refine HX.out.mono ?_
  rintro e w' ⟨rfl, n, rfl⟩
  go_wp2
  go_ret3
  exact ⟨rfl, n, rfl⟩

theorem pre_any (s p : ByteArray) (b : Bool) (hb : p.data.toList.isPrefixOf s.data.toList = b) (w : World) :
    Calls Try.prog 25 #[.string s, .string p] w fun e w' => e = .returned (.bool b) ∧ w = w' := by
  refine (Try.strings_HasPrefix s p w).mono ?_
  rintro e w' ⟨rfl, rfl⟩
  exact ⟨by rw [← hb]; rfl, rfl⟩

theorem trim_any (s p X : ByteArray) (hs : s.size ≤ 140737488355328) (hX : X.data.toList = Lib.trimSuffix s.data.toList p.data.toList) (w : World) :
    Calls Try.prog 26 #[.string s, .string p] w fun e w' => e = .returned (.string X) ∧ w = w' := by
  refine (Try.strings_TrimSuffix s p w (by omega)).mono ?_
  rintro e w' ⟨rfl, rfl⟩
  exact ⟨by rw [← hX, str_back], rfl⟩
theorem trim_hit (a b : Bs) : Lib.trimSuffix (a ++ b) b = a := by
  unfold Lib.trimSuffix Lib.hasSuffix
  rw [suffix_app, if_pos rfl, List.length_append]
  simp
theorem trim_self (b : Bs) : Lib.trimSuffix b b = [] := trim_hit [] b
theorem trim_nil (b : Bs) : Lib.trimSuffix [] b = [] := by
  unfold Lib.trimSuffix
  split <;> simp

theorem last_any (s : ByteArray) (hs : s.size ≤ 140737488355328) (w : World) :
    Calls Try.prog 29 #[.string s, .int .u8 46] w fun e w' => e = .returned (.int .i64 (Lib.lastIndexByte s 46)) ∧ w = w' := by
  refine (Try.strings_LastIndexByte s 46 (by omega) w).mono ?_
  rintro e w' ⟨rfl, rfl⟩
  exact ⟨rfl, rfl⟩
theorem getD_bang (s : ByteArray) (j : Nat) (hj : j < s.size) : s.data.toList.getD j 0 = s.data[j]! := by
  rw [getElem!_pos s.data j (by simpa using hj), List.getD_eq_getElem?_getD, List.getElem?_eq_getElem (by rw [data_length]; exact hj)]
  simp
theorem u8_46 (x : UInt8) : ((x.toNat : Int) = 46) ↔ x = 46 := by
  constructor
  · intro h
    have : x.toNat = 46 := by omega
    exact UInt8.toNat_inj.1 this
  · rintro rfl; rfl
/-- What the last dot says. -/
theorem last_cases (s : ByteArray) : (Lib.lastIndexByte s 46 ≤ 0 ∧ extF s.data.toList (s.data.toList.length - 1) = []) ∨
    ∃ i : Nat, 0 < i ∧ i < s.size ∧ Lib.lastIndexByte s 46 = i ∧ extF s.data.toList (s.data.toList.length - 1) = s.data.toList.drop i := by
  have hl := data_length s
  rcases Lib.lastIndexByte_spec s 46 with ⟨h1, h2⟩ | ⟨i, hi, h1, h2, h3⟩
  · refine .inl ⟨by omega, extF_none _ _ fun j hj hk => ?_⟩
    intro he
    rw [getD_bang s j (by omega)] at he
    exact h2 j (by omega) ((u8_46 _).2 he)
  · by_cases h0 : i = 0
    · subst h0
      refine .inl ⟨by omega, extF_none _ _ fun j hj hk => ?_⟩
      intro he
      rw [getD_bang s j (by omega)] at he
      exact h3 j (by omega) (by omega) ((u8_46 _).2 he)
    · refine .inr ⟨i, by omega, hi, h1, extF_some _ i _ (by omega) (by omega) ?_ fun j hj hk => ?_⟩
      · rw [getD_bang s i hi]; exact (u8_46 _).1 h2
      · intro he
        rw [getD_bang s j (by omega)] at he
        exact h3 j (by omega) (by omega) ((u8_46 _).2 he)
end Pt
end Go.Proofs.Ytaoebhggkalmlaa
