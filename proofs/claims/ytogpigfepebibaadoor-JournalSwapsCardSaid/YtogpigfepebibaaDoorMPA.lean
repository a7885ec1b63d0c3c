/-
  Layer 1 (pack): the walks of the functions that make no memory: digit, mayFollow, length. Layer 1 (pack): slices of strings in memory, and the walks of long and Same.
-/
import Derived.Test.YtogpigfepebibaaDoorProg
import Derived.Test.YtogpigfepebibaaDoorMPMath
import Derived.WalkKit
import Derived.BigQuiet
import Derived.Deep.QuietTactic
import Derived.Lib.Hide
import Derived.Laws.Strings
import Derived.Below
import Derived.Deep.Draws
import Derived.Laws.OwnMore
import Derived.DataElems
import Derived.ChangeSlices
namespace Go.Proofs.YtogpigfepebibaaDoor
namespace Pk
open Go.RowKit

theorem data_length (s : ByteArray) : s.data.toList.length = s.size := rfl
theorem ext_data (s : ByteArray) (i j : Nat) : (s.extract i j).data.toList = (s.data.toList.drop i).take (j - i) := by
  simp [ByteArray.data_extract, Array.toList_extract, List.extract_eq_take_drop]
theorem ext_front (s : ByteArray) (j : Nat) : (s.extract 0 j).data.toList = s.data.toList.take j := by rw [ext_data]; simp
theorem ext_rest (s : ByteArray) (i : Nat) : (s.extract i s.size).data.toList = s.data.toList.drop i := by
  rw [ext_data, List.take_of_length_le (by rw [List.length_drop, data_length]; omega)]
theorem drop_at (s : ByteArray) (k : Nat) (h : k < s.size) : s.data.toList.drop k = s[k] :: s.data.toList.drop (k + 1) := by
  rw [List.drop_eq_getElem_cons (by rw [data_length]; exact h)]; rfl
theorem take_at (s : ByteArray) (k : Nat) (h : k < s.size) : s.data.toList.take (k + 1) = s.data.toList.take k ++ [s[k]] := by
  rw [List.take_succ_eq_append_getElem (by rw [data_length]; exact h)]; rfl
theorem isD_int (c : UInt8) : isD c = (decide ((48 : Int) ≤ c.toNat) && decide ((c.toNat : Int) ≤ 57)) := by
  unfold isD
  congr 1 <;> (rw [Bool.eq_iff_iff]; simp only [decide_eq_true_eq]; omega)

def mayB (l : Bs) (c : Int) : Bool := decide (48 ≤ c) && decide (c ≤ 57) && !(l == [48]) && decide (l.length < 9)

set_option maxRecDepth 100000 in
theorem may_any (s : ByteArray) (c : Int) (w : World) (hs : s.size ≤ 9223372036854775807) :
    Calls Tryd.prog 55 #[.string s, .int .u8 c] w fun e w' => e = .returned (.bool (mayB s.data.toList c)) ∧ w = w' := by
  by_cases a : 48 ≤ c
  · by_cases b : c ≤ 57
    · cases d : (s.toList == [48])
      · have r : mayB s.data.toList c = decide ((s.size : Int) < 9) := by
          rw [ByteArray.toList_eq] at d
          have : decide (s.size < 9) = decide ((s.size : Int) < 9) := by rw [Bool.eq_iff_iff]; simp only [decide_eq_true_eq]; omega
          simp only [mayB, a, b, d, data_length, this]
          simp
        rw [r]; clear r
        by_cases g : s.size < 9
        · go_enter Tryd.func55, Tryd.ntmps55
          go_wp2
          go_ret
          exact ⟨rfl, rfl⟩
        · go_enter Tryd.func55, Tryd.ntmps55
          go_wp2
          go_ret
          exact ⟨rfl, rfl⟩
      · have r : mayB s.data.toList c = false := by rw [ByteArray.toList_eq] at d; simp [mayB, d]
        rw [r]; clear r
        go_enter Tryd.func55, Tryd.ntmps55
        go_wp2
        go_ret
        exact ⟨rfl, rfl⟩
    · have r : mayB s.data.toList c = false := by simp [mayB, b]
      rw [r]; clear r
      go_enter Tryd.func55, Tryd.ntmps55
      go_wp2
      go_ret
      exact ⟨rfl, rfl⟩
  · have r : mayB s.data.toList c = false := by simp [mayB, a]
    rw [r]; clear r
    go_enter Tryd.func55, Tryd.ntmps55
    go_wp2
    go_ret
    exact ⟨rfl, rfl⟩

/-- What length answers. -/
def lenV : Nat ⊕ (Nat × Nat) → Value
  | .inl e => .tuple #[.int .i64 0, .int .i64 0, .int .i64 (e : Int)]
  | .inr (n, k) => .tuple #[.int .i64 (n : Int), .int .i64 (k : Int), .int .i64 0]

/-- What may follow, in the spelling of the reading. -/
theorem may_eq (b : ByteArray) (k n : Nat) (hk : k < b.size) (h48 : b.data.toList.take k = [48] ↔ (0 < k ∧ n = 0)) :
    mayB (b.extract 0 k).data.toList b[k].toNat = (isD b[k] && !bad n k) := by
  have hl : (b.data.toList.take k).length = k := by rw [List.length_take, data_length]; omega
  have h1 : (b.data.toList.take k == [48]) = (decide (0 < k) && decide (n = 0)) := by
    rw [Bool.eq_iff_iff]; simp [h48]
  have h2 : decide (k < 9) = !decide (9 ≤ k) := by rw [Bool.eq_iff_iff]; simp
  rw [ext_front, isD_int]
  unfold mayB bad
  rw [hl, h1, h2]
  simp only [Bool.not_or, Bool.and_assoc]

theorem next48 (b : ByteArray) (k n : Nat) (hk : k < b.size) (hn : n < 10 ^ k) (h48 : b.data.toList.take k = [48] ↔ (0 < k ∧ n = 0)) (hd : isD b[k] = true) (hb : bad n k = false) :
    b.data.toList.take (k + 1) = [48] ↔ (0 < k + 1 ∧ n * 10 + (b[k].toNat - 48) = 0) := by
  have hl : (b.data.toList.take k).length = k := by rw [List.length_take, data_length]; omega
  have hc : 48 ≤ b[k].toNat := by simp [isD] at hd; omega
  rw [take_at b k hk]
  constructor
  · intro h
    have h1 := congrArg List.length h
    simp only [List.length_append, List.length_cons, List.length_nil, hl] at h1
    obtain rfl : k = 0 := by omega
    have h2 : b[0] = 48 := by simpa using h
    have h3 : b[0].toNat = 48 := by rw [h2]; rfl
    have h4 : n < 1 := by simpa using hn
    omega
  · rintro ⟨_, h⟩
    clear hn
    have hn : n = 0 := by omega
    have hk0 : k = 0 := by simp [bad, hn] at hb; omega
    subst hk0
    have : b[0].toNat = 48 := by omega
    have : b[0] = 48 := UInt8.toNat_inj.1 this
    simp [this]

set_option maxRecDepth 100000 in
theorem length_any (b : ByteArray) (w : World) (_hs : b.size ≤ 9223372036854775807) :
    Calls Tryd.prog 42 #[.string b] w fun e w' => e = .returned (lenV (rdNum 0 0 b.data.toList)) ∧ w = w' := by
  go_enter Tryd.func42, Tryd.ntmps42
  go_wp2
  go_loop [2, 9] (fun t i => ∃ k n : Nat, k ≤ b.size ∧ k ≤ 9 ∧ i = .int .i64 k ∧ t = .int .i64 n ∧ n < 10 ^ k ∧ (b.data.toList.take k = [48] ↔ (0 < k ∧ n = 0)) ∧ rdNum n k (b.data.toList.drop k) = rdNum 0 0 b.data.toList) (fun _ i => b.size - (intOf i).toNat)
  case atStart => exact ⟨0, 0, Nat.zero_le _, by omega, rfl, rfl, by omega, by simp, rfl⟩
  case round =>
    obtain ⟨k, n, hk, hk9, rfl, rfl, hn, h48, hr⟩ := hrel
    have HN := Lib.hid hn
    have hn9 : n < 1000000000 := by
      have : 10 ^ k ≤ 10 ^ 9 := Nat.pow_le_pow_right (by decide) hk9
      omega
    clear hn
    by_cases hlt : k < b.size
    · have hmay := may_eq b k n hlt h48
      have hd := drop_at b k hlt
      rw [hd] at hr
      have HR := Lib.hid hr
      have H48 := Lib.hid h48
      have hcb : b[k].toNat < 256 := b[k].toNat_lt
      have HMAY := Lib.hid hmay
      have hsz : (b.extract 0 k).size ≤ 9223372036854775807 := by rw [ByteArray.size_extract]; omega
      clear hmay hd hr h48
      by_cases h58 : b[k].toNat = 58
      · have h58b : ((b[k].toNat : Int) == 58) = true := by rw [beq_iff_eq]; omega
        have he58 : b[k] = 58 := UInt8.toNat_inj.1 h58
        have H58 := Lib.hid he58
        clear h58 he58
        by_cases hk0 : 0 < k
        · go_wp2
          go_ret3
          have e := HR.out
          rw [H58.out, rdNum_colon _ _ _ hk0] at e
          rw [← e]
          exact ⟨rfl, rfl⟩
        · have hf : (isD b[k] && !bad n k) = false := by rw [H58.out]; rfl
          have hv : rdNum 0 0 b.data.toList = .inl 3 := by
            rw [← HR.out]
            exact rdNum_other _ _ _ _ (by rw [H58.out]; rfl) (fun h => hk0 h.2)
          rw [hf] at HMAY
          have HV := Lib.hid hv
          clear hf hv
          go_wp2_with fail
          refine (may_any _ _ _ hsz).mono ?_
          rintro e w' ⟨rfl, rfl⟩
          rw [HMAY.out]
          go_wp2
          go_ret3
          rw [HV.out]
          exact ⟨rfl, rfl⟩
      · have h58b : ((b[k].toNat : Int) == 58) = false := by rw [beq_eq_false_iff_ne]; omega
        cases hm : (isD b[k] && !bad n k)
        · rw [hm] at HMAY
          have hv : rdNum 0 0 b.data.toList = .inl 3 := by
            rw [← HR.out]
            cases hd : isD b[k]
            · exact rdNum_other _ _ _ _ hd (fun h => h58 (by rw [h.1]; rfl))
            · rw [hd] at hm
              exact rdNum_bad _ _ _ _ hd (by simpa using hm)
          have HV := Lib.hid hv
          clear hv hm h58
          go_wp2_with fail
          refine (may_any _ _ _ hsz).mono ?_
          rintro e w' ⟨rfl, rfl⟩
          rw [HMAY.out]
          go_wp2
          go_ret3
          rw [HV.out]
          exact ⟨rfl, rfl⟩
        · rw [hm] at HMAY
          have hdb : isD b[k] = true ∧ bad n k = false := by simpa using hm
          have h48' := next48 b k n hlt HN.out H48.out hdb.1 hdb.2
          have hv := HR.out
          rw [rdNum_digit _ _ _ _ hdb.1 hdb.2] at hv
          have hk8 := bad_lt hdb.2
          have hc : 48 ≤ b[k].toNat ∧ b[k].toNat ≤ 57 := by have := hdb.1; simpa [isD] using this
          obtain ⟨hc1, hc2⟩ := hc
          have HV := Lib.hid hv
          have H48' := Lib.hid h48'
          clear hv h48' hdb hm h58
          go_wp2_with fail
          refine (may_any _ _ _ hsz).mono ?_
          rintro e w' ⟨rfl, rfl⟩
          rw [HMAY.out]
          go_wp2
          go_round
          case rel => exact ⟨k + 1, n * 10 + (b[k].toNat - 48), by omega, by omega, by go_num, by rw [show ((n * 10 + (b[k].toNat - 48) : Nat) : Int) = (n : Int) * 10 + ((b[k].toNat : Int) - 48) by omega], by have := HN.out; rw [Nat.pow_succ]; omega, H48'.out, HV.out⟩
          case measure => simp [intOf]; omega
    · obtain rfl : k = b.size := by omega
      have hv : rdNum 0 0 b.data.toList = .inl 4 := by
        rw [← hr, List.drop_eq_nil_of_le (by rw [data_length]; omega)]; rfl
      have HV := Lib.hid hv
      clear hv hr h48
      go_wp2
      go_ret3
      rw [HV.out]
      exact ⟨rfl, rfl⟩

end Pk
end Go.Proofs.YtogpigfepebibaaDoor

namespace Go.Proofs.YtogpigfepebibaaDoor
namespace Pk
open Go.RowKit Go.ChangeShapes

/-- A slice's address under which strings stand, below block B: the rows of bytes xs. -/
def SRow (w : World) (B : Nat) (A : Option Addr) (xs : List Bs) : Prop :=
  ∀ j x, xs[j]? = some x → ∃ b o s, A = some ⟨b, o, none⟩ ∧ b < B ∧ s.data.toList = x ∧ w.cell? ⟨b, o + j, none⟩ = some (.string s)

theorem SRow.none_ (w : World) (B : Nat) (A : Option Addr) : SRow w B A [] := fun j x h => by simp at h
theorem SRow.keep {w w' : World} {B : Nat} {A : Option Addr} {xs : List Bs} (h : SRow w B A xs) (hk : ∀ p : Addr, p.block < B → w'.cell? p = w.cell? p) : SRow w' B A xs := fun j x hx => by
  obtain ⟨b, o, s, h1, h2, h3, h4⟩ := h j x hx
  exact ⟨b, o, s, h1, h2, h3, (hk _ h2).trans h4⟩
theorem SRow.below {w w' : World} {B B' : Nat} {A : Option Addr} {xs : List Bs} (h : SRow w B A xs) (hb : Below B' w w') (hB : B ≤ B') : SRow w' B A xs := h.keep fun _ hp => (hb.mono hB).cell hp
theorem SRow.more {w : World} {B B' : Nat} {A : Option Addr} {xs : List Bs} (h : SRow w B A xs) (hB : B ≤ B') : SRow w B' A xs := fun j x hx => by
  obtain ⟨b, o, s, h1, h2, h3, h4⟩ := h j x hx
  exact ⟨b, o, s, h1, by omega, h3, h4⟩
theorem SRow.drewN {w : World} {B : Nat} {A : Option Addr} {xs : List Bs} (h : SRow w B A xs) (n : Nat) : SRow (w.drewN n) B A xs := h
theorem SRow.alloc {w : World} {B : Nat} {A : Option Addr} {xs : List Bs} (h : SRow w B A xs) (hB : B ≤ w.heap.size) (o : Obj) : SRow (w.alloc o) B A xs :=
  h.keep fun p hp => World.cell?_alloc_lt w o p (by omega)

/-- The total that long asks of. -/
def tot : List Bs → Nat
  | [] => 0
  | s :: r => s.length + 1 + tot r
theorem tot_append (a b : List Bs) : tot (a ++ b) = tot a + tot b := by
  induction a with
  | nil => simp [tot]
  | cons s r ih => simp [tot, ih]; omega
theorem tot_take (xs : List Bs) (k : Nat) : tot (xs.take k) ≤ tot xs := by
  have := tot_append (xs.take k) (xs.drop k)
  rw [List.take_append_drop] at this
  omega
theorem take_snoc {α : Type} (xs : List α) (k : Nat) (x : α) (h : xs[k]? = some x) : xs.take (k + 1) = xs.take k ++ [x] := by
  obtain ⟨hk, rfl⟩ := List.getElem?_eq_some_iff.1 h
  rw [List.take_succ_eq_append_getElem hk]
theorem tot_snoc (xs : List Bs) (k : Nat) (x : Bs) (h : xs[k]? = some x) : tot (xs.take (k + 1)) = tot (xs.take k) + x.length + 1 := by
  rw [take_snoc xs k x h, tot_append]
  simp [tot]; omega
theorem tot_len (xs : List Bs) : xs.length ≤ tot xs := by
  induction xs with
  | nil => simp
  | cons s r ih => simp [tot]; omega
theorem tot_mem {xs : List Bs} {s : Bs} (h : s ∈ xs) : s.length < tot xs := by
  induction xs with
  | nil => cases h
  | cons a r ih =>
    rcases List.mem_cons.1 h with rfl | h
    · simp [tot]; omega
    · have := ih h; simp [tot]; omega

def longB (xs : List Bs) : Bool := decide (5000 < tot xs)

end Pk
end Go.Proofs.YtogpigfepebibaaDoor
