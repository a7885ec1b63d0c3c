/-
  Layer 2 (sha): the walks of the functions on single words.
-/
import Derived.Test.YtogpigfepebibaaGreatDoorProg
import Derived.Test.YtogpigfepebibaaGreatDoorMSMath
import Derived.WalkKit
import Derived.BigQuiet
import Derived.Deep.QuietTactic
import Derived.Deep.Draws
import Derived.Lib.Hide
namespace Go.Proofs.YtogpigfepebibaaGreatDoor
namespace Sh
open Go.RowKit

theorem turn_eq (x : W) (n : Nat) : Value.int .u32 (bits BinOp.or IntKind.u32 ((x.toNat : Int) / 2 ^ n) ((x.toNat : Int) * 2 ^ (32 - n) % 4294967296)) = .int .u32 ((rotr x n).toNat : Int) := by
  rw [bshr, bshl, bor]; rfl

set_option maxRecDepth 100000 in
theorem turn_any (x : W) (n : Nat) (h0 : 0 < n) (h : n < 32) (w : World) :
    Calls Tryz.prog 83 #[.int .u32 (x.toNat : Int), .int .i64 n] w fun e w' => e = .returned (.int .u32 ((rotr x n).toNat : Int)) ∧ ∃ n, w' = w.drewN n := by
  have hx := wlt x
  go_enter Tryz.func83, Tryz.ntmps83
  go_wp2
  go_quiet (fail)
  go_wp2
  go_ret
  have e := turn_eq x n
  rw [← e]
  exact ⟨rfl, _, rfl⟩

theorem mask_eq (n : Nat) (h0 : 0 < n) (h : n < 32) : bits .and .u64 (IntKind.u64.wrap (-(n : Int))) 31 = 32 - (n : Int) := by
  have e : IntKind.u64.wrap (-(n : Int)) = ((18446744073709551616 - n : Nat) : Int) := by
    simp [IntKind.wrap, IntKind.bits, IntKind.signed]; omega
  rw [e]
  show IntKind.u64.wrap ((BitVec.ofInt 64 ((18446744073709551616 - n : Nat) : Int) &&& BitVec.ofInt 64 ((31 : Nat) : Int)).toNat : Int) = _
  rw [BitVec.ofInt_natCast, BitVec.ofInt_natCast, BitVec.toNat_and, BitVec.toNat_ofNat, BitVec.toNat_ofNat]
  rw [Nat.mod_eq_of_lt (a := 18446744073709551616 - n) (by omega), Nat.mod_eq_of_lt (a := 31) (by omega), show (31 : Nat) = 2 ^ 5 - 1 from rfl, Nat.and_two_pow_sub_one_eq_mod]
  rw [IntWalk.u64_in _ (by omega)]
  omega

theorem rot_eq (x : W) (n : Nat) (h : n < 32) : Value.int .u32 (bits BinOp.or IntKind.u32 ((x.toNat : Int) * 2 ^ (32 - n) % 4294967296) ((x.toNat : Int) / 2 ^ (32 - (32 - n)))) = .int .u32 ((rotr x n).toNat : Int) := by
  rw [bshr, bshl, bor, BitVec.or_comm, show 32 - (32 - n) = n by omega]; rfl

set_option maxRecDepth 100000 in
theorem rl_any (x : W) (z : Int) (n : Nat) (hz : z = -(n : Int)) (h0 : 0 < n) (h : n < 32) (w : World) :
    Calls Tryz.prog 103 #[.int .u32 (x.toNat : Int), .int .i64 z] w fun e w' => e = .returned (.int .u32 ((rotr x n).toNat : Int)) ∧ w = w' := by
  subst hz
  have e := rot_eq x n h
  have E := Lib.hid e
  clear e
  have hx := wlt x
  have hm := mask_eq n h0 h
  go_enter Tryz.func103, Tryz.ntmps103
  go_wp2
  go_ret
  rw [← E.out]
  exact ⟨rfl, rfl⟩

set_option maxRecDepth 100000 in
theorem rotated_any (x : W) (a b c : Nat) (a0 : 0 < a) (a1 : a < 32) (b0 : 0 < b) (b1 : b < 32) (c0 : 0 < c) (c1 : c < 32) (w : World) :
    Calls Tryz.prog 96 #[.int .u32 (x.toNat : Int), .int .i64 a, .int .i64 b, .int .i64 c] w fun e w' => e = .returned (.int .u32 ((rot3 x a b c).toNat : Int)) ∧ w = w' := by
  have e : Value.int .u32 (bits .xor .u32 (bits .xor .u32 ((rotr x a).toNat : Int) ((rotr x b).toNat : Int)) ((rotr x c).toNat : Int)) = .int .u32 ((rot3 x a b c).toNat : Int) := by rw [bxor, bxor]; rfl
  have E := Lib.hid e
  clear e
  go_enter Tryz.func96, Tryz.ntmps96
  go_wp2_with fail
  refine (rl_any x _ a rfl a0 a1 _).mono ?_
  rintro e w' ⟨rfl, rfl⟩
  go_wp2_with fail
  refine (rl_any x _ b rfl b0 b1 _).mono ?_
  rintro e w' ⟨rfl, rfl⟩
  go_wp2_with fail
  refine (rl_any x _ c rfl c0 c1 _).mono ?_
  rintro e w' ⟨rfl, rfl⟩
  go_wp2
  go_ret
  rw [← E.out]
  exact ⟨rfl, rfl⟩

set_option maxRecDepth 100000 in
theorem word_any (b o cap : Nat) (x y z t : UInt8) (w : World) (h0 : w.cell? ⟨b, o, none⟩ = some (.int .u8 (x.toNat : Int))) (h1 : w.cell? ⟨b, o + 1, none⟩ = some (.int .u8 (y.toNat : Int))) (h2 : w.cell? ⟨b, o + 2, none⟩ = some (.int .u8 (z.toNat : Int))) (h3 : w.cell? ⟨b, o + 3, none⟩ = some (.int .u8 (t.toNat : Int))) :
    Calls Tryz.prog 82 #[.slice (some ⟨b, o, none⟩) 4 cap] w fun e w' => e = .returned (.int .u32 ((word x y z t).toNat : Int)) ∧ ∃ n, w' = w.drewN n := by
  have E := Lib.hid (word_or x y z t)
  have hx := x.toNat_lt
  have hy := y.toNat_lt
  have hz := z.toNat_lt
  have ht := t.toNat_lt
  go_enter Tryz.func82, Tryz.ntmps82
  go_wp2
  go_quiet (fail)
  go_wp2
  go_ret
  rw [← E.out]
  exact ⟨rfl, _, rfl⟩
end Sh
end Go.Proofs.YtogpigfepebibaaGreatDoor
