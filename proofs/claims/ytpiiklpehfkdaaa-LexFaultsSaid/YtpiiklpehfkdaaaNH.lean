/-
  Layer 9 (lex): the document's Same; equal tokens and places; what the laws ask of the program; the examples.
-/
import Derived.Test.YtpiiklpehfkdaaaNG
import Derived.Laws.Cover1
namespace Go.Proofs.Ytpiiklpehfkdaaa
namespace Lx
open Go.RowKit Kr

abbrev T_P : TypeId := 26
theorem eqP (a b : Int) (w : World) : (Op.equalIn 10000 T_P (.agg #[.int .i64 a, .int .i64 b]) (.agg #[.int .i64 a, .int .i64 b])).run Try.prog w = .ok true w := by
  have u3 := Try.underlying3
  have a3 := Try.isAgg3
  have z3 := Try.sizeOf3
  have hS : Try.prog.underlying T_P = some (.struct (Try.prog.fieldsOf T_P)) := by kernel_rfl
  have hp : Try.prog.stoodInHeld T_P = false := by kernel_rfl
  rw [show (10000 : Nat) = 9999 + 1 from rfl, run_equalIn_agg w 9999 T_P _ _ hS hp]
  simp only [Program.fieldsOf, Try.underlying26]
  go_simp
theorem guardP : Try.prog.eqGuardType Try.prog.depth T_P = false := by kernel_rfl
theorem eqK (k : Int) (s : ByteArray) (a b : Int) (w : World) : (Op.equalIn 10000 T_K (.agg #[.int .i64 k, .string s, .int .i64 a, .int .i64 b]) (.agg #[.int .i64 k, .string s, .int .i64 a, .int .i64 b])).run Try.prog w = .ok true w := by
  have u3 := Try.underlying3
  have a3 := Try.isAgg3
  have z3 := Try.sizeOf3
  have u9 := Try.underlying9
  have a9 := Try.isAgg9
  have z9 := Try.sizeOf9
  have u26 := Try.underlying26
  have a26 := Try.isAgg26
  have z26 := Try.sizeOf26
  have hS : Try.prog.underlying T_K = some (.struct (Try.prog.fieldsOf T_K)) := by kernel_rfl
  have hp : Try.prog.stoodInHeld T_K = false := by kernel_rfl
  have hS2 : Try.prog.underlying T_P = some (.struct (Try.prog.fieldsOf T_P)) := by kernel_rfl
  have hp2 : Try.prog.stoodInHeld T_P = false := by kernel_rfl
  rw [show (10000 : Nat) = 9999 + 1 from rfl, run_equalIn_agg w 9999 T_K _ _ hS hp]
  simp only [Program.fieldsOf, Try.underlying33]
  go_simp
theorem guardK : Try.prog.eqGuardType Try.prog.depth T_K = false := by kernel_rfl
theorem row_load {w : World} {B b o j : Nat} {l : List Tk} {t : Tk} (h : TRow w B (some ⟨b, o, none⟩) l) (hx : l[j]? = some t) :
    w.cell? ⟨b, o + j * 4, none⟩ = some (.int .i64 (t.kind : Int)) ∧ w.cell? ⟨b, o + j * 4 + 1, none⟩ = some (.string (ofB t.text)) ∧ w.cell? ⟨b, o + j * 4 + 2, none⟩ = some (.int .i64 (t.line : Int)) ∧ w.cell? ⟨b, o + j * 4 + 3, none⟩ = some (.int .i64 (t.col : Int)) := by
  obtain ⟨b', o', e, _, h3⟩ := h j t hx
  injection e with e
  injection e with e1 e2
  subst e1 e2
  exact ⟨h3 0 _ rfl, h3 1 _ rfl, h3 2 _ rfl, h3 3 _ rfl⟩
set_option maxRecDepth 100000 in
set_option maxHeartbeats 2000000 in
/-- Equal tokens are the same. -/
theorem same_yes (A1 A2 : Option Addr) (cap1 cap2 B n : Nat) (l : List Tk) (w : World) (hn : l.length = n) (hnm : n ≤ 1000000) (h1 : TRow w B A1 l) (h2 : TRow w B A2 l) :
    Calls Try.prog 11 #[.slice A1 n cap1, .slice A2 n cap2] w fun e w' => e = .returned (.bool true) ∧ Below w.heap.size w w' := by
  have H1 := Lib.hid h1
  have H2 := Lib.hid h2
  have HN := Lib.hid hn
  have hbq : ((n : Int) != (n : Int)) = false := by simp
  clear h1 h2 hn
  go_enter Try.func11, Try.ntmps11
  go_wp2
  go_loopw [5] (fun i wr => ∃ k d : Nat, k ≤ n ∧ i = .int .i64 k ∧ wr = w.drewN d) (fun i _ => n - (intOf i).toNat)
  case atStart => exact ⟨0, 0, Nat.zero_le _, rfl, by rw [World.drewN_zero]⟩
  case round =>
    obtain ⟨k, d, hk, rfl, rfl⟩ := hrel
    by_cases hlt : k < n
    · have hki : (k : Int) < n := by omega
      have hxk : l[k]? = some (l[k]'(by rw [HN.out]; exact hlt)) := List.getElem?_eq_getElem _
      generalize l[k]'(by rw [HN.out]; exact hlt) = t at hxk
      obtain ⟨b1, o1, rfl, _, _⟩ := H1.out k t hxk
      obtain ⟨b2, o2, rfl, _, _⟩ := H2.out k t hxk
      obtain ⟨x0, x1, x2, x3⟩ := row_load H1.out hxk
      obtain ⟨y0, y1, y2, y3⟩ := row_load H2.out hxk
      obtain ⟨tk, tt, tl, tc⟩ := t
      simp only at x0 x1 x2 x3 y0 y1 y2 y3
      have hQ := eqK (tk : Int) (ofB tt) (tl : Int) (tc : Int)
      have hG := guardK
      generalize ofB tt = sx at *
      clear hxk
      go_wp2
      go_quiet (fail)
      go_wp2
      go_roundw
      case rel => exact ⟨k + 1, _, by omega, by go_num, rfl⟩
      case measure => simp [intOf]; omega
    · obtain rfl : k = n := by omega
      go_wp2
      go_ret
      exact ⟨rfl, below_drawn (Below.refl _ _) _⟩

def ex1 : Bs := [97, 32, 61, 32, 34, 120, 92, 110, 34, 59, 32, 35, 32, 115, 111]
theorem ans_ex1 : ansV ex1 = ([⟨1, [97], 1, 1⟩, ⟨4, [61], 1, 3⟩, ⟨3, [120, 10], 1, 5⟩, ⟨4, [59], 1, 10⟩], 0, (0, 0)) := by rfl
theorem ans_ex2 : ansV [97, 32, 63] = ([], 3, (1, 3)) := by rfl
theorem quote_ex : quoteV [97, 34, 98] = [34, 97, 92, 34, 98, 34] := by rfl
end Lx
end Go.Proofs.Ytpiiklpehfkdaaa
