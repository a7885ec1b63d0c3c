/-
  Layer 9 (lex): what the laws ask of the program; the examples stand.
-/
import Derived.Test.YtpiiklpehfkdaaaNH
namespace Go.Proofs.Ytpiiklpehfkdaaa
namespace Lx
open Go.RowKit Kr

/-- What the laws ask of the program. -/
structure LxKeeps : Prop where
  all : ∀ (s : ByteArray) (w : World), Calls Try.prog 9 #[.string s] w (AllAns (toB s) w)
  quote : ∀ (s : ByteArray) (w : World), s.size ≤ 1000000 → Calls Try.prog 12 #[.string s] w fun e w' => e = .returned (.string (ofB (quoteV (toB s)))) ∧ Below w.heap.size w w'
theorem ans_of {s : Bs} {w w' : World} {e : Ending} {l : List Tk} {n : Nat} {p : Pl} (h : AllAns s w e w') (ha : ansV s = (l, n, p)) :
    ∃ A m cap, e = .returned (.tuple #[.slice A m cap, .int .i64 (n : Int), .agg #[.int .i64 (p.1 : Int), .int .i64 (p.2 : Int)]]) ∧ l.length = m ∧ TRow w' w'.heap.size A l ∧ Below w.heap.size w w' := by
  unfold AllAns at h
  rw [ha] at h
  exact h
set_option maxRecDepth 100000 in
set_option maxHeartbeats 4000000 in
theorem alive_any (hK : LxKeeps) (w : World) : Calls Try.prog 8 #[] w fun e w' => e = .returned (.bool true) ∧ Below w.heap.size w w' := by
  have HA := Lib.hid (hK.all ⟨#[97, 32, 61, 32, 34, 120, 92, 110, 34, 59, 32, 35, 32, 115, 111]⟩ w)
  have HB := Lib.hid (fun W => hK.all ⟨#[97, 32, 63]⟩ W)
  have HQ := Lib.hid (fun W => hK.quote ⟨#[97, 34, 98]⟩ W (by decide))
  have hq1 := eqP 0 0
  have hq2 := eqP 1 3
  have hG := guardP
  go_enter Try.func8, Try.ntmps8
  go_wp2_with fail
  refine HA.out.mono ?_
  rintro e w1 h1
  obtain ⟨A1, n1, cap1, rfl, hn1, hr1, hb1⟩ := ans_of h1 ans_ex1
  obtain rfl : 4 = n1 := hn1
  clear h1
  obtain ⟨b1, o1, rfl, hbl1, _⟩ := hr1 2 _ rfl
  have HR1 := Lib.hid hr1
  have HB1 := Lib.hid hb1
  clear hr1 hb1
  go_wp2_with fail
  refine (HB.out _).mono ?_
  rintro e w2 h2
  obtain ⟨A2, n2, cap2, rfl, hn2, hr2, hb2⟩ := ans_of h2 ans_ex2
  obtain rfl : 0 = n2 := hn2
  have hr3 := (HR1.out.alloc (Nat.le_refl _) (.cells #[.int .i64 0, .int .i64 0] T_P)).below hb2 (by simp)
  obtain ⟨x0, x1, _, _⟩ := row_load hr3 (j := 2) rfl
  obtain ⟨_, y1, _, _⟩ := row_load hr3 (j := 3) rfl
  have x0' : w2.cell? ⟨b1, o1 + 8, none⟩ = some (.int .i64 3) := x0
  have x1' : w2.cell? ⟨b1, o1 + 8 + 1, none⟩ = some (.string ⟨#[120, 10]⟩) := x1
  have y1' : w2.cell? ⟨b1, o1 + 12 + 1, none⟩ = some (.string ⟨#[59]⟩) := y1
  have hp1 : Row (w1.alloc (.cells #[.int .i64 0, .int .i64 0] T_P)) w1.heap.size T_P (lpl (0, 0)) := Row.new_at _ _ _ _ rfl rfl
  have hp2 := hp1.below hb2 (by simp)
  have p0 := hp2.cell 0
  have p1 := hp2.cell 1
  have hlt1 := hp2.lt
  have hbl2 : b1 < w2.heap.size := by have := hb2.size; simp at this; omega
  have HB2 := Lib.hid (((HB1.out.alloc HB1.out.size (.cells #[.int .i64 0, .int .i64 0] T_P)).trans (hb2.mono (by have := HB1.out.size; simp; omega))).alloc (by have := HB1.out.size; have := hb2.size; simp at this; omega) (.cells #[.int .i64 1, .int .i64 3] T_P))
  clear h2 hr2 hb2 hr3 hp1 hp2 x0 x1 y1
  go_wp2_with (go_at_call 12; refine (HQ.out _).mono ?_; rintro e w3 ⟨rfl, hb3⟩; rw [show ofB (quoteV (toB ⟨#[97, 34, 98]⟩)) = ⟨#[34, 97, 92, 34, 98, 34]⟩ from rfl])
  go_ret
  exact ⟨rfl, HB2.out.trans (hb3.mono HB2.out.size)⟩
end Lx
end Go.Proofs.Ytpiiklpehfkdaaa
