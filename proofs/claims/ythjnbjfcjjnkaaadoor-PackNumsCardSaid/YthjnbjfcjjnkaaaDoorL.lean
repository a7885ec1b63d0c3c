/-
  Layer 1 (pack): the walks of Num and Int.
-/
import Derived.Test.YthjnbjfcjjnkaaaDoorE
import Derived.Test.YthjnbjfcjjnkaaaDoorMathN
namespace Go.Proofs.YthjnbjfcjjnkaaaDoor
namespace Pk
open Go.RowKit Go.Sort

theorem num_any (n : Int) (hn : inR n) (w : World) (htab : Lib.TabIs Tryd.prog w "internal/strconv.uint64pow10" .u64 Lib.pow10Tab) :
    Calls Tryd.prog 17 #[.int .i64 n] w fun e w' => e = .returned (.string ⟨(Lib.itoa n).toArray⟩) ∧ Below w.heap.size w w' := by
  obtain ⟨h0, h1⟩ := hn
  have HT := Lib.hid htab
  clear htab
  go_enter Tryd.func17, Tryd.ntmps17
  go_wp2_with fail
  refine (Tryd.strconv_FormatInt_10 n h0 h1 w HT.out).mono ?_
  rintro e w' ⟨rfl, k, os, rfl⟩
  have hb : Below w.heap.size w (grow (w.drewN k) os) := below_grow _ _ _ _ (Nat.le_refl _)
  have HB := Lib.hid hb
  clear hb
  go_wp2
  go_ret
  exact ⟨rfl, HB.out⟩

/-- What the library's two errors are, and stay. -/
def VarsAt (w : World) : Prop := (∃ tp p, w.var? Tryd.prog "strconv.ErrSyntax" = some #[.iface tp p]) ∧ (∃ tp p, w.var? Tryd.prog "strconv.ErrRange" = some #[.iface tp p])

theorem var_stays {w w' : World} {n : String} {cs : Array Value} (h : w.var? Tryd.prog n = some cs) (hb : Below w.heap.size w w') : w'.var? Tryd.prog n = some cs := by
  unfold World.var? at *
  cases hg : Tryd.prog.globalNamed n with
  | none => simp [hg] at h
  | some g =>
    simp only [hg, Option.bind_some] at h ⊢
    have hlt : g < w.heap.size := by
      rcases Nat.lt_or_ge g w.heap.size with h' | h'
      · exact h'
      · rw [Array.getElem?_eq_none h'] at h; simp at h
    rw [hb.block g hlt]
    exact h

theorem VarsAt.on {w w' : World} (h : VarsAt w) (hb : Below w.heap.size w w') : VarsAt w' := by
  obtain ⟨⟨t1, p1, h1⟩, ⟨t2, p2, h2⟩⟩ := h
  exact ⟨⟨t1, p1, var_stays h1 hb⟩, ⟨t2, p2, var_stays h2 hb⟩⟩

theorem parse_ok (s : ByteArray) (hs : s.size ≤ 140737488355328) (v : Int) (h : Lib.parseIntB 64 s.data.toList = .ok v) (w : World) :
    Calls Tryd.prog 26 #[.string s, .int .i64 10, .int .i64 64] w fun e w' => e = .returned (.tuple #[.int .i64 v, .nilIface]) ∧ Below w.heap.size w w' := by
  have hc := Any.strconv_ParseInt_10_at64_ok Tryd.laysC174 s (by omega) v h w
  refine Calls.mono hc ?_
  rintro e w' ⟨rfl, rfl | ⟨t, rfl⟩⟩
  · exact ⟨rfl, Below.refl _ _⟩
  · exact ⟨rfl, Lib.below_freeze (((Below.refl w.heap.size w).drew).alloc (Nat.le_refl _) _) (p := ⟨w.heap.size, _, none⟩) (Nat.le_refl _) _⟩

theorem parse_err (s : ByteArray) (hs : s.size ≤ 140737488355328) (hno : ∀ v, Lib.parseIntB 64 s.data.toList ≠ .ok v) (w : World) (hv : VarsAt w) :
    Calls Tryd.prog 26 #[.string s, .int .i64 10, .int .i64 64] w fun e w' => ∃ (z : Int) (p : Addr), e = .returned (.tuple #[.int .i64 z, .iface 69 (.pointer (some p))]) ∧ Below w.heap.size w w' := by
  obtain ⟨⟨t1, p1, h1⟩, ⟨t2, p2, h2⟩⟩ := hv
  cases h : Lib.parseIntB 64 s.data.toList with
  | ok v => exact absurd h (hno v)
  | range =>
    have hc := Any.strconv_ParseInt_10_at64_range_var Tryd.laysC174 s (by omega) h t2 p2 w h2
    refine Calls.mono hc ?_
    rintro e w' ⟨N, rfl, _, _, hb⟩
    exact ⟨_, _, rfl, hb⟩
  | _ =>
    have hc := Any.strconv_ParseInt_10_at64_syntax_var Tryd.laysC174 s (by omega) h t1 p1 w h1
    refine Calls.mono hc ?_
    rintro e w' ⟨N, rfl, _, _, hb⟩
    exact ⟨_, _, rfl, hb⟩

/-- What Int leaves. -/
def IntPost (l : Bs) (w : World) (e : Ending) (w' : World) : Prop := ∃ v ok, e = .returned (.tuple #[.int .i64 v, .bool ok]) ∧ IntIs l v ok ∧ Below w.heap.size w w'

set_option maxHeartbeats 1000000 in
theorem int_any (s : ByteArray) (hs : s.size ≤ 140737488355328) (w : World) (htab : Tab w.heap.size w) (hv : VarsAt w) :
    Calls Tryd.prog 15 #[.string s] w (IntPost s.data.toList w) := by
  by_cases hok : ∃ v, Lib.parseIntB 64 s.data.toList = .ok v
  · obtain ⟨v, hp⟩ := hok
    have hr := parse_range hp
    have hc := parse_ok s hs v hp w
    have HC := Lib.hid hc
    have HT := Lib.hid htab
    have HR := Lib.hid hr
    have HP := Lib.hid hp
    clear hc htab hr hv hp
    go_enter Tryd.func15, Tryd.ntmps15
    go_wp2_with fail
    refine HC.out.mono ?_
    rintro e w1 ⟨rfl, hb1⟩
    have HB1 := Lib.hid hb1
    clear hb1
    go_wp2_with fail
    refine (num_any v HR.out w1 (HT.out.on HB1.out).here).mono ?_
    rintro e w2 ⟨rfl, hb2⟩
    have hw2 : Below w.heap.size w w2 := HB1.out.trans (hb2.mono HB1.out.size)
    have HW2 := Lib.hid hw2
    clear hw2 hb2
    by_cases he : Lib.itoa v = s.data.toList
    · have hx : (⟨(Lib.itoa v).toArray⟩ : ByteArray) = s := by rw [he, str_back]
      have HE := Lib.hid he
      rw [hx]
      clear hx he
      go_wp2
      go_ret2
      exact ⟨v, true, rfl, .inl ⟨rfl, HR.out, HE.out⟩, HW2.out⟩
    · obtain ⟨t, ht⟩ : ∃ t : ByteArray, t = ⟨(Lib.itoa v).toArray⟩ := ⟨_, rfl⟩
      have hne : (t.toList == s.toList) = false := by
        rw [ByteArray.toList_eq, ByteArray.toList_eq, ht]
        simpa using he
      have HE := Lib.hid he
      rw [← ht]
      clear ht he
      go_wp2
      go_ret2
      refine ⟨0, false, rfl, .inr ⟨rfl, rfl, fun x hx h => ?_⟩, HW2.out⟩
      have h1 := parse_itoa x hx
      rw [h, HP.out] at h1
      injection h1 with h1
      subst h1
      exact HE.out h
  · have hno : ∀ v, Lib.parseIntB 64 s.data.toList ≠ .ok v := fun v h => hok ⟨v, h⟩
    have hc := parse_err s hs hno w hv
    have HC := Lib.hid hc
    have HN := Lib.hid hno
    clear hc htab hv hno hok
    go_enter Tryd.func15, Tryd.ntmps15
    go_wp2_with fail
    refine HC.out.mono ?_
    rintro e w1 ⟨z, p, rfl, hb1⟩
    have HB1 := Lib.hid hb1
    clear hb1
    go_wp2
    go_ret2
    refine ⟨0, false, rfl, .inr ⟨rfl, rfl, fun x hx h => ?_⟩, HB1.out⟩
    have h1 := parse_itoa x hx
    rw [h] at h1
    exact HN.out _ h1
end Pk
end Go.Proofs.YthjnbjfcjjnkaaaDoor
