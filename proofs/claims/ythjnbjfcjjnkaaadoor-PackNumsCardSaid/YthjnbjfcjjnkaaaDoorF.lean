/-
  Layer 1 (pack): the walk of Texts.
-/
import Derived.Test.YthjnbjfcjjnkaaaDoorE
namespace Go.Proofs.YthjnbjfcjjnkaaaDoor
namespace Pk
open Go.RowKit

theorem strInfo : (Tryd.prog.info? 9).map (fun i => (i.zero, i.size, i.bytes)) = some (some (.string ⟨#[]⟩), 1, 16) := by kernel_rfl

def SV (l : Bs) : Value := .string ⟨l.toArray⟩
theorem SV_str (s : ByteArray) : Value.string s = SV s.data.toList := by unfold SV; rw [str_back]

/-- A row that a call has made. -/
def Owns (w : World) (base : Nat) (v : Value) (xs : List Bs) : Prop := w.ownsRow base 9 1 v xs.length (xs.map SV)

theorem Owns.nil (w : World) (base : Nat) : Owns w base (.slice none 0 0) [] := World.ownsRow_nil _ _ _ _
theorem Owns.form {w : World} {base : Nat} {v : Value} {xs : List Bs} (h : Owns w base v xs) : ∃ A cap, v = .slice A xs.length cap := by
  rcases h.2 with ⟨hv, h0⟩ | ⟨g, cap, cur, hv, _⟩
  · exact ⟨none, 0, by rw [hv, h0]⟩
  · exact ⟨_, _, hv⟩
theorem Owns.row {w : World} {base : Nat} {A : Option Addr} {cap n : Nat} {xs : List Bs} (h : Owns w base (.slice A n cap) xs) : SRow w w.heap.size A xs := by
  intro j x hx
  have hl := (List.getElem?_eq_some_iff.1 hx).1
  rcases h.2 with ⟨_, h0⟩ | ⟨g, cap', cur, hv, _⟩
  · omega
  · injection hv with hA
    subst hA
    have hlt := (h.lt g rfl).2
    have hc := h.cells (g := g) rfl j (SV x) (by rw [List.getElem?_map, hx]; rfl)
    refine ⟨g, 0, ⟨x.toArray⟩, rfl, hlt, by simp, ?_⟩
    rw [show (⟨g, 0, none⟩ : Addr).add j = ⟨g, 0 + j, none⟩ from by unfold Addr.add; split <;> simp_all] at hc
    exact hc

/-- What Texts leaves. -/
def TextsPost (b : Bs) (w : World) (e : Ending) (w' : World) : Prop :=
  ∃ v, e = .returned (.tuple #[v, .int .i64 ((dec b).1 : Int)]) ∧ Owns w' w.heap.size v (dec b).2 ∧ Below w.heap.size w w'

set_option maxHeartbeats 1000000 in
set_option maxRecDepth 100000 in
theorem texts_any (b : ByteArray) (w : World) (hs : b.size ≤ 8796093022208) :
    Calls Tryd.prog 11 #[.string b] w (TextsPost b.data.toList w) := by
  obtain ⟨i0, hi, hz0, hz1, hz2⟩ := info_parts strInfo
  go_enter Tryd.func11, Tryd.ntmps11
  go_wp2
  go_loopw [0, 4] (fun t v wr => ∃ (acc : List Bs) (b' : ByteArray), t = .string b' ∧ acc.length + b'.size ≤ b.size ∧ decF (b'.size + 1) acc b'.data.toList = dec b.data.toList ∧ Owns wr w.heap.size v acc ∧ Below w.heap.size w wr) (fun t _ _ => match t with | .string s => s.size | _ => 0)
  case atStart => exact ⟨[], b, rfl, by simp, rfl, Owns.nil _ _, Below.refl _ _⟩
  case round =>
    obtain ⟨acc, b', rfl, hl, hd, ho, hbw⟩ := hrel
    by_cases h0 : b'.size = 0
    · have he : b'.toList.isEmpty = true := by
        rw [ByteArray.toList_eq]
        have := data_length b'
        cases h : b'.data.toList
        · rfl
        · rw [h] at this; simp at this; omega
      have hdec : dec b.data.toList = (0, acc) := by
        rw [← hd]
        have := data_length b'
        cases h : b'.data.toList
        · exact decF_nil _ _
        · rw [h] at this; simp at this; omega
      obtain ⟨A, cap, rfl⟩ := ho.form
      have HDEC := Lib.hid hdec
      have HO := Lib.hid ho
      have HW := Lib.hid hbw
      clear hdec hd ho hbw
      go_wp2
      go_ret2
      refine ⟨.slice A acc.length cap, ?_, ?_, HW.out⟩
      · rw [HDEC.out]; rfl
      · rw [HDEC.out]; exact HO.out
    · have he : b'.toList.isEmpty = false := by
        rw [ByteArray.toList_eq]
        have := data_length b'
        cases h : b'.data.toList
        · rw [h] at this; simp at this; omega
        · rfl
      have hb9 : b'.size ≤ 9223372036854775807 := by omega
      have HD := Lib.hid hd
      have HO := Lib.hid ho
      have HW := Lib.hid hbw
      clear hd ho hbw
      go_wp2_with fail
      refine (length_any b' _ hb9).mono ?_
      rintro e w1 ⟨rfl, rfl⟩
      cases hr : rdNum 0 0 b'.data.toList with
      | inl er =>
        have hne : ((er : Int) != 0) = true := by
          rcases rdNum_err _ _ _ _ hr with rfl | rfl <;> rfl
        have hdec : dec b.data.toList = (er, []) := by
          rw [← HD.out]
          exact decF_err _ _ _ (by intro e; have := data_length b'; rw [e] at this; simp at this; omega) _ hr
        have HDEC := Lib.hid hdec
        clear hdec hr HD
        unfold lenV
        go_wp2
        go_ret2
        refine ⟨.slice none 0 0, ?_, ?_, HW.out⟩
        · rw [HDEC.out]; rfl
        · rw [HDEC.out]; exact Owns.nil _ _
      | inr nk =>
        obtain ⟨n, k⟩ := nk
        obtain ⟨hn9, -, hk9, hkl⟩ := rdNum_bound _ _ _ _ _ (by decide) (by decide) hr
        rw [data_length] at hkl
        have hk1 : (k : Int) + 1 ≤ b'.size := by omega
        have hne : b'.data.toList ≠ [] := by intro e; have := data_length b'; rw [e] at this; simp at this; omega
        have hrest : (b'.extract (k + 1) b'.size).data.toList = b'.data.toList.drop (k + 1) := ext_rest b' (k + 1)
        have hsz1 : (b'.extract (k + 1) b'.size).size = b'.size - (k + 1) := by rw [ByteArray.size_extract]; omega
        have HR := Lib.hid hr
        have HREST := Lib.hid hrest
        have HSZ := Lib.hid hsz1
        have HNE := Lib.hid hne
        clear hr hrest hsz1 hne
        by_cases hsh : b'.size - (k + 1) < n
        · have hdec : dec b.data.toList = (4, []) := by
            rw [← HD.out]
            exact decF_short _ _ _ HNE.out _ _ HR.out (by rw [List.length_drop, data_length]; exact hsh)
          have HDEC := Lib.hid hdec
          clear hdec HD
          unfold lenV
          go_wp2
          go_ret2
          refine ⟨.slice none 0 0, ?_, ?_, HW.out⟩
          · rw [HDEC.out]; rfl
          · rw [HDEC.out]; exact Owns.nil _ _
        · have hstep : decF (((b'.extract (k + 1) b'.size).extract n (b'.size - (k + 1))).size + 1) (acc ++ [((b'.extract (k + 1) b'.size).extract 0 n).data.toList]) ((b'.extract (k + 1) b'.size).extract n (b'.size - (k + 1))).data.toList = dec b.data.toList := by
            have h1 := decF_step b'.size acc _ HNE.out _ _ HR.out (by rw [List.length_drop, data_length]; exact hsh)
            rw [← HREST.out, ← ext_front] at h1
            rw [← HD.out, h1, ← HSZ.out, ext_rest]
            refine decF_fuel _ _ _ _ ?_ ?_
            · rw [ByteArray.size_extract, List.length_drop, data_length]; omega
            · rw [List.length_drop, data_length, HSZ.out]; omega
          have hlen : (acc ++ [((b'.extract (k + 1) b'.size).extract 0 n).data.toList]).length + ((b'.extract (k + 1) b'.size).extract n (b'.size - (k + 1))).size ≤ b.size := by
            rw [List.length_append, List.length_singleton, ByteArray.size_extract, HSZ.out]; omega
          have hsm : ((b'.extract (k + 1) b'.size).extract n (b'.size - (k + 1))).size < b'.size := by
            rw [ByteArray.size_extract, HSZ.out]; omega
          have HLEN := Lib.hid hlen
          have HSM := Lib.hid hsm
          clear hlen hsm
          have HST := Lib.hid hstep
          obtain ⟨x, hx⟩ : ∃ x, x = ((b'.extract (k + 1) b'.size).extract 0 n).data.toList := ⟨_, rfl⟩
          have HX := Lib.hid hx
          clear hx
          clear hstep HD
          unfold lenV
          go_wp2_with (at_builtin; refine wpList_append_own _ rfl _ _ 22 rfl w.heap.size 9 i0 (.string ⟨#[]⟩) 1 16 Tryd.underlying22 hi hz0 hz1 hz2 rfl (by decide) _ _ _ rfl (HO.out.alloc _) ⟨wr.heap.size, 0, none⟩ 1 1 [SV x] rfl rfl ?c1 ?c2 ?c3 ?c4 ?c5 ?_)
          case c1 =>
            rintro (_ | j) u hj
            · simp only [List.getElem?_cons_zero, Option.some.injEq] at hj
              subst hj
              rw [HX.out, ← SV_str]
              simp [Addr.add]
            · simp at hj
          case c2 => intro u hu; obtain rfl := List.mem_singleton.1 hu; rfl
          case c3 => simp only [maxLen]; omega
          case c4 => omega
          case c5 => have := HW.out.size; simp; omega
          intro v' w2 hown' hgrow _
          go_wp2
          have hw2 : Below w.heap.size w w2 := (HW.out.alloc HW.out.size _).grown hgrow (by have := HW.out.size; simp; omega) (fun g hg => (HO.out.lt g hg).1)
          have ho2 : Owns w2 w.heap.size v' (acc ++ [((b'.extract (k + 1) b'.size).extract 0 n).data.toList]) := by
            unfold Owns
            rw [List.length_append, List.map_append, ← HX.out]
            exact hown'
          go_roundw
          case rel => exact ⟨_, _, rfl, HLEN.out, HST.out, ho2, hw2⟩
          case measure => exact HSM.out
end Pk
end Go.Proofs.YthjnbjfcjjnkaaaDoor
