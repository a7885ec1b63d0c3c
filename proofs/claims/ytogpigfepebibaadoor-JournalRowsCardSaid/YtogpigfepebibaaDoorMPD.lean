/-
  Layer 1 (pack): the walk of Row. Layer 1 (pack): the walks of the document's answers digits and Row. Layer 1 (pack): the walk of Texts. Layer 8 (journal): what law Rows asks of the landed pack.
-/
import Derived.Test.YtogpigfepebibaaDoorMPC
import Derived.Test.YtogpigfepebibaaDoorMShelf
import Derived.Lib.AppendIntMem
import Derived.Lib.UnsafeStr
import Derived.Laws.IdiomStrings
import Derived.Test.YtogpigfepebibaaDoorMJR
namespace Go.Proofs.YtogpigfepebibaaDoor
namespace Pk
open Go.RowKit Go.Sort

abbrev Tab (B : Nat) (w : World) : Prop := Lib.TabBelow Tryd.prog B w "internal/strconv.uint64pow10" .u64 Lib.pow10Tab

theorem below_grow (B : Nat) (w : World) (k : Nat) (os : Array Obj) (hB : B ≤ w.heap.size) : Below B w (grow (w.drewN k) os) := by
  refine ⟨rfl, rfl, rfl, ?_, ?_⟩
  · simp [grow]
  · intro b hb
    have hb' : b < w.heap.size := by omega
    simp [grow, Array.getElem?_append, hb']

theorem itoa_any (n : Nat) (hn : n ≤ 140737488355328) (w : World) (htab : Lib.TabIs Tryd.prog w "internal/strconv.uint64pow10" .u64 Lib.pow10Tab) :
    Calls Tryd.prog 40 #[.int .i64 n] w fun e w' => e = .returned (.string ⟨(Lib.decDigits n).toArray⟩) ∧ Below w.heap.size w w' := by
  refine (Tryd.strconv_Itoa n (by omega) (by omega) w htab).mono ?_
  rintro e w' ⟨rfl, k, os, rfl⟩
  exact ⟨by rw [Lib.itoa_nonneg], below_grow _ _ _ _ (Nat.le_refl _)⟩

theorem grown_of_below {w w' : World} (h : Below w.heap.size w w') (row : Option Nat) : w.grownBy w' row := ⟨h.os, h.tape, h.output, h.size, fun i hi _ => h.block i hi⟩

theorem owns_keep {w w' : World} {base e size n : Nat} {v : Value} {xs : List Value} (h : w.ownsRow base e size v n xs) (hb : Below w.heap.size w w') : w'.ownsRow base e size v n xs :=
  h.kept (row := none) (grown_of_below hb none) (by cases v.ownBlock <;> simp)

theorem bat_keep {B b : Nat} {p : Value} {bs : List Value} {w w' : World} (h : Lib.BuilderAt 75 5 B b p bs w) (hb : Below w.heap.size w w') : Lib.BuilderAt 75 5 B b p bs w' := by
  have hlt := h.lt
  obtain ⟨hB, v, hbk, hown, hne⟩ := h
  exact ⟨hB, v, (hb.block b hlt).trans hbk, owns_keep hown hb, hne⟩

theorem isB_keep {B b : Nat} {bs : List Value} {w w' : World} (h : IsB B b bs w) (hb : Below w.heap.size w w') : IsB B b bs w' := by
  rcases h with h | h
  · exact .inl (bat_keep h hb)
  · exact .inr (bat_keep h hb)

theorem enc_take_le (xs : List Bs) (k : Nat) : (enc (xs.take k)).length ≤ (enc xs).length := by
  have h := enc_append (xs.take k) (xs.drop k)
  rw [List.take_append_drop] at h
  rw [h, List.length_append]
  omega

theorem enc_snoc (xs : List Bs) (k : Nat) (x : Bs) (h : xs[k]? = some x) : enc (xs.take (k + 1)) = enc (xs.take k) ++ Lib.decDigits x.length ++ [58] ++ x := by
  rw [take_snoc xs k x h, enc_append]
  simp [enc]

set_option maxHeartbeats 800000 in
set_option maxRecDepth 100000 in
theorem row_any (A : Option Addr) (cap : Nat) (xs : List Bs) (w : World) (hx : SRow w w.heap.size A xs) (hn : xs.length ≤ 140737488355328) (he : (enc xs).length ≤ 140737488355328) (htab : Tab w.heap.size w) :
    Calls Tryd.prog 23 #[.slice A xs.length cap] w fun e w' => e = .returned (.string ⟨(enc xs).toArray⟩) ∧ Below w.heap.size w w' := by
  have HX := Lib.hid hx
  have HE := Lib.hid he
  have HT := Lib.hid htab
  clear hx he htab
  generalize hln : xs.length = n at *
  have HL := Lib.hid hln
  clear hln
  have HB0 := Lib.hid (isB_start w)
  have HW0 := Lib.hid ((Below.refl w.heap.size w).alloc (Nat.le_refl _) (.cells #[.pointer none, .slice none 0 0] 75))
  go_enter Tryd.func23, Tryd.ntmps23
  go_wp2
  go_loopw [8] (fun i wr => ∃ k : Nat, k ≤ n ∧ i = .int .i64 k ∧ IsB w.heap.size w.heap.size (Lib.byteCells (enc (xs.take k))) wr ∧ Below w.heap.size w wr) (fun i _ => n - (intOf i).toNat)
  case atStart => exact ⟨0, Nat.zero_le _, rfl, HB0.out, HW0.out⟩
  case round =>
    obtain ⟨k, hk, rfl, hb, hbw⟩ := hrel
    have HB := Lib.hid hb
    have HW := Lib.hid hbw
    have hsz : w.heap.size ≤ wr.heap.size := hbw.size
    clear hb hbw HB0 HW0
    by_cases hlt : k < n
    · have hxk : xs[k]? = some (xs[k]'(by rw [HL.out]; exact hlt)) := List.getElem?_eq_getElem _
      generalize xs[k]'(by rw [HL.out]; exact hlt) = x at hxk
      obtain ⟨b, o, s, rfl, hbl, hsx, hc0⟩ := HX.out k x hxk
      have hc : wr.cell? ⟨b, o + k, none⟩ = some (.string s) := (HW.out.cell (p := ⟨b, o + k, none⟩) hbl).trans hc0
      have hsn := enc_snoc xs k x hxk
      have hle := enc_take_le xs (k + 1)
      rw [hsn] at hle
      have hel := HE.out
      rw [← hsx, data_length] at hsn hle
      simp only [List.length_append, data_length, List.length_cons, List.length_nil] at hle
      have h1 : s.size ≤ 140737488355328 := by omega
      have h2 : (Lib.byteCells (enc (xs.take k))).length + (⟨(Lib.decDigits s.size).toArray⟩ : ByteArray).size ≤ 140737488355328 := by
        rw [Lib.byteCells_length]
        show _ + (Lib.decDigits s.size).toArray.size ≤ _
        rw [List.size_toArray]; omega
      have h3 : (Lib.byteCells (enc (xs.take k)) ++ Lib.strCells ⟨(Lib.decDigits s.size).toArray⟩).length + 1 ≤ 140737488355328 := by
        rw [List.length_append, Lib.byteCells_length, Lib.strCells_toArray, Lib.byteCells_length]; omega
      have h4 : (Lib.byteCells (enc (xs.take k)) ++ Lib.strCells ⟨(Lib.decDigits s.size).toArray⟩ ++ [Value.int .u8 58]).length + s.size ≤ 140737488355328 := by
        rw [List.length_append, List.length_append, Lib.byteCells_length, Lib.strCells_toArray, Lib.byteCells_length, List.length_singleton]; omega
      have h5 : Lib.byteCells (enc (xs.take k)) ++ Lib.strCells ⟨(Lib.decDigits s.size).toArray⟩ ++ [Value.int .u8 58] ++ Lib.strCells s = Lib.byteCells (enc (xs.take (k + 1))) := by
        rw [hsn, Lib.byteCells_append, Lib.byteCells_append, Lib.byteCells_append, Lib.strCells_toArray, Lib.strCells_eq]; rfl
      have H2 := Lib.hid h2
      have H3 := Lib.hid h3
      have H4 := Lib.hid h4
      have H5 := Lib.hid h5
      clear hc0 hsn hle hsx hxk h2 h3 h4 h5 hel
      go_wp2_with fail
      refine (itoa_any s.size h1 wr (HT.out.on HW.out).here).mono ?_
      rintro e w1 ⟨rfl, hb1⟩
      have hw1 : Below w.heap.size w w1 := HW.out.trans (hb1.mono hsz)
      have hB1 := isB_keep HB.out hb1
      have hz1 := hw1.size
      go_wp2_with fail
      refine (wstr_any _ _ _ _ _ hB1 H2.out hz1).mono ?_
      rintro e w2 ⟨rfl, hB2, hb2⟩
      have hw2 : Below w.heap.size w w2 := hw1.trans hb2
      have hz2 := hw2.size
      go_wp2_with fail
      refine (wbyte_any _ _ _ _ _ hB2 H3.out hz2).mono ?_
      rintro e w3 ⟨rfl, hB3, hb3⟩
      have hw3 : Below w.heap.size w w3 := hw2.trans hb3
      have hz3 := hw3.size
      go_wp2_with fail
      refine (wstr_any _ _ _ _ _ hB3 H4.out hz3).mono ?_
      rintro e w4 ⟨rfl, hB4, hb4⟩
      rw [H5.out] at hB4
      have hw4 : Below w.heap.size w w4 := hw3.trans hb4
      go_wp2
      go_roundw
      case rel => exact ⟨k + 1, by omega, by go_num, hB4, hw4⟩
      case measure => simp [intOf]; omega
    · have hB' := HB.out
      rw [List.take_of_length_le (by rw [HL.out]; omega)] at hB'
      clear HB
      go_wp2_with fail
      refine (Tryd.Builder_String_any _ _ _ _ hB' hsz).mono ?_
      rintro e w1 ⟨rfl, hb1⟩
      have hw1 : Below w.heap.size w w1 := HW.out.trans hb1
      go_wp2
      go_ret
      exact ⟨rfl, hw1⟩
end Pk
end Go.Proofs.YtogpigfepebibaaDoor

namespace Go.Proofs.YtogpigfepebibaaDoor
namespace Pk
open Go.RowKit

theorem str_app (a b : List UInt8) : (⟨(a ++ b).toArray⟩ : ByteArray) = ⟨a.toArray⟩ ++ ⟨b.toArray⟩ := by
  apply ByteArray.ext
  rw [ByteArray.data_append]
  simp
theorem str_back (s : ByteArray) : (⟨s.data.toList.toArray⟩ : ByteArray) = s := by
  apply ByteArray.ext
  simp

/-- One byte, made and turned into a string. -/
theorem conv_one (z : Int) (l : List UInt8) (c : UInt8) (hl : l = [c]) (hz : (c.toNat : Int) = z) (w : World) :
    (convert 28 9 (.slice (some ⟨w.heap.size, 0, none⟩) 1 1)).run Tryd.prog (w.alloc (.cells #[.int .u8 z] 5)) = .ok (.string ⟨l.toArray⟩) (w.alloc (.cells #[.int .u8 z] 5)) := by
  subst hl
  refine run_convert_bytes_back (P := Tryd.prog) _ 28 9 5 ⟨w.heap.size, 0, none⟩ 1 [c] Tryd.underlying28 Tryd.underlying5 Tryd.underlying9 ?_
  rintro (_ | j) hj
  · rw [show (⟨w.heap.size, 0, none⟩ : Addr).add 0 = ⟨w.heap.size, 0, none⟩ from rfl, World.cell?_alloc_at _ _ _ _ rfl]
    simp [hz]
  · simp at hj

theorem nDigits_le_self : ∀ u : Nat, 1 ≤ u → Lib.nDigits u ≤ u := by
  intro u
  induction u using Nat.strongRecOn with
  | _ u ih =>
    intro h
    by_cases h0 : u < 10
    · rw [Lib.nDigits_small h0]; exact h
    · rw [Lib.nDigits_big h0]
      have := ih (u / 10) (by omega) (by omega)
      omega

end Pk
end Go.Proofs.YtogpigfepebibaaDoor

namespace Go.Proofs.YtogpigfepebibaaDoor
namespace Pk
open Go.RowKit

theorem strInfo : (Tryd.prog.info? 9).map (fun i => (i.zero, i.size, i.bytes)) = some (some (.string ⟨#[]⟩), 1, 16) := by kernel_rfl

def SV (l : Bs) : Value := .string ⟨l.toArray⟩
theorem SV_str (s : ByteArray) : Value.string s = SV s.data.toList := by unfold SV; rw [str_back]

/-- A row that a call has made. -/
def Owns (w : World) (base : Nat) (v : Value) (xs : List Bs) : Prop := w.ownsRow base 9 1 v xs.length (xs.map SV)

theorem Owns.nil (w : World) (base : Nat) : Owns w base (.slice none 0 0) [] := World.ownsRow_nil _ _ _ _
theorem Owns.form {w : World} {base : Nat} {v : Value} {xs : List Bs} (h : Owns w base v xs) : ∃ A cap, v = .slice A xs.length cap := by
  rcases h.2 with ⟨hv, h0⟩ | ⟨g, cap, cur, hv, _⟩
  · exact ⟨none, 0, by rw [hv, h0]⟩
  · exact ⟨_, _, hv⟩
theorem Owns.row {w : World} {base : Nat} {A : Option Addr} {cap n : Nat} {xs : List Bs} (h : Owns w base (.slice A n cap) xs) : SRow w w.heap.size A xs := by
  intro j x hx
  have hl := (List.getElem?_eq_some_iff.1 hx).1
  rcases h.2 with ⟨_, h0⟩ | ⟨g, cap', cur, hv, _⟩
  · omega
  · injection hv with hA
    subst hA
    have hlt := (h.lt g rfl).2
    have hc := h.cells (g := g) rfl j (SV x) (by rw [List.getElem?_map, hx]; rfl)
    refine ⟨g, 0, ⟨x.toArray⟩, rfl, hlt, by simp, ?_⟩
    rw [show (⟨g, 0, none⟩ : Addr).add j = ⟨g, 0 + j, none⟩ from by unfold Addr.add; split <;> simp_all] at hc
    exact hc

/-- What Texts leaves. -/
def TextsPost (b : Bs) (w : World) (e : Ending) (w' : World) : Prop :=
  ∃ v, e = .returned (.tuple #[v, .int .i64 ((dec b).1 : Int)]) ∧ Owns w' w.heap.size v (dec b).2 ∧ Below w.heap.size w w'

set_option maxHeartbeats 1000000 in
set_option maxRecDepth 100000 in
theorem texts_any (b : ByteArray) (w : World) (hs : b.size ≤ 8796093022208) :
    Calls Tryd.prog 24 #[.string b] w (TextsPost b.data.toList w) := by
  obtain ⟨i0, hi, hz0, hz1, hz2⟩ := info_parts strInfo
  go_enter Tryd.func24, Tryd.ntmps24
  go_wp2
  go_loopw [0, 4] (fun t v wr => ∃ (acc : List Bs) (b' : ByteArray), t = .string b' ∧ acc.length + b'.size ≤ b.size ∧ decF (b'.size + 1) acc b'.data.toList = dec b.data.toList ∧ Owns wr w.heap.size v acc ∧ Below w.heap.size w wr) (fun t _ _ => match t with | .string s => s.size | _ => 0)
  case atStart => exact ⟨[], b, rfl, by simp, rfl, Owns.nil _ _, Below.refl _ _⟩
  case round =>
    obtain ⟨acc, b', rfl, hl, hd, ho, hbw⟩ := hrel
    by_cases h0 : b'.size = 0
    · have he : b'.toList.isEmpty = true := by
        rw [ByteArray.toList_eq]
        have := data_length b'
        cases h : b'.data.toList
        · rfl
        · rw [h] at this; simp at this; omega
      have hdec : dec b.data.toList = (0, acc) := by
        rw [← hd]
        have := data_length b'
        cases h : b'.data.toList
        · exact decF_nil _ _
        · rw [h] at this; simp at this; omega
      obtain ⟨A, cap, rfl⟩ := ho.form
      have HDEC := Lib.hid hdec
      have HO := Lib.hid ho
      have HW := Lib.hid hbw
      clear hdec hd ho hbw
      go_wp2
      go_ret2
      refine ⟨.slice A acc.length cap, ?_, ?_, HW.out⟩
      · rw [HDEC.out]; rfl
      · rw [HDEC.out]; exact HO.out
    · have he : b'.toList.isEmpty = false := by
        rw [ByteArray.toList_eq]
        have := data_length b'
        cases h : b'.data.toList
        · rw [h] at this; simp at this; omega
        · rfl
      have hb9 : b'.size ≤ 9223372036854775807 := by omega
      have HD := Lib.hid hd
      have HO := Lib.hid ho
      have HW := Lib.hid hbw
      clear hd ho hbw
      go_wp2_with fail
      refine (length_any b' _ hb9).mono ?_
      rintro e w1 ⟨rfl, rfl⟩
      cases hr : rdNum 0 0 b'.data.toList with
      | inl er =>
        have hne : ((er : Int) != 0) = true := by
          rcases rdNum_err _ _ _ _ hr with rfl | rfl <;> rfl
        have hdec : dec b.data.toList = (er, []) := by
          rw [← HD.out]
          exact decF_err _ _ _ (by intro e; have := data_length b'; rw [e] at this; simp at this; omega) _ hr
        have HDEC := Lib.hid hdec
        clear hdec hr HD
        unfold lenV
        go_wp2
        go_ret2
        refine ⟨.slice none 0 0, ?_, ?_, HW.out⟩
        · rw [HDEC.out]; rfl
        · rw [HDEC.out]; exact Owns.nil _ _
      | inr nk =>
        obtain ⟨n, k⟩ := nk
        obtain ⟨hn9, -, hk9, hkl⟩ := rdNum_bound _ _ _ _ _ (by decide) (by decide) hr
        rw [data_length] at hkl
        have hk1 : (k : Int) + 1 ≤ b'.size := by omega
        have hne : b'.data.toList ≠ [] := by intro e; have := data_length b'; rw [e] at this; simp at this; omega
        have hrest : (b'.extract (k + 1) b'.size).data.toList = b'.data.toList.drop (k + 1) := ext_rest b' (k + 1)
        have hsz1 : (b'.extract (k + 1) b'.size).size = b'.size - (k + 1) := by rw [ByteArray.size_extract]; omega
        have HR := Lib.hid hr
        have HREST := Lib.hid hrest
        have HSZ := Lib.hid hsz1
        have HNE := Lib.hid hne
        clear hr hrest hsz1 hne
        by_cases hsh : b'.size - (k + 1) < n
        · have hdec : dec b.data.toList = (4, []) := by
            rw [← HD.out]
            exact decF_short _ _ _ HNE.out _ _ HR.out (by rw [List.length_drop, data_length]; exact hsh)
          have HDEC := Lib.hid hdec
          clear hdec HD
          unfold lenV
          go_wp2
          go_ret2
          refine ⟨.slice none 0 0, ?_, ?_, HW.out⟩
          · rw [HDEC.out]; rfl
          · rw [HDEC.out]; exact Owns.nil _ _
        · have hstep : decF (((b'.extract (k + 1) b'.size).extract n (b'.size - (k + 1))).size + 1) (acc ++ [((b'.extract (k + 1) b'.size).extract 0 n).data.toList]) ((b'.extract (k + 1) b'.size).extract n (b'.size - (k + 1))).data.toList = dec b.data.toList := by
            have h1 := decF_step b'.size acc _ HNE.out _ _ HR.out (by rw [List.length_drop, data_length]; exact hsh)
            rw [← HREST.out, ← ext_front] at h1
            rw [← HD.out, h1, ← HSZ.out, ext_rest]
            refine decF_fuel _ _ _ _ ?_ ?_
            · rw [ByteArray.size_extract, List.length_drop, data_length]; omega
            · rw [List.length_drop, data_length, HSZ.out]; omega
          have hlen : (acc ++ [((b'.extract (k + 1) b'.size).extract 0 n).data.toList]).length + ((b'.extract (k + 1) b'.size).extract n (b'.size - (k + 1))).size ≤ b.size := by
            rw [List.length_append, List.length_singleton, ByteArray.size_extract, HSZ.out]; omega
          have hsm : ((b'.extract (k + 1) b'.size).extract n (b'.size - (k + 1))).size < b'.size := by
            rw [ByteArray.size_extract, HSZ.out]; omega
          have HLEN := Lib.hid hlen
          have HSM := Lib.hid hsm
          clear hlen hsm
          have HST := Lib.hid hstep
          obtain ⟨x, hx⟩ : ∃ x, x = ((b'.extract (k + 1) b'.size).extract 0 n).data.toList := ⟨_, rfl⟩
          have HX := Lib.hid hx
          clear hx
          clear hstep HD
          unfold lenV
          go_wp2_with (at_builtin; refine wpList_append_own _ rfl _ _ 30 rfl w.heap.size 9 i0 (.string ⟨#[]⟩) 1 16 Tryd.underlying30 hi hz0 hz1 hz2 rfl (by decide) _ _ _ rfl (HO.out.alloc _) ⟨wr.heap.size, 0, none⟩ 1 1 [SV x] rfl rfl ?c1 ?c2 ?c3 ?c4 ?c5 ?_)
          case c1 =>
            rintro (_ | j) u hj
            · simp only [List.getElem?_cons_zero, Option.some.injEq] at hj
              subst hj
              rw [HX.out, ← SV_str]
              simp [Addr.add]
            · simp at hj
          case c2 => intro u hu; obtain rfl := List.mem_singleton.1 hu; rfl
          case c3 => simp only [maxLen]; omega
          case c4 => omega
          case c5 => have := HW.out.size; simp; omega
          intro v' w2 hown' hgrow _
          go_wp2
          have hw2 : Below w.heap.size w w2 := (HW.out.alloc HW.out.size _).grown hgrow (by have := HW.out.size; simp; omega) (fun g hg => (HO.out.lt g hg).1)
          have ho2 : Owns w2 w.heap.size v' (acc ++ [((b'.extract (k + 1) b'.size).extract 0 n).data.toList]) := by
            unfold Owns
            rw [List.length_append, List.map_append, ← HX.out]
            exact hown'
          go_roundw
          case rel => exact ⟨_, _, rfl, HLEN.out, HST.out, ho2, hw2⟩
          case measure => exact HSM.out
end Pk
end Go.Proofs.YtogpigfepebibaaDoor

namespace Go.Proofs.YtogpigfepebibaaDoor
namespace Jl
open Go.RowKit Go.ChangeShapes Kr Dk

theorem digits3 {u : Nat} (h : u ≤ 100) : (Lib.decDigits u).length ≤ 3 := by
  rw [Lib.decDigits_length]
  by_cases h0 : u < 10
  · rw [Lib.nDigits_small h0]; omega
  · rw [Lib.nDigits_big h0]
    by_cases h1 : u / 10 < 10
    · rw [Lib.nDigits_small h1]; omega
    · rw [Lib.nDigits_big h1, Lib.nDigits_small (by omega)]; omega
theorem enc_few : ∀ l : List Bs, (∀ r ∈ l, r.length ≤ 100) → (Pk.enc l).length ≤ 104 * l.length
  | [], _ => by simp [Pk.enc]
  | s :: l, h => by
    have h1 := enc_few l (fun x hx => h x (List.mem_cons_of_mem _ hx))
    have h2 := h s List.mem_cons_self
    have h3 := digits3 h2
    unfold Pk.enc
    simp only [List.length_append, List.length_cons]
    omega
theorem not_too {l : List ByteArray} (h : ¬ Too l) : (∀ r ∈ l, r.size ≤ 100) ∧ l.length ≤ 12 := by
  unfold Too at h
  refine ⟨fun r hr => ?_, ?_⟩
  · rcases Nat.lt_or_ge 100 r.size with h2 | h2
    · exact absurd (.inl ⟨r, hr, h2⟩) h
    · exact h2
  · rcases Nat.lt_or_ge 12 l.length with h2 | h2
    · exact absurd (.inr h2) h
    · exact h2
theorem toB_few {l : List ByteArray} (h : ∀ r ∈ l, r.size ≤ 100) : ∀ r ∈ l.map toB, r.length ≤ 100 := fun r hr => by
  obtain ⟨x, hx, rfl⟩ := List.mem_map.1 hr
  exact h x hx
def pkV (l : List ByteArray) : ByteArray := ofB (Pk.enc (l.map toB))
theorem nrow_srow {w : World} {B : Nat} {A : Option Addr} {l : List ByteArray} (h : NRow w B A l) : Pk.SRow w B A (l.map toB) := fun j x hx => by
  rw [List.getElem?_map] at hx
  cases h2 : l[j]? with
  | none => rw [h2] at hx; cases hx
  | some s =>
    rw [h2] at hx
    injection hx with hx
    obtain ⟨b, o, h3, h4, h5⟩ := Dk.one_cell h h2 rfl
    exact ⟨b, o, s, h3, h4, hx, h5⟩
theorem srow_nrow {w : World} {B : Nat} {A : Option Addr} {l : List ByteArray} (h : Pk.SRow w B A (l.map toB)) : NRow w B A l := fun j x hx => by
  obtain ⟨b, o, s, h1, h2, h3, h4⟩ := h j (toB x) (by rw [List.getElem?_map, hx]; rfl)
  obtain rfl : s = x := ba_eq h3
  refine ⟨b, o, h1, h2, fun i v hv => ?_⟩
  cases i with
  | zero =>
    injection hv with hv
    subst hv
    simpa using h4
  | succ i => simp [encN] at hv
def PT (w : World) : Prop := Pk.Tab w.heap.size w
theorem pt_keep {w w' : World} (h : PT w) (hb : Below w.heap.size w w') : PT w' := fun w2 h2 => h w2 (hb.trans (h2.mono hb.size))
theorem packk : PackK PT pkV where
  keep := pt_keep
  size := fun l h => by
    obtain ⟨h1, h2⟩ := not_too h
    have h3 := enc_few (l.map toB) (toB_few h1)
    rw [List.length_map] at h3
    show (ofB _).size ≤ _
    rw [ofB_size]
    omega
  row := fun w A n cap l ht hn hnc h hx => by
    obtain ⟨h1, h2⟩ := not_too h
    have h3 := enc_few (l.map toB) (toB_few h1)
    rw [List.length_map] at h3
    have := Pk.row_any A cap (l.map toB) w (nrow_srow hx) (by rw [List.length_map]; omega) (by omega) ht
    rw [List.length_map, hn] at this
    exact this
  texts := fun w l ht h => by
    obtain ⟨h1, h2⟩ := not_too h
    have h3 := enc_few (l.map toB) (toB_few h1)
    rw [List.length_map] at h3
    have hs : (pkV l).size = (Pk.enc (l.map toB)).length := ofB_size _
    refine (Pk.texts_any (pkV l) w (by omega)).mono ?_
    rintro e w' ⟨v, rfl, ho, hb⟩
    have hd : Pk.dec (pkV l).data.toList = (0, l.map toB) := by
      show Pk.dec (toB (ofB _)) = _
      rw [toB_ofB]
      exact Pk.dec_enc _ (fun s hs => by have := toB_few h1 s hs; omega)
    rw [hd] at ho ⊢
    obtain ⟨A, cap, rfl⟩ := ho.form
    exact ⟨A, _, cap, rfl, (List.length_map _).symm, srow_nrow ho.row, hb⟩
end Jl
end Go.Proofs.YtogpigfepebibaaDoor
