/-
  Layer 3 (path): slices of strings in memory, and the walk of the document's Parts.
-/
import Derived.Test.YtkldgfdfpanelaaDoorB
import Derived.Laws.OwnMore
import Derived.DataElems
import Derived.ChangeSlices
import Derived.Laws.DeepStrings4
import Derived.Deep.AppendLies
import Derived.BigRegion
namespace Go.Proofs.YtkldgfdfpanelaaDoor
namespace Pt
open Go.RowKit Go.ChangeShapes

/-- A slice's address under which strings stand, below block B: the rows of bytes xs. -/
def SRow (w : World) (B : Nat) (A : Option Addr) (xs : List Bs) : Prop :=
  ∀ j x, xs[j]? = some x → ∃ b o s, A = some ⟨b, o, none⟩ ∧ b < B ∧ s.data.toList = x ∧ w.cell? ⟨b, o + j, none⟩ = some (.string s)

theorem SRow.none_ (w : World) (B : Nat) (A : Option Addr) : SRow w B A [] := fun j x h => by simp at h
theorem SRow.keep {w w' : World} {B : Nat} {A : Option Addr} {xs : List Bs} (h : SRow w B A xs) (hk : ∀ p : Addr, p.block < B → w'.cell? p = w.cell? p) : SRow w' B A xs := fun j x hx => by
  obtain ⟨b, o, s, h1, h2, h3, h4⟩ := h j x hx
  exact ⟨b, o, s, h1, h2, h3, (hk _ h2).trans h4⟩
theorem SRow.below {w w' : World} {B B' : Nat} {A : Option Addr} {xs : List Bs} (h : SRow w B A xs) (hb : Below B' w w') (hB : B ≤ B') : SRow w' B A xs := h.keep fun _ hp => (hb.mono hB).cell hp
theorem SRow.more {w : World} {B B' : Nat} {A : Option Addr} {xs : List Bs} (h : SRow w B A xs) (hB : B ≤ B') : SRow w B' A xs := fun j x hx => by
  obtain ⟨b, o, s, h1, h2, h3, h4⟩ := h j x hx
  exact ⟨b, o, s, h1, by omega, h3, h4⟩
theorem SRow.drewN {w : World} {B : Nat} {A : Option Addr} {xs : List Bs} (h : SRow w B A xs) (n : Nat) : SRow (w.drewN n) B A xs := h
theorem SRow.alloc {w : World} {B : Nat} {A : Option Addr} {xs : List Bs} (h : SRow w B A xs) (hB : B ≤ w.heap.size) (o : Obj) : SRow (w.alloc o) B A xs :=
  h.keep fun p hp => World.cell?_alloc_lt w o p (by omega)

theorem strInfo : (Tryd.prog.info? 9).map (fun i => (i.zero, i.size, i.bytes)) = some (some (.string ⟨#[]⟩), 1, 16) := by kernel_rfl

def SV (l : Bs) : Value := .string ⟨l.toArray⟩
theorem SV_str (s : ByteArray) : Value.string s = SV s.data.toList := by unfold SV; rw [str_back]

/-- A row that a call has made. -/
def Owns (w : World) (base : Nat) (v : Value) (xs : List Bs) : Prop := w.ownsRow base 9 1 v xs.length (xs.map SV)

theorem Owns.nil (w : World) (base : Nat) : Owns w base (.slice none 0 0) [] := World.ownsRow_nil _ _ _ _
theorem Owns.form {w : World} {base : Nat} {v : Value} {xs : List Bs} (h : Owns w base v xs) : ∃ A cap, v = .slice A xs.length cap := by
  rcases h.2 with ⟨hv, h0⟩ | ⟨g, cap, cur, hv, _⟩
  · exact ⟨none, 0, by rw [hv, h0]⟩
  · exact ⟨_, _, hv⟩
theorem Owns.row {w : World} {base : Nat} {A : Option Addr} {cap n : Nat} {xs : List Bs} (h : Owns w base (.slice A n cap) xs) : SRow w w.heap.size A xs := by
  intro j x hx
  have hl := (List.getElem?_eq_some_iff.1 hx).1
  rcases h.2 with ⟨_, h0⟩ | ⟨g, cap', cur, hv, _⟩
  · omega
  · injection hv with hA
    subst hA
    have hlt := (h.lt g rfl).2
    have hc := h.cells (g := g) rfl j (SV x) (by rw [List.getElem?_map, hx]; rfl)
    refine ⟨g, 0, ⟨x.toArray⟩, rfl, hlt, by simp, ?_⟩
    rw [show (⟨g, 0, none⟩ : Addr).add j = ⟨g, 0 + j, none⟩ from by unfold Addr.add; split <;> simp_all] at hc
    exact hc


/-- One string of a row that a call has made, stored anew. -/
theorem SV_app (l : Bs) (s : ByteArray) (k : Nat) (h : k < s.size) : Value.string ((⟨l.toArray⟩ : ByteArray) ++ s.extract k (k + 1)) = SV (l ++ [s[k]]) := by
  unfold SV
  refine congrArg Value.string (str_eq ?_)
  rw [show ((⟨l.toArray⟩ : ByteArray) ++ s.extract k (k + 1)).data.toList = l ++ (s.extract k (k + 1)).data.toList by simp [ByteArray.data_append]]
  rw [ext_data, drop_at s k h]
  simp
theorem cut_run (b : ByteArray) (i j : Int) (h0 : 0 ≤ i) (h1 : i ≤ j) (h2 : j ≤ b.size) (W : World) :
    (Instr.slice 9 (.string b) (some (.int .i64 i)) (some (.int .i64 j)) none).run Tryd.prog W = .ok (.string (b.extract i.toNat j.toNat)) W := by
  rw [run_slice_string_if W 9 b .i64 .i64 i j Tryd.underlying9, if_pos ⟨by omega, h2⟩, if_pos ⟨h0, h1⟩]
theorem parts_len (l : Bs) : (parts l).length ≤ l.length + 1 := by
  induction l with
  | nil => simp [parts]
  | cons c l ih =>
    have hp := parts_pos l
    unfold parts
    split <;> simp <;> omega

theorem parts_le (l : Bs) : ∀ p ∈ parts l, p.length ≤ l.length := by
  induction l with
  | nil => intro p hp; simp [parts] at hp; subst hp; simp
  | cons c l ih =>
    obtain ⟨q, qs, hq⟩ := parts_cons l
    intro p hp
    unfold parts at hp
    rw [hq] at hp ih
    by_cases h : c = 47
    · rw [if_pos h] at hp
      rcases List.mem_cons.1 hp with rfl | hp
      · simp
      · have := ih p hp; simp; omega
    · rw [if_neg h] at hp
      simp only [List.headD_cons, List.tail_cons, List.mem_cons] at hp
      rcases hp with rfl | hp
      · have := ih q (by simp); simp; omega
      · have := ih p (by simp [hp]); simp; omega

/-- What Parts leaves. -/
def PartsPost (l : Bs) (w : World) (e : Ending) (w' : World) : Prop :=
  ∃ g cap, e = .returned (.slice (some ⟨g, 0, none⟩) (parts l).length cap) ∧ Owns w' w.heap.size (.slice (some ⟨g, 0, none⟩) (parts l).length cap) (parts l) ∧ Below w.heap.size w w'

set_option maxHeartbeats 1000000 in
set_option maxRecDepth 100000 in
theorem parts_any (s : ByteArray) (w : World) (hs : s.size ≤ 100000) :
    Calls Tryd.prog 40 #[.string s] w (PartsPost s.data.toList w) := by
  obtain ⟨i0, hi, hz0, hz1, hz2⟩ := info_parts strInfo
  have ho0 : Owns (w.alloc (.cells #[.string ⟨#[]⟩] 9)) w.heap.size (.slice (some ⟨w.heap.size, 0, none⟩) 1 1) [[]] := World.ownsRow_lit w #[.string ⟨#[]⟩] 1 (Nat.le_refl _) (by decide) rfl
  have HO0 := Lib.hid ho0
  clear ho0
  go_enter Tryd.func40, Tryd.ntmps40
  go_wp2
  go_loopw [3, 4] (fun v i wr => ∃ k g n cap : Nat, k ≤ s.size ∧ i = .int .i64 k ∧ v = .slice (some ⟨g, 0, none⟩) n cap ∧ 0 < n ∧ n ≤ k + 1 ∧ Hid ((parts (s.data.toList.take k)).length = n) ∧ Hid (Owns wr w.heap.size (.slice (some ⟨g, 0, none⟩) n cap) (parts (s.data.toList.take k))) ∧ Hid (Below w.heap.size w wr)) (fun _ i _ => s.size - (intOf i).toNat)
  case atStart => exact ⟨0, w.heap.size, 1, 1, Nat.zero_le _, rfl, rfl, by omega, by omega, rfl, HO0.out, (Below.refl _ _).alloc (Nat.le_refl _) _⟩
  case round =>
    obtain ⟨k, g, n, cap, hk, rfl, rfl, hn0, hnk, HL, HO, HW⟩ := hrel
    clear HO0
    by_cases hlt : k < s.size
    · have hki : (k : Int) < s.size := by omega
      have hcl : s[k].toNat < 256 := s[k].toNat_lt
      by_cases h47 : s[k].toNat = 47
      · have hb : ((s[k].toNat : Int) == 47) = true := by rw [beq_iff_eq]; omega
        have hst : parts (s.data.toList.take (k + 1)) = parts (s.data.toList.take k) ++ [[]] := by
          rw [take_at s k hlt, show s[k] = 47 from UInt8.toNat_inj.1 h47, parts_stroke]
        have HST := Lib.hid hst
        clear hst h47
        go_wp2_with (at_builtin; refine wpList_append_own _ rfl _ _ 31 rfl w.heap.size 9 i0 (.string ⟨#[]⟩) 1 16 Tryd.underlying31 hi hz0 hz1 hz2 rfl (by decide) _ n ((parts (s.data.toList.take k)).map SV) rfl ?c0 ⟨wr.heap.size, 0, none⟩ 1 1 [SV []] rfl rfl ?c1 ?c2 ?c3 ?c4 ?c5 ?_)
        case c0 => have := HO.out.alloc (.cells #[.string ⟨#[]⟩] 9); rw [HL.out] at this; exact this
        case c1 =>
          rintro (_ | j) u hj
          · simp only [List.getElem?_cons_zero, Option.some.injEq] at hj
            subst hj
            simp [Addr.add, SV]
          · simp at hj
        case c2 => intro u hu; obtain rfl := List.mem_singleton.1 hu; rfl
        case c3 => simp only [maxLen]; omega
        case c4 => omega
        case c5 => have := HW.out.size; simp; omega
        intro v' w2 hown' hgrow _
        obtain ⟨g2, cap2, rfl, _, _⟩ := hown'.form (by omega)
        go_wp2
        have hw2 : Below w.heap.size w w2 := (HW.out.alloc HW.out.size _).grown hgrow (by have := HW.out.size; simp; omega) (fun q hq => (HO.out.lt q hq).1)
        have ho2 : Owns w2 w.heap.size (.slice (some ⟨g2, 0, none⟩) (n + 1) cap2) (parts (s.data.toList.take (k + 1))) := by
          unfold Owns
          rw [HST.out, List.length_append, List.map_append, HL.out]
          exact hown'
        go_roundw
        case rel => exact ⟨k + 1, g2, n + 1, cap2, by omega, by go_num, rfl, by omega, by omega, by show _ = _; rw [HST.out, List.length_append, HL.out]; rfl, ho2, hw2⟩
        case measure => simp [intOf]; omega
      · have hb : ((s[k].toNat : Int) == 47) = false := by rw [beq_eq_false_iff_ne]; omega
        have hne : s[k] ≠ 47 := fun e => h47 (by rw [e]; rfl)
        have hst := parts_sign (s.data.toList.take k) s[k] hne
        rw [← take_at s k hlt, HL.out] at hst
        obtain ⟨x, hx⟩ : ∃ x, (parts (s.data.toList.take k)).getD (n - 1) [] = x := ⟨_, rfl⟩
        rw [hx] at hst
        have hcut := cut_run s k (k + 1) (by omega) (by omega) (by omega)
        rw [show (k : Int).toNat = k by omega, show ((k : Int) + 1).toNat = k + 1 by omega] at hcut
        have ho := HO.out
        unfold Owns at ho
        rw [HL.out] at ho
        have hxl : x.length ≤ s.size := by
          have h1 := parts_le (s.data.toList.take k) x (by rw [← hx, List.getD_eq_getElem?_getD, List.getElem?_eq_getElem (by rw [HL.out]; omega), Option.getD_some]; exact List.getElem_mem _)
          have h2 : (s.data.toList.take k).length ≤ k := List.length_take_le _ _
          omega
        obtain ⟨X, hX⟩ : ∃ X : ByteArray, X = ⟨x.toArray⟩ := ⟨_, rfl⟩
        obtain ⟨Y, hY⟩ : ∃ Y : ByteArray, Y = s.extract k (k + 1) := ⟨_, rfl⟩
        have hXs : X.size = x.length := by rw [hX]; rfl
        have hYs : Y.size ≤ s.size := by rw [hY, ByteArray.size_extract]; omega
        have hXY : (X.size : Int) + Y.size ≤ 9223372036854775807 := by omega
        rw [← hY] at hcut
        have hc : wr.cell? ⟨g, n - 1, none⟩ = some (.string X) := by
          rw [ho.cellAt (n - 1) (by omega), List.getElem?_map, List.getElem?_eq_getElem (by rw [HL.out]; omega), Option.map_some]
          rw [List.getD_eq_getElem?_getD, List.getElem?_eq_getElem (by rw [HL.out]; omega), Option.getD_some] at hx
          rw [hx, hX]; rfl
        have hf : wr.frozen? ⟨g, n - 1, none⟩ = false := ho.frozenAt (n - 1)
        have e1 : IntKind.i64.wrap ((n : Int) - 1) = (n : Int) - 1 := IntWalk.i64_in _ (by omega)
        have e2 : ((n : Int) - 1).toNat = n - 1 := by omega
        have happ := SV_app x s k hlt
        rw [← hX, ← hY] at happ
        have hstored := ho.stored (n - 1) (SV (x ++ [s[k]]))
        rw [← happ] at hstored
        have hglt := (ho.lt g rfl).1
        have HAPP := Lib.hid happ
        have HSTO := Lib.hid hstored
        have HST := Lib.hid hst
        clear happ hstored hst ho hx hne h47 hX hY hXs hYs hxl
        go_wp2
        go_region
        go_wp2
        go_roundw
        case rel =>
          refine ⟨k + 1, g, n, cap, by omega, by go_num, rfl, hn0, by omega, ?_, ?_, ?_⟩
          · show _ = _
            rw [HST.out, List.length_set, HL.out]
          · show Owns _ _ _ _
            unfold Owns
            rw [HST.out, List.length_set, HL.out, List.map_set, ← HAPP.out]
            exact HSTO.out.1
          · exact (HW.out.grown HSTO.out.2 HW.out.size (fun q hq => by cases hq; exact hglt)).drew
        case measure => simp [intOf]; omega
    · obtain rfl : k = s.size := by omega
      have ho := HO.out
      have hl := HL.out
      rw [List.take_of_length_le (by rw [data_length]; omega)] at ho hl
      subst hl
      have HO' := Lib.hid ho
      clear ho HO HL
      go_wp2
      go_ret
      exact ⟨g, cap, rfl, HO'.out, HW.out⟩
end Pt
end Go.Proofs.YtkldgfdfpanelaaDoor
