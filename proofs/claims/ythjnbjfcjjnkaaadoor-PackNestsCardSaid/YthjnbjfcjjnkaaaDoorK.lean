/-
  Layer 1 (pack): the walk of the law PackApart.
-/
import Derived.Test.YthjnbjfcjjnkaaaDoorH
import Derived.Laws.AppendOwnNone
namespace Go.Proofs.YthjnbjfcjjnkaaaDoor
namespace Pk
open Go.RowKit

/-- A slice of strings appended onto a row of the call's own. -/
theorem append_row {w : World} {ops : Array Oper} {rest : List Oper} {o : Oper} {a : Act} {Q : Exit → Act → World → Prop} (hgd : o.guard = none) (s x : Operand)
    (ho : o.op = .call { callee := .builtin .append, args := #[s, x], argTypes := #[22, 22] }) (B : Nat) (v : Value) (acc : List Bs) (hs : a.eval s = v) (hown : Owns w B v acc)
    (A : Option Addr) (n cap B' : Nat) (xs : List Bs) (hln : xs.length = n) (hx : a.eval x = .slice A n cap) (hr : SRow w B' A xs) (hc : A = none → cap = 0) (hl : acc.length + n ≤ 8796093022208) (hbase : B ≤ w.heap.size)
    (h : ∀ v' w', Owns w' B v' (acc ++ xs) → w.grownBy w' v.ownBlock → wpList Tryd.prog ops Q rest (a.put o.dst v') w') : wpList Tryd.prog ops Q (o :: rest) a w := by
  obtain ⟨i0, hi, hz0, hz1, hz2⟩ := info_parts strInfo
  subst hln
  cases A with
  | none =>
    have hnil : xs = [] := by
      cases xs with
      | nil => rfl
      | cons x r => obtain ⟨b, o, s, h, _⟩ := hr 0 x rfl; cases h
    subst hnil
    have hcap := hc rfl
    subst hcap
    refine wpList_append_own_none hgd s x 22 ho B 9 i0 1 Tryd.underlying22 hi v acc.length (acc.map SV) hs hown hx ?_
    exact h v w (by rw [List.append_nil]; exact hown) (World.grownBy.refl w _)
  | some ad =>
    refine wpList_append_own _ hgd s x 22 ho B 9 i0 (.string ⟨#[]⟩) 1 16 Tryd.underlying22 hi hz0 hz1 hz2 rfl (by decide) v acc.length (acc.map SV) hs hown ad xs.length cap (xs.map SV) hx (by simp) ?_ ?_ (by simp only [maxLen]; omega) (by omega) hbase ?_
    · intro j u hj
      rw [List.getElem?_map, Option.map_eq_some_iff] at hj
      obtain ⟨y, hy, rfl⟩ := hj
      obtain ⟨b, o, t, h1, _, h3, h4⟩ := hr j y hy
      injection h1 with h1
      subst h1
      rw [show (⟨b, o, none⟩ : Addr).add j = ⟨b, o + j, none⟩ from by unfold Addr.add; split <;> simp_all, h4, SV_str, h3]
    · intro u hu
      obtain ⟨y, _, rfl⟩ := List.mem_map.1 hu
      rfl
    · intro v' w' h1 h2 _
      exact h v' w' (by unfold Owns; rw [List.length_append, List.map_append]; exact h1) h2

/-- Row, its answer as a string that is not looked into. -/
theorem row_str (A : Option Addr) (cap : Nat) (xs : List Bs) (X : ByteArray) (hX : X.data.toList = enc xs) (w : World) (hx : SRow w w.heap.size A xs) (hn : xs.length ≤ 140737488355328) (he : (enc xs).length ≤ 140737488355328) (htab : Tab w.heap.size w) :
    Calls Tryd.prog 10 #[.slice A xs.length cap] w fun e w' => e = .returned (.string X) ∧ Below w.heap.size w w' := by
  have h := row_any A cap xs w hx hn he htab
  rw [← hX, str_back] at h
  exact h

theorem long_pair {a b : Bool} (h : (a || b) = false) : a = false ∧ b = false := by simpa using h

set_option maxHeartbeats 2000000 in
set_option maxRecDepth 100000 in
theorem apart_law (A : Option Addr) (cap : Nat) (xs : List Bs) (A' : Option Addr) (cap' : Nat) (ys : List Bs) (c : Int) (w : World)
    (hx : SRow w w.heap.size A xs) (hn : xs.length ≤ 140737488355328) (hs : ∀ x ∈ xs, x.length ≤ 140737488355328) (hca : A = none → cap = 0)
    (hy : SRow w w.heap.size A' ys) (hm : ys.length ≤ 140737488355328) (ht : ∀ x ∈ ys, x.length ≤ 140737488355328) (hcb : A' = none → cap' = 0)
    (hc0 : 0 ≤ c) (hc1 : c ≤ 65535) (htab : Tab w.heap.size w) :
    Calls Tryd.prog 5 #[.slice A xs.length cap, .slice A' ys.length cap', .int .u16 c] w fun e w' => e = .returned (.bool true) ∧ Below w.heap.size w w' := by
  have HX := Lib.hid hx
  have HS := Lib.hid hs
  have HCA := Lib.hid hca
  have HY := Lib.hid hy
  have HT := Lib.hid ht
  have HCB := Lib.hid hcb
  have HTAB := Lib.hid htab
  obtain ⟨n, hln⟩ : ∃ n, xs.length = n := ⟨_, rfl⟩
  obtain ⟨m, hlm⟩ : ∃ m, ys.length = m := ⟨_, rfl⟩
  have HL := Lib.hid hln
  have HM := Lib.hid hlm
  rw [hln] at hn ⊢
  rw [hlm] at hm ⊢
  clear hx hs hca hy ht hcb htab hln hlm
  go_enter Tryd.func5, Tryd.ntmps5
  go_wp2_with fail
  refine (alive_any w HTAB.out).mono ?_
  rintro e w1 ⟨rfl, hb1⟩
  have hcl := long_any A cap w.heap.size xs w1 (HX.out.below hb1 (Nat.le_refl _)) (by have := HL.out; omega) HS.out
  rw [HL.out] at hcl
  have hcm := long_any A' cap' w.heap.size ys w1 (HY.out.below hb1 (Nat.le_refl _)) (by have := HM.out; omega) HT.out
  rw [HM.out] at hcm
  have HCL := Lib.hid hcl
  have HCM := Lib.hid hcm
  have HB1 := Lib.hid hb1
  clear hcl hcm hb1
  go_wp2_with fail
  refine HCL.out.mono ?_
  rintro e w' ⟨rfl, rfl⟩
  cases hlx : longB xs
  · go_wp2_with fail
    refine HCM.out.mono ?_
    rintro e w' ⟨rfl, rfl⟩
    cases hly : longB ys
    · have htx := not_long hlx
      have hty := not_long hly
      have hex := enc_le xs
      have hey := enc_le ys
      clear hlx hly HCL HCM
      obtain ⟨X, hX⟩ : ∃ X : ByteArray, X.data.toList = enc xs := ⟨⟨(enc xs).toArray⟩, by simp⟩
      obtain ⟨Y, hY⟩ : ∃ Y : ByteArray, Y.data.toList = enc ys := ⟨⟨(enc ys).toArray⟩, by simp⟩
      have hXs : X.size ≤ 10000 := by rw [← data_length, hX]; omega
      have hYs : Y.size ≤ 10000 := by rw [← data_length, hY]; omega
      have htab1 : ∀ W, Below w.heap.size w W → Tab W.heap.size W := fun W hW => Lib.tabBelow_of_tabIs (HTAB.out.on hW).here
      have hrx := row_str A cap xs X hX w1 ((HX.out.below HB1.out (Nat.le_refl _)).more HB1.out.size) (by have := HL.out; omega) (by omega) (htab1 _ HB1.out)
      rw [HL.out] at hrx
      have HEX := Lib.hid hX
      have HEY := Lib.hid hY
      have HT1 := Lib.hid htab1
      have HRX := Lib.hid hrx
      clear hX hY htab1 hrx
      go_wp2_with fail
      refine HRX.out.mono ?_
      rintro e w2 ⟨rfl, hb2⟩
      have hw2 : Below w.heap.size w w2 := HB1.out.trans (hb2.mono HB1.out.size)
      have hry := row_str A' cap' ys Y HEY.out w2 ((HY.out.below hw2 (Nat.le_refl _)).more hw2.size) (by have := HM.out; omega) (by omega) (HT1.out _ hw2)
      rw [HM.out] at hry
      have HRY := Lib.hid hry
      have HW2 := Lib.hid hw2
      clear hb2 hw2 hry HRX HB1
      go_wp2_with fail
      refine HRY.out.mono ?_
      rintro e w3 ⟨rfl, hb3⟩
      have hw3 : Below w.heap.size w w3 := HW2.out.trans (hb3.mono HW2.out.size)
      have HW3 := Lib.hid hw3
      have ho0 : Owns (w3.alloc (.cells #[] 9)) w3.heap.size (.slice (some ⟨w3.heap.size, 0, none⟩) 0 0) [] := World.ownsRow_lit w3 #[] 0 (Nat.le_refl _) (by decide) rfl
      have HO0 := Lib.hid ho0
      clear hb3 hw3 HW2 HRY ho0
      have hal : Below w3.heap.size w3 (w3.alloc (.cells #[] 9)) := (Below.refl _ _).alloc (Nat.le_refl _) _
      have HAL := Lib.hid hal
      clear hal
      go_wp2_with (at_builtin; refine append_row rfl (.tmp 24) (.tmp 25) rfl w3.heap.size _ [] rfl HO0.out A n cap w.heap.size xs HL.out rfl ((HX.out.below (HW3.out.trans (HAL.out.mono HW3.out.size)) (Nat.le_refl _))) HCA.out ?l1 ?b1 ?_)
      case l1 => have := HL.out; have := tot_len xs; simp; omega
      case b1 => simp
      intro v1 w4 ho1 hg1
      obtain ⟨A1, cap1, rfl⟩ := ho1.form
      have hb4 : Below w3.heap.size w3 w4 := HAL.out.grown hg1 (by simp) (fun g hg => by simp [Value.ownBlock] at hg; omega)
      have hw4 : Below w.heap.size w w4 := HW3.out.trans (hb4.mono HW3.out.size)
      have HO1 := Lib.hid ho1
      have HB4 := Lib.hid hb4
      have HW4 := Lib.hid hw4
      clear ho1 hg1 hb4 hw4
      go_wp2_with (at_builtin; refine append_row rfl (.tmp 26) (.tmp 27) rfl w3.heap.size _ xs rfl HO1.out A' m cap' w.heap.size ys HM.out rfl (HY.out.below HW4.out (Nat.le_refl _)) HCB.out ?l1 ?b1 ?_)
      case l1 => have := HL.out; have := tot_len xs; have := HM.out; have := tot_len ys; omega
      case b1 => exact HB4.out.size
      intro v2 w5 ho2 hg2
      have hw5 : Below w.heap.size w w5 := HW4.out.grown hg2 HW4.out.size (fun g hg => by have h1 := (HO1.out.lt g hg).1; have h2 := HW3.out.size; omega)
      obtain ⟨A2, cap2, rfl⟩ := ho2.form
      have HO2 := Lib.hid ho2
      have HW5 := Lib.hid hw5
      have hsame : Calls Tryd.prog 13 #[.slice A n cap, .slice A' m cap'] w5 fun e w' => e = .returned (.bool (decide (xs = ys))) ∧ ∃ k, w' = w5.drewN k := by
        have h := same_any A A' cap cap' w.heap.size xs ys w5 (HX.out.below hw5 (Nat.le_refl _)) (HY.out.below hw5 (Nat.le_refl _)) (by have := HL.out; omega) (by have := HM.out; omega)
        rw [HL.out, HM.out] at h
        exact h
      have hXY : (X ++ Y).data.toList = enc (xs ++ ys) := by
        rw [ByteArray.data_append, Array.toList_append, HEX.out, HEY.out, enc_append]
      have hboth : ∀ k, Calls Tryd.prog 10 #[.slice A2 (xs ++ ys).length cap2] (w5.drewN k) fun e w' => e = .returned (.string (X ++ Y)) ∧ Below (w5.drewN k).heap.size (w5.drewN k) w' := fun k =>
        row_str A2 cap2 (xs ++ ys) (X ++ Y) hXY (w5.drewN k) (HO2.out.row.drewN k) (by have := tot_len xs; have := tot_len ys; rw [List.length_append]; omega) (by rw [enc_append, List.length_append]; omega) (HT1.out _ (below_dn HW5.out k))
      have heq : (X.toList == Y.toList) = decide (xs = ys) := by
        rw [ByteArray.toList_eq, ByteArray.toList_eq, HEX.out, HEY.out, Bool.eq_iff_iff, beq_iff_eq, decide_eq_true_iff]
        refine ⟨fun h => enc_inj ?_ ?_ h, fun h => by rw [h]⟩
        · intro s hsm; have := tot_mem hsm; omega
        · intro s hsm; have := tot_mem hsm; omega
      have HSM := Lib.hid hsame
      have HBO := Lib.hid hboth
      clear ho2 hg2 hw5 hsame hXY hboth HO2 HO1 HO0 HB4 HW4 HW3 HAL
      generalize hdx : decide (xs = ys) = dxy at *
      generalize hnm : (xs ++ ys).length = nm at *
      clear hdx hnm
      go_wp2_with fail
      refine HSM.out.mono ?_
      rintro e w6 ⟨rfl, k, rfl⟩
      go_wp2_with fail
      refine (HBO.out k).mono ?_
      rintro e w7 ⟨rfl, hb7⟩
      have hw7 : Below w.heap.size w w7 := (below_dn HW5.out k).trans (hb7.mono HW5.out.size)
      have HW7 := Lib.hid hw7
      clear hw7 hb7 heq HBO HSM HW5
      by_cases h0 : X.size = 0
      · have h0b : ((X.size : Int) == 0) = true := by rw [beq_iff_eq]; omega
        have hn0 : n = 0 := by
          have h1 := HEX.out
          have h2 : X.data.toList = [] := List.eq_nil_of_length_eq_zero (by rw [data_length]; exact h0)
          rw [h2] at h1
          have h3 := (enc_nil_iff xs).1 h1.symm
          rw [← HL.out, h3]; rfl
        have hn0b : ((n : Int) == 0) = true := by rw [beq_iff_eq]; omega
        clear hn0 h0
        go_wp2
        go_ret
        exact ⟨rfl, HW7.out⟩
      · have h0b : ((X.size : Int) == 0) = false := by rw [beq_eq_false_iff_ne]; omega
        have hpos : (0 : Int) < X.size := by omega
        have hr0 : 0 ≤ c % (X.size : Int) := Int.emod_nonneg _ (by omega)
        have hr1 : c % (X.size : Int) < X.size := Int.emod_lt_of_pos _ hpos
        clear h0
        have hj : (c % (X.size : Int)).toNat < (enc xs).length := by rw [← HEX.out, data_length]; omega
        have hcut := dec_cut xs (c % (X.size : Int)).toNat (fun s hsm => by have := tot_mem hsm; omega) hj
        rw [← HEX.out, ← ext_front] at hcut
        have hnx := HL.out
        have hct := texts_any (X.extract 0 (c % (X.size : Int)).toNat) w7 (by rw [ByteArray.size_extract]; omega)
        have HCT := Lib.hid hct
        clear hct hj
        go_wp2_with fail
        refine HCT.out.mono ?_
        rintro e w8 ⟨v, rfl, ho, hb8⟩
        have hw8 : Below w.heap.size w w8 := HW7.out.trans (hb8.mono HW7.out.size)
        have HW8 := Lib.hid hw8
        obtain ⟨A8, cap8, rfl⟩ := ho.form
        clear hb8 hw8 ho HCT
        rcases hcut with hd | ⟨q, hq, hd⟩
        · rw [hd]
          clear hd hnx
          go_wp2
          go_ret
          exact ⟨rfl, HW8.out⟩
        · have hql : (xs.take q).length = q := by rw [List.length_take]; omega
          have hqn : q < n := by omega
          rw [hd]
          simp only [hql]
          clear hd hql hq hnx
          go_wp2
          go_ret
          exact ⟨rfl, HW8.out⟩
    · have HB := HB1.out
      go_wp2
      go_ret
      exact ⟨rfl, HB⟩
  · have HB := HB1.out
    go_wp2
    go_ret
    exact ⟨rfl, HB⟩
end Pk
end Go.Proofs.YthjnbjfcjjnkaaaDoor
