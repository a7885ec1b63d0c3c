/-
  Layer 5 (tree): the walk of Sum.
-/
import Derived.Test.YtkldgfdfpanelaaDoorUE
import Derived.Test.YtkldgfdfpanelaaDoorPE
import Derived.Test.YtkldgfdfpanelaaDoorSL
namespace Go.Proofs.YtkldgfdfpanelaaDoor
namespace Tr
open Go.RowKit Go.ChangeShapes Pt

def zero32 : List UInt8 := List.replicate 32 0
/-- The digest of files. -/
def sumV (t : List Fl) : List UInt8 := if tcheck t = 0 then Sh.dig (Pk.enc (rowV t)) else zero32
theorem sumV_length (t : List Fl) : (sumV t).length = 32 := by
  unfold sumV
  split
  · exact Sh.dig_length _
  · rfl
theorem enc_snoc {t : List Fl} {k : Nat} {x : Fl} (hx : t[k]? = some x) : Pk.enc (rowV (t.take (k + 1))) = Pk.enc (rowV (t.take k)) ++ Pk.enc [x.1, x.2] := by
  unfold rowV
  rw [take_snoc t k x hx, List.flatMap_append, Pk.enc_append]
  rfl
theorem enc_take (t : List Fl) (k : Nat) : (Pk.enc (rowV (t.take k))).length ≤ (Pk.enc (rowV t)).length := by
  have e : rowV t = rowV (t.take k) ++ rowV (t.drop k) := by
    unfold rowV
    rw [← List.flatMap_append, List.take_append_drop]
  rw [e, Pk.enc_append, List.length_append]; omega
theorem hash_later {w w' : World} {B b : Nat} {L : List UInt8} (h : Sh.HashAt w b L) (hb : Below B w w') (hB : b < B) : Sh.HashAt w' b L := by
  obtain ⟨r, h1, h2⟩ := h
  exact ⟨r, h1, h2.below hb hB⟩
theorem hash_lt {w : World} {b : Nat} {L : List UInt8} (h : Sh.HashAt w b L) : b < w.heap.size := by
  obtain ⟨r, h1, h2⟩ := h
  exact h2.lt

set_option maxRecDepth 100000 in
set_option maxHeartbeats 4000000 in
theorem treesum_any (A : Option Addr) (cap n : Nat) (t : List Fl) (w : World) (hn : t.length = n) (hf : Few t) (he : (Pk.enc (rowV t)).length ≤ 90000) (hx : FRow w w.heap.size A t) (htp : Pk.Tab w.heap.size w) (hts : Sh.Tab w) (hb0 : 0 < w.heap.size) :
    Calls Tryd.prog 6 #[.slice A n cap] w fun e w' => e = .returned (.agg (Sh.bvals (sumV t)).toArray) ∧ Below w.heap.size w w' := by
  have hnl : n ≤ 1000 := by rw [← hn]; exact hf.1
  obtain ⟨b, hb⟩ : ∃ b, decide (tcheck t = 0) = b := ⟨_, rfl⟩
  have HX := Lib.hid hx
  have HN := Lib.hid hn
  have HE := Lib.hid he
  have HTP := Lib.hid htp
  have HTS := Lib.hid hts
  have HT := Lib.hid (fun W (h : Below w.heap.size w W) => istree_any A cap n t b W hb hn hf ((hx.keep fun q hq => h.cell hq).more h.size))
  cases b
  · have HV : Hid (sumV t = List.replicate 32 0) := by
      show _ = _
      unfold sumV; rw [if_neg (of_decide_eq_false hb)]; rfl
    clear hx hn hf hb he htp hts
    go_enter Tryd.func6, Tryd.ntmps6
    go_wp2_with fail
    refine (HT.out _ ((Below.refl _ _).alloc (Nat.le_refl _) _)).mono ?_
    rintro e w1 ⟨rfl, hb1⟩
    simp only [World.size_alloc] at hb1
    have HR1 : Hid (Sh.Row w1 w.heap.size 26 (Sh.bvals (List.replicate 32 0))) := (Sh.Row.new_at w _ _ _ rfl rfl).below hb1 (by omega)
    have HB1 : Hid (Below w.heap.size w w1) := ((Below.refl _ _).alloc (Nat.le_refl _) _).trans (hb1.mono (by omega))
    clear hb1
    go_wp2_with (first
      | (refine Sh.wpList_buildTo rfl 26 _ rfl (some 9) rfl (Sh.bvals (List.replicate 32 0)).toArray (by kernel_rfl) ?_)
      | (refine Sh.wpList_store_all rfl 26 (.tmp 2) (.tmp 9) rfl w.heap.size (Sh.bvals (List.replicate 32 0)) rfl rfl 26 (Sh.bvals (List.replicate 32 0)) HR1.out (by kernel_rfl) rfl (Sh.bvals_one _) ?_))
    intro w7 HR7 HT7
    go_wp2
    rw [HV.out]
    refine bodyPost_ret (results_cell_row rfl _ _ w.heap.size 26 (Sh.bvals (List.replicate 32 0)).toArray (0, 0) _ rfl HR7.out Tryd.underlying26 rfl ?r0) rfl ⟨rfl, Sh.below_turn HB1.out HT7.out (Nat.le_refl _)⟩
    case r0 => kernel_rfl
  · have HV : Hid (sumV t = Sh.dig (Pk.enc (rowV t))) := by
      show _ = _
      unfold sumV; rw [if_pos (of_decide_eq_true hb)]
    clear hx hn hf hb he htp hts
    go_enter Tryd.func6, Tryd.ntmps6
    go_wp2_with fail
    refine (HT.out _ ((Below.refl _ _).alloc (Nat.le_refl _) _)).mono ?_
    rintro e w1 ⟨rfl, hb1⟩
    simp only [World.size_alloc] at hb1
    have HR1 : Hid (Sh.Row w1 w.heap.size 26 (Sh.bvals (List.replicate 32 0))) := (Sh.Row.new_at w _ _ _ rfl rfl).below hb1 (by omega)
    have HB1 : Hid (Below w.heap.size w w1) := ((Below.refl _ _).alloc (Nat.le_refl _) _).trans (hb1.mono (by omega))
    have hs1 : w.heap.size < w1.heap.size := by have := hb1.size; simp at this; omega
    clear hb1
    go_wp2_with fail
    refine (Sh.new_any _).mono ?_
    rintro e w2 ⟨rfl, hh2, hb2, hs2⟩
    have HH2 := Lib.hid hh2
    have HR2 : Hid (Sh.Row w2 w.heap.size 26 (Sh.bvals (List.replicate 32 0))) := HR1.out.below hb2 hs1
    have HB2 : Hid (Below w.heap.size w w2) := HB1.out.trans (hb2.mono (by omega))
    obtain ⟨hb, hhb⟩ : ∃ q, w1.heap.size = q := ⟨_, rfl⟩
    rw [hhb] at HH2 hs1 ⊢
    clear hh2 hb2 hs2 hhb HR1 HB1
    go_wp2_with fail
    go_loopw [13] (fun i wr => ∃ k : Nat, k ≤ n ∧ i = .int .i64 k ∧ Hid (Sh.HashAt wr hb (Pk.enc (rowV (t.take k)))) ∧ Hid (Sh.Row wr w.heap.size 26 (Sh.bvals (List.replicate 32 0))) ∧ Hid (Below w.heap.size w wr)) (fun i _ => n - (intOf i).toNat)
    case atStart => exact ⟨0, Nat.zero_le _, rfl, HH2, HR2, HB2⟩
    case round =>
      obtain ⟨k, hk, rfl, HH, HR, HB⟩ := hrel
      clear HH2 HR2 HB2
      by_cases hlt : k < n
      · have hki : (k : Int) < n := by omega
        have hxk : t[k]? = some (t[k]'(by rw [HN.out]; exact hlt)) := List.getElem?_eq_getElem _
        generalize t[k]'(by rw [HN.out]; exact hlt) = x at hxk
        obtain ⟨b1, o1, sp, sd, rfl, hb1, hsp, hsd, cP0, cD0⟩ := HX.out k x hxk
        obtain rfl : x = (sp.data.toList, sd.data.toList) := Prod.ext hsp.symm hsd.symm
        have cP := (HB.out.cell (p := ⟨b1, o1 + k * 2, none⟩) hb1).trans cP0
        have cD := (HB.out.cell (p := ⟨b1, o1 + k * 2 + 1, none⟩) hb1).trans cD0
        have hes := enc_snoc hxk
        have het := enc_take t (k + 1)
        rw [hes, List.length_append] at het
        have hel : (Pk.enc [sp.data.toList, sd.data.toList]).length ≤ 90000 := by have := HE.out; have h2 := het; simp only at h2; omega
        obtain ⟨X, hX⟩ : ∃ X : ByteArray, X = ⟨(Pk.enc [sp.data.toList, sd.data.toList]).toArray⟩ := ⟨_, rfl⟩
        have hXl : X.data.toList = Pk.enc [sp.data.toList, sd.data.toList] := by rw [hX]
        have hhl := hash_lt HH.out
        obtain ⟨v0, hv0⟩ : ∃ v, v = (wr.alloc (.cells #[.string sp, .string sd] 30)).alloc (.cells #[.string sp, .string sd] 9) := ⟨_, rfl⟩
        have hbv : Below wr.heap.size wr v0 := by rw [hv0]; exact ((Below.refl _ _).alloc (Nat.le_refl _) _).alloc (by simp) _
        have hvs : v0.heap.size = wr.heap.size + 2 := by rw [hv0]; simp
        have hsr : Pk.SRow v0 v0.heap.size (some ⟨wr.heap.size + 1, 0, none⟩) [sp.data.toList, sd.data.toList] := by
          rintro (_ | _ | j) y hy
          · injection hy with hy
            subst hy
            exact ⟨wr.heap.size + 1, 0, sp, rfl, by omega, rfl, by rw [hv0]; simp⟩
          · injection hy with hy
            subst hy
            exact ⟨wr.heap.size + 1, 0, sd, rfl, by omega, rfl, by rw [hv0]; simp⟩
          · simp at hy
        have hrow := Pk.row_any (some ⟨wr.heap.size + 1, 0, none⟩) 2 [sp.data.toList, sd.data.toList] v0 hsr (by simp) (by omega) (Lib.tabBelow_of_tabIs (HTP.out.on (HB.out.trans (hbv.mono HB.out.size))).here)
        rw [← hX] at hrow
        have HROW : Hid (Calls Tryd.prog 13 #[.slice (some ⟨wr.heap.size + 1, 0, none⟩) 2 2] v0 fun e w' => e = .returned (.string X) ∧ Below v0.heap.size v0 w') := hrow
        have HBV := Lib.hid hbv
        have hadd := fun W (hW : Below wr.heap.size wr W) => Sh.add_any hb (Pk.enc (rowV (t.take k))) X W hb (hash_later HH.out hW hhl) (HTS.out.below (HB.out.trans (hW.mono HB.out.size)) hb0) (Nat.le_refl _) (by omega) (by
          have h1 := HE.out
          have h2 : X.size = (Pk.enc [sp.data.toList, sd.data.toList]).length := by rw [← hXl]; rfl
          have h3 := het
          simp only at h3
          omega)
        rw [hXl, ← hes] at hadd
        have HADD := Lib.hid hadd
        clear hes het hel hX hXl hsr hrow hbv hadd hxk hsp hsd cP0 cD0
        go_wp2_with fail
        rw [← hv0]
        clear hv0
        refine HROW.out.mono ?_
        rintro e w3 ⟨rfl, hb3⟩
        have HB3 : Hid (Below wr.heap.size wr w3) := HBV.out.trans (hb3.mono (by omega))
        clear hb3
        go_wp2_with fail
        refine (HADD.out _ HB3.out).mono ?_
        rintro e w4 ⟨rfl, hh4, hb4⟩
        have HH4 := Lib.hid hh4
        have HR4 : Hid (Sh.Row w4 w.heap.size 26 (Sh.bvals (List.replicate 32 0))) := (HR.out.below HB3.out HR.out.lt).below hb4 hs1
        have HB4 : Hid (Below w.heap.size w w4) := (HB.out.trans (HB3.out.mono HB.out.size)).trans (hb4.mono (by omega))
        clear hh4 hb4
        go_wp2
        go_roundw
        case rel => exact ⟨k + 1, by omega, by go_num, HH4, HR4, HB4⟩
        case measure => simp [intOf]; omega
      · obtain rfl : k = n := by omega
        have hh := HH.out
        rw [List.take_of_length_le (by rw [HN.out]; exact Nat.le_refl _)] at hh
        have hsum := Sh.hsum_any hb (Pk.enc (rowV t)) wr hh (HTS.out.below HB.out hb0) (by have := HB.out.size; omega) (by have := HE.out; omega)
        rw [← HV.out] at hsum
        have HSUM := Lib.hid hsum
        clear hh hsum
        go_wp2_with fail
        refine HSUM.out.mono ?_
        rintro e w5 ⟨rfl, hb5⟩
        have HR5 : Hid (Sh.Row w5 w.heap.size 26 (Sh.bvals (List.replicate 32 0))) := HR.out.below hb5 HR.out.lt
        have HB5 : Hid (Below w.heap.size w w5) := HB.out.trans (hb5.mono HB.out.size)
        have hsl := sumV_length t
        clear hb5
        go_wp2_with (refine Sh.wpList_store_all rfl 26 (.tmp 2) (.tmp 27) rfl w.heap.size (Sh.bvals (sumV t)) rfl rfl 26 (Sh.bvals (List.replicate 32 0)) HR5.out ?s1 ?s2 (Sh.bvals_one _) ?_)
        case s1 => rw [Sh.bvals_length, hsl]; kernel_rfl
        case s2 => rw [Sh.bvals_length, Sh.bvals_length, hsl, List.length_replicate]
        intro w7 HR7 HT7
        go_wp2
        refine bodyPost_ret (results_cell_row rfl _ _ w.heap.size 26 (Sh.bvals (sumV t)).toArray (0, 0) _ rfl HR7.out Tryd.underlying26 rfl ?r1) rfl ⟨rfl, Sh.below_turn HB5.out HT7.out (Nat.le_refl _)⟩
        case r1 => rw [List.size_toArray, Sh.bvals_length, hsl]; kernel_rfl
end Tr
end Go.Proofs.YtkldgfdfpanelaaDoor
