/-
  Layer 5 (tree): the walk of the document's Sum.
-/
import Derived.Test.YtkldgfdfpanelaaDoorVA
import Derived.Deep.AppendLies
import Derived.Deep.RegionLaw
namespace Go.Proofs.YtkldgfdfpanelaaDoor
namespace Tr
open Go.RowKit Go.ChangeShapes Pt

theorem rowV_snoc {t : List Fl} {k : Nat} {x : Fl} (hx : t[k]? = some x) : rowV (t.take (k + 1)) = rowV (t.take k) ++ [x.1, x.2] := by
  unfold rowV
  rw [take_snoc t k x hx, List.flatMap_append]
  rfl
theorem rowV_length : ∀ t : List Fl, (rowV t).length = 2 * t.length
  | [] => rfl
  | f :: t => by
    have := rowV_length t
    unfold rowV at this ⊢
    rw [List.flatMap_cons, List.length_append, this]
    simp; omega

set_option maxRecDepth 100000 in
set_option maxHeartbeats 4000000 in
theorem reftreesum_any (A : Option Addr) (cap n : Nat) (t : List Fl) (w : World) (hn : t.length = n) (hf : Few t) (he : (Pk.enc (rowV t)).length ≤ 90000) (hx : FRow w w.heap.size A t) :
    Calls Tryd.prog 7 #[.slice A n cap] w fun e w' => e = .returned (.agg (Sh.bvals (sumV t)).toArray) ∧ Below w.heap.size w w' := by
  obtain ⟨i0, hi, hz0, hz1, hz2⟩ := info_parts strInfo
  have hnl : n ≤ 1000 := by rw [← hn]; exact hf.1
  obtain ⟨c, hc⟩ : ∃ c, tcheck t = c := ⟨_, rfl⟩
  have HX := Lib.hid hx
  have HN := Lib.hid hn
  have HE := Lib.hid he
  have HT := Lib.hid (fun W (h : Below w.heap.size w W) => refcheck_any A cap W.heap.size n t c hc W hn (by omega) (fun f hf' => by have := (hf.2 f hf').1; omega) ((hx.keep fun q hq => h.cell hq).more h.size) (Nat.le_refl _))
  by_cases hc0 : c = 0
  · have HV : Hid (sumV t = Sh.dig (Pk.enc (rowV t))) := by
      show _ = _
      unfold sumV; rw [if_pos (by rw [hc]; exact hc0)]
    have h0i : ((c : Int) != 0) = false := by subst hc0; rfl
    clear hx hn hf hc he hc0
    go_enter Tryd.func7, Tryd.ntmps7
    go_wp2_with fail
    refine (HT.out _ ((Below.refl _ _).alloc (Nat.le_refl _) _)).mono ?_
    rintro e w1 ⟨rfl, hb1⟩
    simp only [World.size_alloc] at hb1
    have HR1 : Hid (Sh.Row w1 w.heap.size 26 (Sh.bvals (List.replicate 32 0))) := (Sh.Row.new_at w _ _ _ rfl rfl).below hb1 (by omega)
    have HB1 : Hid (Below w.heap.size w w1) := ((Below.refl _ _).alloc (Nat.le_refl _) _).trans (hb1.mono (by omega))
    have hs1 : w.heap.size < w1.heap.size := by have := hb1.size; simp at this; omega
    clear hb1
    have HO1 : Hid (Owns (w1.alloc (.cells #[] 9)) w1.heap.size (.slice (some ⟨w1.heap.size, 0, none⟩) 0 0) []) :=
      World.ownsRow_lit (base := w1.heap.size) (e := 9) (size := 1) w1 #[] 0 (Nat.le_refl _) (by decide) rfl
    have HB2 : Hid (Below w1.heap.size w1 (w1.alloc (.cells #[] 9))) := (Below.refl _ _).alloc (Nat.le_refl _) _
    go_wp2_with fail
    go_loopw [3, 12] (fun v i wr => ∃ k g m cp : Nat, k ≤ n ∧ i = .int .i64 k ∧ v = .slice (some ⟨g, 0, none⟩) m cp ∧ Hid (m = 2 * k) ∧ Hid (wr.ownsRow w1.heap.size 9 1 (.slice (some ⟨g, 0, none⟩) m cp) m ((rowV (t.take k)).map SV)) ∧ Hid (Below w1.heap.size w1 wr)) (fun _ i _ => n - (intOf i).toNat)
    case atStart => exact ⟨0, w1.heap.size, 0, 0, Nat.zero_le _, rfl, rfl, rfl, HO1.out, HB2.out⟩
    case round =>
      obtain ⟨k, g, m, cp, hk, rfl, rfl, hm, HO, HB⟩ := hrel
      clear HO1 HB2
      by_cases hlt : k < n
      · have hki : (k : Int) < n := by omega
        have hxk : t[k]? = some (t[k]'(by rw [HN.out]; exact hlt)) := List.getElem?_eq_getElem _
        generalize t[k]'(by rw [HN.out]; exact hlt) = x at hxk
        obtain ⟨b1, o1, sp, sd, rfl, hb1, hsp, hsd, cP0, cD0⟩ := HX.out k x hxk
        obtain rfl : x = (sp.data.toList, sd.data.toList) := Prod.ext hsp.symm hsd.symm
        have cP := (HB.out.cell (p := ⟨b1, o1 + k * 2, none⟩) (by show b1 < _; omega)).trans ((HB1.out.cell (p := ⟨b1, o1 + k * 2, none⟩) hb1).trans cP0)
        have cD := (HB.out.cell (p := ⟨b1, o1 + k * 2 + 1, none⟩) (by show b1 < _; omega)).trans ((HB1.out.cell (p := ⟨b1, o1 + k * 2 + 1, none⟩) hb1).trans cD0)
        have HRS := Lib.hid (rowV_snoc hxk)
        obtain ⟨L, hL⟩ : ∃ L, rowV (t.take k) = L := ⟨_, rfl⟩
        rw [hL] at HO HRS
        have HOW : Hid (wr.drew.ownsRow w1.heap.size 9 1 (.slice (some ⟨g, 0, none⟩) m cp) m (L.map SV)) := HO.out
        have hone : ∀ u ∈ ([.string sp, .string sd] : List Value), u.oneCell' = true := fun u hu => by
          simp only [List.mem_cons, List.mem_nil_iff, or_false] at hu
          rcases hu with rfl | rfl <;> rfl
        have hm63 : m + 2 ≤ maxLen := by have := hm.out; unfold maxLen; omega
        have hm48 : (m + 2) * 16 ≤ 140737488355328 := by have := hm.out; omega
        have hbase : w1.heap.size ≤ (wr.drew.alloc (.cells #[.string sp, .string sd] 9)).heap.size := by have := HB.out.size; simp; omega
        have HONE := Lib.hid hone
        have HBASE := Lib.hid hbase
        have HM63 := Lib.hid hm63
        have HM48 := Lib.hid hm48
        clear hL hxk hsp hsd cP0 cD0 hone hbase hm63 hm48
        go_wp2
        go_region_law (refine step_append_lies _ rfl (.tmp 15) (.tmp 26) 31 rfl w1.heap.size 9 i0 (.string ⟨#[]⟩) 1 16 Tryd.underlying31 hi hz0 hz1 hz2 rfl (by decide) (.slice (some ⟨g, 0, none⟩) m cp) m (L.map SV) (by simp [Act.eval, Act.put]) (World.ownsRow.alloc HOW.out _) ⟨wr.heap.size, 0, none⟩ 2 2 [.string sp, .string sd] (by simp [Act.eval, Act.put]) rfl (World.news_of_block (heap_alloc_new _ _)) HONE.out (by decide) HM63.out HM48.out HBASE.out _ rfl ?_; intro g2 cp2 w2 hown2 hgrow2 hw2 hlt2)
        all_goals
          have hgb := (HO.out.lt g rfl).1
          have HB2 : Hid (Below w1.heap.size w1 w2) := (HB.out.drew.alloc (by have := HB.out.size; simpa using this) _).grown hgrow2 HBASE.out (fun q hq => by cases hq; exact hgb)
          have HO2 : Hid (w2.ownsRow w1.heap.size 9 1 (.slice (some ⟨g2, 0, none⟩) (m + 2) cp2) (m + 2) ((rowV (t.take (k + 1))).map SV)) := by
            show World.ownsRow _ _ _ _ _ _ _
            rw [HRS.out, List.map_append, List.map_cons, List.map_cons, List.map_nil, ← SV_str, ← SV_str]
            exact hown2
          clear hown2 hgrow2 hw2 hlt2 hgb
          go_wp2
          go_roundw
          case rel => exact ⟨k + 1, g2, m + 2, cp2, by omega, by go_num, rfl, by show m + 2 = _; have := hm.out; omega, HO2.out, HB2.out⟩
          case measure => simp [intOf]; omega
      · obtain rfl : k = n := by omega
        have hall : t.take k = t := List.take_of_length_le (by rw [HN.out]; exact Nat.le_refl _)
        rw [hall] at HO
        have hlen : (rowV t).length = m := by rw [rowV_length, HN.out, hm.out]
        have ho : Owns wr w1.heap.size (.slice (some ⟨g, 0, none⟩) m cp) (rowV t) := by
          unfold Owns
          rw [hlen]; exact HO.out
        have hsr : Pk.SRow wr wr.heap.size (some ⟨g, 0, none⟩) (rowV t) := by
          rw [← hlen] at ho
          exact ho.row
        obtain ⟨X, hX⟩ : ∃ X : ByteArray, X = ⟨(Pk.enc (rowV t)).toArray⟩ := ⟨_, rfl⟩
        have hXl : X.data.toList = Pk.enc (rowV t) := by rw [hX]
        have hrow := Pk.refrow_any (some ⟨g, 0, none⟩) cp wr.heap.size (rowV t) wr hsr (Nat.le_refl _) (by rw [hlen]; have := hm.out; omega) (by have := HE.out; omega)
        rw [hlen, ← hX] at hrow
        have HROW := Lib.hid hrow
        have hsum := fun W => Sh.refsum_any X W (by
          have h1 := HE.out
          have h2 : X.size = (Pk.enc (rowV t)).length := by rw [← hXl]; rfl
          omega)
        rw [hXl, ← HV.out] at hsum
        have HSUM := Lib.hid hsum
        have HBW : Hid (Below w.heap.size w wr) := HB1.out.trans (HB.out.mono (by omega))
        have HRW : Hid (Sh.Row wr w.heap.size 26 (Sh.bvals (List.replicate 32 0))) := HR1.out.below HB.out hs1
        have hsl := sumV_length t
        clear hall hlen ho hsr hX hXl hrow hsum hm HO
        go_wp2_with fail
        refine HROW.out.mono ?_
        rintro e w3 ⟨rfl, hb3⟩
        have HR3 : Hid (Sh.Row w3 w.heap.size 26 (Sh.bvals (List.replicate 32 0))) := HRW.out.below hb3 HRW.out.lt
        have HB3 : Hid (Below w.heap.size w w3) := HBW.out.trans (hb3.mono HBW.out.size)
        clear hb3
        go_wp2_with fail
        refine (HSUM.out _).mono ?_
        rintro e w5 ⟨rfl, hb5⟩
        have HR5 : Hid (Sh.Row w5 w.heap.size 26 (Sh.bvals (List.replicate 32 0))) := HR3.out.below hb5 HR3.out.lt
        have HB5 : Hid (Below w.heap.size w w5) := HB3.out.trans (hb5.mono HB3.out.size)
        clear hb5
        go_wp2_with (refine Sh.wpList_store_all rfl 26 (.tmp 2) (.tmp 31) rfl w.heap.size (Sh.bvals (sumV t)) rfl rfl 26 (Sh.bvals (List.replicate 32 0)) HR5.out ?s1 ?s2 (Sh.bvals_one _) ?_)
        case s1 => rw [Sh.bvals_length, hsl]; kernel_rfl
        case s2 => rw [Sh.bvals_length, Sh.bvals_length, hsl, List.length_replicate]
        intro w7 HR7 HT7
        go_wp2
        refine bodyPost_ret (results_cell_row rfl _ _ w.heap.size 26 (Sh.bvals (sumV t)).toArray (0, 0) _ rfl HR7.out Tryd.underlying26 rfl ?r1) rfl ⟨rfl, Sh.below_turn HB5.out HT7.out (Nat.le_refl _)⟩
        case r1 => rw [List.size_toArray, Sh.bvals_length, hsl]; kernel_rfl
  · have HV : Hid (sumV t = List.replicate 32 0) := by
      show _ = _
      unfold sumV; rw [if_neg (by rw [hc]; exact hc0)]; rfl
    have h0i : ((c : Int) != 0) = true := by simp; omega
    clear hx hn hf hc he hc0
    go_enter Tryd.func7, Tryd.ntmps7
    go_wp2_with fail
    refine (HT.out _ ((Below.refl _ _).alloc (Nat.le_refl _) _)).mono ?_
    rintro e w1 ⟨rfl, hb1⟩
    simp only [World.size_alloc] at hb1
    have HR1 : Hid (Sh.Row w1 w.heap.size 26 (Sh.bvals (List.replicate 32 0))) := (Sh.Row.new_at w _ _ _ rfl rfl).below hb1 (by omega)
    have HB1 : Hid (Below w.heap.size w w1) := ((Below.refl _ _).alloc (Nat.le_refl _) _).trans (hb1.mono (by omega))
    clear hb1
    go_wp2_with (first
      | (refine Sh.wpList_buildTo rfl 26 _ rfl (some 8) rfl (Sh.bvals (List.replicate 32 0)).toArray (by kernel_rfl) ?_)
      | (refine Sh.wpList_store_all rfl 26 (.tmp 2) (.tmp 8) rfl w.heap.size (Sh.bvals (List.replicate 32 0)) rfl rfl 26 (Sh.bvals (List.replicate 32 0)) HR1.out (by kernel_rfl) rfl (Sh.bvals_one _) ?_))
    intro w7 HR7 HT7
    go_wp2
    rw [HV.out]
    refine bodyPost_ret (results_cell_row rfl _ _ w.heap.size 26 (Sh.bvals (List.replicate 32 0)).toArray (0, 0) _ rfl HR7.out Tryd.underlying26 rfl ?r0) rfl ⟨rfl, Sh.below_turn HB1.out HT7.out (Nat.le_refl _)⟩
    case r0 => kernel_rfl
end Tr
end Go.Proofs.YtkldgfdfpanelaaDoor
