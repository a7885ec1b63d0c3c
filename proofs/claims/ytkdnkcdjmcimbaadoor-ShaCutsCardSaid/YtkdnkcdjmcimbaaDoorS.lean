/-
  Layer 2 (sha): the walk of the law ShaCuts.
-/
import Derived.Test.YtkdnkcdjmcimbaaDoorR
namespace Go.Proofs.YtkdnkcdjmcimbaaDoor
namespace Sh
open Go.RowKit

theorem cut_front (X : ByteArray) (n : Nat) (hn : n ≤ X.size) (W : World) :
    (Instr.slice 9 (.string X) none (some (.int .i64 (n : Int))) none).run Tryd.prog W = .ok (.string (X.extract 0 n)) W := by
  rw [run_slice_string_to_if (P := Tryd.prog) W 9 X .i64 (n : Int) Tryd.underlying9]
  rw [if_pos (by omega)]
  rfl

set_option maxRecDepth 100000 in
set_option maxHeartbeats 4000000 in
theorem cuts_law (A : Option Addr) (cap : Nat) (xs : List Bs) (w : World) (hx : SRow w w.heap.size A xs) (hn : xs.length ≤ 140737488355328) (htab : Tab w) (hb0 : 0 < w.heap.size) :
    Calls Tryd.prog 4 #[.slice A xs.length cap] w fun e w' => e = .returned (.bool true) ∧ Below w.heap.size w w' := by
  have HT := Lib.hid htab
  have HX := Lib.hid hx
  have hj := joined_any A cap w.heap.size xs w hx hn
  obtain ⟨n, hln⟩ : ∃ n, xs.length = n := ⟨_, rfl⟩
  have HL := Lib.hid hln
  rw [hln] at hj hn ⊢
  have HJ := Lib.hid hj
  have hng := no_guard
  clear htab hx hj hln
  go_enter Tryd.func4, Tryd.ntmps4
  go_wp2_with fail
  refine HJ.out.mono ?_
  rintro e w' ⟨X, b, rfl, hb, rfl⟩
  cases b
  · clear hb
    go_wp2_with fail
    refine (fixed_any w HT.out hb0).mono ?_
    rintro e w1 ⟨rfl, hb1⟩
    have HB := Lib.hid hb1
    clear hb1
    go_wp2
    go_ret
    exact ⟨rfl, HB.out⟩
  · obtain ⟨hX, h20, h300⟩ := hb rfl
    have HXF := Lib.hid hX
    have HX3 := Lib.hid h300
    have hXs : X.size = xs.flatten.length := by rw [← hX, data_length]
    have hX300 : X.size ≤ 300 := by omega
    have hn20 : n ≤ 20 := by have := HL.out; omega
    have HXS := Lib.hid hXs
    clear hb hX h20 h300 hXs
    have hneq0 := neq_same (dig []) (dig_length _)
    go_wp2_with fail
    refine (new_any w).mono ?_
    rintro e w1 ⟨rfl, hh1, hb1, hs1⟩
    have HH1 := Lib.hid hh1
    have HB1 := Lib.hid hb1
    clear hh1 hb1
    go_wp2_with fail
    refine (hsum_any w.heap.size [] w1 HH1.out (HT.out.below HB1.out hb0) (by omega) (by decide)).mono ?_
    rintro e w2 ⟨rfl, hb2⟩
    have hs2 := hb2.size
    have HH2 : Hid (HashAt w2 w.heap.size []) := by
      obtain ⟨r, h1, h2⟩ := HH1.out
      exact ⟨r, h1, h2.below hb2 hs1⟩
    have HB2 := Lib.hid (HB1.out.trans (hb2.mono (Nat.le_of_lt hs1)))
    clear hb2
    go_wp2_with fail
    refine (refsum_any ⟨#[]⟩ w2 (by decide)).mono ?_
    rintro e w3 ⟨rfl, hb3⟩
    have hs3 := hb3.size
    have HH3 : Hid (HashAt w3 w.heap.size []) := by
      obtain ⟨r, h1, h2⟩ := HH2.out
      exact ⟨r, h1, h2.below hb3 (by omega)⟩
    have HB3 := Lib.hid (HB2.out.trans (hb3.mono (by omega)))
    clear hb3 HH1 HH2 HB1 HB2
    rw [show (⟨#[]⟩ : ByteArray).data.toList = [] from rfl]
    go_wp2
    clear hneq0
    go_loopw [6, 7] (fun m i wr => ∃ k : Nat, k ≤ n ∧ i = .int .i64 k ∧ m = .int .i64 ((xs.take k).flatten.length : Nat) ∧ Hid (HashAt wr w.heap.size (xs.take k).flatten) ∧ Hid (Below w.heap.size w wr)) (fun _ i _ => n - (intOf i).toNat)
    case atStart => exact ⟨0, Nat.zero_le _, rfl, rfl, HH3, HB3⟩
    case round =>
      obtain ⟨k, hk, rfl, rfl, HH, HB⟩ := hrel
      have hwr := HB.out.size
      have hgl : w.heap.size < wr.heap.size := by obtain ⟨r, _, h2⟩ := HH.out; exact h2.lt
      by_cases hlt : k < n
      · have hki : (k : Int) < n := by omega
        have hxk : xs[k]? = some (xs[k]'(by rw [HL.out]; exact hlt)) := List.getElem?_eq_getElem _
        generalize xs[k]'(by rw [HL.out]; exact hlt) = x at hxk
        obtain ⟨b, o, s, rfl, hbl, hsx, hc0⟩ := HX.out k x hxk
        have hc : wr.cell? ⟨b, o + k, none⟩ = some (.string s) := (HB.out.cell (p := ⟨b, o + k, none⟩) hbl).trans hc0
        have hfs := flat_snoc xs k x hxk
        have hft := flat_take xs (k + 1)
        have hlen : (xs.take (k + 1)).flatten.length = (xs.take k).flatten.length + s.size := by
          rw [hfs, List.length_append, ← hsx, data_length]
        rw [← hsx] at hfs
        have hft3 : (xs.take (k + 1)).flatten.length ≤ 300 := by have := HX3.out; omega
        obtain ⟨m, hm⟩ : ∃ m, (xs.take k).flatten.length = m := ⟨_, rfl⟩
        have hms : m + s.size ≤ 300 := by omega
        have hmi : (m : Int) + s.size ≤ 300 := by omega
        have hmX : (m : Int) + s.size ≤ X.size := by have := HXS.out; omega
        have hadd := add_any w.heap.size (xs.take k).flatten s wr w.heap.size HH.out (HT.out.below HB.out hb0) (Nat.le_refl _) hb0 (by omega)
        rw [← hfs] at hadd
        have hcut := cut_front X (m + s.size) (by omega)
        rw [show ((m + s.size : Nat) : Int) = (m : Int) + s.size by omega] at hcut
        have hfr : (X.extract 0 (m + s.size)).data.toList = (xs.take (k + 1)).flatten := by
          have e : (X.extract 0 (m + s.size)).data.toList = X.data.toList.take (m + s.size) := by simp
          rw [e, HXF.out, ← hm, ← hlen]
          have e2 : xs.flatten = (xs.take (k + 1)).flatten ++ (xs.drop (k + 1)).flatten := by rw [← List.flatten_append, List.take_append_drop]
          rw [e2, List.take_left]
        rw [hm]
        have HADD := Lib.hid hadd
        have HLN := Lib.hid hlen
        have HFR := Lib.hid hfr
        have HM := Lib.hid hm
        clear hc0 hfs hft hadd hxk hsx hlen hfr hm
        go_wp2_with fail
        refine HADD.out.mono ?_
        rintro e w4 ⟨rfl, hh4, hb4⟩
        have hb4' : Below w.heap.size w w4 := HB.out.trans hb4
        have hc4 : w4.cell? ⟨b, o + k, none⟩ = some (.string s) := (hb4.cell (p := ⟨b, o + k, none⟩) hbl).trans hc
        have hs4 := hb4.size
        have hgl4 : w.heap.size < w4.heap.size := by omega
        have hs4' : w.heap.size ≤ w4.heap.size := by omega
        have HH4 := Lib.hid hh4
        have HB4 := Lib.hid hb4'
        clear hh4 hb4 hb4' HADD hc
        by_cases h3 : k % 3 = 0
        · have h3a : ((k : Int) % 3 == 0) = true := by rw [beq_iff_eq]; omega
          have h3b : ((k : Int).tmod 3 == 0) = true := by rw [Int.tmod_eq_emod_of_nonneg (by omega)]; exact h3a
          have hneq := neq_same (dig (xs.take (k + 1)).flatten) (dig_length _)
          have href : ∀ W, Calls Tryd.prog 11 #[.string (X.extract 0 (m + s.size))] W fun e w' => e = .returned (.agg (bvals (dig (xs.take (k + 1)).flatten)).toArray) ∧ Below W.heap.size W w' := fun W => by
            have h := refsum_any (X.extract 0 (m + s.size)) W (by rw [ByteArray.size_extract]; omega)
            rw [HFR.out] at h
            exact h
          have HREF := Lib.hid href
          clear href h3
          have hn5 : (xs.take (k + 1)).flatten.length ≤ 100000 := by omega
          obtain ⟨L, hL⟩ : ∃ L, L = (xs.take (k + 1)).flatten := ⟨_, rfl⟩
          rw [← hL] at hneq HREF HH4 hn5
          have HLL := Lib.hid hL
          clear hL
          go_wp2
          go_region_held3 (fun w' => HashAt w' w.heap.size L ∧ Below w.heap.size w w')
            (first | assumption | exact ⟨HH4.out, HB4.out.drew⟩)
            ((first
              | (go_simp; go_at_call 13; refine (hsum_any w.heap.size L _ (by exact HH4.out) (by exact HT.out.below HB4.out.drew hb0) (by simp; omega) hn5).mono ?_; rintro e w5 ⟨rfl, hb5⟩
                 have hs5 := hb5.size
                 have hS5 : HashAt w5 w.heap.size L ∧ Below w.heap.size w w5 := by
                   refine ⟨?_, HB4.out.drew.trans (hb5.mono hs4')⟩
                   obtain ⟨r, h1, h2⟩ := HH4.out
                   exact ⟨r, h1, Row.below (w := w4.drew) h2 hb5 hgl4⟩
                 have H5 := Lib.hid hS5)
              | (go_simp; go_at_call 11; refine (HREF.out _).mono ?_; rintro e w6 ⟨rfl, hb6⟩
                 have hs6 := hb6.size
                 have hs45 : w4.heap.size ≤ w5.heap.size := hs5
                 have hS6 : HashAt w6 w.heap.size L ∧ Below w.heap.size w w6 := by
                   refine ⟨?_, H5.out.2.trans (hb6.mono (by omega))⟩
                   obtain ⟨r, h1, h2⟩ := H5.out.1
                   exact ⟨r, h1, h2.below hb6 (by omega)⟩
                 have H6 := Lib.hid hS6)))
          have hh6 : HashAt w6 w.heap.size (xs.take (k + 1)).flatten := by rw [← HLL.out]; exact H6.out.1
          have HH6 := Lib.hid hh6
          have HB6 := Lib.hid H6.out.2
          have HLN' : Hid ((m : Int) + s.size = (((xs.take (k + 1)).flatten.length : Nat) : Int)) := by
            show (m : Int) + s.size = _
            rw [HLN.out, HM.out]; omega
          clear hh6 H6 H5 hS5 hS6 hneq HREF
          go_wp2
          go_roundw
          case rel => exact ⟨k + 1, by omega, by go_num, by rw [HLN'.out], HH6, HB6⟩
          case measure => simp [intOf]; omega
        · have h3a : ((k : Int) % 3 == 0) = false := by rw [beq_eq_false_iff_ne]; omega
          have h3b : ((k : Int).tmod 3 == 0) = false := by rw [Int.tmod_eq_emod_of_nonneg (by omega)]; exact h3a
          have HLN' : Hid ((m : Int) + s.size = (((xs.take (k + 1)).flatten.length : Nat) : Int)) := by
            show (m : Int) + s.size = _
            rw [HLN.out, HM.out]; omega
          clear h3
          go_wp2
          go_quiet (fail)
          go_wp2
          go_roundw
          case rel => exact ⟨k + 1, by omega, by go_num, by rw [HLN'.out], HH4, below_drewN HB4.out _⟩
          case measure => simp [intOf]; omega
      · -- behind the loop
        have hall : (xs.take k).flatten = xs.flatten := flat_all xs k (by rw [HL.out]; omega)
        rw [hall]
        have hh := HH.out
        rw [hall] at hh
        have HHF := Lib.hid hh
        have heq := eq_same (dig xs.flatten) (dig_length _)
        have hfl : xs.flatten.length ≤ 100000 := by have := HX3.out; omega
        have hsum := fun W : World => sum_any (some ⟨W.heap.size, 0, none⟩) 1 [X.data.toList] (W.alloc (.cells #[.string X] 9)) (by
          rintro (_ | j) x hx
          · simp only [List.getElem?_cons_zero, Option.some.injEq] at hx
            subst hx
            refine ⟨W.heap.size, 0, X, rfl, by simp, rfl, ?_⟩
            exact cell_new W _ _ _ rfl
          · simp at hx) (by simp) (by simp only [List.flatten_cons, List.flatten_nil, List.append_nil]; rw [HXF.out]; exact hfl)
        simp only [List.flatten_cons, List.flatten_nil, List.append_nil] at hsum
        rw [HXF.out] at hsum
        have href : ∀ W, Calls Tryd.prog 11 #[.string X] W fun e w' => e = .returned (.agg (bvals (dig xs.flatten)).toArray) ∧ Below W.heap.size W w' := fun W => by
          have h := refsum_any X W (by omega)
          rw [HXF.out] at h
          exact h
        have HSUM := Lib.hid hsum
        have HREF := Lib.hid href
        clear hall hh HH href hsum
        go_wp2_with fail
        refine (hsum_any w.heap.size xs.flatten wr HHF.out (HT.out.below HB.out hb0) (by omega) hfl).mono ?_
        rintro e w4 ⟨rfl, hb4⟩
        have hs4 := hb4.size
        have hh4 : HashAt w4 w.heap.size xs.flatten := by
          obtain ⟨r, h1, h2⟩ := HHF.out
          exact ⟨r, h1, h2.below hb4 hgl⟩
        have HB4 := Lib.hid (HB.out.trans (hb4.mono hwr))
        have HH4 := Lib.hid hh4
        clear hb4 hh4 HHF
        go_wp2_with fail
        refine (HSUM.out w4 (HT.out.below (HB4.out.alloc (by omega) _) hb0) (by simp)).mono ?_
        rintro e w5 ⟨rfl, hb5⟩
        have hs5 := hb5.size
        simp only [World.size_alloc] at hb5 hs5
        have hh5 : HashAt w5 w.heap.size xs.flatten := by
          obtain ⟨r, h1, h2⟩ := HH4.out
          exact ⟨r, h1, (h2.alloc _).below hb5 (by omega)⟩
        have HB5 := Lib.hid ((HB4.out.alloc (by omega) _).trans (hb5.mono (by omega)))
        have HH5 := Lib.hid hh5
        clear hb5 hh5 HH4
        go_wp2_with fail
        refine (hsum_any w.heap.size xs.flatten w5 HH5.out (HT.out.below HB5.out hb0) (by omega) hfl).mono ?_
        rintro e w6 ⟨rfl, hb6⟩
        have hs6 := hb6.size
        have HB6 := Lib.hid (HB5.out.trans (hb6.mono (by omega)))
        clear hb6
        go_wp2_with fail
        refine (HREF.out w6).mono ?_
        rintro e w7 ⟨rfl, hb7⟩
        have hs7 := hb7.size
        have HB7 := Lib.hid (HB6.out.trans (hb7.mono (by omega)))
        clear hb7
        go_wp2_with fail
        refine (fixed_any w7 (HT.out.below HB7.out hb0) (by omega)).mono ?_
        rintro e w8 ⟨rfl, hb8⟩
        have HB8 := Lib.hid (HB7.out.trans (hb8.mono (by omega)))
        clear hb8
        go_wp2
        go_ret
        exact ⟨rfl, HB8.out⟩
end Sh
end Go.Proofs.YtkdnkcdjmcimbaaDoor
