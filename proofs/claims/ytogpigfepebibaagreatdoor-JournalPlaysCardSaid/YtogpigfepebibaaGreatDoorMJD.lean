/-
  Layer 8 (journal): the walk of the document's Scan.
-/
import Derived.Test.YtogpigfepebibaaGreatDoorMJA
import Derived.Deep.RegionWith
import Derived.Laws.Strings2
namespace Go.Proofs.YtogpigfepebibaaGreatDoor
namespace Jl
open Go.RowKit Go.ChangeShapes Kr Dk

/-- The first k bytes of a length. -/
def nk (T : Bs) : Nat → Nat
  | 0 => 0
  | k + 1 => 256 * nk T k + (T.getD k 0).toNat
theorem nk_four (T : Bs) : nk T 4 = num4 T := by simp [nk, num4]
theorem nk_le (T : Bs) : ∀ k, nk T k < 256 ^ k
  | 0 => by simp [nk]
  | k + 1 => by
    have h := nk_le T k
    have h2 := (T.getD k 0).toNat_lt
    unfold nk
    rw [Nat.pow_succ]
    omega
theorem nk_low (T : Bs) {k : Nat} (h : k ≤ 3) : nk T k < 16777216 :=
  Nat.lt_of_lt_of_le (nk_le T k) (show 256 ^ k ≤ 256 ^ 3 from Nat.pow_le_pow_right (by decide) h)
/-- A scan that has got to a place. -/
structure Scn (D : Bs → Bs) (b : Bs) (O : List Bs) (a : Nat) : Prop where
  recs : (scan D b).1 = O ++ (scan D (b.drop a)).1
  len : (scan D b).2 = a + (scan D (b.drop a)).2
  le : a ≤ b.length
  few : O.length ≤ a
theorem Scn.zero (D : Bs → Bs) (b : Bs) : Scn D b [] 0 := ⟨by rw [List.nil_append, List.drop_zero], by rw [Nat.zero_add, List.drop_zero], Nat.zero_le _, Nat.zero_le _⟩
theorem Scn.step {D : Bs → Bs} {b : Bs} {O : List Bs} {a : Nat} (h : Scn D b O a) (hf : Front D (b.drop a)) : Scn D b (O ++ [(b.drop (a + 12)).take (num4 (b.drop a))]) (a + 12 + num4 (b.drop a)) := by
  have h3 := hf.2.2.1
  rw [List.length_drop] at h3
  have hs := scan_step (D := D) (b.drop a)
  rw [if_pos hf, List.drop_drop, List.drop_drop, ← Nat.add_assoc] at hs
  refine ⟨?_, ?_, ?_, ?_⟩
  · rw [h.recs, hs, List.append_assoc]; rfl
  · rw [h.len, hs]
    show a + (12 + _ + _) = _
    omega
  · have := h.le; have := hf.1; rw [List.length_drop] at this; omega
  · rw [List.length_append, List.length_singleton]; have := h.few; omega
theorem Scn.done {D : Bs → Bs} {b : Bs} {O : List Bs} {a : Nat} (h : Scn D b O a) (hf : ¬ Front D (b.drop a)) : scan D b = (O, a) := by
  have hs := scan_not hf
  have h1 := h.recs
  have h2 := h.len
  rw [hs] at h1 h2
  rw [List.append_nil] at h1
  exact Prod.ext h1 h2
theorem toB_extract (b : ByteArray) (i n : Nat) : toB (b.extract i (i + n)) = ((toB b).drop i).take n := by
  show (b.extract i (i + n)).data.toList = _
  simp [ByteArray.data_extract, Array.toList_extract, List.extract_eq_take_drop]
theorem str_index (s : ByteArray) (n : Nat) (i : Int) (hi : i = (n : Int)) (hn : n < s.size) (W : World) :
    (Instr.index 9 (.string s) (.int .i64 i)).run Tryz.prog W = .ok (.int .u8 (((toB s).getD n 0).toNat : Int)) W := by
  subst hi
  have hd : s[n]? = some ((toB s).getD n 0) := by
    rw [getElem?_pos s n hn, List.getD_eq_getElem?_getD, List.getElem?_eq_getElem (by rw [toB_length]; exact hn)]; rfl
  simp [Instr.index, asIntOf, run_underlying Tryz.underlying9, hd]
theorem cut_run (b : ByteArray) (i j : Int) (m n : Nat) (hi : i = (m : Int)) (hj : j = ((m + n : Nat) : Int)) (h2 : m + n ≤ b.size) (W : World) :
    (Instr.slice 9 (.string b) (some (.int .i64 i)) (some (.int .i64 j)) none).run Tryz.prog W = .ok (.string (b.extract m (m + n))) W := by
  subst hi hj
  rw [run_slice_string W 9 b .i64 .i64 _ _ Tryz.underlying9 (by omega) (by omega) (by omega)]
  rfl
theorem scan_recs {b : ByteArray} {O : List ByteArray} {a : Nat} (h : Scn Sh.dig (toB b) (O.map toB) a) (hf : ¬ Front Sh.dig ((toB b).drop a)) : recsV Sh.dig b = O ∧ lenV Sh.dig b = a := by
  have hs := h.done hf
  unfold recsV lenV
  rw [hs]
  refine ⟨?_, rfl⟩
  show (O.map toB).map ofB = O
  rw [List.map_map]
  conv => rhs; rw [← List.map_id O]
  exact List.map_congr_left (fun x _ => ofB_toB x)

set_option maxRecDepth 100000 in
set_option maxHeartbeats 8000000 in
theorem refscan_any (b : ByteArray) (w : World) (hb : b.size ≤ 90000) :
    Calls Tryz.prog 31 #[.string b] w fun e w' => ∃ A' cap', e = .returned (.tuple #[.slice A' (recsV Sh.dig b).length cap', .int .i64 (lenV Sh.dig b : Int)]) ∧ OwnsN w' w.heap.size (.slice A' (recsV Sh.dig b).length cap') (recsV Sh.dig b) ∧ Below w.heap.size w w' := by
  obtain ⟨i0, hi, hz0, hz1, hz2⟩ := info_parts strInfo
  have HBL : Hid ((toB b).length = b.size) := rfl
  have HO0 : Hid (OwnsN (w.alloc (.cells #[] 9)) w.heap.size (.slice (some ⟨w.heap.size, 0, none⟩) 0 0) []) := made_at w _ rfl (Nat.le_refl _)
  have HB0 : Hid (Below w.heap.size w (w.alloc (.cells #[] 9))) := (Below.refl _ _).alloc (Nat.le_refl _) _
  go_enter Tryz.func31, Tryz.ntmps31
  go_wp2_with (at_builtin; fail)
  go_loopw [4, 5] (fun o i wr => ∃ (a cp : Nat) (A' : Option Addr) (O : List ByteArray), a ≤ b.size ∧ O.length ≤ a ∧ i = .int .i64 a ∧ o = .slice A' O.length cp ∧ Hid (Scn Sh.dig (toB b) (O.map toB) a) ∧ Hid (OwnsN wr w.heap.size (.slice A' O.length cp) O) ∧ Hid (Below w.heap.size w wr)) (fun _ i _ => b.size - (intOf i).toNat)
  case atStart => exact ⟨0, 0, _, [], Nat.zero_le _, Nat.le_refl _, rfl, rfl, Scn.zero _ _, HO0.out, HB0.out⟩
  case round =>
    obtain ⟨a, cp, A', O, ha, hO, rfl, rfl, HS, HO, HB⟩ := hrel
    clear HO0 HB0
    have hwr := HB.out.size
    obtain ⟨T, hT⟩ : ∃ T, (toB b).drop a = T := ⟨_, rfl⟩
    have HT := Lib.hid hT
    have HTL : Hid (T.length = b.size - a) := by show _ = _; rw [← hT, List.length_drop]; rfl
    clear hT
    have HEND : Hid (¬ Front Sh.dig T → recsV Sh.dig b = O ∧ lenV Sh.dig b = a) := fun h => scan_recs HS.out (by rw [HT.out]; exact h)
    by_cases hlt : a + 12 ≤ b.size
    · have hki : (a : Int) + 12 ≤ b.size := by omega
      go_wp2
      go_loopw [6, 7] (fun s i wr2 => ∃ (k : Nat), k ≤ 4 ∧ i = .int .i64 k ∧ s = .int .i64 (nk T k : Int) ∧ wr2 = wr) (fun _ i _ => 4 - (intOf i).toNat)
      case atStart => exact ⟨0, by omega, rfl, rfl, rfl⟩
      case round =>
        obtain ⟨k, hk, rfl, rfl, rfl⟩ := hrel
        by_cases hl2 : k < 4
        · have hk2 : (k : Int) < 4 := by omega
          have hlow := nk_low T (show k ≤ 3 by omega)
          have hx0 := str_index b (a + k) ((a : Int) + k) (by omega) (by omega)
          have hgd : (toB b).getD (a + k) 0 = T.getD k 0 := by
            rw [← HT.out, List.getD_eq_getElem?_getD, List.getD_eq_getElem?_getD, List.getElem?_drop]
          rw [hgd] at hx0
          have HNK : Hid (nk T (k + 1) = 256 * nk T k + (T.getD k 0).toNat) := rfl
          have hc := (T.getD k 0).toNat_lt
          generalize (T.getD k 0).toNat = c at hx0 HNK hc
          clear hgd
          go_wp2
          go_roundw
          case rel => exact ⟨k + 1, by omega, by go_num, by rw [HNK.out]; go_num, by trivial⟩
          case measure => simp [intOf]; omega
        · obtain rfl : k = 4 := by omega
          rw [nk_four T]
          have hnb : num4 T < 4294967296 := by rw [← nk_four]; exact nk_le T 4
          obtain ⟨n, hn⟩ : ∃ n, num4 T = n := ⟨_, rfl⟩
          rw [hn] at hnb ⊢
          have HN := Lib.hid hn
          clear hn
          by_cases hm : 1048576 < n
          · have hmi : (1048576 : Int) < n := by omega
            have HE : Hid (recsV Sh.dig b = O ∧ lenV Sh.dig b = a) := HEND.out (fun h => by have := h.2.1; rw [HN.out] at this; have e : most = 1048576 := rfl; omega)
            go_wp2
            go_ret2
            rw [HE.out.1, HE.out.2]
            exact ⟨A', cp, rfl, HO.out, HB.out⟩
          · have hmi : ¬ (1048576 : Int) < n := by omega
            by_cases hm2 : b.size < a + 12 + n
            · have hmi2 : (b.size : Int) < (a : Int) + 12 + n := by omega
              have HE : Hid (recsV Sh.dig b = O ∧ lenV Sh.dig b = a) := HEND.out (fun h => by have := h.2.2.1; rw [HN.out, HTL.out] at this; omega)
              go_wp2
              go_ret2
              rw [HE.out.1, HE.out.2]
              exact ⟨A', cp, rfl, HO.out, HB.out⟩
            · have hmi2 : ¬ (b.size : Int) < (a : Int) + 12 + n := by omega
              have hcut := cut_run b ((a : Int) + 12) ((a : Int) + 12 + n) (a + 12) n (by omega) (by omega) (by omega)
              have hcut2 := cut_run b (a : Int) ((a : Int) + 12) a 12 (by omega) (by omega) (by omega)
              have hrs : (b.extract (a + 12) (a + 12 + n)).size = n := by rw [ByteArray.size_extract]; omega
              have HR : Hid (toB (b.extract (a + 12) (a + 12 + n)) = ((toB b).drop (a + 12)).take n) := toB_extract b (a + 12) n
              have HR2 : Hid (toB (b.extract a (a + 12)) = T.take 12) := by show _ = _; rw [toB_extract b a 12, HT.out]
              generalize b.extract (a + 12) (a + 12 + n) = r at hcut hrs HR
              generalize b.extract a (a + 12) = g at hcut2 HR2
              have HHD := Lib.hid (fun W => refhead_any r W (by omega))
              have heq := eqB (ofB (head Sh.dig (toB r))) g
              have HFR : Hid (Front Sh.dig T ↔ ofB (head Sh.dig (toB r)) = g) := by
                have e1 : ((toB b).drop (a + 12)) = T.drop 12 := by rw [← HT.out, List.drop_drop]
                constructor
                · intro h
                  have h4 := h.2.2.2
                  rw [HN.out, ← e1, ← HR.out, ← HR2.out] at h4
                  rw [h4, ofB_toB]
                · intro h
                  refine ⟨by rw [HTL.out]; omega, by rw [HN.out]; have e : most = 1048576 := rfl; omega, by rw [HN.out, HTL.out]; omega, ?_⟩
                  rw [HN.out, ← e1, ← HR.out, ← HR2.out, ← h, toB_ofB]
              generalize ofB (head Sh.dig (toB r)) = z at HHD heq HFR
              have a1 : IntKind.i64.wrap ((a : Int) + 12) = (a : Int) + 12 := IntWalk.i64_in _ (by omega)
              go_wp2
              go_region_with (go_at_call 55; refine (HHD.out _).mono ?_; rintro e w1 ⟨rfl, hb1⟩)
              all_goals
                have HB1 : Hid (Below w.heap.size w w1) := HB.out.drew.trans (hb1.mono hwr)
                have HO1 : Hid (OwnsN w1 w.heap.size (.slice A' O.length cp) O) := HO.out.keep ((Below.refl _ _).drew.trans (hb1.mono (Nat.le_refl _)))
                have hw1 := HB1.out.size
                clear hb1 HHD heq HO HB
                by_cases hzg : z = g
                · have HF : Hid (Front Sh.dig T) := HFR.out.2 hzg
                  rw [decide_eq_true hzg]
                  clear hzg HFR HEND hcut2 hcut a1
                  have HS2 : Hid (Scn Sh.dig (toB b) ((O ++ [r]).map toB) (a + 12 + n)) := by
                    have := HS.out.step (by rw [HT.out]; exact HF.out)
                    rw [HT.out, HN.out, ← HR.out] at this
                    rw [List.map_append]
                    exact this
                  go_wp2_with (at_builtin; refine wpList_append_own _ rfl _ _ 34 rfl w.heap.size 9 i0 (.string ⟨#[]⟩) 1 16 Tryz.underlying34 hi hz0 hz1 hz2 rfl (by decide) _ O.length (O.flatMap encN) rfl ?c0a ⟨w1.heap.size, 0, none⟩ 1 1 [.string r] rfl rfl ?c1a ?c2a ?c3a ?c4a ?c5a ?_)
                  case c0a => have := fun o1 => HO1.out.alloc o1; unfold OwnsK at this; exact this _
                  case c2a => intro u hu; obtain rfl := List.mem_singleton.1 hu; rfl
                  case c3a => simp only [maxLen]; omega
                  case c4a => omega
                  case c5a => simp; omega
                  · intro j u hj
                    rw [Addr.add_lit, Nat.zero_add]
                    exact new_cell w1 (encN r) _ rfl hj
                  intro v' w2 hown' hgrow _
                  have hO2 : OwnsN w2 w.heap.size v' (O ++ [r]) := OwnsK.appended rfl hown'
                  obtain ⟨A2, cap2, e⟩ := hO2.form
                  subst e
                  have HW2 := Lib.hid ((HB1.out.alloc hw1 _).grown hgrow (by simp; omega) (fun q hq => (World.ownsRow.lt HO1.out q hq).1))
                  have HO2 := Lib.hid hO2
                  have hlo : (O ++ [r]).length ≤ a + 12 + n := by rw [List.length_append, List.length_singleton]; omega
                  clear hO2 hown' hgrow
                  go_wp2
                  go_roundw
                  case rel => exact ⟨a + 12 + n, cap2, A2, O ++ [r], by omega, hlo, by go_num, rfl, HS2.out, HO2.out, HW2.out⟩
                  case measure => simp [intOf]; omega
                · have HE : Hid (recsV Sh.dig b = O ∧ lenV Sh.dig b = a) := HEND.out (fun h => hzg (HFR.out.1 h))
                  rw [decide_eq_false hzg]
                  clear hzg
                  go_wp2
                  go_ret2
                  rw [HE.out.1, HE.out.2]
                  exact ⟨A', cp, rfl, HO1.out, HB1.out⟩
    · have hki : ¬ (a : Int) + 12 ≤ b.size := by omega
      have HE : Hid (recsV Sh.dig b = O ∧ lenV Sh.dig b = a) := HEND.out (fun h => by have := h.1; rw [HTL.out] at this; omega)
      go_wp2
      go_ret2
      rw [HE.out.1, HE.out.2]
      exact ⟨A', cp, rfl, HO.out, HB.out⟩
end Jl
end Go.Proofs.YtogpigfepebibaaGreatDoor
