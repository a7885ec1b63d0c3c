/-
  Layer 6 (blobs): the walks of the document's Size, Drop.
-/
import Derived.Test.YtiilmgbobjagkaaDoorBA
import Derived.OwnWalk
namespace Go.Proofs.YtiilmgbobjagkaaDoor
namespace Bl
open Go.RowKit Kr

theorem sizeV_snoc {l : List Bb} {k : Nat} {x : Bb} (hx : l[k]? = some x) : sizeV (l.take (k + 1)) = sizeV (l.take k) + x.2.length := by
  unfold sizeV
  rw [Sh.take_snoc l k x hx, List.map_append, List.sum_append]
  simp
theorem sizeV_take (l : List Bb) (k : Nat) : sizeV (l.take k) ≤ sizeV l := by
  have e : sizeV l = sizeV (l.take k) + sizeV (l.drop k) := by
    unfold sizeV
    rw [← List.sum_append, ← List.map_append, List.take_append_drop]
  omega

set_option maxRecDepth 100000 in
set_option maxHeartbeats 4000000 in
theorem size_any (A : Option Addr) (cap B n z : Nat) (l : List Bb) (hz : sizeV l = z) (hzb : z ≤ 1000000000) (w : World) (hn : l.length = n) (hnm : n ≤ 100000) (hx : BRow w B A l) :
    Calls Tryd.prog 27 #[.slice A n cap] w fun e w' => e = .returned (.int .i64 z) ∧ w' = w := by
  have HX := Lib.hid hx
  have HN := Lib.hid hn
  have HZ := Lib.hid hz
  clear hx hn hz
  go_enter Tryd.func27, Tryd.ntmps27
  go_wp2
  go_loopw [3, 4] (fun s i wr => ∃ k y : Nat, k ≤ n ∧ i = .int .i64 k ∧ s = .int .i64 y ∧ Hid (sizeV (l.take k) = y) ∧ wr = w) (fun _ i _ => n - (intOf i).toNat)
  case atStart => exact ⟨0, 0, Nat.zero_le _, rfl, rfl, rfl, rfl⟩
  case round =>
    obtain ⟨k, y, hk, rfl, rfl, HY, rfl⟩ := hrel
    by_cases hlt : k < n
    · have hki : (k : Int) < n := by omega
      have hxk : l[k]? = some (l[k]'(by rw [HN.out]; exact hlt)) := List.getElem?_eq_getElem _
      generalize l[k]'(by rw [HN.out]; exact hlt) = x at hxk
      obtain ⟨b1, o1, rfl, hb1, hcs⟩ := HX.out k x hxk
      obtain ⟨X, hX⟩ : ∃ X : ByteArray, X.data.toList = x.2 := ⟨⟨x.2.toArray⟩, by simp⟩
      have cD : wr.cell? ⟨b1, o1 + k * 33 + 32, none⟩ = some (.string X) := by
        rw [hcs 32 _ (data_at x), ← hX, ← SV_str]
      have hXs : X.size = x.2.length := by rw [← hX]; rfl
      have hsn := sizeV_snoc hxk
      have hst := sizeV_take l (k + 1)
      have HS2 : Hid (sizeV (l.take (k + 1)) = y + X.size) := by show _ = _; rw [hsn, HY.out, hXs]
      have hyb : y + X.size ≤ 1000000000 := by have h1 := HS2.out; have h2 := HZ.out; omega
      clear hxk hcs hX hXs hsn hst
      go_wp2
      go_roundw
      case rel => exact ⟨k + 1, y + X.size, by omega, by go_num, by go_num, HS2.out, trivial⟩
      case measure => simp [intOf]; omega
    · obtain rfl : k = n := by omega
      have HE : Hid (y = z) := by
        show _ = _
        rw [← HY.out, ← HZ.out, List.take_of_length_le (by rw [HN.out]; omega)]
      go_wp2
      go_ret
      exact ⟨by rw [← HE.out]; rfl, rfl⟩

theorem blobInfo : (Tryd.prog.info? 37).map (fun i => (i.zero, i.size, i.bytes)) = some (some (.agg (encB (List.replicate 32 0, [])).toArray), 33, 48) := by kernel_rfl
abbrev OwnsB (w : World) (base : Nat) (v : Value) (l : List Bb) : Prop := OwnsK encB 33 37 w base v l

theorem bvals_eqi {a b : Bs} (ha : a.length = 32) (hb : b.length = 32) (W : World) : (Op.equalIn 10000 29 (.agg (Sh.bvals a).toArray) (.agg (Sh.bvals b).toArray)).run Tryd.prog W = .ok (decide (a = b)) W := by
  have h := run_equalIn_bytes (P := Tryd.prog) W 9998 29 5 32 Tryd.underlying29 Tryd.underlying5 (fun w => by kernel_rfl) a b ha hb
  have e : (a == b) = decide (a = b) := by by_cases h : a = b <;> simp [h]
  rw [e] at h
  exact h
theorem encB_one (f : Bb) : ∀ u ∈ encB f, u.oneCell' = true := by
  intro u hu
  unfold encB at hu
  rcases List.mem_append.1 hu with h | h
  · obtain ⟨x, _, rfl⟩ := List.mem_map.1 h
    rfl
  · obtain rfl := List.mem_singleton.1 h
    rfl
theorem dropV_snoc {l : List Bb} {k : Nat} {x : Bb} (hx : l[k]? = some x) (d : Bs) : dropV (l.take (k + 1)) d = dropV (l.take k) d ++ if x.1 = d then [] else [x] := by
  unfold dropV
  rw [Sh.take_snoc l k x hx, List.filter_append]
  by_cases h : x.1 = d <;> simp [h]

set_option maxRecDepth 100000 in
set_option maxHeartbeats 4000000 in
theorem drop_any (A : Option Addr) (cap B n : Nat) (l : List Bb) (d : Bs) (hd : d.length = 32) (w : World) (hn : l.length = n) (hnm : n ≤ 100000) (hs : Sums l) (hx : BRow w B A l) (hB : B ≤ w.heap.size) :
    Calls Tryd.prog 15 #[.slice A n cap, .agg (Sh.bvals d).toArray] w fun e w' => ∃ A' m cap', e = .returned (.slice A' m cap') ∧ (dropV l d).length = m ∧ OwnsB w' w.heap.size (.slice A' m cap') (dropV l d) ∧ Below w.heap.size w w' := by
  obtain ⟨i0, hi, hz0, hz1, hz2⟩ := info_parts blobInfo
  have HX := Lib.hid (hx.more hB)
  have HN := Lib.hid hn
  have HD := Lib.hid hd
  have HS := Lib.hid hs
  obtain ⟨w0, hw0⟩ : ∃ w0, w0 = w.alloc (.cells (Sh.bvals d).toArray 29) := ⟨_, rfl⟩
  have HR1 : Hid (Sh.Row w0 w.heap.size 29 (Sh.bvals d)) := by rw [hw0]; exact Sh.Row.new_at w _ _ _ rfl rfl
  have HX0 : Hid (BRow w0 w.heap.size A l) := by rw [hw0]; exact HX.out.alloc (Nat.le_refl _) _
  have HB0 : Hid (Below w.heap.size w w0) := by rw [hw0]; exact (Below.refl _ _).alloc (Nat.le_refl _) _
  have hs0 : w0.heap.size = w.heap.size + 1 := by rw [hw0]; simp
  clear hx hn hd hs HX
  have hng := Sh.no_guard
  go_enter Tryd.func15, Tryd.ntmps15
  go_wp2
  rw [← hw0]
  clear hw0
  go_loopw [5, 6] (fun v i wr => ∃ (k m cp : Nat) (A' : Option Addr), k ≤ n ∧ i = .int .i64 k ∧ v = .slice A' m cp ∧ m ≤ k ∧ Hid ((dropV (l.take k) d).length = m) ∧ Hid (OwnsB wr (w.heap.size + 1) (.slice A' m cp) (dropV (l.take k) d)) ∧ Hid (Below (w.heap.size + 1) w0 wr)) (fun _ i _ => n - (intOf i).toNat)
  case atStart => exact ⟨0, 0, 0, none, Nat.zero_le _, rfl, rfl, Nat.le_refl _, rfl, OwnsK.nil _ _, Below.refl _ _⟩
  case round =>
    obtain ⟨k, m, cp, A', hk, rfl, rfl, hm, HL, HO, HB⟩ := hrel
    by_cases hlt : k < n
    · have hki : (k : Int) < n := by omega
      have hxk : l[k]? = some (l[k]'(by rw [HN.out]; exact hlt)) := List.getElem?_eq_getElem _
      generalize l[k]'(by rw [HN.out]; exact hlt) = x at hxk
      have HXR : Hid (BRow wr w.heap.size A l) := HX0.out.below HB.out (by omega)
      have HRR : Hid (Sh.Row wr w.heap.size 29 (Sh.bvals d)) := HR1.out.below HB.out (by omega)
      obtain ⟨b1, o1, rfl, hb1, _⟩ := HXR.out k x hxk
      have hx32 := HS.out x (List.mem_of_getElem? hxk)
      obtain ⟨T, hT⟩ : ∃ T, T = 29 := ⟨_, rfl⟩
      obtain ⟨N, hN⟩ : ∃ q, q = 32 := ⟨_, rfl⟩
      have key : ∀ x, Op.load 29 x = Op.load T x := by intro x; rw [hT]
      have hagg : ∀ W, (isAgg T).run Tryd.prog W = .ok true W := fun W => by rw [hT]; kernel_rfl
      have hsize : ∀ W, (sizeOf T).run Tryd.prog W = .ok N W := fun W => by rw [hT, hN]; kernel_rfl
      have hl1 : ∀ m, (loadCellsFrom ⟨b1, o1 + k * 33, none⟩ 0 N #[]).run Tryd.prog (wr.drewN m) = .ok (Sh.bvals x.1).toArray (wr.drewN m) := fun m =>
        load_part (by rw [Sh.bvals_length, hx32, hN]) (fun i v hv => by
          have := KRow.part (i := 0) (m := 32) (HXR.out.drewN m) hxk (sum_part hx32) i v hv
          rwa [Nat.add_zero] at this)
      have hl2 : ∀ m, (loadCellsFrom ⟨w.heap.size, 0, none⟩ 0 N #[]).run Tryd.prog (wr.drewN m) = .ok (Sh.bvals d).toArray (wr.drewN m) := fun m =>
        load_part (by rw [Sh.bvals_length, HD.out, hN]) (fun i v hv => by rw [Nat.zero_add]; exact (HRR.out.cell i).trans hv)
      have heq := bvals_eqi hx32 HD.out
      have hds := dropV_snoc hxk d
      by_cases he : x.1 = d
      · rw [decide_eq_true he] at heq
        rw [if_pos he, List.append_nil] at hds
        have HDS := Lib.hid hds
        clear hds hxk he hT hN
        go_wp2
        simp only [key]
        clear key
        go_big_quiet (fail)
        go_wp2
        go_roundw
        case rel => exact ⟨k + 1, m, cp, A', by omega, by go_num, rfl, by omega, by rw [HDS.out]; exact HL.out, by rw [HDS.out]; exact HO.out.drewN _, Sh.below_drewN HB.out _⟩
        case measure => simp [intOf]; omega
      · rw [decide_eq_false he] at heq
        rw [if_neg he] at hds
        have HDS := Lib.hid hds
        have hagg2 : ∀ W, (isAgg 37).run Tryd.prog W = .ok true W := fun W => by kernel_rfl
        have hsize2 : ∀ W, (sizeOf 37).run Tryd.prog W = .ok 33 W := fun W => by kernel_rfl
        have HCL : Hid (∀ m j v, (encB x)[j]? = some v → (wr.drewN m).cell? ((⟨b1, o1 + k * 33, none⟩ : Addr).add j) = some v) := fun m j v hv => by
          rw [Addr.add_lit]
          have := KRow.part (i := 0) (m := 33) (HXR.out.drewN m) hxk rfl j v (by rw [List.drop_zero, List.take_of_length_le (by rw [encB_length]; exact Nat.le_refl _)]; exact hv)
          rwa [Nat.add_zero] at this
        have HA2 := Lib.hid hagg2
        have HZ2 := Lib.hid hsize2
        clear hds hxk he hT hN hagg2 hsize2
        go_wp2
        simp only [key]
        clear key
        go_big_quiet (fail)
        have hB1 := HB.out.size
        go_wp2_with (first
          | (refine wpList_load_at rfl 37 (.tmp 23) rfl ⟨b1, o1 + k * 33, none⟩ rfl (encB x) 33 (HA2.out _) (HZ2.out _) (encB_length x) (HCL.out _) ?_)
          | (refine wpList_lit_one rfl 27 37 (.tmp 24) rfl (encB x) 33 rfl i0 _ Tryd.underlying27 hi hz0 hz1 (encB_length x) (by decide) (by decide) ?_)
          | (at_builtin; refine wpList_append_own _ rfl _ _ 27 rfl (w.heap.size + 1) 37 i0 (.agg (encB (List.replicate 32 0, [])).toArray) 33 48 Tryd.underlying27 hi hz0 hz1 hz2 (by simp [Value.cells, encB_length]) (by decide) _ m ((dropV (l.take k) d).flatMap encB) rfl ?c0a ⟨wr.heap.size, 0, none⟩ 1 1 (encB x) rfl (by rw [encB_length]) ?c1a (encB_one x) ?c3a ?c4a ?c5a ?_))
        case c0a => have := fun q => (HO.out.drewN q).alloc (.cells (encB x).toArray 37); unfold OwnsK at this; simp only [HL.out] at this; exact this _
        case c3a => simp only [maxLen]; omega
        case c4a => omega
        case c5a => simp; omega
        · intro j u hj
          rw [Addr.add_lit, Nat.zero_add]
          exact ((Sh.Row.new_at (wr.drewN _) _ _ _ rfl rfl).cell j).trans hj
        intro v' w2 hown' hgrow _
        have hO2 := OwnsK.appended HL.out hown'
        have HL2 : Hid ((dropV (l.take (k + 1)) d).length = m + 1) := by show _ = _; rw [HDS.out, List.length_append, HL.out]; rfl
        obtain ⟨A2, cap2, e⟩ := hO2.form
        rw [← HDS.out, HL2.out] at e
        subst e
        have HW2 := Lib.hid (((Sh.below_drewN HB.out _).alloc (by simp; omega) _).grown hgrow (by simp; omega) (fun q hq => (World.ownsRow.lt HO.out q hq).1))
        have HO2 : Hid (OwnsB w2 (w.heap.size + 1) (.slice A2 (m + 1) cap2) (dropV (l.take (k + 1)) d)) := by
          show OwnsB _ _ _ _
          rw [HDS.out]
          exact hO2
        clear hO2
        clear hown' hgrow
        go_wp2
        go_roundw
        case rel => exact ⟨k + 1, m + 1, cap2, A2, by omega, by go_num, rfl, by omega, HL2.out, HO2.out, HW2.out⟩
        case measure => simp [intOf]; omega
    · obtain rfl : k = n := by omega
      rw [List.take_of_length_le (by rw [HN.out]; omega)] at HL HO
      have HBE : Hid (Below w.heap.size w wr) := HB0.out.trans (HB.out.mono (by omega))
      go_wp2
      go_ret
      exact ⟨A', m, cp, rfl, HL.out, HO.out.less (by omega), HBE.out⟩
end Bl
end Go.Proofs.YtiilmgbobjagkaaDoor
