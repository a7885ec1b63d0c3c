/-
  Layer 8 (journal): the walks of the document's Same, Great, head, Frame. Layer 8 (journal): the walks of the document's head and Frame. Layer 8 (journal): the walks of the document's Frame, Frames.
-/
import Derived.Test.YtogpigfepebibaaGreatDoorMSK
import Derived.Test.YtogpigfepebibaaGreatDoorMDB
import Derived.Test.YtogpigfepebibaaGreatDoorMJM
import Derived.Lib.SlBytesConst
import Derived.Lib.SmallJoins
import Derived.Test.YtogpigfepebibaaGreatDoorMKR
namespace Go.Proofs.YtogpigfepebibaaGreatDoor
namespace Jl
open Go.RowKit Go.ChangeShapes Kr Dk

set_option maxRecDepth 100000 in
set_option maxHeartbeats 2000000 in
theorem refsame_any (A A' : Option Addr) (cap cap' B n m : Nat) (xs ys : List ByteArray) (w : World) (hn : xs.length = n) (hm : ys.length = m) (hnm : n ≤ 9223372036854775807) (hmm : m ≤ 9223372036854775807) (hx : NRow w B A xs) (hy : NRow w B A' ys) :
    Calls Tryz.prog 20 #[.slice A n cap, .slice A' m cap'] w fun e w' => e = .returned (.bool (decide (xs = ys))) ∧ ∃ n, w' = w.drewN n := by
  have HX := Lib.hid hx
  have HY := Lib.hid hy
  have HL := Lib.hid hn
  have HM := Lib.hid hm
  clear hx hy hn hm
  by_cases hnm : n = m
  · subst hnm
    have hb : ((n : Int) != (n : Int)) = false := by simp
    go_enter Tryz.func20, Tryz.ntmps20
    go_wp2
    go_loopw [13] (fun i wr => ∃ k d : Nat, k ≤ n ∧ i = .int .i64 k ∧ xs.take k = ys.take k ∧ wr = w.drewN d) (fun i _ => n - (intOf i).toNat)
    case atStart => exact ⟨0, 0, Nat.zero_le _, rfl, rfl, by rw [World.drewN_zero]⟩
    case round =>
      obtain ⟨k, d, hk, rfl, ht, rfl⟩ := hrel
      have HT := Lib.hid ht
      clear ht
      by_cases hlt : k < n
      · have hxk : xs[k]? = some (xs[k]'(by rw [HL.out]; exact hlt)) := List.getElem?_eq_getElem _
        generalize xs[k]'(by rw [HL.out]; exact hlt) = x at hxk
        have hyk : ys[k]? = some (ys[k]'(by rw [HM.out]; exact hlt)) := List.getElem?_eq_getElem _
        generalize ys[k]'(by rw [HM.out]; exact hlt) = y at hyk
        obtain ⟨b, o, rfl, _, hc⟩ := one_cell HX.out hxk rfl
        obtain ⟨b', o', rfl, _, hc'⟩ := one_cell HY.out hyk rfl
        have HXK := Lib.hid hxk
        have HYK := Lib.hid hyk
        clear hxk hyk
        have hki : (k : Int) < n := by omega
        have he := eqB x y
        by_cases hxy : x = y
        · rw [decide_eq_true hxy] at he
          have hT : xs.take (k + 1) = ys.take (k + 1) := by
            rw [take_snoc xs k x HXK.out, take_snoc ys k y HYK.out, HT.out, hxy]
          have HT' := Lib.hid hT
          clear hT hxy
          go_wp2
          go_quiet (fail)
          go_wp2
          go_roundw
          case rel => exact ⟨k + 1, _, by omega, by go_num, HT'.out, rfl⟩
          case measure => simp [intOf]; omega
        · rw [decide_eq_false hxy] at he
          have hD : decide (xs = ys) = false := by
            rw [decide_eq_false_iff_not]
            rintro rfl
            have h1 := HXK.out
            rw [HYK.out] at h1
            exact hxy (Option.some.inj h1).symm
          have HD := Lib.hid hD
          clear hxy hD
          go_wp2
          go_quiet (fail)
          go_wp2
          go_ret
          rw [HD.out]
          exact ⟨rfl, _, World.drewN_drewN _ _ _⟩
      · have hD : decide (xs = ys) = true := by
          have := HT.out
          rw [List.take_of_length_le (by rw [HL.out]; omega), List.take_of_length_le (by rw [HM.out]; omega)] at this
          simp [this]
        have HD := Lib.hid hD
        clear hD
        go_wp2
        go_ret
        rw [HD.out]
        exact ⟨rfl, _, rfl⟩
  · have hb : ((n : Int) != (m : Int)) = true := by simp; omega
    have hD : decide (xs = ys) = false := by
      rw [decide_eq_false_iff_not]
      rintro rfl
      exact hnm (HL.out.symm.trans HM.out)
    have HD := Lib.hid hD
    clear hD
    go_enter Tryz.func20, Tryz.ntmps20
    go_wp2
    go_ret
    rw [HD.out]
    exact ⟨rfl, 0, by rw [World.drewN_zero]⟩

/-- Too many texts, or too long ones. -/
def Too (l : List ByteArray) : Prop := (∃ r ∈ l, 100 < r.size) ∨ 12 < l.length
instance (l : List ByteArray) : Decidable (Too l) := by unfold Too; infer_instance
set_option maxRecDepth 100000 in
set_option maxHeartbeats 2000000 in
theorem refgreat_any (A : Option Addr) (cap B n : Nat) (l : List ByteArray) (w : World) (hn : l.length = n) (hnm : n ≤ 9223372036854775807) (hsz : ∀ r ∈ l, r.size ≤ 9223372036854775807) (hx : NRow w B A l) :
    Calls Tryz.prog 22 #[.slice A n cap] w fun e w' => e = .returned (.bool (decide (Too l))) ∧ w' = w := by
  have HX := Lib.hid hx
  have HN := Lib.hid hn
  have HSZ := Lib.hid hsz
  clear hx hn hsz
  go_enter Tryz.func22, Tryz.ntmps22
  go_wp2
  go_loopw [6] (fun i wr => ∃ k : Nat, k ≤ n ∧ i = .int .i64 k ∧ Hid (∀ r ∈ l.take k, ¬ 100 < r.size) ∧ wr = w) (fun i _ => n - (intOf i).toNat)
  case atStart => exact ⟨0, Nat.zero_le _, rfl, fun r hr => by simp at hr, rfl⟩
  case round =>
    obtain ⟨k, hk, rfl, HA, rfl⟩ := hrel
    by_cases hlt : k < n
    · have hki : (k : Int) < n := by omega
      have hxk : l[k]? = some (l[k]'(by rw [HN.out]; exact hlt)) := List.getElem?_eq_getElem _
      generalize l[k]'(by rw [HN.out]; exact hlt) = x at hxk
      obtain ⟨b, o, rfl, _, hc⟩ := one_cell HX.out hxk rfl
      have hmem := List.mem_of_getElem? hxk
      have hxs := HSZ.out x hmem
      by_cases hg : 100 < x.size
      · have hgi : (100 : Int) < (x.size : Int) := by omega
        have HD : Hid (decide (Too l) = true) := decide_eq_true (.inl ⟨x, hmem, hg⟩)
        clear hg hmem hxk
        go_wp2
        go_ret
        rw [HD.out]
        exact ⟨rfl, rfl⟩
      · have hgi : ¬ (100 : Int) < (x.size : Int) := by omega
        have HA2 : Hid (∀ r ∈ l.take (k + 1), ¬ 100 < r.size) := fun r hr => by
          rw [take_snoc l k x hxk] at hr
          exact (List.mem_append.1 hr).elim (HA.out r) (fun h => by rw [List.mem_singleton.1 h]; exact hg)
        clear hg hmem hxk
        go_wp2
        go_roundw
        case rel => exact ⟨k + 1, by omega, by go_num, HA2.out, by trivial⟩
        case measure => simp [intOf]; omega
    · obtain rfl : k = n := by omega
      have HA2 : Hid (∀ r ∈ l, ¬ 100 < r.size) := fun r hr => HA.out r (by rw [List.take_of_length_le (by rw [HN.out]; exact Nat.le_refl _)]; exact hr)
      have HD : Hid (decide (Too l) = decide ((12 : Int) < (k : Int))) := by
        show _ = _
        refine decide_eq_decide.2 ⟨fun h => h.elim (fun ⟨r, hr, h2⟩ => absurd h2 (HA2.out r hr)) (fun h => by have := HN.out; omega), fun h => .inr (by have := HN.out; omega)⟩
      go_wp2
      go_ret
      rw [HD.out]
      exact ⟨rfl, rfl⟩
end Jl
end Go.Proofs.YtogpigfepebibaaGreatDoor

namespace Go.Proofs.YtogpigfepebibaaGreatDoor
namespace Jl
open Go.RowKit Go.ChangeShapes Kr Dk

theorem H_len (b : Bs) : 8 ≤ (Sh.dig b).length := by rw [Sh.dig_length]; decide
/-- string([]byte{..}), behind the literal. -/
theorem conv_lit (w : World) (n : Nat) (l : Bs) (C : Array Value) (hn : l.length = n) (hC : C = (Sh.bvals l).toArray) : (convert 76 9 (.slice (some ⟨w.heap.size, 0, none⟩) n n)).run Tryz.prog (w.alloc (.cells C 5)) = .ok (.string (ofB l)) (w.alloc (.cells C 5)) := by
  subst hn hC
  refine run_convert_bytes_back (P := Tryz.prog) _ 76 9 5 ⟨w.heap.size, 0, none⟩ l.length l Tryz.underlying76 Tryz.underlying5 Tryz.underlying9 (fun j hj => ?_)
  rw [Addr.add_lit, Nat.zero_add, World.cell?_alloc_mark]
  simp [Sh.bvals, List.getElem?_eq_getElem hj]
theorem be4_cells (n : Nat) (h : n ≤ 1048576) : #[Value.int .u8 ((n : Int) / 16777216), Value.int .u8 ((n : Int) / 65536 % 256), Value.int .u8 ((n : Int) / 256 % 256), Value.int .u8 ((n : Int) % 256)] = (Sh.bvals (be4 n)).toArray := by
  unfold be4 Sh.bvals
  simp only [List.map_cons, List.map_nil, UInt8.toNat_ofNat']
  have e1 : ((n / 16777216 % 256 : Nat) : Int) = (n : Int) / 16777216 := by omega
  have e2 : ((n / 65536 % 256 : Nat) : Int) = (n : Int) / 65536 % 256 := by omega
  have e3 : ((n / 256 % 256 : Nat) : Int) = (n : Int) / 256 % 256 := by omega
  have e4 : ((n % 256 : Nat) : Int) = (n : Int) % 256 := by omega
  rw [e1, e2, e3, e4]

set_option maxRecDepth 100000 in
set_option maxHeartbeats 4000000 in
theorem refhead_any (x : ByteArray) (w : World) (hx : x.size ≤ 90000) :
    Calls Tryz.prog 55 #[.string x] w fun e w' => e = .returned (.string (ofB (head Sh.dig (toB x)))) ∧ Below w.heap.size w w' := by
  have hcv := conv_lit w 4 (be4 x.size) _ rfl (be4_cells x.size (by omega))
  obtain ⟨Z, hZ⟩ : ∃ Z, ofB (be4 x.size) = Z := ⟨_, rfl⟩
  rw [hZ] at hcv
  have hZs : Z.size = 4 := by rw [← hZ]; rfl
  have HS := Lib.hid (fun W => Sh.refsum_any (Z ++ x) W (by rw [ba_size_append]; omega))
  obtain ⟨L, hL⟩ : ∃ L, Sh.dig (Z ++ x).data.toList = L := ⟨_, rfl⟩
  rw [hL] at HS
  have hLl : L.length = 32 := by rw [← hL]; exact Sh.dig_length _
  have HLL := Lib.hid hLl
  have HHD : Hid (head Sh.dig (toB x) = toB Z ++ L.take 8) := by
    show _ = _
    unfold head
    rw [← hL, app_data, ← hZ]
    show be4 (toB x).length ++ _ = toB (ofB (be4 x.size)) ++ (Sh.dig (toB (ofB (be4 x.size)) ++ toB x)).take 8
    rw [toB_ofB]; rfl
  clear hL hZ hLl
  go_enter Tryz.func55, Tryz.ntmps55
  go_wp2_with fail
  refine (HS.out _).mono ?_
  rintro e w1 ⟨rfl, hb1⟩
  have HB1 : Hid (Below w.heap.size w w1) := ((Below.refl _ _).alloc (Nat.le_refl _) _).trans (hb1.mono (by simp))
  clear hb1 hcv HS
  have hs1 := HB1.out.size
  go_wp2_with (refine Sh.wpList_store_all rfl 109 (.tmp 5) (.tmp 29) rfl w1.heap.size (Sh.bvals L) rfl rfl 109 (Sh.bvals (List.replicate 32 0)) (Sh.Row.new_at w1 _ _ _ rfl rfl) ?s1 ?s2 (Sh.bvals_one _) ?_)
  case s1 => rw [Sh.bvals_length, HLL.out]; kernel_rfl
  case s2 => rw [Sh.bvals_length, Sh.bvals_length, HLL.out, List.length_replicate]
  intro w2 HR2 HT2
  have HB2 : Hid (Below w.heap.size w w2) := Sh.below_turn (HB1.out.alloc HB1.out.size _) HT2.out HB1.out.size
  have hg := HR2.out.lt
  go_wp2_with fail
  go_loopw [6, 7] (fun o i wr => ∃ (k : Nat) (s : ByteArray), k ≤ 8 ∧ i = .int .i64 k ∧ o = .string s ∧ Hid (toB s = toB Z ++ L.take k) ∧ Hid (Sh.Row wr w1.heap.size 109 (Sh.bvals L)) ∧ Hid (Below w.heap.size w wr) ∧ s.size = 4 + k) (fun _ i _ => 8 - (intOf i).toNat)
  case atStart => exact ⟨0, Z, by omega, rfl, rfl, by show _ = _; rw [List.take_zero, List.append_nil], HR2.out, HB2.out, hZs⟩
  case round =>
    obtain ⟨k, s, hk, rfl, rfl, HSS, HR, HB, hsz⟩ := hrel
    clear HB2 HR2 HT2 hg
    by_cases hlt : k < 8
    · have hki : (k : Int) < 8 := by omega
      have hki2 : (k : Int) < 32 := by omega
      have hxk : L[k]? = some (L[k]'(by rw [HLL.out]; omega)) := List.getElem?_eq_getElem _
      generalize L[k]'(by rw [HLL.out]; omega) = c at hxk
      have hc : wr.cell? ⟨w1.heap.size, k, none⟩ = some (.int .u8 (c.toNat : Int)) := by
        rw [HR.out.cell k]
        show ((L.map fun x => Value.int .u8 (x.toNat : Int)))[k]? = _
        rw [List.getElem?_map, hxk]; rfl
      have hcv := conv_lit wr 1 [c] #[.int .u8 (c.toNat : Int)] rfl rfl
      obtain ⟨Y, hY⟩ : ∃ Y, ofB [c] = Y := ⟨_, rfl⟩
      rw [hY] at hcv
      have hYs : Y.size = 1 := by rw [← hY]; rfl
      have HS2 : Hid (toB (s ++ Y) = toB Z ++ L.take (k + 1)) := by
        show (s ++ Y).data.toList = _
        rw [app_data, ← hY, take_snoc L k c hxk, ← List.append_assoc, ← HSS.out]
      have hsz2 : (s ++ Y).size = 4 + (k + 1) := by rw [ba_size_append]; omega
      have HZ2 := Lib.hid hsz2
      have HBA : Hid (Below wr.heap.size wr (wr.alloc (.cells #[.int .u8 (c.toNat : Int)] 5))) := (Below.refl _ _).alloc (Nat.le_refl _) _
      have hszi : (s.size : Int) + Y.size ≤ 1000 := by omega
      clear hxk hY hsz2
      go_wp2
      go_roundw
      case rel => exact ⟨k + 1, s ++ Y, by omega, by go_num, rfl, HS2.out, HR.out.below HBA.out HR.out.lt, HB.out.trans (HBA.out.mono HB.out.size), HZ2.out⟩
      case measure => simp [intOf]; omega
    · obtain rfl : k = 8 := by omega
      have HE : Hid (s = ofB (head Sh.dig (toB x))) := by
        show _ = _
        rw [HHD.out, ← HSS.out, ofB_toB]
      go_wp2
      go_ret
      rw [← HE.out]
      exact ⟨rfl, HB.out⟩
end Jl
end Go.Proofs.YtogpigfepebibaaGreatDoor

namespace Go.Proofs.YtogpigfepebibaaGreatDoor
namespace Jl
open Go.RowKit Go.ChangeShapes Kr Dk

theorem frameV_ok {x : ByteArray} (h : x.size ≤ 90000) : frameV Sh.dig x = (ofB (frame Sh.dig (toB x)), 0) := by
  unfold frameV
  rw [if_neg]
  have : most = 1048576 := rfl
  omega
theorem head_app (x : ByteArray) : ofB (head Sh.dig (toB x)) ++ x = ofB (frame Sh.dig (toB x)) := by
  refine ba_eq ?_
  rw [app_data]
  show toB (ofB _) ++ toB x = toB (ofB _)
  rw [toB_ofB, toB_ofB]
  exact rfl
set_option maxRecDepth 100000 in
set_option maxHeartbeats 4000000 in
theorem refframe_any (x : ByteArray) (w : World) (hx : x.size ≤ 90000) :
    Calls Tryz.prog 36 #[.string x] w fun e w' => e = .returned (.tuple #[.string (frameV Sh.dig x).1, .int .i64 ((frameV Sh.dig x).2 : Int)]) ∧ Below w.heap.size w w' := by
  rw [frameV_ok hx]
  have HS := Lib.hid (fun W => refhead_any x W hx)
  have HA := Lib.hid (head_app x)
  have hxi : ¬ (1048576 : Int) < (x.size : Int) := by omega
  have hhs : (ofB (head Sh.dig (toB x))).size = 12 := by rw [ofB_size, head_length H_len]
  generalize ofB (head Sh.dig (toB x)) = Z at HS HA hhs
  go_enter Tryz.func36, Tryz.ntmps36
  go_wp2_with fail
  refine (HS.out _).mono ?_
  rintro e w1 ⟨rfl, hb1⟩
  go_wp2
  go_ret2
  rw [← HA.out]
  exact ⟨rfl, hb1⟩

/-- Frames: what the loop has when k records are done. -/
theorem frames_take {l : List ByteArray} {k : Nat} {x : ByteArray} (h : l[k]? = some x) : ofB (frames Sh.dig ((l.take k).map toB)) ++ ofB (frame Sh.dig (toB x)) = ofB (frames Sh.dig ((l.take (k + 1)).map toB)) := by
  rw [take_snoc l k x h, List.map_append, List.map_cons, List.map_nil, frames_snoc]
  refine ba_eq ?_
  rw [app_data]
theorem framesV_ok {l : List ByteArray} (h : ∀ r ∈ l, r.size ≤ 90000) : framesV Sh.dig l = (ofB (frames Sh.dig (l.map toB)), 0) := by
  unfold framesV
  rw [if_neg]
  rintro ⟨r, hr, h2⟩
  have := h r hr
  have : most = 1048576 := rfl
  omega
theorem frames_le {l : List ByteArray} (h : ∀ r ∈ l, r.size ≤ 90000) : (ofB (frames Sh.dig (l.map toB))).size ≤ 90012 * l.length := by
  rw [ofB_size]
  induction l with
  | nil => exact Nat.le_refl _
  | cons r l ih =>
    have h1 := ih (fun x hx => h x (List.mem_cons_of_mem _ hx))
    have h2 := h r List.mem_cons_self
    unfold frames at h1 ⊢
    rw [List.map_cons, List.flatMap_cons, List.length_append, frame_length H_len, List.length_cons]
    show 12 + r.size + _ ≤ _
    omega

set_option maxRecDepth 100000 in
set_option maxHeartbeats 4000000 in
theorem refframes_any (A : Option Addr) (cap B n : Nat) (l : List ByteArray) (w : World) (hn : l.length = n) (hnm : n ≤ 1000) (hsz : ∀ r ∈ l, r.size ≤ 90000) (hx : NRow w B A l) (hB : B ≤ w.heap.size) :
    Calls Tryz.prog 40 #[.slice A n cap] w fun e w' => e = .returned (.tuple #[.string (framesV Sh.dig l).1, .int .i64 ((framesV Sh.dig l).2 : Int)]) ∧ Below w.heap.size w w' := by
  rw [framesV_ok hsz]
  have HX := Lib.hid hx
  have HN := Lib.hid hn
  have HSZ := Lib.hid hsz
  clear hx hn hsz
  go_enter Tryz.func40, Tryz.ntmps40
  go_wp2
  go_loopw [4, 10] (fun o i wr => ∃ (k : Nat) (s : ByteArray), k ≤ n ∧ i = .int .i64 k ∧ o = .string s ∧ Hid (s = ofB (frames Sh.dig ((l.take k).map toB))) ∧ s.size ≤ 90012 * k ∧ Hid (Below w.heap.size w wr)) (fun _ i _ => n - (intOf i).toNat)
  case atStart => exact ⟨0, nul, Nat.zero_le _, rfl, rfl, rfl, Nat.zero_le _, Below.refl _ _⟩
  case round =>
    obtain ⟨k, s, hk, rfl, rfl, HSS, hsk, HB⟩ := hrel
    by_cases hlt : k < n
    · have hki : (k : Int) < n := by omega
      have hxk : l[k]? = some (l[k]'(by rw [HN.out]; exact hlt)) := List.getElem?_eq_getElem _
      generalize l[k]'(by rw [HN.out]; exact hlt) = x at hxk
      obtain ⟨b, o, rfl, hb, hc⟩ := one_cell (HX.out.below HB.out hB) hxk rfl
      have hxs := HSZ.out x (List.mem_of_getElem? hxk)
      have HS := Lib.hid (fun W => refframe_any x W hxs)
      have HT := Lib.hid (frames_take hxk)
      have HF := Lib.hid (frameV_ok hxs)
      have hfs : (ofB (frame Sh.dig (toB x))).size = 12 + x.size := by rw [ofB_size, frame_length H_len]; rfl
      rw [← HSS.out] at HT
      obtain ⟨Z, hZ⟩ : ∃ Z, ofB (frame Sh.dig (toB x)) = Z := ⟨_, rfl⟩
      rw [hZ] at HT HF hfs
      rw [HF.out] at HS
      have hss2 : (s ++ Z).size ≤ 90012 * (k + 1) := by rw [ba_size_append]; omega
      have HL := Lib.hid hss2
      have hszi : (s.size : Int) + Z.size ≤ 100000000 := by omega
      clear hxk hZ HF hss2
      go_wp2_with fail
      refine (HS.out _).mono ?_
      rintro e w1 ⟨rfl, hb1⟩
      have HB1 : Hid (Below w.heap.size w w1) := HB.out.trans (hb1.mono HB.out.size)
      clear hb1
      go_wp2
      go_roundw
      case rel => exact ⟨k + 1, s ++ Z, by omega, by go_num, rfl, HT.out, HL.out, HB1.out⟩
      case measure => simp [intOf]; omega
    · obtain rfl : k = n := by omega
      rw [List.take_of_length_le (by rw [HN.out]; exact Nat.le_refl _)] at HSS
      go_wp2
      go_ret2
      rw [← HSS.out]
      exact ⟨rfl, HB.out⟩
end Jl
end Go.Proofs.YtogpigfepebibaaGreatDoor
