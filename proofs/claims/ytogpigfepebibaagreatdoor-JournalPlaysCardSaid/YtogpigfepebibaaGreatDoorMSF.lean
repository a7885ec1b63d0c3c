/-
  Layer 2 (sha): slices that a call has made: their cells, append, what a string's bytes become. Layer 2 (sha): the walk of ending.
-/
import Derived.Test.YtogpigfepebibaaGreatDoorMSE
import Derived.ArgAppend
import Derived.OwnWalk
import Derived.Laws.MakeOwn
import Derived.Laws.IdiomStrings
namespace Go.Proofs.YtogpigfepebibaaGreatDoor
namespace Sh
open Go.RowKit

/-- The slice at block g, of capacity cap, from block B on, holds the cells xs; none is frozen. -/
def Sl (w : World) (B g cap : Nat) (xs : List Value) : Prop :=
  B ≤ g ∧ g < w.heap.size ∧ xs.length ≤ cap ∧ cap ≤ maxLen ∧ (∀ j, j < cap → (w.cell? ⟨g, j, none⟩).isSome = true) ∧ (∀ j, j < cap → w.frozen? ⟨g, j, none⟩ = false) ∧ ∀ j u, xs[j]? = some u → w.cell? ⟨g, j, none⟩ = some u

section
variable {w w' : World} {B g cap : Nat} {xs : List Value}
theorem Sl.at_ (h : Sl w B g cap xs) (j : Nat) (hj : j < xs.length) : w.cell? ⟨g, j, none⟩ = some xs[j] := h.2.2.2.2.2.2 j _ (List.getElem?_eq_getElem hj)
theorem Sl.keep (h : Sl w B g cap xs) (hb : w'.heap[g]? = w.heap[g]?) : Sl w' B g cap xs := by
  obtain ⟨h1, h2, h3, h4, h5, h6, h7⟩ := h
  have hc : ∀ j, w'.cell? ⟨g, j, none⟩ = w.cell? ⟨g, j, none⟩ := fun j => World.cell?_of_block (a := ⟨g, j, none⟩) hb
  have hf : ∀ j, w'.frozen? ⟨g, j, none⟩ = w.frozen? ⟨g, j, none⟩ := fun j => World.frozen?_of_block (a := ⟨g, j, none⟩) hb
  refine ⟨h1, ?_, h3, h4, fun j hj => by rw [hc]; exact h5 j hj, fun j hj => by rw [hf]; exact h6 j hj, fun j u hu => by rw [hc]; exact h7 j u hu⟩
  have : w'.heap[g]? ≠ none := by rw [hb]; simp; omega
  rcases Nat.lt_or_ge g w'.heap.size with hlt | hge
  · exact hlt
  · exact absurd (Array.getElem?_eq_none hge) this
theorem Sl.below {B' : Nat} (h : Sl w B g cap xs) (hb : Below B' w w') (hg : g < B') : Sl w' B g cap xs := h.keep (hb.block g hg)
theorem Sl.later (h : Sl w B g cap xs) (hb : Below w.heap.size w w') : Sl w' B g cap xs := h.keep (hb.block g h.2.1)
theorem Sl.alloc (h : Sl w B g cap xs) (o : Obj) : Sl (w.alloc o) B g cap xs := h.keep (Below.heap_alloc w o g h.2.1)
theorem Sl.drewN (h : Sl w B g cap xs) (n : Nat) : Sl (w.drewN n) B g cap xs := h
theorem Sl.drew (h : Sl w B g cap xs) : Sl w.drew B g cap xs := h
theorem Sl.grown {row : Option Nat} (h : Sl w B g cap xs) (hb : w.grownBy w' row) (hg : some g ≠ row) : Sl w' B g cap xs := h.keep (hb.block g h.2.1 hg)
theorem Sl.more {B' : Nat} (h : Sl w B g cap xs) (hB : B' ≤ B) : Sl w B' g cap xs := ⟨Nat.le_trans hB h.1, h.2⟩
theorem Sl.of_cells (w : World) (t : TypeId) (cs : Array Value) (l : List Value) (n : Nat) (hB : B ≤ w.heap.size) (h : cs = l.toArray) (hn : n = l.length) (hm : n ≤ maxLen) : Sl (w.alloc (.cells cs t)) B w.heap.size n l := by
  subst h hn
  have hr : Row (w.alloc (.cells l.toArray t)) w.heap.size t l := Row.new_at w t _ l rfl rfl
  exact ⟨hB, by simp, Nat.le_refl _, hm, fun j hj => by rw [hr.cell]; simp [hj], fun j _ => hr.frozen j, fun j u hu => by rw [hr.cell]; exact hu⟩
theorem Sl.set (h : Sl w B g cap xs) (j : Nat) (u : Value) : Sl (w.setCell ⟨g, j, none⟩ u) B g cap (xs.set j u) := by
  obtain ⟨h1, h2, h3, h4, h5, h6, h7⟩ := h
  refine ⟨h1, by simpa using h2, by simpa using h3, h4, fun k hk => ?_, fun k hk => ?_, fun k x hx => ?_⟩
  · by_cases he : k = j
    · subst he
      rw [World.cell?_setCell_same' _ _ _ (h5 k hk)]; rfl
    · rw [World.cell?_setCell_other _ _ _ _ (fun e => he (by injection e with _ e; exact e.symm))]; exact h5 k hk
  · rw [World.frozen?_setCell]; exact h6 k hk
  · rw [List.getElem?_set] at hx
    by_cases he : j = k
    · subst he
      rw [if_pos rfl] at hx
      split at hx
      · rename_i hl
        injection hx with hx
        subst hx
        exact World.cell?_setCell_same' _ _ _ (h5 _ (by omega))
      · cases hx
    · rw [if_neg he] at hx
      rw [World.cell?_setCell_other _ _ _ _ (fun e => he (by injection e))]
      exact h7 k x hx
end

theorem grownBy_cells (g : Nat) : ∀ (vs : List Value) (o : Nat) (w : World), w.grownBy (w.setCells g o vs) (some g)
  | [], o, w => World.grownBy.refl w _
  | v :: r, o, w => by
    have h := grownBy_cells g r (o + 1) (w.setCell ⟨g, o, none⟩ v)
    refine ⟨h.os, h.tape, h.output, ?_, fun k hk hne => ?_⟩
    · exact Nat.le_trans (Nat.le_of_eq (by simp)) h.size
    · exact (h.block k (by simpa using hk) hne).trans (Below.heap_setCell _ _ _ _ (fun e => hne (by simp [e])))

section
variable {P : Program} (w : World)
theorem sl_of_own {e : TypeId} {B : Nat} {v : Value} {n : Nat} {xs : List Value} (h : w.ownsRow B e 1 v n xs) (hn : 0 < n) : ∃ g cap, v = .slice (some ⟨g, 0, none⟩) n cap ∧ Sl w B g cap xs := by
  rcases h.2 with ⟨_, h0⟩ | ⟨g, cap, cur, hv, hb, hg, hnc, hcm, hcs, htk⟩
  · omega
  · have hr : Row w g e cur.toList := by unfold Row; rw [Array.toArray_toList]; exact hg
    refine ⟨g, cap, hv, hb, hr.lt, by rw [h.1]; omega, hcm, fun j hj => ?_, fun j _ => hr.frozen j, fun j u hu => ?_⟩
    · rw [hr.cell]; simp; omega
    · rw [hr.cell]
      rw [← htk, List.getElem?_take] at hu
      split at hu
      · exact hu
      · cases hu

/-- append onto a slice of the call's own. -/
theorem run_append_sl (t ty e : TypeId) (i : TypeInfo) (z : Value) (bytes : Nat) (ht : P.underlying t = some (.slice e)) (hi : P.info? e = some i) (hz : i.zero = some z) (hsize : i.size = 1) (hby : i.bytes = bytes) (hzs : z.cells.size = 1) (hb16 : bytes ≤ 16)
    (B g cap n : Nat) (xs : List Value) (hn : xs.length = n) (hs : Sl w B g cap xs)
    (ad : Addr) (m c : Nat) (news : List Value) (hl : news.length = m) (hnews : ∀ j u, news[j]? = some u → w.cell? (ad.add j) = some u) (h1 : ∀ u ∈ news, u.oneCell' = true) (_hm : 0 < m) (hlen : n + m ≤ 1000000000) :
    ∃ g' cap' w', (Builtin.append_ #[t, t] ty #[.slice (some ⟨g, 0, none⟩) n cap, .slice (some ad) m c]).run P w = .ok (.slice (some ⟨g', 0, none⟩) (n + m) cap') w' ∧ Sl w' B g' cap' (xs ++ news) ∧ w.grownBy w' (some g) ∧ (g' = g ∨ w.heap.size ≤ g') ∧ ∀ j, j < n → w'.cell? ⟨g, j, none⟩ = w.cell? ⟨g, j, none⟩ := by
  obtain ⟨s1, s2, s3, s4, s5, s6, s7⟩ := hs
  by_cases hroom : n + m ≤ cap
  · have hr := run_append_room_cells (P := P) w t ty e i ht hi g 0 n cap ad m c news (by rw [hl, hsize]; omega) hnews h1 hroom (fun j hj => by rw [hsize]; exact s5 _ (by omega)) (fun j hj => by rw [hsize]; exact s6 _ (by omega))
    rw [hsize, Nat.zero_add, Nat.mul_one] at hr
    refine ⟨g, cap, _, hr, ⟨s1, ?_, by rw [List.length_append]; omega, s4, fun j hj => ?_, fun j hj => ?_, fun j u hu => ?_⟩, grownBy_cells g _ _ _, .inl rfl, fun j hj => World.cell?_setCells_out g news n w ⟨g, j, none⟩ (fun _ _ => .inl hj)⟩
    · exact Nat.lt_of_lt_of_le s2 (grownBy_cells g news n w).size
    · by_cases hin : n ≤ j ∧ j < n + news.length
      · have := World.cell?_setCells_in g news n w (fun k hk => s5 _ (by omega)) (j - n) (by omega)
        rw [show n + (j - n) = j by omega] at this
        rw [this]; rfl
      · rw [World.cell?_setCells_out g news n w ⟨g, j, none⟩ (fun _ _ => by show j < n ∨ n + news.length ≤ j; omega)]
        exact s5 j hj
    · rw [World.frozen?_setCells]; exact s6 j hj
    · by_cases hjn : j < n
      · rw [List.getElem?_append_left (by omega)] at hu
        rw [World.cell?_setCells_out g news n w ⟨g, j, none⟩ (fun _ _ => .inl hjn)]
        exact s7 j u hu
      · rw [List.getElem?_append_right (by omega), hn] at hu
        obtain ⟨hj2, hu2⟩ := List.getElem?_eq_some_iff.1 hu
        have := World.cell?_setCells_in g news n w (fun k hk => s5 _ (by omega)) (j - n) hj2
        rw [show n + (j - n) = j by omega, hu2] at this
        exact this
  · obtain ⟨v', w', hr, ho, hg⟩ := run_append_arg_grows (P := P) w t ty e i z 1 bytes ht hi hz hsize hby hzs (by decide) ⟨g, 0, none⟩ n cap xs (by omega) (fun j u hu => by
        rw [show (⟨g, 0, none⟩ : Addr).add j = ⟨g, j, none⟩ by unfold Addr.add; split <;> simp_all]; exact s7 j u hu) ad m c news (by omega) hnews (by omega) (by simp only [maxLen]; omega) (by
        have : (n + m) * bytes ≤ 1000000000 * 16 := Nat.mul_le_mul hlen hb16
        omega)
    obtain ⟨g', cap', rfl, hsl⟩ := sl_of_own w' ho (by omega)
    exact ⟨g', cap', w', hr, hsl.more (Nat.le_trans s1 (Nat.le_of_lt s2)), ⟨hg.os, hg.tape, hg.output, hg.size, fun k hk _ => hg.block k hk (by simp)⟩, .inr hsl.1, fun j _ => World.cell?_of_block (a := ⟨g, j, none⟩) (hg.block g s2 (by simp))⟩

theorem wpList_append_sl {ops : Array Oper} {rest : List Oper} {o : Oper} {a : Act} {Q : Exit → Act → World → Prop} (hgd : o.guard = none) (s x : Operand) (t : TypeId)
    (ho : o.op = .call { callee := .builtin .append, args := #[s, x], argTypes := #[t, t] })
    (e : TypeId) (i : TypeInfo) (z : Value) (bytes : Nat) (ht : P.underlying t = some (.slice e)) (hi : P.info? e = some i) (hz : i.zero = some z) (hsize : i.size = 1) (hby : i.bytes = bytes) (hzs : z.cells.size = 1) (hb16 : bytes ≤ 16)
    (B g cap n : Nat) (xs : List Value) (hs : a.eval s = .slice (some ⟨g, 0, none⟩) n cap) (hn : xs.length = n) (hown : Sl w B g cap xs)
    (ad : Addr) (m c : Nat) (news : List Value) (hx : a.eval x = .slice (some ad) m c) (hl : news.length = m) (hnews : ∀ j u, news[j]? = some u → w.cell? (ad.add j) = some u) (h1 : ∀ u ∈ news, u.oneCell' = true) (hm : 0 < m) (hlen : n + m ≤ 1000000000)
    (h : ∀ g' cap' w', Hid (Sl w' B g' cap' (xs ++ news)) → Hid (w.grownBy w' (some g)) → Hid (g' = g ∨ w.heap.size ≤ g') → wpList P ops Q rest (a.put o.dst (.slice (some ⟨g', 0, none⟩) (n + m) cap')) w') : wpList P ops Q (o :: rest) a w := by
  obtain ⟨g', cap', w', hr, h2, h3, h4, _⟩ := run_append_sl (P := P) w t o.type e i z bytes ht hi hz hsize hby hzs hb16 B g cap n xs hn hown ad m c news hl hnews h1 hm hlen
  refine wpList_plain hgd fun _ hK => ?_
  unfold Oper.wp execOp
  simp only [ho, resolve, invoke, builtin, Sem.run_bind, Sem.run_pure, Result.andThen_ok, List.map_toArray, List.map_cons, List.map_nil, hs, hx, hr]
  exact hK _ _ (h g' cap' w' h2 h3 h4)

/-- make, of zeros. -/
theorem wpList_make_sl {ops : Array Oper} {rest : List Oper} {o : Oper} {a : Act} {Q : Exit → Act → World → Prop} (hgd : o.guard = none) (l c : Operand) (t : TypeId) (hop : o.op = Op.makeSlice t l c)
    (e : TypeId) (i : TypeInfo) (z : Value) (ht : P.underlying t = some (.slice e)) (hi : P.info? e = some i) (hz : i.zero = some z) (hsize : i.size = 1) (hb16 : i.bytes ≤ 16) (hzc : z.cells = #[z])
    (B : Nat) (kl kc : IntKind) (L C : Int) (n m : Nat) (hl : a.eval l = .int kl L) (hc : a.eval c = .int kc C) (hL : L = (n : Int)) (hC : C = (m : Int)) (hnm : n ≤ m) (hm : m ≤ 1000000) (hB : B ≤ w.heap.size)
    (h : ∀ w', Hid (Sl w' B w.heap.size m (List.replicate n z)) → Hid (Below w.heap.size w w') → wpList P ops Q rest (a.put o.dst (.slice (some ⟨w.heap.size, 0, none⟩) n m)) w') : wpList P ops Q (o :: rest) a w := by
  subst hL hC
  have hbm : i.bytes * m ≤ 16 * 1000000 := Nat.mul_le_mul hb16 hm
  have hrun := run_make (P := P) w t e i z ht hi hz kl kc (n : Int) (m : Int) (by omega) (by omega) (by
    have h : ((i.bytes * m : Nat) : Int) ≤ 281474976710656 := by omega
    rwa [Int.natCast_mul] at h) (by omega)
  rw [hzc, hsize, Nat.mul_one, Int.toNat_natCast, Int.toNat_natCast] at hrun
  have hr : Row (w.alloc (.cells (madeCells #[z] m) e)) w.heap.size e (List.replicate m z) := Row.new_at _ _ _ _ rfl (by rw [← toList_madeCells_one, Array.toArray_toList])
  refine wpList_plain hgd fun K hK' => ?_
  unfold Oper.wp
  simp [execOp, hop, hl, hc, hrun, Result.andThen]
  refine hK' _ _ (h _ ⟨hB, by simp, by simpa using hnm, by simp only [maxLen]; omega, fun j hj => ?_, fun j _ => hr.frozen j, fun j u hu => ?_⟩ ((Below.refl _ _).alloc (Nat.le_refl _) _))
  · rw [hr.cell]; simp [hj]
  · rw [hr.cell]
    rw [List.getElem?_replicate] at hu ⊢
    split at hu
    · rw [if_pos (by omega)]; exact hu
    · cases hu

/-- The new value and world of '[]byte(s)'. -/
theorem wpList_bytes_sl {ops : Array Oper} {rest : List Oper} {o : Oper} {a : Act} {Q : Exit → Act → World → Prop} (hgd : o.guard = none) (x : Operand) (src dst e : TypeId) (ho : o.op = .convert src dst x)
    (hs : P.underlying src = some .string) (hd : P.underlying dst = some (.slice e)) (he : P.underlying e = some (.int .u8)) (B : Nat) (s : ByteArray) (hx : a.eval x = .string s) (hB : B ≤ w.heap.size) (hl : s.size ≤ 1000000000)
    (h : ∀ cap w', Hid (Sl w' B w.heap.size cap (bvals s.data.toList)) → Hid (Below w.heap.size w w') → wpList P ops Q rest (a.put o.dst (.slice (some ⟨w.heap.size, 0, none⟩) s.size cap)) w') : wpList P ops Q (o :: rest) a w := by
  have hrun := run_bytes_of_string (P := P) w src dst e s hs hd he
  have hge : s.size ≤ grownCap w s.size 0 e := grownCap_ge w s.size 0 e
  have hle : grownCap w s.size 0 e ≤ maxLen := grownCap_le_maxLen w s.size 0 e (by simp only [maxLen]; omega)
  have hlen : s.data.toList.length = s.size := by simp
  have hbr : (bytesRow s (grownCap w s.size 0 e)).size = grownCap w s.size 0 e := by
    simp [bytesRow]; omega
  refine wpList_plain hgd fun _ hK => ?_
  unfold Oper.wp execOp
  simp only [ho, hx, hrun, Sem.run_bind, Result.andThen_ok]
  refine hK _ _ (h (grownCap w s.size 0 e) _ ⟨hB, ?_, ?_, hle, fun j hj => ?_, fun j hj => ?_, fun j u hu => ?_⟩ (((Below.refl _ _).drew).alloc (Nat.le_refl _) _))
  · show w.drew.heap.size < _
    simp
  · rw [bvals_length, hlen]; exact hge
  · have := World.cell?_alloc_mark w.drew (bytesRow s (grownCap w s.size 0 e)) e ((bytesRow s (grownCap w s.size 0 e)).size, (bytesRow s (grownCap w s.size 0 e)).size + 1) j
    show (World.cell? (w.drew.alloc _) ⟨w.drew.heap.size, j, none⟩).isSome = true
    rw [this]
    simp [hbr, hj]
  · have := World.frozen?_alloc_mark w.drew (bytesRow s (grownCap w s.size 0 e)) e (bytesRow s (grownCap w s.size 0 e)).size ((bytesRow s (grownCap w s.size 0 e)).size + 1) j
    show (World.frozen? (w.drew.alloc _) ⟨w.drew.heap.size, j, none⟩) = false
    rw [this, hbr]
    simp; omega
  · have := World.cell?_alloc_mark w.drew (bytesRow s (grownCap w s.size 0 e)) e ((bytesRow s (grownCap w s.size 0 e)).size, (bytesRow s (grownCap w s.size 0 e)).size + 1) j
    show (World.cell? (w.drew.alloc _) ⟨w.drew.heap.size, j, none⟩) = _
    rw [this]
    obtain ⟨hj, hu⟩ := List.getElem?_eq_some_iff.1 hu
    rw [bvals_length] at hj
    rw [bytesRow_at s _ j (by simpa using hj), ← hu]
    simp [bvals]
end
end Sh
end Go.Proofs.YtogpigfepebibaaGreatDoor

namespace Go.Proofs.YtogpigfepebibaaGreatDoor
namespace Sh
open Go.RowKit

theorem byteInfo : (Tryz.prog.info? 5).map (fun i => (i.zero, i.size, i.bytes)) = some (some (.int .u8 0), 1, 1) := by kernel_rfl

theorem byte_val (n e : Nat) : (n : Int) * 8 / 2 ^ e % 256 = ((UInt8.ofNat (n * 8 / 2 ^ e)).toNat : Int) := by
  rw [UInt8.toNat_ofNat']
  simp

set_option maxRecDepth 100000 in
set_option maxHeartbeats 2000000 in
theorem ending_any (n : Nat) (w : World) (hn : n ≤ 1000000) :
    Calls Tryz.prog 80 #[.int .u64 (n : Int)] w fun e w' => e = .returned (.string ⟨(tail n).toArray⟩) ∧ Below w.heap.size w w' := by
  obtain ⟨i0, hi, hz0, hz1, hz2⟩ := info_parts byteInfo
  have hz : padZ n ≤ 63 := by unfold padZ; omega
  have HZ : Hid (padZ n = 63 - (n + 8) % 64) := rfl
  go_enter Tryz.func80, Tryz.ntmps80
  go_wp2_with (at_make; refine wpList_make_sl _ rfl (.tmp 11) (.tmp 14) 76 rfl 5 i0 (.int .u8 0) Tryz.underlying76 hi hz0 hz1 (by rw [hz2]; decide) rfl w.heap.size .u64 .u64 _ _ (1 + padZ n) (9 + padZ n) rfl rfl ?m1 ?m2 (by omega) (by omega) (Nat.le_refl _) ?_)
  case m1 => rw [HZ.out]; omega
  case m2 => rw [HZ.out]; omega
  intro w1 HS1 HB1
  have hc0 := HS1.out.at_ 0 (by simp; omega)
  have hf0 := HS1.out.2.2.2.2.2.1 0 (by omega)
  have hs2 : Sl (w1.setCell ⟨w.heap.size, 0, none⟩ (.int .u8 128)) w.heap.size w.heap.size (9 + padZ n) (bvals (pad n ++ lenB n 0)) := by
    have h := HS1.out.set 0 (.int .u8 128)
    have e : (List.replicate (1 + padZ n) (Value.int .u8 0)).set 0 (.int .u8 128) = bvals (pad n ++ lenB n 0) := by
      rw [show 1 + padZ n = padZ n + 1 by omega, List.replicate_succ, List.set_cons_zero]
      simp [bvals, pad, lenB]
    rw [e] at h
    exact h
  have hb2 : Below w.heap.size w (w1.setCell ⟨w.heap.size, 0, none⟩ (.int .u8 128)) := HB1.out.setCell (by simp) _
  have HS2 := Lib.hid hs2
  have HB2 := Lib.hid hb2
  clear hs2 hb2 HS1 HB1
  go_wp2
  go_loopw [4, 18] (fun v i wr => ∃ (k g cap : Nat), k ≤ 8 ∧ i = .int .i64 k ∧ v = .slice (some ⟨g, 0, none⟩) (1 + padZ n + k) cap ∧ Hid (Sl wr w.heap.size g cap (bvals (pad n ++ lenB n k))) ∧ Hid (Below w.heap.size w wr)) (fun _ i _ => 8 - (intOf i).toNat)
  case atStart => exact ⟨0, _, _, by omega, rfl, rfl, HS2, HB2⟩
  case round =>
    obtain ⟨k, g, cap, hk, rfl, rfl, HS, HB⟩ := hrel
    by_cases hlt : k < 8
    · have hki : (k : Int) < 8 := by omega
      have hlen : (bvals (pad n ++ lenB n k)).length = 1 + padZ n + k := by rw [bvals_length, List.length_append, pad_length, lenB_length]
      have hls := lenB_succ n k
      have hbv := byte_val n (56 - k * 8)
      generalize UInt8.ofNat (n * 8 / 2 ^ (56 - k * 8)) = c at hls hbv
      have HLN := Lib.hid hlen
      have HLS := Lib.hid hls
      have HBV := Lib.hid hbv
      clear hlen hls hbv
      go_wp2_with (at_builtin; refine wpList_append_sl _ rfl (.tmp 21) (.tmp 29) 76 rfl 5 i0 (.int .u8 0) 1 Tryz.underlying76 hi hz0 hz1 hz2 rfl (by decide) w.heap.size g cap (1 + padZ n + k) _ rfl HLN.out (HS.out.alloc _) ⟨wr.heap.size, 0, none⟩ 1 1 [.int .u8 (c.toNat : Int)] rfl rfl ?c1 ?c2 (by decide) (by omega) ?_)
      case c1 =>
        rintro (_ | j) u hj
        · simp only [List.getElem?_cons_zero, Option.some.injEq] at hj
          subst hj
          rw [← HBV.out]
          simp [Addr.add]
        · simp at hj
      case c2 => intro u hu; obtain rfl := List.mem_singleton.1 hu; rfl
      intro g' cap' w2 HS2' HG2 _
      have hs3 : Sl w2 w.heap.size g' cap' (bvals (pad n ++ lenB n (k + 1))) := by
        rw [HLS.out, ← List.append_assoc, bvals_append (pad n ++ lenB n k)]
        exact HS2'.out
      have hb3 : Below w.heap.size w w2 := (HB.out.alloc HB.out.size _).grown HG2.out (by have := HB.out.size; simp; omega) (fun k' hk' => by injection hk' with hk'; subst hk'; exact HS.out.1)
      have HS3 := Lib.hid hs3
      have HB3 := Lib.hid hb3
      clear hs3 hb3 HS2' HG2
      go_wp2
      go_roundw
      case rel => exact ⟨k + 1, g', cap', by omega, by go_num, rfl, HS3, HB3⟩
      case measure => simp [intOf]; omega
    · have hk8 : k = 8 := by omega
      subst hk8
      have hcv : ∀ W : World, W = wr → (convert 76 9 (.slice (some ⟨g, 0, none⟩) (1 + padZ n + 8) cap)).run Tryz.prog W = .ok (.string ⟨(tail n).toArray⟩) W := by
        rintro W rfl
        have h := run_convert_bytes_back (P := Tryz.prog) W 76 9 5 ⟨g, 0, none⟩ cap (tail n) Tryz.underlying76 Tryz.underlying5 Tryz.underlying9 (fun j hj => by
          rw [show (⟨g, 0, none⟩ : Addr).add j = ⟨g, j, none⟩ by unfold Addr.add; split <;> simp_all]
          refine HS.out.2.2.2.2.2.2 j _ ?_
          show (bvals (tail n))[j]? = _
          rw [bvals_get _ _ hj, List.getD_eq_getElem?_getD, List.getElem?_eq_getElem hj]; rfl)
        rw [tail_length, show 9 + padZ n = 1 + padZ n + 8 by omega] at h
        exact h
      have hcv' := hcv wr rfl
      clear hcv
      go_wp2
      go_ret
      exact ⟨rfl, HB.out⟩
end Sh
end Go.Proofs.YtogpigfepebibaaGreatDoor
