/-
  Layer 7 (disk): law Runs.
-/
import Derived.Test.YteikfdijcepimaaDT
import Derived.Test.YteikfdijcepimaaDO
import Derived.Deep.RegionHeld3
import Derived.StillTailTactics
import Derived.Laws.OwnMore
import Derived.Deep.CutRange
namespace Go.Proofs.Yteikfdijcepimaa
namespace Dk
open Go.RowKit Go.ChangeShapes Kr

/-- A disk of the program's, and the document's in the block cw: the same. -/
structure Run (R : World → (Nat → Prop) → Nat → DD → Prop) (w2 : World) (cw b : Nat) (S : Nat → Prop) (D : DD) (A : Option Addr) (m cp : Nat) (W : World) : Prop where
  st : St R w2 W S b D
  row : Row W cw 29 (ldisk A m cp D.left)
  len : D.files.length = m
  files : FRow W W.heap.size A D.files
  off : Off S W.heap.size A
  away : ¬ S cw
  aside : ∀ p, A = some p → p.block ≠ cw
  base : w2.heap.size ≤ cw
section
variable {R : World → (Nat → Prop) → Nat → DD → Prop} {w2 W W' : World} {cw b m cp : Nat} {S : Nat → Prop} {D : DD} {A : Option Addr}
theorem Run.later (hK : Keeps R) (h : Run R w2 cw b S D A m cp W) (hb : Below W.heap.size W W') : Run R w2 cw b S D A m cp W' :=
  ⟨h.st.later hK hb, h.row.below hb h.row.lt, h.len, h.files.later hb, fun p hp => ⟨(h.off p hp).1, Nat.lt_of_lt_of_le (h.off p hp).2 hb.size⟩, h.away, h.aside, h.base⟩
theorem Run.alloc (hK : Keeps R) (h : Run R w2 cw b S D A m cp W) (o : Obj) : Run R w2 cw b S D A m cp (W.alloc o) := h.later hK ((Below.refl _ _).alloc (Nat.le_refl _) _)
theorem Run.cells (h : Run R w2 cw b S D A m cp W) : W.cell? ⟨cw, 0, none⟩ = some (.slice A m cp) ∧ W.cell? ⟨cw, 1, none⟩ = some (.int .i64 D.left) := ⟨h.row.cell 0, h.row.cell 1⟩
/-- Behind the laws' do, and what it answered stored. -/
theorem Run.did (hK : Keeps R) {X : DD × Nat} {w4 : World} {e : Ending} (h : Run R w2 cw b S D A m cp W) (hd : Did R S b A X X W e w4) :
    ∃ S' A' m' cp', e = .returned (.tuple #[.int .i64 (X.2 : Int), .int .i64 (X.2 : Int), dval A' m' cp' X.1.left]) ∧ Row w4 cw 29 (ldisk A m cp D.left) ∧ Away S W w4 ∧
      ∀ wd w5, Below w4.heap.size w4 wd → Turn cw wd w5 → Row w5 cw 29 (ldisk A' m' cp' X.1.left) → Run R w2 cw b S' X.1 A' m' cp' w5 := by
  obtain ⟨S', A', m', cp', he, hr, hq, ha, hl, hx, hA⟩ := hd
  refine ⟨S', A', m', cp', he, row_away h.row ha h.away, ha, fun wd w5 hbd ht hrow => ?_⟩
  have hcw := h.row.lt
  have hs1 := ha.size
  have hs2 := hbd.size
  have hs3 : w5.heap.size = wd.heap.size := ht.2.2.2.1
  have hne : ∀ q, S' q → q ≠ cw := fun q hs => (hq q hs).elim (fun h2 e => h.away (e ▸ h2)) (fun h2 => by omega)
  have hA2 : ∀ p, A' = some p → ¬ S' p.block ∧ p.block < w4.heap.size ∧ p.block ≠ cw := fun p hp => by
    rcases hA with e | hA
    · have h1 := h.off p (e ▸ hp)
      exact ⟨fun hs => (hq _ hs).elim h1.1 (fun h2 => by have := h1.2; omega), by have := h1.2; omega, h.aside p (e ▸ hp)⟩
    · obtain ⟨a1, a2, a3⟩ := hA p hp
      exact ⟨a1, a3, by omega⟩
  have hst := h.st.acted hr hq ha
  refine ⟨⟨below_turn (hst.below.trans (hbd.mono hst.below.size)) ht h.base, hst.own, hK.keep hr fun q hs => (ht.2.2.2.2 q (hne q hs)).trans (hbd.block q (hK.inside hr q hs))⟩, hrow, hl, ?_, fun p hp => ⟨(hA2 p hp).1, by have := (hA2 p hp).2.1; omega⟩, fun hs => hne cw hs rfl, fun p hp => (hA2 p hp).2.2, h.base⟩
  intro j x hj
  obtain ⟨b', o', h1, h2, h3⟩ := hx j x hj
  have h4 := (hA2 _ h1).2.2
  exact ⟨b', o', h1, by omega, fun i v hv => (World.cell?_of_block (w := wd) (a := ⟨b', _, none⟩) (ht.2.2.2.2 b' h4)).trans ((hbd.cell (p := ⟨b', _, none⟩) h2).trans (h3 i v hv))⟩
end

abbrev other : ByteArray := ⟨#[111, 116, 104, 101, 114]⟩
theorem int_row : (Try.prog.info? 3).map (fun i => (i.zero, i.size, i.bytes)) = some (some (.int .i64 0), 1, 8) := by kernel_rfl
theorem picks_one (ps : List Int) : ∀ u ∈ ps.flatMap encI, u.oneCell' = true := by
  intro u hu
  obtain ⟨z, _, hz⟩ := List.mem_flatMap.1 hu
  rw [List.mem_singleton.1 hz]; rfl
set_option maxRecDepth 100000 in
/-- append([]int{}, picks...). -/
theorem append_picks (w : World) (g B : Nat) (pa : Option Addr) (pn pcap : Nat) (ps : List Int) (ty : TypeId) (hg : g ≤ w.heap.size) (hown : w.ownsRow g 3 1 (.slice (some ⟨g, 0, none⟩) 0 0) 0 []) (hl : ps.length = pn) (hb : pn ≤ 100000) (hp : PRow w B pa ps) :
    ∃ A' cap' w', (Builtin.append_ #[31, 31] ty #[.slice (some ⟨g, 0, none⟩) 0 0, .slice pa pn pcap]).run Try.prog w = .ok (.slice A' pn cap') w' ∧ OwnsK encI 1 3 w' g (.slice A' pn cap') ps ∧ w.grownBy w' (some g) := by
  obtain ⟨i, hi, hz0, hz1, hz2⟩ := info_parts int_row
  have hlen : (ps.flatMap encI).length = pn * 1 := by rw [flat_length encI_length, hl]
  cases pa with
  | none =>
    have h0 : ps = [] := by
      cases ps with
      | nil => rfl
      | cons z ps => obtain ⟨b, o, e, _⟩ := hp 0 z rfl; cases e
    subst h0
    obtain rfl : pn = 0 := hl.symm
    refine ⟨some ⟨g, 0, none⟩, 0, w, ?_, hown, ⟨rfl, rfl, rfl, Nat.le_refl _, fun _ _ _ => rfl⟩⟩
    rcases hown.2 with ⟨hv, _⟩ | ⟨g', cap, cur, hv, _, _, hnc, _⟩
    · cases hv
    · simp [Builtin.append_, run_underlying Try.underlying31, sizeOf, typeInfo, hi, Builtin.lenOf, Builtin.firstCells, storeCells]
  | some a =>
    obtain ⟨v', w', hrun, h1, h2, _⟩ := run_append_own (P := Try.prog) w g 31 ty 3 i (.int .i64 0) 1 8 Try.underlying31 hi hz0 hz1 hz2 rfl (by decide) (.slice (some ⟨g, 0, none⟩) 0 0) 0 [] hown a pn pcap (ps.flatMap encI) hlen (fun j u hu => by
      have hj := (List.getElem?_eq_some_iff.1 hu).1
      rw [hlen, Nat.mul_one] at hj
      obtain ⟨b, o, e, _, h3⟩ := hp j (ps[j]'(by rw [hl]; exact hj)) (List.getElem?_eq_getElem _)
      injection e with e
      subst e
      have h4 := flat_at encI_length ps j _ (List.getElem?_eq_getElem (by rw [hl]; exact hj)) 0 _ rfl
      rw [Nat.mul_one, Nat.add_zero, hu] at h4
      injection h4 with h4
      have h5 := h3 0 _ rfl
      rw [Addr.add_lit, h4]
      rw [Nat.mul_one, Nat.add_zero] at h5
      exact h5) (picks_one ps) (by simp only [maxLen]; omega) (by omega) hg
    have h3 : OwnsK encI 1 3 w' g v' ps := by
      show World.ownsRow _ _ _ _ _ _ _
      rw [hl]
      simpa using h1
    obtain ⟨A', cap', hv⟩ := h3.form
    rw [hl] at hv
    subst hv
    exact ⟨A', cap', w', hrun, h3, h2⟩
section
variable {ops : Array Oper} {o : Oper} {a : Act} {w : World} {K : Act → World → Prop} {Q : Exit → Act → World → Prop} {E : Prop}
/-- .. as a step of a region that draws its order. -/
theorem step_append_picks (hgd : o.guard = none) (s x : Operand) (ho : o.op = .call { callee := .builtin .append, args := #[s, x], argTypes := #[31, 31] })
    (g B : Nat) (hs : a.eval s = .slice (some ⟨g, 0, none⟩) 0 0) (pa : Option Addr) (pn pcap : Nat) (hx : a.eval x = .slice pa pn pcap) (ps : List Int) (hg : g ≤ w.heap.size) (hown : w.ownsRow g 3 1 (.slice (some ⟨g, 0, none⟩) 0 0) 0 []) (hl : ps.length = pn) (hb : pn ≤ 100000) (hp : PRow w B pa ps)
    (h : ∀ A' cap' w', Hid (OwnsK encI 1 3 w' g (.slice A' pn cap') ps) → Hid (w.grownBy w' (some g)) → K (a.put o.dst (.slice A' pn cap')) w') :
    if Region.wanted o (yielded ops a.tmps) = true then Oper.wp Try.prog o a w K Q else E := by
  have hw : Region.wanted o (yielded ops a.tmps) = true := by simp [Region.wanted, hgd]
  rw [if_pos hw]
  obtain ⟨A', cap', w', hr, h1, h2⟩ := append_picks w g B pa pn pcap ps o.type hg hown hl hb hp
  unfold Oper.wp execOp
  simp only [ho, resolve, invoke, builtin, Sem.run_bind, Sem.run_pure, Result.andThen_ok, List.map_toArray, List.map_cons, List.map_nil, hs, hx, hr]
  exact h A' cap' w' h1 h2
end

theorem row_on {w w' : World} {g : Nat} {t : TypeId} {l : List Value} (h : Row w g t l) (hb : Below w.heap.size w w') : Row w' g t l := h.below hb h.lt
/-- Behind both crashes: the program's disk b8, the document's in the block gb. -/
structure Beh (R : World → (Nat → Prop) → Nat → DD → Prop) (w6 : World) (b8 : Nat) (S8 : Nat → Prop) (D8 : DD) (A9 : Option Addr) (m cp gb : Nat) (W : World) : Prop where
  below : Below w6.heap.size w6 W
  has : R W S8 b8 D8
  own : ∀ q, S8 q → w6.heap.size ≤ q
  row : Row W gb 29 (ldisk A9 m cp (-1))
  files : OwnsF W w6.heap.size (.slice A9 m cp) D8.files
  high : w6.heap.size ≤ gb
  off : ∀ p, A9 = some p → ¬ S8 p.block
theorem owns_not {w : World} {base g m cp : Nat} {A : Option Addr} {l : List FF} {v : List Value} (h : OwnsF w base (.slice A m cp) l) (hr : Row w g 29 v) : ∀ p, A = some p → p.block ≠ g ∧ base ≤ p.block ∧ p.block < w.heap.size := by
  intro p hp
  rcases h.2 with ⟨hv, _⟩ | ⟨g', c, cur, hv, hb, hh, _⟩
  · injection hv with hv; rw [hp] at hv; cases hv
  · injection hv with hv
    rw [hp] at hv
    injection hv with hv
    subst hv
    refine ⟨?_, hb, (Array.getElem?_eq_some_iff.1 hh).1⟩
    rintro rfl
    have h2 : w.heap[g']? = some (.cells v.toArray 29 (0, 0)) := hr
    rw [hh] at h2
    injection h2 with h2
    injection h2 with _ h2
    exact absurd h2 (by decide)
theorem beh_set {R : World → (Nat → Prop) → Nat → DD → Prop} (hK : Keeps R) {w6 w9 : World} {b8 m cp gb : Nat} {S8 : Nat → Prop} {D8 : DD} {A9 : Option Addr} (hb9 : Below w6.heap.size w6 w9) (hr9 : R w9 S8 b8 D8) (hn : ∀ q, S8 q → w6.heap.size ≤ q) (hng : ¬ S8 gb) (hg6 : w6.heap.size ≤ gb)
    (hz : Row w9 gb 29 zdisk) (ho : OwnsF w9 w6.heap.size (.slice A9 m cp) D8.files) (hoff : ∀ p, A9 = some p → ¬ S8 p.block) : Beh R w6 b8 S8 D8 A9 m cp gb ((w9.setCell ⟨gb, 0, none⟩ (.slice A9 m cp)).setCell ⟨gb, 1, none⟩ (.int .i64 (-1))) := by
  have hfar : ∀ q, q ≠ gb → ((w9.setCell ⟨gb, 0, none⟩ (.slice A9 m cp)).setCell ⟨gb, 1, none⟩ (.int .i64 (-1))).heap[q]? = w9.heap[q]? := fun q hq => (Below.heap_setCell _ ⟨gb, 1, none⟩ _ q hq).trans (Below.heap_setCell _ ⟨gb, 0, none⟩ _ q hq)
  refine ⟨(hb9.setCell hg6 _).setCell hg6 _, hK.keep hr9 fun q hq => hfar q (fun e => hng (e ▸ hq)), hn, (hz.set 0 _).set 1 _, ?_, hg6, hoff⟩
  refine ⟨ho.1, ho.2.imp id ?_⟩
  rintro ⟨g', c, cur, e1, e2, e3, e4⟩
  have e5 : A9 = some ⟨g', 0, none⟩ := by injection e1
  exact ⟨g', c, cur, e1, e2, (hfar g' (owns_not ho hz _ e5).1).trans e3, e4⟩
theorem owns_base {w : World} {base m cp : Nat} {A : Option Addr} {l : List FF} (h : OwnsF w base (.slice A m cp) l) : ∀ p, A = some p → base ≤ p.block := by
  intro p hp
  rcases h.2 with ⟨hv, _⟩ | ⟨g', c, cur, hv, hb, _⟩
  · injection hv with hv; rw [hp] at hv; cases hv
  · injection hv with hv
    rw [hp] at hv
    injection hv with hv
    subst hv
    exact hb
theorem Run.crash {R : World → (Nat → Prop) → Nat → DD → Prop} (hK : Keeps R) {w2 w6 wd wx we : World} {cw b b8 m m' cp cp' gb : Nat} {S S8 : Nat → Prop} {D D8 : DD} {A A9 : Option Addr} (h : Run R w2 cw b S D A m cp w6) (hb : Beh R w6 b8 S8 D8 A9 m' cp' gb wd) (hx : Below wd.heap.size wd wx) (ht : Turn cw wx we)
    (hrow : Row we cw 29 (ldisk A9 m' cp' D8.left)) (hl : D8.files.length = m') : Run R w2 cw b8 S8 D8 A9 m' cp' we := by
  have hcw := h.row.lt
  have hs0 := h.st.below.size
  have hs1 := hb.below.size
  have hs2 := hx.size
  have hs3 : we.heap.size = wx.heap.size := ht.2.2.2.1
  have hA : ∀ p, A9 = some p → w6.heap.size ≤ p.block ∧ p.block < wd.heap.size := fun p hp => ⟨owns_base hb.files p hp, (owns_not hb.files hb.row p hp).2.2⟩
  have hfar : ∀ q, q < wd.heap.size → q ≠ cw → we.heap[q]? = wd.heap[q]? := fun q hq hn => (ht.2.2.2.2 q hn).trans (hx.block q hq)
  have hin := hK.inside hb.has
  refine ⟨⟨below_turn ((h.st.below.trans (hb.below.mono hs0)).trans (hx.mono (Nat.le_trans hs0 hs1))) ht h.base, fun q hq => Nat.le_trans hs0 (hb.own q hq), hK.keep hb.has fun q hq => hfar q (hin q hq) (by have := hb.own q hq; omega)⟩, hrow, hl, ?_, fun p hp => ⟨hb.off p hp, by have := (hA p hp).2; omega⟩, fun hs => by have := hb.own cw hs; omega, fun p hp => by have := (hA p hp).1; omega, h.base⟩
  intro j x hj
  obtain ⟨b', o', h1, h2, h3⟩ := OwnsK.row encF_length hb.files j x hj
  have h4 := (hA _ h1).1
  have h5 : w6.heap.size ≤ b' := h4
  exact ⟨b', o', h1, by omega, fun i v hv => (World.cell?_of_block (w := wd) (a := ⟨b', _, none⟩) (hfar b' h2 (by omega))).trans (h3 i v hv)⟩
theorem Beh.later {R : World → (Nat → Prop) → Nat → DD → Prop} (hK : Keeps R) {w6 wc wd : World} {b8 m cp gb : Nat} {S8 : Nat → Prop} {D8 : DD} {A9 : Option Addr} (h : Beh R w6 b8 S8 D8 A9 m cp gb wc) (hb : Below wc.heap.size wc wd) : Beh R w6 b8 S8 D8 A9 m cp gb wd :=
  ⟨h.below.trans (hb.mono h.below.size), hK.later h.has hb, h.own, row_on h.row hb, OwnsK.keep h.files hb, h.high, h.off⟩
theorem owns_cap {α : Type} {enc : α → List Value} {k : Nat} {T : TypeId} {w : World} {base n cap : Nat} {A : Option Addr} {l : List α} (h : OwnsK enc k T w base (.slice A n cap) l) : n ≤ cap := by
  rcases h.2 with ⟨hv, h0⟩ | ⟨g, c, cur, hv, _, _, hn, _⟩
  · injection hv with _ h1 h2; omega
  · injection hv with _ h1 h2; omega

set_option maxRecDepth 100000 in
set_option maxHeartbeats 8000000 in
theorem runs_law {R : World → (Nat → Prop) → Nat → DD → Prop} (hK : Keeps R) (A0 : Option Addr) (cap n : Nat) (t : List Ac) (w : World) (hn : t.length = n) (hnm : n ≤ 9223372036854775807) (hok : ∀ a ∈ t, Ok a) (hx : ARow w w.heap.size A0 t) :
    Calls Try.prog 3 #[.slice A0 n cap] w fun e w' => e = .returned (.bool true) ∧ Below w.heap.size w w' := by
  have HX := Lib.hid hx
  have HN := Lib.hid hn
  have HOK := Lib.hid hok
  have HGR := Lib.hid (fun W (h : KRow encA 6 W W.heap.size A0 t) => great_any A0 cap n t W HN.out hnm HOK.out h)
  have HAL := Lib.hid (fun W => alive_any hK W)
  clear hx hn hok
  go_enter Try.func3, Try.ntmps3
  go_wp2_with fail
  refine (HAL.out _).mono ?_
  rintro e w1 ⟨rfl, hb1⟩
  have HB1 := Lib.hid hb1
  have HX1 : Hid (ARow w1 w.heap.size A0 t) := HX.out.below hb1 (Nat.le_refl _)
  have hs1 := hb1.size
  clear hb1
  obtain ⟨g, hg⟩ : ∃ g : Int, (if 3000 < tot t then 1 else 0) = g := ⟨_, rfl⟩
  rw [hg] at HGR
  by_cases h3 : 3000 < tot t
  · rw [if_pos h3] at hg
    subst hg
    clear h3
    go_wp2_with fail
    refine (HGR.out _ (HX1.out.1.more (by omega))).mono ?_
    rintro e w2 ⟨rfl, hb2⟩
    have HB2 := Lib.hid (HB1.out.trans (hb2.mono (by omega)))
    clear hb2
    go_wp2_with fail
    go_ret
    exact ⟨rfl, HB2.out⟩
  · rw [if_neg h3] at hg
    subst hg
    have HTO := Lib.hid (Nat.not_lt.1 h3)
    clear h3
    go_wp2_with fail
    refine (HGR.out _ (HX1.out.1.more (by omega))).mono ?_
    rintro e w2 ⟨rfl, hb2⟩
    have HB2 := Lib.hid (HB1.out.trans (hb2.mono (by omega)))
    have HX2 : Hid (ARow w2 w.heap.size A0 t) := HX.out.below HB2.out (Nat.le_refl _)
    have hs2 := HB2.out.size
    clear hb2
    go_wp2_with fail
    refine (hK.new _).mono ?_
    rintro e w3 ⟨b0, S3, rfl, hr3, hS3, hb3⟩
    have HT3 : Hid (St R w2 w3 S3 b0 newV) := ⟨hb3, hS3, hr3⟩
    have hs3 := hb3.size
    clear hr3 hS3 hb3
    go_wp2_with fail
    refine (refnew_any _).mono ?_
    rintro e w4 ⟨rfl, hb4⟩
    have hs4 := hb4.size
    obtain ⟨cw, hcw⟩ : ∃ cw, w4.heap.size = cw := ⟨_, rfl⟩
    have HRN0 : Hid (Run R w2 cw b0 S3 newV none 0 0 (w4.alloc (.cells #[.slice none 0 0, .int .i64 (-1)] 29))) := by
      have hst := HT3.out.later hK hb4
      refine ⟨hst.alloc hK _, Row.new_at w4 _ _ _ hcw rfl, rfl, KRow.none_ _ _ _, fun p h => by (cases h), fun hs => ?_, fun p h => by (cases h), by omega⟩
      have := hK.inside HT3.out.has cw hs
      omega
    clear hb4
    go_wp2_with fail
    try simp only [hcw]
    go_loopw [3, 25] (fun dv i wr => ∃ (k b : Nat) (S : Nat → Prop) (D : DD) (A : Option Addr) (m cp : Nat), k ≤ n ∧ i = .int .i64 k ∧ dv = ptr b ∧ Hid (Run R w2 cw b S D A m cp wr) ∧ Hid (Fit (1 + tot (t.take k)) D)) (fun _ i _ => n - (intOf i).toNat)
    case atStart => exact ⟨0, b0, S3, newV, none, 0, 0, Nat.zero_le _, rfl, rfl, HRN0.out, fit_new _⟩
    case round =>
      obtain ⟨k, b, S, D, A, m, cp, hk, rfl, rfl, HRN, HFI⟩ := hrel
      clear HRN0 HT3
      by_cases hlt : k < n
      · have hki : (k : Int) < n := by omega
        have hxk : t[k]? = some (t[k]'(by rw [HN.out]; exact hlt)) := List.getElem?_eq_getElem _
        generalize t[k]'(by rw [HN.out]; exact hlt) = a at hxk
        have HXR : Hid (ARow wr w.heap.size A0 t) := HX2.out.below HRN.out.st.below (by omega)
        obtain ⟨b1, o1, rfl, hb1, hcs⟩ := HXR.out.1 k a hxk
        have c0 := hcs 0 (.int .i64 a.kind) rfl
        rw [Nat.add_zero] at c0
        have c1 := hcs 1 (.int .i64 a.num) rfl
        have c2 := hcs 2 (.string a.name) rfl
        have c3 := hcs 3 (.string a.to) rfl
        have c4 := hcs 4 (.string a.data) rfl
        have c5 := hcs 5 (.slice a.pa a.pn a.pcap) rfl
        have hmem := List.mem_of_getElem? hxk
        have HAO := Lib.hid (HOK.out a hmem)
        have hwt := tot_mem hmem
        have had : a.data.size ≤ 10000 := by have := HTO.out; unfold wgt at hwt; omega
        have hpnb : a.pn ≤ 10000 := by have := HTO.out; unfold wgt at hwt; omega
        have HSN := Lib.hid (tot_snoc hxk)
        have hsum : tot (t.take k) + wgt a ≤ 3000 := by have := tot_take t (k + 1); rw [HSN.out] at this; have := HTO.out; omega
        have HPK := Lib.hid (HX2.out.2 a hmem)
        have HFB : Hid (Fits D) := HFI.out.more (by omega)
        have HCW : Hid (cw < wr.heap.size) := HRN.out.row.lt
        have HXS : Hid (∀ (q : Nat), S q → q < wr.heap.size) := hK.inside HRN.out.st.has
        have HRN7 := Lib.hid (HRN.out.alloc hK (.cells #[.int .i64 a.kind, .int .i64 a.num, .string a.name, .string a.to, .string a.data, .slice a.pa a.pn a.pcap] 33))
        have HRA : Hid (Row (wr.alloc (.cells #[.int .i64 a.kind, .int .i64 a.num, .string a.name, .string a.to, .string a.data, .slice a.pa a.pn a.pcap] 33)) wr.heap.size 33 (encA a)) := Row.new_at _ _ _ _ rfl rfl
        obtain ⟨d0, d1⟩ := HRN7.out.cells
        have HDO := Lib.hid (do_any hK S b D D A cp m a _ HRN7.out.st.has HFB.out HFB.out HAO.out had HRN7.out.len HRN7.out.files HRN7.out.off)
        have HFX := Lib.hid (fit_step HFI.out a HAO.out.num.2)
        obtain ⟨X, hX⟩ : ∃ X, stepV D a = X := ⟨_, rfl⟩
        rw [hX] at HDO HFX
        obtain ⟨L0, hL0⟩ : ∃ L0, D.left = L0 := ⟨_, rfl⟩
        rw [hL0] at HDO d1
        have HL0 := Lib.hid hL0
        clear hcs hxk hwt hmem hX hL0
        go_wp2_with fail
        refine HDO.out.mono ?_
        rintro e w5 hd
        obtain ⟨S5, A5, m5, cp5, rfl, hrow5, haw5, hrun5⟩ := HRN7.out.did hK hd
        have HRW5 := Lib.hid hrow5
        have HRU5 := Lib.hid hrun5
        have HRA5 : Hid (Row w5 wr.heap.size 33 (encA a)) := row_away HRA.out haw5 (fun h => Nat.lt_irrefl _ (HXS.out _ h))
        clear hd hrow5 hrun5 haw5 d0 d1 c0 c1 c2 c3 c4 c5 HDO
        rw [HL0.out] at HRW5
        obtain ⟨cd, hcd⟩ : ∃ cd, X.2 = cd := ⟨_, rfl⟩
        obtain ⟨D5, hD5⟩ : ∃ D5, X.1 = D5 := ⟨_, rfl⟩
        simp only [hcd, hD5] at HRU5 HFX ⊢
        obtain ⟨L5, hL5⟩ : ∃ L5, D5.left = L5 := ⟨_, rfl⟩
        have HL5 := Lib.hid hL5
        simp only [hL5] at HRU5 ⊢
        clear hcd hD5 hL5
        go_wp2_with (refine wpList_store_all rfl 29 (.tmp 4) (.tmp 37) rfl cw (ldisk A5 m5 cp5 L5) rfl rfl 29 (ldisk A m cp L0) (HRW5.out.alloc _) (disk_info _ _ _ _) rfl (disk_one _ _ _ _) ?_)
        intro w6 HR6 HT6
        have HRN6 : Hid (Run R w2 cw b S5 D5 A5 m5 cp5 w6) := HRU5.out _ w6 ((Below.refl _ _).alloc (Nat.le_refl _) _) HT6.out HR6.out
        have HRA6 : Hid (Row w6 wr.heap.size 33 (encA a)) := (HRA5.out.alloc _).turn HT6.out (by have := HCW.out; omega)
        have HFD5 : Hid (Fits D5) := HFX.out.more (by omega)
        have HFK : Hid (Fit (1 + tot (t.take (k + 1))) D5) := by rw [HSN.out]; exact HFX.out.more (by omega)
        clear HR6 HT6 HRU5 HRW5 HRA5 HFX HRA
        have k0 : w6.cell? ⟨wr.heap.size, 0, none⟩ = some (.int .i64 a.kind) := HRA6.out.cell 0
        by_cases q5 : 5 ≤ a.kind
        · have q5i : (5 : Int) ≤ a.kind := q5
          clear q5
          have HPN : Hid (a.picks.length = a.pn) := HAO.out.len
          have HPZ : Hid (∀ z ∈ a.picks, -9223372036854775808 ≤ z ∧ z ≤ 9223372036854775807) := HAO.out.picks
          have hs6 : w2.heap.size ≤ w6.heap.size := HRN6.out.st.below.size
          have HPW : Hid (∀ W, Below w6.heap.size w6 W → PRow W w.heap.size a.pa a.picks) := fun W hW => (HPK.out.below HRN6.out.st.below (by omega)).below hW (by omega)
          have HC6 : Hid (∀ W, Below w6.heap.size w6 W → W.cell? ⟨cw, 0, none⟩ = some (.slice A5 m5 cp5) ∧ W.cell? ⟨cw, 1, none⟩ = some (.int .i64 L5) ∧ W.cell? ⟨wr.heap.size, 5, none⟩ = some (.slice a.pa a.pn a.pcap)) := fun W hW => by
            have h1 := (HRN6.out.later hK hW).cells
            rw [HL5.out] at h1
            exact ⟨h1.1, h1.2, (HRA6.out.below hW HRA6.out.lt).cell 5⟩
          have HCRA : Hid (∀ W A4 cp4, (Below w6.heap.size w6 W ∧ W.cell? ⟨cw, 0, none⟩ = some (.slice A5 m5 cp5) ∧ W.cell? ⟨cw, 1, none⟩ = some (.int .i64 L5) ∧ W.cell? ⟨wr.heap.size, 5, none⟩ = some (.slice a.pa a.pn a.pcap)) → OwnsK encI 1 3 W w6.heap.size (.slice A4 a.pn cp4) a.picks → Calls Try.prog 12 #[ptr b, .slice A4 a.pn cp4] W fun e w' => ∃ b8 S8, e = .returned (ptr b8) ∧ R w' S8 b8 ⟨crashV D5.files a.picks, -1⟩ ∧ (∀ q, S8 q → W.heap.size ≤ q) ∧ Below W.heap.size W w' ∧ (Below w6.heap.size w6 w' ∧ w'.cell? ⟨cw, 0, none⟩ = some (.slice A5 m5 cp5) ∧ w'.cell? ⟨cw, 1, none⟩ = some (.int .i64 L5) ∧ w'.cell? ⟨wr.heap.size, 5, none⟩ = some (.slice a.pa a.pn a.pcap))) := fun W A4 cp4 hW ho =>
            (hK.crash W S5 b D5 A4 a.pn cp4 a.picks (hK.later HRN6.out.st.has hW.1) HFD5.out HPN.out (owns_cap ho) hpnb HPZ.out (OwnsK.row encI_length ho)).mono fun e w' ⟨b8, S8, h1, h2, h3, h4⟩ => ⟨b8, S8, h1, h2, h3, h4, hW.1.trans (h4.mono hW.1.size), HC6.out _ (hW.1.trans (h4.mono hW.1.size))⟩
          have hm5 : m5 ≤ 10000 := by have := HRN6.out.len; have := HFD5.out.len; omega
          have HRFC : Hid (∀ W, (Below w6.heap.size w6 W ∧ W.cell? ⟨cw, 0, none⟩ = some (.slice A5 m5 cp5) ∧ W.cell? ⟨cw, 1, none⟩ = some (.int .i64 L5) ∧ W.cell? ⟨wr.heap.size, 5, none⟩ = some (.slice a.pa a.pn a.pcap)) → Calls Try.prog 13 #[dval A5 m5 cp5 L5, .slice a.pa a.pn a.pcap] W fun e w' => ∃ A9 cp9, e = .returned (dval A9 m5 cp9 (-1)) ∧ OwnsF w' W.heap.size (.slice A9 m5 cp9) (crashV D5.files a.picks) ∧ Below W.heap.size W w' ∧ (Below w6.heap.size w6 w' ∧ w'.cell? ⟨cw, 0, none⟩ = some (.slice A5 m5 cp5) ∧ w'.cell? ⟨cw, 1, none⟩ = some (.int .i64 L5) ∧ w'.cell? ⟨wr.heap.size, 5, none⟩ = some (.slice a.pa a.pn a.pcap))) := fun W hW =>
            (refcrash_any A5 a.pa cp5 m5 a.pn a.pcap D5.files a.picks L5 W HRN6.out.len HPN.out (by omega) (by omega) HFD5.out.sure (fun f hf => by have := HFD5.out.size f hf; omega) HPZ.out (HRN6.out.later hK hW.1).files ((HPW.out W hW.1).more (by have := hW.1.size; omega))).mono fun e w' ⟨A9, cp9, h1, h2, h3⟩ => ⟨A9, cp9, h1, h2, h3, hW.1.trans (h3.mono hW.1.size), HC6.out _ (hW.1.trans (h3.mono hW.1.size))⟩
          have HAL2 : Hid (∀ (W : World) (o : Obj), (Below w6.heap.size w6 W ∧ W.cell? ⟨cw, 0, none⟩ = some (.slice A5 m5 cp5) ∧ W.cell? ⟨cw, 1, none⟩ = some (.int .i64 L5) ∧ W.cell? ⟨wr.heap.size, 5, none⟩ = some (.slice a.pa a.pn a.pcap)) → (Below w6.heap.size w6 (W.alloc o) ∧ (W.alloc o).cell? ⟨cw, 0, none⟩ = some (.slice A5 m5 cp5) ∧ (W.alloc o).cell? ⟨cw, 1, none⟩ = some (.int .i64 L5) ∧ (W.alloc o).cell? ⟨wr.heap.size, 5, none⟩ = some (.slice a.pa a.pn a.pcap))) := fun W o hW =>
            ⟨hW.1.alloc hW.1.size o, HC6.out _ (hW.1.alloc hW.1.size o)⟩
          have HST2 : Hid (∀ (W : World) (g : Nat) u v, w6.heap.size ≤ g → (Below w6.heap.size w6 W ∧ W.cell? ⟨cw, 0, none⟩ = some (.slice A5 m5 cp5) ∧ W.cell? ⟨cw, 1, none⟩ = some (.int .i64 L5) ∧ W.cell? ⟨wr.heap.size, 5, none⟩ = some (.slice a.pa a.pn a.pcap)) → (Below w6.heap.size w6 ((W.setCell ⟨g, 0, none⟩ u).setCell ⟨g, 1, none⟩ v) ∧ ((W.setCell ⟨g, 0, none⟩ u).setCell ⟨g, 1, none⟩ v).cell? ⟨cw, 0, none⟩ = some (.slice A5 m5 cp5) ∧ ((W.setCell ⟨g, 0, none⟩ u).setCell ⟨g, 1, none⟩ v).cell? ⟨cw, 1, none⟩ = some (.int .i64 L5) ∧ ((W.setCell ⟨g, 0, none⟩ u).setCell ⟨g, 1, none⟩ v).cell? ⟨wr.heap.size, 5, none⟩ = some (.slice a.pa a.pn a.pcap))) := fun W g u v hg hW =>
            ⟨(hW.1.setCell (p := ⟨g, 0, none⟩) hg u).setCell (p := ⟨g, 1, none⟩) hg v, HC6.out _ ((hW.1.setCell (p := ⟨g, 0, none⟩) hg u).setCell (p := ⟨g, 1, none⟩) hg v)⟩
          have HGR2 : Hid (∀ (W W' : World) (g : Nat), W.grownBy W' (some g) → w6.heap.size ≤ g → (Below w6.heap.size w6 W ∧ W.cell? ⟨cw, 0, none⟩ = some (.slice A5 m5 cp5) ∧ W.cell? ⟨cw, 1, none⟩ = some (.int .i64 L5) ∧ W.cell? ⟨wr.heap.size, 5, none⟩ = some (.slice a.pa a.pn a.pcap)) → (Below w6.heap.size w6 W' ∧ W'.cell? ⟨cw, 0, none⟩ = some (.slice A5 m5 cp5) ∧ W'.cell? ⟨cw, 1, none⟩ = some (.int .i64 L5) ∧ W'.cell? ⟨wr.heap.size, 5, none⟩ = some (.slice a.pa a.pn a.pcap))) := fun W W' g hg h6 hW => by
            have h := hW.1.grown hg hW.1.size (fun q hq => by injection hq with hq; omega)
            exact ⟨h, HC6.out _ h⟩
          have H0 := Lib.hid (Below.refl w6.heap.size w6).drew
          have hS0 : Below w6.heap.size w6 w6.drew ∧ w6.drew.cell? ⟨cw, 0, none⟩ = some (.slice A5 m5 cp5) ∧ w6.drew.cell? ⟨cw, 1, none⟩ = some (.int .i64 L5) ∧ w6.drew.cell? ⟨wr.heap.size, 5, none⟩ = some (.slice a.pa a.pn a.pcap) := ⟨H0.out, HC6.out _ H0.out⟩
          go_upto_region 14 with (fail)
          go_cut [10, 11, 25] from 25 to 94 (fun c v i wx => ∃ (b8 : Nat) (S8 : Nat → Prop) (A9 : Option Addr) (cp9 gb : Nat), c = ptr b8 ∧ v = ptr gb ∧ i = .int .i64 k ∧ Hid (Beh R w6 b8 S8 ⟨crashV D5.files a.picks, -1⟩ A9 m5 cp9 gb wx))
          case first =>
            (go_region_held3 (fun W : World => Below w6.heap.size w6 W ∧ W.cell? ⟨cw, 0, none⟩ = some (.slice A5 m5 cp5) ∧ W.cell? ⟨cw, 1, none⟩ = some (.int .i64 L5) ∧ W.cell? ⟨wr.heap.size, 5, none⟩ = some (.slice a.pa a.pn a.pcap))
              (first | exact hS0 | assumption | exact HAL2.out _ _ (by assumption) | exact HST2.out _ _ _ _ (Nat.le_refl _) (by assumption) | exact HST2.out _ _ _ _ (Nat.le_succ _) (by assumption) | exact HST2.out _ _ _ _ hS7.1.size (by assumption) | exact HST2.out _ _ _ _ hS8.1.size (by assumption) | exact HST2.out _ _ _ _ hS9.1.size (by assumption))
              ((first
                | (refine step_append_picks rfl (.tmp 45) (.tmp 47) rfl _ w.heap.size rfl a.pa a.pn a.pcap rfl a.picks (by (try simp only [World.size_alloc, World.size_drew]); omega) (by first | exact World.ownsRow_lit (base := _) (e := 3) (size := 1) _ #[] 0 (Nat.le_refl _) (by decide) rfl | exact (World.ownsRow_lit (base := _) (e := 3) (size := 1) _ #[] 0 (Nat.le_refl _) (by decide) rfl).alloc _ | (have h := World.ownsRow_lit (base := w6.heap.size + 1) (e := 3) (size := 1) (w6.drew.alloc (.cells #[.slice none 0 0, .int .i64 0] 29)) #[] 0 (by rw [World.size_alloc]; exact Nat.le_refl _) (by decide) rfl; rw [World.size_alloc] at h; exact h)) HPN.out (by omega) (HPW.out _ (And.left (by assumption : Below w6.heap.size w6 _ ∧ _ ∧ _ ∧ _))) ?_; intro A4 cp4 w7 ho7 hg7; have hS7 := HGR2.out _ _ _ hg7.out (by first | exact Nat.le_refl _ | exact Nat.le_succ _) (by assumption))
                | (go_at_call 12; (refine Calls.mono (HCRA.out _ _ _ (by assumption) (by first | exact OwnsK.less ho7.out (Nat.le_refl _) | exact OwnsK.less ho7.out (Nat.le_succ _) | exact (OwnsK.less ho7.out (Nat.le_refl _)).alloc _ | exact (OwnsK.less ho7.out (Nat.le_succ _)).alloc _)) ?_); rintro e w8 ⟨b8, S8, rfl, hr8, hn8, hbb8, hS8⟩)
                | (go_at_call 13; (refine Calls.mono (HRFC.out _ (by assumption)) ?_); rintro e w9 ⟨A9, cp9, rfl, ho9, hbb9, hS9⟩; have hr9 : R w9 S8 b8 ⟨crashV D5.files a.picks, -1⟩ := (by first | exact hK.later hr8 hbb9 | exact hK.later (hK.later hr8 ((Below.refl _ _).alloc (Nat.le_refl _) _)) hbb9); have hn9 : ∀ q, S8 q → w6.heap.size ≤ q := fun q hq => (by have h1 := hn8 q hq; have h2 := hS7.1.size; (try simp only [World.size_alloc] at h1); omega); have hf9 : OwnsF w9 w6.heap.size (.slice A9 m5 cp9) (crashV D5.files a.picks) := (by first | exact OwnsK.less ho9 hS8.1.size | exact OwnsK.less ho9 (HAL2.out _ _ hS8).1.size); have hof9 : ∀ p, A9 = some p → ¬ S8 p.block := fun p hp hs => (by have h1 := owns_base ho9 p hp; have h2 := hK.inside hr8 _ hs; (try simp only [World.size_alloc] at h1); omega); (first | (have hz7 : Row w7 (w6.heap.size) 29 zdisk := ((Row.new_at w6.drew _ _ _ rfl rfl : Row _ w6.heap.size 29 zdisk).alloc _).grown hg7.out (fun e => absurd (Option.some.inj e) (Nat.ne_of_lt (Nat.lt_succ_self _))); have hz9 : Row w9 (w6.heap.size) 29 zdisk := row_on (row_on hz7 hbb8) hbb9; have hng : ¬ S8 (w6.heap.size) := fun hs => (by have h1 := hn8 _ hs; have h2 := hz7.lt; omega); have y0 : w9.cell? ⟨w6.heap.size, 0, none⟩ = some (.slice none 0 0) := hz9.cell 0; have y1 : w9.cell? ⟨w6.heap.size, 1, none⟩ = some (.int .i64 0) := hz9.cell 1; have y2 : w9.frozen? ⟨w6.heap.size, 0, none⟩ = false := hz9.frozen 0; have y3 : w9.frozen? ⟨w6.heap.size, 1, none⟩ = false := hz9.frozen 1) | (have hz7 : Row w7 (w6.heap.size + 1) 29 zdisk := (Row.new_at (w6.drew.alloc _) _ _ _ (World.size_alloc _ _) rfl : Row _ (w6.heap.size + 1) 29 zdisk).grown hg7.out (fun e => absurd (Option.some.inj e) (Nat.succ_ne_self _)); have hz9 : Row w9 (w6.heap.size + 1) 29 zdisk := row_on (row_on hz7 hbb8) hbb9; have hng : ¬ S8 (w6.heap.size + 1) := fun hs => (by have h1 := hn8 _ hs; have h2 := hz7.lt; omega); have y0 : w9.cell? ⟨w6.heap.size + 1, 0, none⟩ = some (.slice none 0 0) := hz9.cell 0; have y1 : w9.cell? ⟨w6.heap.size + 1, 1, none⟩ = some (.int .i64 0) := hz9.cell 1; have y2 : w9.frozen? ⟨w6.heap.size + 1, 0, none⟩ = false := hz9.frozen 0; have y3 : w9.frozen? ⟨w6.heap.size + 1, 1, none⟩ = false := hz9.frozen 1) | (have hz7 : True := trivial; have hz9 : Row w9 (w7.heap.size) 29 zdisk := row_on (row_on (Row.new_at w7 _ _ _ rfl rfl : Row _ w7.heap.size 29 zdisk) hbb8) hbb9; have hng : ¬ S8 (w7.heap.size) := fun hs => (by have h1 := hn8 _ hs; simp at h1; omega); have y0 : w9.cell? ⟨w7.heap.size, 0, none⟩ = some (.slice none 0 0) := hz9.cell 0; have y1 : w9.cell? ⟨w7.heap.size, 1, none⟩ = some (.int .i64 0) := hz9.cell 1; have y2 : w9.frozen? ⟨w7.heap.size, 0, none⟩ = false := hz9.frozen 0; have y3 : w9.frozen? ⟨w7.heap.size, 1, none⟩ = false := hz9.frozen 1) | (have hz7 : True := trivial; have hz9 : Row w9 (w8.heap.size) 29 zdisk := row_on (Row.new_at w8 _ _ _ rfl rfl : Row _ w8.heap.size 29 zdisk) hbb9; have hng : ¬ S8 (w8.heap.size) := fun hs => Nat.lt_irrefl _ (hK.inside hr8 _ hs); have y0 : w9.cell? ⟨w8.heap.size, 0, none⟩ = some (.slice none 0 0) := hz9.cell 0; have y1 : w9.cell? ⟨w8.heap.size, 1, none⟩ = some (.int .i64 0) := hz9.cell 1; have y2 : w9.frozen? ⟨w8.heap.size, 0, none⟩ = false := hz9.frozen 0; have y3 : w9.frozen? ⟨w8.heap.size, 1, none⟩ = false := hz9.frozen 1) | (have hng : ¬ S8 w9.heap.size := fun hs => (by have h1 := hK.inside hr8 _ hs; have h2 := hbb9.size; omega)))))))
            all_goals
              go_wp2_with fail
              go_meet
              refine ⟨b8, S8, A9, cp9, _, rfl, rfl, rfl, ?_⟩
              first
                | exact beh_set hK hS9.1 hr9 hn9 hng (by first | exact Nat.le_refl _ | exact Nat.le_succ _ | exact hS7.1.size | exact hS8.1.size) hz9 hf9 hof9
                | exact beh_set hK (HAL2.out _ _ hS9).1 (hK.later hr9 ((Below.refl _ _).alloc (Nat.le_refl _) _)) hn9 hng hS9.1.size (Row.new_at w9 _ _ _ rfl rfl) (hf9.alloc _) hof9
                | exact ⟨hS9.1.alloc hS9.1.size _, hK.later hr9 ((Below.refl _ _).alloc (Nat.le_refl _) _), hn9, Row.new_at w9 _ _ _ rfl rfl, hf9.alloc _, hS9.1.size, hof9⟩
          case rest =>
            obtain ⟨b8, S8, A9, cp9, gb, rfl, rfl, rfl, HBE⟩ := hcut
            have HFC := Lib.hid (fit_crash HFD5.out a.picks)
            have HFCK := Lib.hid (fit_crash HFK.out a.picks)
            have hl8 : (crashV D5.files a.picks).length = m5 := by rw [crash_len]; exact HRN6.out.len
            have HL8 : Hid ((DD.mk (crashV D5.files a.picks) (-1)).files.length = m5) := hl8
            have HM1 : Hid ((DD.mk (crashV D5.files a.picks) (-1)).left = -1) := rfl
            obtain ⟨D8, hD8⟩ : ∃ D8 : DD, DD.mk (crashV D5.files a.picks) (-1) = D8 := ⟨_, rfl⟩
            rw [hD8] at HBE HFC HFCK HL8 HM1
            clear hl8 hD8
            have g0 : wc.cell? ⟨gb, 0, none⟩ = some (.slice A9 m5 cp9) := HBE.out.row.cell 0
            have g1 : wc.cell? ⟨gb, 1, none⟩ = some (.int .i64 (-1)) := HBE.out.row.cell 1
            have HSM8 := Lib.hid (lawsame_any hK S8 b8 D8 A9 cp9 m5 wc HBE.out.has HFC.out HL8.out (OwnsK.row encF_length HBE.out.files))
            rw [HM1.out] at HSM8
            go_wp2_with fail
            refine HSM8.out.mono ?_
            rintro e wd ⟨rfl, hbd⟩
            have HBD := Lib.hid (HBE.out.later hK hbd)
            clear hbd g0 g1 HSM8 HBE k0 hS0
            have k0 : wd.cell? ⟨wr.heap.size, 0, none⟩ = some (.int .i64 a.kind) := (row_on HRA6.out HBD.out.below).cell 0
            by_cases q6 : a.kind = 6
            · have e6 : (a.kind == 6) = true := beq_iff_eq.2 q6
              clear q6
              go_wp2_with fail
              obtain ⟨wx, hwx⟩ : ∃ wx : World, wx = { wd with drawn := wd.drawn + 1 } := ⟨_, rfl⟩
              have HBX : Hid (Below wd.heap.size wd wx) := by rw [hwx]; exact (Below.refl _ _).drew
              have HGX := Lib.hid (row_on HBD.out.row HBX.out)
              have g0 : wx.cell? ⟨gb, 0, none⟩ = some (.slice A9 m5 cp9) := HGX.out.cell 0
              have g1 : wx.cell? ⟨gb, 1, none⟩ = some (.int .i64 (-1)) := HGX.out.cell 1
              have HCX : Hid (Row wx cw 29 (ldisk A5 m5 cp5 L5)) := by
                have h := row_on (row_on HRN6.out.row HBD.out.below) HBX.out
                rw [HL5.out] at h
                exact h
              refine wp_region_still_tail 3 (by kernel_rfl) (by kernel_rfl) ?_
              rw [← hwx]
              clear hwx
              simp only [List.take_succ_cons, List.take_zero, List.drop_succ_cons, List.drop_zero]
              repeat still_step
              refine wpStill_nil ?_
              go_wp2_with (refine wpList_store_all rfl 29 (.tmp 4) (.tmp 62) rfl cw (ldisk A9 m5 cp9 (-1)) rfl rfl 29 (ldisk A5 m5 cp5 L5) HCX.out (disk_info _ _ _ _) rfl (disk_one _ _ _ _) ?_)
              intro we HRE HTE
              have HRNe : Hid (Run R w2 cw b8 S8 D8 A9 m5 cp9 we) := HRN6.out.crash hK HBD.out HBX.out HTE.out (by rw [HM1.out]; exact HRE.out) HL8.out
              have HRAe : Hid (Row we wr.heap.size 33 (encA a)) := (row_on (row_on HRA6.out HBD.out.below) HBX.out).turn HTE.out (by have := HCW.out; omega)
              clear HRE HTE HCX HGX g0 g1 k0 HBX
              have r2 : we.cell? ⟨wr.heap.size, 2, none⟩ = some (.string a.name) := HRAe.out.cell 2
              have HRD := Lib.hid (hK.read _ S8 b8 D8 a.name HRNe.out.st.has HFC.out HAO.out.name)
              go_wp2_with fail
              refine HRD.out.mono ?_
              rintro e wa ⟨rfl, hba⟩
              have HRNa := Lib.hid (HRNe.out.later hK hba)
              have HRAa := Lib.hid (HRAe.out.below hba HRAe.out.lt)
              obtain ⟨d0, d1⟩ := HRNa.out.cells
              have r2a : wa.cell? ⟨wr.heap.size, 2, none⟩ = some (.string a.name) := HRAa.out.cell 2
              have hm1 : m5 ≤ 1000000 := by have := HFC.out.len; have := HRNa.out.len; omega
              have HRR := Lib.hid (refread_any A9 cp9 wa.heap.size m5 D8.files D8.left a.name wa HRNa.out.len hm1 HRNa.out.files (Nat.le_refl _))
              obtain ⟨s1, hs1'⟩ : ∃ s1, (readV D8 a.name).1 = s1 := ⟨_, rfl⟩
              obtain ⟨i1, hi1⟩ : ∃ i1, (readV D8 a.name).2 = i1 := ⟨_, rfl⟩
              have hr1 : readV (DD.mk D8.files D8.left) a.name = readV D8 a.name := rfl
              rw [hr1] at HRR
              simp only [hs1', hi1] at HRR ⊢
              clear hba r2 HRD hr1 hs1' hi1
              go_wp2_with fail
              refine HRR.out.mono ?_
              rintro e wb ⟨rfl, hbb⟩
              have HRNb := Lib.hid (HRNa.out.later hK hbb)
              have HRAb := Lib.hid (HRAa.out.below hbb HRAa.out.lt)
              clear hbb d0 d1 r2a HRR
              obtain ⟨d0, d1⟩ := HRNb.out.cells
              have HSM := Lib.hid (lawsame_any hK S8 b8 D8 A9 cp9 m5 wb HRNb.out.st.has HFC.out HRNb.out.len HRNb.out.files)
              have hee : (s1.toList == s1.toList) = true := beq_self_eq_true _
              go_wp2_with fail
              refine HSM.out.mono ?_
              rintro e wc ⟨rfl, hbc⟩
              have HRNc := Lib.hid (HRNb.out.later hK hbc)
              clear hbc d0 d1
              go_wp2_with fail
              go_roundw
              case rel => exact ⟨k + 1, b8, S8, D8, A9, m5, cp9, by omega, by go_num, rfl, HRNc.out, HFCK.out⟩
              case measure => simp [intOf]; omega
            · have e6 : (a.kind == 6) = false := beq_eq_false_iff_ne.2 q6
              clear q6
              have hne : other ≠ nul := by decide
              have HAP := Lib.hid (hK.append wd S8 b8 D8 other ⟨#[120]⟩ HBD.out.has HFC.out (by decide) (by decide))
              rw [show (appendV D8 other ⟨#[120]⟩).2 = 0 by rw [append_free HM1.out hne]] at HAP
              go_wp2_with fail
              refine HAP.out.mono ?_
              rintro e we ⟨S10, rfl, _, _, ha10⟩
              have HBW : Hid (Below w6.heap.size w6 we) := HBD.out.below.trans (ha10.below HBD.out.own HBD.out.below.size)
              have HRNe := Lib.hid (HRN6.out.later hK HBW.out)
              have HRAe := Lib.hid (row_on HRA6.out HBW.out)
              clear ha10 k0 HAP
              have r2 : we.cell? ⟨wr.heap.size, 2, none⟩ = some (.string a.name) := HRAe.out.cell 2
              have HRD := Lib.hid (hK.read _ S5 b D5 a.name HRNe.out.st.has HFD5.out HAO.out.name)
              go_wp2_with fail
              refine HRD.out.mono ?_
              rintro e wa ⟨rfl, hba⟩
              have HRNa := Lib.hid (HRNe.out.later hK hba)
              have HRAa := Lib.hid (HRAe.out.below hba HRAe.out.lt)
              obtain ⟨d0, d1⟩ := HRNa.out.cells
              have r2a : wa.cell? ⟨wr.heap.size, 2, none⟩ = some (.string a.name) := HRAa.out.cell 2
              have hm1 : m5 ≤ 1000000 := by have := HFD5.out.len; have := HRNa.out.len; omega
              have HRR := Lib.hid (refread_any A5 cp5 wa.heap.size m5 D5.files D5.left a.name wa HRNa.out.len hm1 HRNa.out.files (Nat.le_refl _))
              obtain ⟨s1, hs1'⟩ : ∃ s1, (readV D5 a.name).1 = s1 := ⟨_, rfl⟩
              obtain ⟨i1, hi1⟩ : ∃ i1, (readV D5 a.name).2 = i1 := ⟨_, rfl⟩
              have hr1 : readV (DD.mk D5.files D5.left) a.name = readV D5 a.name := rfl
              rw [hr1] at HRR
              simp only [hs1', hi1] at HRR ⊢
              clear hba r2 HRD hr1 hs1' hi1
              go_wp2_with fail
              refine HRR.out.mono ?_
              rintro e wb ⟨rfl, hbb⟩
              have HRNb := Lib.hid (HRNa.out.later hK hbb)
              have HRAb := Lib.hid (HRAa.out.below hbb HRAa.out.lt)
              clear hbb d0 d1 r2a HRR
              obtain ⟨d0, d1⟩ := HRNb.out.cells
              have HSM := Lib.hid (lawsame_any hK S5 b D5 A5 cp5 m5 wb HRNb.out.st.has HFD5.out HRNb.out.len HRNb.out.files)
              have hee : (s1.toList == s1.toList) = true := beq_self_eq_true _
              go_wp2_with fail
              refine HSM.out.mono ?_
              rintro e wc ⟨rfl, hbc⟩
              have HRNc := Lib.hid (HRNb.out.later hK hbc)
              clear hbc d0 d1
              go_wp2_with fail
              go_roundw
              case rel => exact ⟨k + 1, b, S5, D5, A5, m5, cp5, by omega, by go_num, rfl, HRNc.out, HFK.out⟩
              case measure => simp [intOf]; omega
        · have q5i : ¬ (5 : Int) ≤ a.kind := q5
          clear q5
          have r2 : w6.cell? ⟨wr.heap.size, 2, none⟩ = some (.string a.name) := HRA6.out.cell 2
          have HRD := Lib.hid (hK.read _ S5 b D5 a.name HRN6.out.st.has HFD5.out HAO.out.name)
          go_wp2_with fail
          refine HRD.out.mono ?_
          rintro e wa ⟨rfl, hba⟩
          have HRNa := Lib.hid (HRN6.out.later hK hba)
          have HRAa := Lib.hid (HRA6.out.below hba HRA6.out.lt)
          obtain ⟨d0, d1⟩ := HRNa.out.cells
          have r2a : wa.cell? ⟨wr.heap.size, 2, none⟩ = some (.string a.name) := HRAa.out.cell 2
          have hm1 : m5 ≤ 1000000 := by have := HFD5.out.len; have := HRNa.out.len; omega
          have HRR := Lib.hid (refread_any A5 cp5 wa.heap.size m5 D5.files D5.left a.name wa HRNa.out.len hm1 HRNa.out.files (Nat.le_refl _))
          obtain ⟨s1, hs1'⟩ : ∃ s1, (readV D5 a.name).1 = s1 := ⟨_, rfl⟩
          obtain ⟨i1, hi1⟩ : ∃ i1, (readV D5 a.name).2 = i1 := ⟨_, rfl⟩
          have hr1 : readV (DD.mk D5.files D5.left) a.name = readV D5 a.name := rfl
          rw [hr1] at HRR
          simp only [hs1', hi1] at HRR ⊢
          clear hba r2 HRD hr1 hs1' hi1
          go_wp2_with fail
          refine HRR.out.mono ?_
          rintro e wb ⟨rfl, hbb⟩
          have HRNb := Lib.hid (HRNa.out.later hK hbb)
          have HRAb := Lib.hid (HRAa.out.below hbb HRAa.out.lt)
          clear hbb d0 d1 r2a HRR
          obtain ⟨d0, d1⟩ := HRNb.out.cells
          have HSM := Lib.hid (lawsame_any hK S5 b D5 A5 cp5 m5 wb HRNb.out.st.has HFD5.out HRNb.out.len HRNb.out.files)
          have hee : (s1.toList == s1.toList) = true := beq_self_eq_true _
          go_wp2_with fail
          refine HSM.out.mono ?_
          rintro e wc ⟨rfl, hbc⟩
          have HRNc := Lib.hid (HRNb.out.later hK hbc)
          clear hbc d0 d1
          go_wp2_with fail
          go_roundw
          case rel => exact ⟨k + 1, b, S5, D5, A5, m5, cp5, by omega, by go_num, rfl, HRNc.out, HFK.out⟩
          case measure => simp [intOf]; omega
      · obtain rfl : k = n := by omega
        go_wp2
        go_ret
        exact ⟨rfl, HB2.out.trans (HRN.out.st.below.mono (by omega))⟩
end Dk
end Go.Proofs.Yteikfdijcepimaa
