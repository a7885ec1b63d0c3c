/-
  Layer 6 (blobs): law Plays.
-/
import Derived.Test.YtiilmgbobjagkaaDoorBI
import Derived.Test.YtiilmgbobjagkaaDoorBJ
import Derived.Test.YtiilmgbobjagkaaDoorCL
namespace Go.Proofs.YtiilmgbobjagkaaDoor
namespace Bl
open Go.RowKit Kr
attribute [local go_sem ↓] build_pre

def blobOf (a : Ac) : Bb := (dig a.data, a.data.data.toList)
/-- The document's row behind an act. -/
def stepV (l : List Bb) (a : Ac) : List Bb := if a.kind.toNat % 4 = 2 then l else if a.kind.toNat % 4 = 3 then dropV l (askedA a) else putV l (blobOf a)
def rowV (t : List Ac) : List Bb := t.foldl stepV []
theorem rowV_snoc {t : List Ac} {k : Nat} {x : Ac} (h : t[k]? = some x) : rowV (t.take (k + 1)) = stepV (rowV (t.take k)) x := by
  unfold rowV
  rw [Sh.take_snoc t k x h, List.foldl_append]; rfl
/-- What the row keeps is of the acts. -/
structure Kept (t : List Ac) (k : Nat) (l : List Bb) : Prop where
  rise : Rise l
  of : ∀ f ∈ l, ∃ a ∈ t, f = blobOf a
  len : l.length ≤ k
theorem kept_nil (t : List Ac) : Kept t 0 [] := ⟨List.Pairwise.nil, fun f h => by simp at h, Nat.le_refl _⟩
theorem Kept.step {t : List Ac} {k : Nat} {l : List Bb} {x : Ac} (h : Kept t k l) (hx : x ∈ t) : Kept t (k + 1) (stepV l x) := by
  unfold stepV
  split
  · exact ⟨h.rise, h.of, by have := h.len; omega⟩
  · split
    · exact ⟨drop_rise h.rise _, fun f hf => h.of f (List.mem_filter.1 hf).1, Nat.le_trans (List.length_filter_le _ _) (by have := h.len; omega)⟩
    · refine ⟨put_rise _ h.rise, fun f hf => ?_, by have := put_len l (blobOf x) h.rise; have := h.len; omega⟩
      unfold putV at hf
      split at hf
      · exact h.of f hf
      · rw [insV_eq _ h.rise] at hf
        rcases (insAt_mem _ _ _).1 hf with rfl | hf
        · exact ⟨x, hx, rfl⟩
        · exact h.of f hf
theorem Kept.fits {t : List Ac} {k : Nat} {l : List Bb} (h : Kept t k l) (hk : k ≤ 100) (hs : ∀ a ∈ t, a.data.size ≤ 300) : Fits l := by
  refine ⟨h.rise, fun f hf => ?_, Nat.le_trans h.len hk, fun f hf => ?_⟩
  · obtain ⟨a, _, rfl⟩ := h.of f hf
    exact dig_len _
  · obtain ⟨a, ha, rfl⟩ := h.of f hf
    exact bsize_le a.data 1000 (by have := hs a ha; omega)
theorem Kept.same {t : List Ac} {k : Nat} {l : List Bb} {x : Ac} (h : Kept t k l) (hc : Clear t) (hx : x ∈ t) : ∀ y, Bl.get l (dig x.data) = some y → y = x.data.data.toList := fun y hy => by
  have hm := (get_some h.rise).1 hy
  obtain ⟨a, ha, e⟩ := h.of _ hm
  injection e with e1 e2
  rw [e2, hc a ha x hx e1.symm]
def zeroAc : Ac := ⟨0, ⟨#[]⟩, false, List.replicate 32 0⟩
theorem encA_one (a : Ac) : (encA a).toArray.all (·.oneCell') = true := by
  rw [Array.all_eq_true_iff_forall_mem]
  intro v hv
  rw [List.mem_toArray] at hv
  unfold encA at hv
  rcases List.mem_append.1 hv with h | h
  · simp at h
    rcases h with rfl | rfl | rfl <;> rfl
  · obtain ⟨y, _, rfl⟩ := List.mem_map.1 h
    rfl
theorem act_agg (W : World) : (isAgg 31).run Tryd.prog W = .ok true W := by kernel_rfl
theorem act_size (W : World) : (sizeOf 31).run Tryd.prog W = .ok 35 W := by kernel_rfl
theorem act_info (a : Ac) : (Tryd.prog.info? 31).map (·.size) = some (encA a).length := by rw [encA_length]; kernel_rfl
theorem dig_info (d : Bs) (h : d.length = 32) : (Tryd.prog.info? 29).map (·.size) = some (Sh.bvals d).length := by rw [Sh.bvals_length, h]; kernel_rfl
theorem zero_len (d : Bs) (h : d.length = 32) : (Sh.bvals (List.replicate 32 0)).length = (Sh.bvals d).length := by rw [Sh.bvals_length, Sh.bvals_length, h, List.length_replicate]
theorem dv_len (d : Bs) (h : d.length = 32) : (Sh.bvals d).length = 32 := by rw [Sh.bvals_length, h]
theorem zrow (w : World) : Sh.Row (w.alloc (.cells (Sh.bvals (List.replicate 32 0)).toArray 29)) w.heap.size 29 (Sh.bvals (List.replicate 32 0)) := Sh.Row.new_at w _ _ _ rfl rfl
theorem zact (w : World) : Sh.Row (w.alloc (.cells (encA zeroAc).toArray 31)) w.heap.size 31 (encA zeroAc) := Sh.Row.new_at w _ _ _ rfl rfl

theorem fresh {w w' : World} {t : TypeId} {cs : Array Value} (h : Sh.Turn w.heap.size (w.alloc (.cells cs t)) w') : Below w.heap.size w w' :=
  ⟨h.1, h.2.1, h.2.2.1, by rw [h.2.2.2.1]; simp, fun k hk => (h.2.2.2.2 k (Nat.ne_of_lt hk)).trans (Below.heap_alloc _ _ _ hk)⟩
/-- A row that lies in no block of S, below block n. -/
def Off (S : Nat → Prop) (n : Nat) (A : Option Addr) : Prop := ∀ p, A = some p → ¬ S p.block ∧ p.block < n
theorem off_none (S : Nat → Prop) (n : Nat) : Off S n none := fun p h => by cases h
theorem Off.up {S : Nat → Prop} {n n' : Nat} {A : Option Addr} (h : Off S n A) (hn : n ≤ n') : Off S n' A := fun p hp => ⟨(h p hp).1, Nat.lt_of_lt_of_le (h p hp).2 hn⟩
theorem Off.acted {S S' : Nat → Prop} {n : Nat} {A : Option Addr} (h : Off S n A) (hq : ∀ q, S' q → S q ∨ n ≤ q) : Off S' n A := fun p hp => ⟨fun hs => (hq _ hs).elim (h p hp).1 (fun h2 => absurd (h p hp).2 (Nat.not_lt.2 h2)), (h p hp).2⟩
theorem KRow.away {α : Type} {enc : α → List Value} {k n : Nat} {S : Nat → Prop} {w w' : World} {A : Option Addr} {t : List α} (h : KRow enc k w w.heap.size A t) (ha : Away S w w') (hn : Off S n A) : KRow enc k w' w'.heap.size A t := fun j x hx => by
  obtain ⟨b, o, h1, h2, h3⟩ := h j x hx
  exact ⟨b, o, h1, Nat.lt_of_lt_of_le h2 ha.size, fun i v hv => (ha.cell (p := ⟨b, o + j * k + i, none⟩) h2 (show ¬ S b from (hn _ h1).1)).trans (h3 i v hv)⟩
theorem Row.far {S : Nat → Prop} {w w' : World} {g : Nat} {t : TypeId} {l : List Value} (h : Sh.Row w g t l) (ha : Away S w w') (hn : ¬ S g) : Sh.Row w' g t l := (ha.block g h.lt hn).trans h
theorem owns_off {α : Type} {enc : α → List Value} {k base : Nat} {T : TypeId} {S : Nat → Prop} {w : World} {A : Option Addr} {n cap : Nat} {t : List α} (h : OwnsK enc k T w base (.slice A n cap) t) (hs : ∀ q, S q → q < base) : Off S w.heap.size A := fun p hp => by
  subst hp
  rcases h.2 with ⟨hv, _⟩ | ⟨g, cap', cur, hv, hb, hg, _⟩
  · cases hv
  · injection hv with hv
    injection hv with hv
    subst hv
    exact ⟨fun hq => absurd (hs _ hq) (Nat.not_lt.2 hb), (Array.getElem?_eq_some_iff.1 hg).1⟩
theorem row_in {w : World} {g : Nat} {t : TypeId} {cs : List Value} {j : Nat} {v : Value} (h : Sh.Row w g t cs) (hv : cs[j]? = some v) : w.cell? ⟨g, j, none⟩ = some v := (h.cell j).trans hv
theorem Row.on {w w' : World} {g : Nat} {t : TypeId} {l : List Value} (h : Sh.Row w g t l) (hb : Below w.heap.size w w') : Sh.Row w' g t l := h.below hb h.lt

/-- What stands in a round: the store, the document's row, the act. -/
structure Sit (R : World → (Nat → Prop) → Nat → List Bb → Prop) (B : Nat) (w0 : World) (b : Nat) (A : Option Addr) (row : List Bb) (g : Nat) (x : Ac) (W : World) (S : Nat → Prop) (l : List Bb) : Prop where
  st : St R B w0 W S b l
  row : BRow W W.heap.size A row
  off : Off S W.heap.size A
  act : Sh.Row W g 31 (encA x)
  far : ¬ S g
section
variable {R : World → (Nat → Prop) → Nat → List Bb → Prop} {B b g : Nat} {w0 W W' : World} {A : Option Addr} {row l l' : List Bb} {x : Ac} {S S' : Nat → Prop}
theorem Sit.later (hK : Keeps R) (h : Sit R B w0 b A row g x W S l) (hb : Below W.heap.size W W') : Sit R B w0 b A row g x W' S l :=
  ⟨h.st.later hK hb, h.row.later hb, h.off.up hb.size, Row.on h.act hb, h.far⟩
theorem Sit.alloc (hK : Keeps R) (h : Sit R B w0 b A row g x W S l) (o : Obj) : Sit R B w0 b A row g x (W.alloc o) S l := h.later hK ((Below.refl _ W).alloc (Nat.le_refl _) o)
theorem Sit.drew (hK : Keeps R) (h : Sit R B w0 b A row g x W S l) : Sit R B w0 b A row g x W.drew S l := h.later hK (Below.refl _ W).drew
theorem Sit.put (h : Sit R B w0 b A row g x W S l) (hr : R W' S' b l') (hq : ∀ q, S' q → S q ∨ W.heap.size ≤ q) (ha : Away S W W') : Sit R B w0 b A row g x W' S' l' :=
  ⟨h.st.acted hr hq ha, KRow.away h.row ha h.off, (h.off.acted hq).up ha.size, Row.far h.act ha h.far, fun hs => (hq _ hs).elim h.far (fun h2 => absurd h.act.lt (Nat.not_lt.2 h2))⟩
theorem Sit.data (h : Sit R B w0 b A row g x W S l) : W.cell? ⟨g, 1, none⟩ = some (.string x.data) := row_in h.act (act_data x)
end

set_option maxRecDepth 100000 in
set_option maxHeartbeats 8000000 in
theorem plays_law {R : World → (Nat → Prop) → Nat → List Bb → Prop} (hK : Keeps R) (B : Nat) (A : Option Addr) (cap n : Nat) (t : List Ac) (w : World) (hn : t.length = n) (hnm : n ≤ 9223372036854775807) (hsz : ∀ a ∈ t, a.data.size ≤ 9223372036854775807) (hx : ARow w w.heap.size A t) (hok : Ok B w) :
    Calls Tryd.prog 3 #[.slice A n cap] w fun e w' => e = .returned (.bool true) ∧ Below w.heap.size w w' := by
  have HX := Lib.hid hx
  have HN := Lib.hid hn
  have HO := Lib.hid hok
  have HAL := Lib.hid (fun W (h : Ok B W) => alive_any hK B W h)
  obtain ⟨gb, hgb⟩ : ∃ gb, greatA t = gb := ⟨_, rfl⟩
  have HGR := Lib.hid (fun W (h : ARow W w.heap.size A t) => great_any A cap w.heap.size n t gb hgb W hn hnm hsz h)
  clear hx hok hsz
  go_enter Tryd.func3, Tryd.ntmps3
  go_wp2_with fail
  refine (HAL.out _ HO.out).mono ?_
  rintro e w1 ⟨rfl, hb1⟩
  have HB1 := Lib.hid hb1
  have HO1 := Lib.hid (HO.out.below (hb1.mono HO.out.2.2))
  have HX1 : Hid (ARow w1 w.heap.size A t) := HX.out.below hb1 (Nat.le_refl _)
  clear hb1
  go_wp2_with fail
  refine (HGR.out _ HX1.out).mono ?_
  rintro e w2 ⟨rfl, rfl⟩
  cases gb
  · have h40 : n ≤ 40 := by
      unfold greatA at hgb
      rw [Bool.or_eq_false_iff, decide_eq_false_iff_not] at hgb
      omega
    have HSZ : Hid (∀ a ∈ t, a.data.size ≤ 300) := fun a ha => by
      unfold greatA at hgb
      rw [Bool.or_eq_false_iff] at hgb
      have := List.any_eq_false.1 hgb.2 a ha
      simp at this
      omega
    have HCL := Lib.hid (clash_any A cap B n t w2 HO1.out hn h40 HSZ.out (HX1.out.more HB1.out.size))
    clear hgb
    go_wp2_with fail
    refine HCL.out.mono ?_
    rintro e w3 ⟨c, rfl, hcl, hb3⟩
    have HB3 : Hid (Below w.heap.size w w3) := HB1.out.trans (hb3.mono HB1.out.size)
    have HO3 := Lib.hid (HO1.out.below (hb3.mono HO1.out.2.2))
    have HX3 : Hid (ARow w3 w.heap.size A t) := HX1.out.below hb3 HB1.out.size
    clear hb3
    cases c
    · have HCR := Lib.hid (hcl rfl)
      clear hcl
      go_wp2_with fail
      refine (hK.new _).mono ?_
      rintro e w4 ⟨b, S, rfl, hr4, hS4, hb4⟩
      have HT4 : Hid (St R B w3 w4 S b []) := ⟨HO3.out.2.2, hb4, HO3.out.below (hb4.mono HO3.out.2.2), hS4, hr4⟩
      clear hr4 hS4 hb4
      go_wp2
      go_loopw [4, 5] (fun v i wr => ∃ (k m cp : Nat) (A' : Option Addr) (l : List Bb) (S : Nat → Prop), k ≤ n ∧ i = .int .i64 k ∧ v = .slice A' m cp ∧ Hid (l.length = m) ∧ Hid (rowV (t.take k) = l) ∧ Hid (Kept t k l) ∧ Hid (BRow wr wr.heap.size A' l) ∧ Hid (Off S wr.heap.size A') ∧ Hid (St R B w3 wr S b l)) (fun _ i _ => n - (intOf i).toNat)
      case atStart => exact ⟨0, 0, 0, none, [], S, Nat.zero_le _, rfl, rfl, rfl, rfl, kept_nil t, (fun j x hj => by simp at hj), off_none S _, HT4⟩
      case round =>
        clear HT4
        obtain ⟨k, m, cp, A', l, S, hk, rfl, rfl, HL, HRV, HKP, HBR, HOF, HT⟩ := hrel
        by_cases hlt : k < n
        · have hki : (k : Int) < n := by omega
          have hxk : t[k]? = some (t[k]'(by rw [HN.out]; exact hlt)) := List.getElem?_eq_getElem _
          generalize t[k]'(by rw [HN.out]; exact hlt) = x at hxk
          have HXK := Lib.hid hxk
          have HXM := Lib.hid (List.mem_of_getElem? hxk)
          have hxs : x.data.size ≤ 300 := HSZ.out x HXM.out
          have HFI := Lib.hid (HKP.out.fits (by omega) HSZ.out)
          obtain ⟨b1, o1, rfl, hb1, hcs⟩ := HX3.out k x hxk
          have HCA : Hid (∀ j v, (encA x)[j]? = some v → wr.cell? ((⟨b1, o1 + k * 35, none⟩ : Addr).add j) = some v) := fun j v hv => by
            rw [Addr.add_lit]
            have h1 := hcs j v hv
            exact (HT.out.below.cell (p := ⟨b1, o1 + k * 35 + j, none⟩) (Nat.lt_of_lt_of_le hb1 HB3.out.size)).trans h1
          clear hxk hcs
          go_wp2_with (first
            | (refine wpList_load_at rfl 31 (.tmp 28) rfl ⟨b1, o1 + k * 35, none⟩ rfl (encA x) 35 (act_agg _) (act_size _) (encA_length x) HCA.out ?_)
            | (refine Sh.wpList_store_all rfl 31 (.tmp 6) (.tmp 29) rfl wr.heap.size (encA x) rfl rfl 31 (encA zeroAc) (zact wr) (act_info x) ?s2 (encA_one x) ?_))
          case s2 => rw [encA_length, encA_length]
          intro w6 HA6 HT6
          have hf6 := fresh HT6.out
          have HT6' := Lib.hid (HT.out.later hK hf6)
          have HB6 : Hid (BRow w6 w6.heap.size A' l) := HBR.out.later hf6
          have HS6 : Hid (∀ q, S q → q < wr.heap.size) := hK.inside HT.out.has
          have HW6 := Lib.hid hf6.size
          clear HT6 hf6 HCA
          obtain ⟨d, hd⟩ : ∃ d, askedA x = d := ⟨_, rfl⟩
          have HAS := Lib.hid (fun W (h : Ok B W) => asked_any B x (by omega) W h)
          have HDL : Hid (d.length = 32) := by show _ = _; rw [← hd]; exact asked_length x
          rw [hd] at HAS
          have HDQ := Lib.hid hd
          clear hd
          go_wp2_with (refine wpList_load_at rfl 31 (.tmp 6) rfl ⟨wr.heap.size, 0, none⟩ rfl (encA x) 35 (act_agg _) (act_size _) (encA_length x) (row_cells HA6.out) ?_)
          refine (HAS.out _ HT6'.out.ok).mono ?_
          rintro e w7 ⟨rfl, hb7⟩
          have HT7 := Lib.hid (HT6'.out.later hK hb7)
          have HW7 : Hid (wr.heap.size < w7.heap.size) := Nat.lt_of_lt_of_le HA6.out.lt hb7.size
          have HB7 : Hid (BRow w7 w7.heap.size A' l) := HB6.out.later hb7
          have HA7 := Lib.hid (Row.on HA6.out hb7)
          clear hb7 HAS
          go_wp2_with (refine Sh.wpList_store_all rfl 29 (.tmp 7) (.tmp 31) rfl w7.heap.size (Sh.bvals d) rfl rfl 29 (Sh.bvals (List.replicate 32 0)) (zrow w7) (dig_info d HDL.out) (zero_len d HDL.out) (Sh.bvals_one _) ?_)
          intro w8 HD8 HT8
          have hf8 := fresh HT8.out
          have HT8' := Lib.hid (HT7.out.later hK hf8)
          have HB8 : Hid (BRow w8 w8.heap.size A' l) := HB7.out.later hf8
          have HA8 := Lib.hid (Row.on HA7.out hf8)
          clear HT8 hf8
          have HFD := Lib.hid (find_any A' cp w8.heap.size m l d HDL.out w8 HL.out (by have := HFI.out.2.2.1; have := HL.out; omega) HFI.out.2.1 HB8.out (Nat.le_refl _))
          go_wp2_with (refine wpList_load_at rfl 29 (.tmp 7) rfl ⟨w7.heap.size, 0, none⟩ rfl (Sh.bvals d) 32 (digest_agg _) (digest_size _) (dv_len d HDL.out) (row_cells HD8.out) ?_)
          refine HFD.out.mono ?_
          rintro e w9 ⟨z, rfl, hz, hb9⟩
          have HZ := Lib.hid hz
          have HT9 := Lib.hid (HT8'.out.later hK hb9)
          have HB9 : Hid (BRow w9 w9.heap.size A' l) := HB8.out.later hb9
          have HA9 := Lib.hid (Row.on HA8.out hb9)
          have HD9 := Lib.hid (Row.on HD8.out hb9)
          obtain ⟨kk, hkk⟩ : ∃ kk, x.kind.toNat = kk := ⟨_, rfl⟩
          have hk256 : kk < 256 := by rw [← hkk]; exact x.kind.toNat_lt
          have hck := row_in HA9.out (act_kind x)
          rw [hkk] at hck
          have HCK := Lib.hid hck
          have HKK := Lib.hid hkk
          clear hz hb9 hkk HFD hck
          have cK := HCK.out
          have HRN := Lib.hid (rowV_snoc HXK.out)
          rw [HRV.out] at HRN
          have HKN := Lib.hid (HKP.out.step HXM.out)
          have HFN := Lib.hid (HKN.out.fits (by omega) HSZ.out)
          have HIN : Hid (x.kind.toNat = kk) := HKK.out
          have HN6 : Hid (¬ S wr.heap.size) := fun h => Nat.lt_irrefl _ (HS6.out _ h)
          have HN7 : Hid (¬ S w7.heap.size) := fun h => Nat.lt_irrefl _ (Nat.lt_trans (HS6.out _ h) HW7.out)
          by_cases h2 : kk % 4 = 2
          · have e2 : (kk : Int) % 4 = 2 := by omega
            have HSV : Hid (stepV l x = l) := by show _ = _; unfold stepV; rw [HIN.out, if_pos h2]
            clear h2
            rcases HZ.out with ⟨rfl, hg⟩ | ⟨j, x0, rfl, hj, hx0, hg⟩
            · have HGT := Lib.hid (hK.get w9 S b l d ⟨#[]⟩ false HT9.out.has HFI.out HDL.out (by rw [hg]; rfl) (by rw [hg]; rfl))
              clear hg HZ
              go_wp2_with (refine wpList_load_at rfl 29 (.tmp 7) rfl ⟨w7.heap.size, 0, none⟩ rfl (Sh.bvals d) 32 (digest_agg _) (digest_size _) (dv_len d HDL.out) (row_cells HD9.out) ?_)
              refine HGT.out.mono ?_
              rintro e w10 ⟨rfl, hb10⟩
              have HT10 := Lib.hid (HT9.out.later hK hb10)
              have HB10 : Hid (BRow w10 w10.heap.size A' l) := HB9.out.later hb10
              have hz10 := hb10.size
              clear hb10
              have HSM := Lib.hid (same_any hK S b A' cp m l w10 HT10.out.has HFI.out HL.out HB10.out)
              go_wp2_with fail
              refine HSM.out.mono ?_
              rintro e w11 ⟨rfl, hb11⟩
              have HT11 := Lib.hid (HT10.out.later hK hb11)
              have HB11 : Hid (BRow w11 w11.heap.size A' l) := HB10.out.later hb11
              have HOF2 : Hid (Off S w11.heap.size A') := HOF.out.up (by have := HA9.out.lt; have := hb11.size; omega)
              clear hb11 hz10
              go_wp2
              go_roundw
              case rel => exact ⟨k + 1, m, cp, A', l, S, by omega, by go_num, rfl, HL, by rw [HRN.out, HSV.out]; rfl, by have := HKN.out; rw [HSV.out] at this; exact this, HB11, HOF2, HT11⟩
              case measure => simp [intOf]; omega
            · have hjm : j < m := by rw [← HL.out]; exact (List.getElem?_eq_some_iff.1 hj).1
              have hji : (j : Int) < m := by omega
              obtain ⟨X0, hX0⟩ : ∃ X0 : ByteArray, X0.data.toList = x0.2 := ⟨⟨x0.2.toArray⟩, by simp⟩
              have HJ := Lib.hid hj
              have HX0 := Lib.hid hX0
              obtain ⟨b2, o2, rfl, _, _⟩ := HB9.out j x0 hj
              have HGT := Lib.hid (hK.get w9 S b l d X0 true HT9.out.has HFI.out HDL.out (by rw [hg]; exact hX0) (by rw [hg]; rfl))
              have hxx : (X0.toList == X0.toList) = true := beq_self_eq_true _
              clear hg HZ hj hX0 hx0
              go_wp2_with (refine wpList_load_at rfl 29 (.tmp 7) rfl ⟨w7.heap.size, 0, none⟩ rfl (Sh.bvals d) 32 (digest_agg _) (digest_size _) (dv_len d HDL.out) (row_cells HD9.out) ?_)
              refine HGT.out.mono ?_
              rintro e w10 ⟨rfl, hb10⟩
              have HT10 := Lib.hid (HT9.out.later hK hb10)
              have HB10 : Hid (BRow w10 w10.heap.size (some ⟨b2, o2, none⟩) l) := HB9.out.later hb10
              have cD : w10.cell? ⟨b2, o2 + j * 33 + 32, none⟩ = some (.string X0) := by
                obtain ⟨b', o', e, _, h3⟩ := HB10.out j x0 HJ.out
                injection e with e
                injection e with e1 e2
                subst e1 e2
                rw [h3 32 _ (data_at x0), ← HX0.out, ← SV_str]
              have hz10 := hb10.size
              clear hb10
              have HSM := Lib.hid (same_any hK S b (some ⟨b2, o2, none⟩) cp m l w10 HT10.out.has HFI.out HL.out HB10.out)
              go_wp2_with fail
              refine HSM.out.mono ?_
              rintro e w11 ⟨rfl, hb11⟩
              have HT11 := Lib.hid (HT10.out.later hK hb11)
              have HB11 : Hid (BRow w11 w11.heap.size (some ⟨b2, o2, none⟩) l) := HB10.out.later hb11
              have HOF2 : Hid (Off S w11.heap.size (some ⟨b2, o2, none⟩)) := HOF.out.up (by have := HA9.out.lt; have := hb11.size; omega)
              clear hb11 hz10
              go_wp2
              go_roundw
              case rel => exact ⟨k + 1, m, cp, some ⟨b2, o2, none⟩, l, S, by omega, by go_num, rfl, HL, by rw [HRN.out, HSV.out]; rfl, by have := HKN.out; rw [HSV.out] at this; exact this, HB11, HOF2, HT11⟩
              case measure => simp [intOf]; omega
          · by_cases h3 : kk % 4 = 3
            · have e3 : (kk : Int) % 4 = 3 := by omega
              have HSV : Hid (stepV l x = dropV l d) := by show _ = _; unfold stepV; rw [HIN.out, if_neg h2, if_pos h3, HDQ.out]
              obtain ⟨tz, htz, hge⟩ : ∃ tz, (Bl.get l d).isSome = tz ∧ decide ((0 : Int) ≤ z) = tz := by
                rcases HZ.out with ⟨rfl, hg⟩ | ⟨j, x0, rfl, hj, hx0, hg⟩
                · exact ⟨false, by rw [hg]; rfl, by decide⟩
                · exact ⟨true, by rw [hg]; rfl, decide_eq_true (by omega)⟩
              have HDR := Lib.hid (hK.drop w9 S b l d tz HT9.out.has HFI.out HDL.out htz)
              clear h2 h3 htz HZ
              go_wp2_with (refine wpList_load_at rfl 29 (.tmp 7) rfl ⟨w7.heap.size, 0, none⟩ rfl (Sh.bvals d) 32 (digest_agg _) (digest_size _) (dv_len d HDL.out) (row_cells HD9.out) ?_)
              refine HDR.out.mono ?_
              rintro e w10 ⟨S10, rfl, hr10, hq10, ha10⟩
              have HT10 := Lib.hid (HT9.out.acted hr10 hq10 ha10)
              have HB10 : Hid (BRow w10 w10.heap.size A' l) := KRow.away HB9.out ha10 HOF.out
              have HD10 := Lib.hid (Row.far HD9.out ha10 HN7.out)
              have HS10 : Hid (∀ q, S10 q → q < w10.heap.size) := hK.inside hr10
              clear hr10 hq10 ha10 HDR
              have HDD := Lib.hid (drop_any A' cp w10.heap.size m l d HDL.out w10 HL.out (by have := HFI.out.2.2.1; have := HL.out; omega) HFI.out.2.1 HB10.out (Nat.le_refl _))
              go_wp2_with (refine wpList_load_at rfl 29 (.tmp 7) rfl ⟨w7.heap.size, 0, none⟩ rfl (Sh.bvals d) 32 (digest_agg _) (digest_size _) (dv_len d HDL.out) (row_cells HD10.out) ?_)
              refine HDD.out.mono ?_
              rintro e w11 ⟨A2, m2, cp2, rfl, hm2, ho2, hb11⟩
              have HT11 := Lib.hid (HT10.out.later hK hb11)
              have HO11 := Lib.hid ho2
              have HM2 := Lib.hid hm2
              have HOF1 : Hid (Off S10 w11.heap.size A2) := owns_off ho2 HS10.out
              have HB11 : Hid (BRow w11 w11.heap.size A2 (dropV l d)) := OwnsK.row encB_length ho2
              have hfn := HFN.out
              rw [HSV.out] at hfn
              have HSM := Lib.hid (same_any hK S10 b A2 cp2 m2 (dropV l d) w11 HT11.out.has hfn hm2 HB11.out)
              clear hb11 ho2 hm2 hfn HDD
              go_wp2_with fail
              refine HSM.out.mono ?_
              rintro e w12 ⟨rfl, hb12⟩
              have HT12 := Lib.hid (HT11.out.later hK hb12)
              have HB12 : Hid (BRow w12 w12.heap.size A2 (dropV l d)) := HB11.out.later hb12
              have HOF2 : Hid (Off S10 w12.heap.size A2) := HOF1.out.up hb12.size
              clear hb12
              go_wp2
              go_roundw
              case rel => exact ⟨k + 1, m2, cp2, A2, dropV l d, S10, by omega, by go_num, rfl, HM2, by rw [HRN.out, HSV.out]; rfl, by have := HKN.out; rw [HSV.out] at this; exact this, HB12, HOF2, HT12⟩
              case measure => simp [intOf]; omega
            · have hn2 : ((kk : Int) % 4 == 2) = false := by rw [beq_eq_false_iff_ne]; omega
              have hn3 : ((kk : Int) % 4 == 3) = false := by rw [beq_eq_false_iff_ne]; omega
              have hm2 : ¬ (kk : Int) % 4 = 2 := by omega
              have hm3 : ¬ (kk : Int) % 4 = 3 := by omega
              have HSV : Hid (stepV l x = putV l (blobOf x)) := by show _ = _; unfold stepV; rw [HIN.out, if_neg h2, if_neg h3]
              obtain ⟨l2, hl2⟩ : ∃ l2, putV l (blobOf x) = l2 := ⟨_, rfl⟩
              rw [hl2] at HSV
              obtain ⟨D, hD⟩ : ∃ D, dig x.data = D := ⟨_, rfl⟩
              have HLD : Hid (D.length = 32) := by show _ = _; rw [← hD]; exact dig_len _
              have HPUT : Hid (∀ W, Sit R B w3 b A' l wr.heap.size x W S l → Calls Tryd.prog 16 #[ptr b, .string x.data] W fun e w' => ∃ S', e = .returned (dv D) ∧ Sit R B w3 b A' l wr.heap.size x w' S' l2 ∧ ∀ q v, ¬ S q → q < W.heap.size → W.cell? ⟨q, 0, none⟩ = some v → q < w'.heap.size ∧ w'.cell? ⟨q, 0, none⟩ = some v) := fun W hs => by
                refine (hK.put W B S b l x.data hs.st.has hs.st.ok hs.st.base HFI.out (by omega) (HKP.out.same HCR.out HXM.out)).mono fun e w' ⟨S', he, hr, hq, ha⟩ => ⟨S', by rw [he, hD], ?_, fun q v hnq hlt hc => ⟨Nat.lt_of_lt_of_le hlt ha.size, (ha.cell (p := ⟨q, 0, none⟩) hlt hnq).trans hc⟩⟩
                have h5 := hs.put hr hq ha
                rw [show (dig x.data, x.data.data.toList) = blobOf x from rfl, hl2] at h5
                exact h5
              have HSUM : Hid (∀ W (S' : Nat → Prop) l' g, Sit R B w3 b A' l wr.heap.size x W S' l' → W.cell? ⟨g, 0, none⟩ = some (.string x.data) → g < W.heap.size → Calls Tryd.prog 17 #[.slice (some ⟨g, 0, none⟩) 1 1] W fun e w' => e = .returned (dv D) ∧ Sit R B w3 b A' l wr.heap.size x w' S' l' ∧ Below W.heap.size W w') := fun W S' l' g hs hc hg => by
                refine (sum_one W B g x.data (by omega) hc hg hs.st.ok).mono fun e w' ⟨he, hb⟩ => ⟨by rw [he, hD], hs.later hK hb, hb⟩
              have HSIT : Hid (Sit R B w3 b A' l wr.heap.size x w9 S l) := ⟨HT9.out, HB9.out, HOF.out.up (Nat.le_of_lt HA9.out.lt), HA9.out, HN6.out⟩
              have HRF := Lib.hid (fun (W : World) (h : BRow W W.heap.size A' l) => put_any A' cp m l (D, x.data.data.toList) HLD.out W HL.out (by have := HFI.out.2.2.1; have := HL.out; omega) HFI.out.2.1 h)
              have HBF : Hid ((D, x.data.data.toList) = blobOf x) := by show _ = _; rw [← hD]; rfl
              have HL2 := Lib.hid hl2
              have hng := Sh.no_guard
              have heq := bvals_eqi HLD.out HLD.out
              rw [decide_eq_true rfl] at heq
              have hbld := build_is D x.data HLD.out
              have H0 := Lib.hid (HSIT.out.drew hK)
              have H1 := Lib.hid ((HSIT.out.alloc hK (.cells #[.string x.data] 9)).drew hK)
              have hc0 := H0.out.data
              have hc1 := H1.out.data
              have HN9 : Hid (¬ S w9.heap.size) := fun h => Nat.lt_irrefl _ (hK.inside HT9.out.has _ h)
              clear h2 h3 hl2 hD HZ HT9 HB9 HA9 HD9 HOF HCK
              go_wp2_with fail
              (go_region_held3 (fun w' : World => w'.cell? ⟨wr.heap.size, 1, none⟩ = some (.string x.data))
                (first | exact hc0 | exact hc1 | assumption | exact (Sit.alloc hK hsp _).data)
                ((first
                  | (go_at_call 16; (refine Calls.mono (HPUT.out _ H0.out) ?_); rintro e wp ⟨Sp, rfl, hsp, hap⟩; have hcp := hsp.data)
                  | (go_at_call 16; (refine Calls.mono (HPUT.out _ H1.out) ?_); rintro e wp ⟨Sp, rfl, hsp, hap⟩; have hcp := hsp.data)
                  | (go_at_call 16; (refine Calls.mono (HPUT.out _ hsa) ?_); rintro e wp ⟨Sp, rfl, hsp, hap⟩; have hcp := hsp.data)
                  | (go_at_call 17; (refine Calls.mono (HSUM.out _ _ _ _ H1.out (by simp) (by simp)) ?_); rintro e wa ⟨rfl, hsa, hba⟩; have hca := hsa.data)
                  | (go_at_call 17; (refine Calls.mono (HSUM.out _ _ _ _ hsp (hap _ _ HN9.out (by simp) (by simp)).2 (hap _ (.string x.data) HN9.out (by simp) (by simp)).1) ?_); rintro e wb ⟨rfl, hsb, hbb⟩; have hcb := hsb.data)
                  | (go_at_call 17; (refine Calls.mono (HSUM.out _ _ _ _ (Sit.alloc hK hsp _) (by simp) (by simp)) ?_); rintro e wb ⟨rfl, hsb, hbb⟩; have hcb := hsb.data))))
              all_goals (first | (have HF := Lib.hid hsb; clear hsb hbb hcb) | (have HF := Lib.hid hsp))
              all_goals
                have G0 := Lib.hid (HF.out.drew hK)
                have G1 := Lib.hid ((HF.out.alloc hK (.cells #[.string x.data] 9)).drew hK)
                have gc0 := G0.out.data
                have gc1 := G1.out.data
                clear hc0 hc1
                go_wp2_with fail
                (go_region_held3 (fun w' : World => w'.cell? ⟨wr.heap.size, 1, none⟩ = some (.string x.data))
                  (first | exact gc0 | exact gc1 | assumption)
                  ((first
                    | (go_at_call 17; (refine Calls.mono (HSUM.out _ _ _ _ G1.out (by simp) (by simp)) ?_); rintro e wg ⟨rfl, hsg, hbg⟩; have hcg := hsg.data)
                    | (go_at_call 18; (refine Calls.mono (HRF.out _ hsg.row) ?_); rintro e wh ⟨A2, m2, cp2, rfl, hm2, hr2, hb2, ho2⟩; have hch := (hsg.later hK hb2).data))))
                rw [HBF.out, HL2.out] at hm2 hr2
                have HT11 := Lib.hid (hsg.later hK hb2).st
                have HOF2 := hsg.off
                have hofn : Off _ wh.heap.size A2 := ho2.elim (fun e => e ▸ hsg.off.up hb2.size) (fun h p hp => ⟨fun hq => absurd (hK.inside hsg.st.has _ hq) (Nat.not_lt.2 (h p hp).1), (h p hp).2⟩)
                have HOF1 := Lib.hid hofn
                have hfn := HFN.out
                rw [HSV.out] at hfn
                have HM2 := Lib.hid hm2
                have HR2 := Lib.hid hr2
                have HSM := Lib.hid (same_any hK _ b A2 cp2 m2 l2 wh HT11.out.has hfn hm2 hr2)
                clear hm2 hr2 hb2 ho2 hofn HOF2 hfn hsg hbg hcg hch gc0 gc1
                go_wp2_with fail
                refine HSM.out.mono ?_
                rintro e w12 ⟨rfl, hb12⟩
                have HT12 := Lib.hid (HT11.out.later hK hb12)
                have HB12 : Hid (BRow w12 w12.heap.size A2 l2) := HR2.out.later hb12
                have HOF2 := Lib.hid (HOF1.out.up hb12.size)
                clear hb12
                go_wp2
                go_roundw
                case rel => exact ⟨k + 1, m2, cp2, A2, l2, _, by omega, by go_num, rfl, HM2, by rw [HRN.out, HSV.out]; rfl, by have := HKN.out; rw [HSV.out] at this; exact this, HB12, HOF2, HT12⟩
                case measure => simp [intOf]; omega
        · obtain rfl : k = n := by omega
          have HBE := Lib.hid (HB3.out.trans (HT.out.below.mono HB3.out.size))
          go_wp2
          go_ret
          exact ⟨rfl, HBE.out⟩
    · clear hcl
      go_wp2
      go_ret
      exact ⟨rfl, HB3.out⟩
  · go_wp2
    go_ret
    exact ⟨rfl, HB1.out⟩
end Bl
end Go.Proofs.YtiilmgbobjagkaaDoor
