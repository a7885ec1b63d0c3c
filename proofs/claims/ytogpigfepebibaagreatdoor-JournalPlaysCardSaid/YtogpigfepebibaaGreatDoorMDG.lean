/-
  Layer 7 (disk): what the document's writing calls answer; the walk of its Sync. Layer 7 (disk): the walk of the document's Append.
-/
import Derived.Test.YtogpigfepebibaaGreatDoorMDE
import Derived.Test.YtogpigfepebibaaGreatDoorMKR
import Derived.Deep.RegionHeld3
namespace Go.Proofs.YtogpigfepebibaaGreatDoor
namespace Dk
open Go.RowKit Go.ChangeShapes Kr

theorem emptyB (p : ByteArray) : p.toList.isEmpty = decide (p = nul) := by
  rw [ByteArray.toList_eq]
  by_cases h : p = nul
  · subst h; rfl
  · rw [decide_eq_false h, List.isEmpty_eq_false_iff]
    exact fun e => h (ba_eq e)
abbrev zdisk : List Value := [.slice none 0 0, .int .i64 0]
abbrev ldisk (A : Option Addr) (n cap : Nat) (left : Int) : List Value := [.slice A n cap, .int .i64 left]
theorem disk_info (A : Option Addr) (n cap : Nat) (left : Int) : (Tryz.prog.info? 30).map (·.size) = some (ldisk A n cap left).length := by show _ = some 2; kernel_rfl
theorem disk_one (A : Option Addr) (n cap : Nat) (left : Int) : (ldisk A n cap left).toArray.all (·.oneCell') = true := by simp [ldisk, Value.oneCell']
/-- Another disk, and an error's number: its files lie where they did, below B0, or in blocks from base on. -/
def RefAt (B0 base : Nat) (A : Option Addr) (D : DD × Nat) (e : Ending) (w' : World) : Prop :=
  ∃ A' m cap', e = .returned (.tuple #[dval A' m cap' D.1.left, .int .i64 (D.2 : Int)]) ∧ D.1.files.length = m ∧ ((A' = A ∧ FRow w' B0 A' D.1.files) ∨ ((∀ q, A' = some q → base ≤ q.block ∧ q.block < w'.heap.size) ∧ FRow w' w'.heap.size A' D.1.files))
/-- What a writing call of the document's answers. -/
def RefAns (w : World) (A : Option Addr) (D : DD × Nat) (e : Ending) (w' : World) : Prop := RefAt w.heap.size w.heap.size A D e w' ∧ Below w.heap.size w w'
theorem ans_same {w w' : World} {A : Option Addr} {n cap e : Nat} {l : List FF} {left : Int} (hn : l.length = n) (hx : FRow w w.heap.size A l) (hb : Below w.heap.size w w') :
    RefAns w A (⟨l, left⟩, e) (.returned (.tuple #[dval A n cap left, .int .i64 (e : Int)])) w' := ⟨⟨A, n, cap, rfl, hn, .inl ⟨rfl, hx.below hb (Nat.le_refl _)⟩⟩, hb⟩
/-- pass, as its callers ask it. -/
theorem pass_ans (A A' : Option Addr) (B0 base n cap m cap' : Nat) (l L : List FF) (left : Int) (w : World) (hl : -1 ≤ left) (hh : left ≤ 9223372036854775807) (hn : l.length = n) (hm : L.length = m) (hB : B0 ≤ w.heap.size) (hx : FRow w B0 A l) (ho : OwnsF w base (.slice A' m cap') L) :
    Calls Tryz.prog 46 #[dval A n cap left, .slice A' m cap'] w fun e w' => RefAt B0 base A (passV ⟨l, left⟩ L) e w' ∧ Below w.heap.size w w' := by
  refine (pass_any A A' n cap m cap' left w hl hh).mono fun e w' ⟨he, hb2⟩ => ⟨?_, hb2⟩
  unfold RefAt passV
  by_cases h0 : left = 0
  · rw [if_pos h0] at he ⊢
    rw [if_pos h0] at he
    exact ⟨A, n, cap, he, hn, .inl ⟨rfl, hx.below hb2 hB⟩⟩
  · rw [if_neg h0] at he ⊢
    rw [if_neg h0] at he
    refine ⟨A', m, cap', he, hm, .inr ⟨fun q hq => ?_, (OwnsK.row encF_length ho).later hb2⟩⟩
    rcases ho.2 with ⟨hv, _⟩ | ⟨g, c, cur, hv, hg, hh, _⟩
    · injection hv with hv; rw [hq] at hv; cases hv
    · injection hv with hv
      rw [hq] at hv
      injection hv with hv
      have h1 := (Array.getElem?_eq_some_iff.1 hh).1
      have h2 := hb2.size
      rw [hv]; exact ⟨hg, by show g < _; omega⟩
theorem far2 (W : World) (b : Nat) (u v : Value) (p : Addr) (h : b ≠ p.block) : ((W.setCell ⟨b, 0, none⟩ u).setCell ⟨b, 1, none⟩ v).cell? p = W.cell? p :=
  (World.cell?_setCell_far _ _ _ _ h).trans (World.cell?_setCell_far _ _ _ _ h)
/-- .. and the answer laid into block b. -/
theorem RefAt.laid {B0 base b : Nat} {A : Option Addr} {D : DD × Nat} {e : Ending} {w' : World} (h : RefAt B0 base A D e w') (h0 : B0 ≤ b) (h1 : b < base) (u v : Value) :
    RefAt B0 B0 A D e ((w'.setCell ⟨b, 0, none⟩ u).setCell ⟨b, 1, none⟩ v) := by
  obtain ⟨A', m, cap', he, hl, ⟨e1, hx⟩ | ⟨hf, hx⟩⟩ := h
  · exact ⟨A', m, cap', he, hl, .inl ⟨e1, hx.keep fun p hp => far2 _ _ _ _ _ (by omega)⟩⟩
  · refine ⟨A', m, cap', he, hl, .inr ⟨fun q hq => by have := hf q hq; exact ⟨by omega, by simp; omega⟩, fun j x hj => ?_⟩⟩
    obtain ⟨b', o', h2, h3, h4⟩ := hx j x hj
    have h5 : base ≤ b' := (hf _ h2).1
    exact ⟨b', o', h2, by simpa using h3, fun i v hv => (far2 _ _ _ _ ⟨b', _, none⟩ (by show b ≠ b'; omega)).trans (h4 i v hv)⟩
/-- The cells of a disk, and of a file, that a call has laid. -/
abbrev SitC (x y : Nat) (A : Option Addr) (n cap : Nat) (left : Int) (f : FF) (W : World) : Prop :=
  W.cell? ⟨x, 0, none⟩ = some (.slice A n cap) ∧ W.cell? ⟨x, 1, none⟩ = some (.int .i64 left) ∧ W.cell? ⟨y, 0, none⟩ = some (.string f.name) ∧ W.cell? ⟨y, 1, none⟩ = some (.string f.data) ∧ W.cell? ⟨y, 2, none⟩ = some (.int .i64 (f.sure : Int))
theorem SitC.laid {x y b n cap : Nat} {A : Option Addr} {left : Int} {f : FF} {W : World} (h : SitC x y A n cap left f W) (hx : b ≠ x) (hy : b ≠ y) (u v : Value) : SitC x y A n cap left f ((W.setCell ⟨b, 0, none⟩ u).setCell ⟨b, 1, none⟩ v) :=
  ⟨(far2 _ _ _ _ ⟨x, 0, none⟩ hx).trans h.1, (far2 _ _ _ _ ⟨x, 1, none⟩ hx).trans h.2.1, (far2 _ _ _ _ ⟨y, 0, none⟩ hy).trans h.2.2.1, (far2 _ _ _ _ ⟨y, 1, none⟩ hy).trans h.2.2.2.1, (far2 _ _ _ _ ⟨y, 2, none⟩ hy).trans h.2.2.2.2⟩
theorem SitC.below {x y n cap : Nat} {A : Option Addr} {left : Int} {f : FF} {W W' : World} (h : SitC x y A n cap left f W) (hb : Below W.heap.size W W') (hx : x < W.heap.size) (hy : y < W.heap.size) : SitC x y A n cap left f W' :=
  ⟨(hb.cell (p := ⟨x, 0, none⟩) hx).trans h.1, (hb.cell (p := ⟨x, 1, none⟩) hx).trans h.2.1, (hb.cell (p := ⟨y, 0, none⟩) hy).trans h.2.2.1, (hb.cell (p := ⟨y, 1, none⟩) hy).trans h.2.2.2.1, (hb.cell (p := ⟨y, 2, none⟩) hy).trans h.2.2.2.2⟩
theorem SitC.made {x n cap : Nat} {A : Option Addr} {left : Int} (f : FF) {W : World} {T : TypeId} (h0 : W.cell? ⟨x, 0, none⟩ = some (.slice A n cap)) (h1 : W.cell? ⟨x, 1, none⟩ = some (.int .i64 left)) (hx : x < W.heap.size) : SitC x W.heap.size A n cap left f (W.alloc (.cells (encF f).toArray T)) :=
  ⟨(World.cell?_alloc_lt W _ ⟨x, 0, none⟩ hx).trans h0, (World.cell?_alloc_lt W _ ⟨x, 1, none⟩ hx).trans h1, new_cell W (encF f) _ rfl rfl, new_cell W (encF f) _ rfl rfl, new_cell W (encF f) _ rfl rfl⟩

set_option maxRecDepth 100000 in
set_option maxHeartbeats 4000000 in
theorem refsync_any (A : Option Addr) (cap n : Nat) (l : List FF) (left : Int) (p : ByteArray) (w : World) (hn : l.length = n) (hnm : n ≤ 100000) (hl : -1 ≤ left) (hh : left ≤ 9223372036854775807) (hx : FRow w w.heap.size A l) :
    Calls Tryz.prog 37 #[dval A n cap left, .string p] w (RefAns w A (syncV ⟨l, left⟩ p)) := by
  have HX := Lib.hid hx
  have HN := Lib.hid hn
  clear hx hn
  obtain ⟨z, hz⟩ : ∃ z, idx l p = z := ⟨_, rfl⟩
  have HAT := Lib.hid (fun W (h : FRow W w.heap.size A l) (hW : w.heap.size ≤ W.heap.size) => at_any A cap w.heap.size n l left p z hz W HN.out (by omega) h hW)
  obtain ⟨w0, hw0⟩ : ∃ w0, w0 = (w.alloc (.cells #[.slice A n cap, .int .i64 left] 30)).alloc (.cells #[.slice none 0 0, .int .i64 0] 30) := ⟨_, rfl⟩
  have HX0 : Hid (FRow w0 w.heap.size A l) := by rw [hw0]; exact (HX.out.alloc (Nat.le_refl _) _).alloc (by simp) _
  have HB0 : Hid (Below w.heap.size w w0) := by rw [hw0]; exact ((Below.refl _ _).alloc (Nat.le_refl _) _).alloc (by simp) _
  have HC0 : Hid (w0.cell? ⟨w.heap.size, 0, none⟩ = some (.slice A n cap)) := by show _ = _; rw [hw0]; simp
  have HC1 : Hid (w0.cell? ⟨w.heap.size, 1, none⟩ = some (.int .i64 left)) := by show _ = _; rw [hw0]; simp
  have hs0 : w0.heap.size = w.heap.size + 2 := by rw [hw0]; simp
  have HZ0 : Hid (Row w0 (w.heap.size + 1) 30 zdisk) := by rw [hw0]; exact Row.new_at _ _ _ _ (by simp) rfl
  by_cases hp : p = nul
  · have HR : Hid (syncV ⟨l, left⟩ p = (⟨l, left⟩, 1)) := by show _ = _; unfold syncV; rw [if_pos hp]
    have he : p.toList.isEmpty = true := by rw [emptyB]; exact decide_eq_true hp
    clear hp hz HAT
    go_enter Tryz.func37, Tryz.ntmps37
    go_wp2_with fail
    go_returns
    rw [HR.out]
    exact ans_same HN.out HX.out (((Below.refl _ _).alloc (Nat.le_refl _) _).alloc (by simp) _)
  · have he : p.toList.isEmpty = false := by rw [emptyB]; exact decide_eq_false hp
    rcases idx_at (l := l) (p := p) with ⟨h1, h2⟩ | ⟨k, f, h1, h2, h3⟩
    · obtain rfl : z = -1 := hz.symm.trans h2
      have HR : Hid (syncV ⟨l, left⟩ p = (⟨l, left⟩, 10)) := by show _ = _; unfold syncV; rw [if_neg hp, h1]
      clear hp hz h1 h2
      go_enter Tryz.func37, Tryz.ntmps37
      go_wp2_with fail
      rw [← hw0]
      clear hw0
      refine (HAT.out _ HX0.out (by omega)).mono ?_
      rintro e w1 ⟨rfl, hb1⟩
      have HB1 := Lib.hid (HB0.out.trans (hb1.mono (by omega)))
      have HX1 : Hid (FRow w1 w.heap.size A l) := HX0.out.below hb1 (by omega)
      have d0 := (hb1.cell (p := ⟨w.heap.size, 0, none⟩) (by show w.heap.size < _; omega)).trans HC0.out
      have d1 := (hb1.cell (p := ⟨w.heap.size, 1, none⟩) (by show w.heap.size < _; omega)).trans HC1.out
      have HZ1 := Lib.hid (HZ0.out.below hb1 (by omega))
      clear hb1
      go_wp2_with (refine wpList_store_all rfl 30 (.tmp 4) (.tmp 16) rfl (w.heap.size + 1) (ldisk A n cap left) rfl rfl 30 zdisk HZ1.out (disk_info _ _ _ _) rfl (disk_one _ _ _ _) ?_)
      intro w2 HR2 HT2
      go_wp2
      have hb2 := below_turn HB1.out HT2.out (by omega)
      refine bodyPost_ret (results_row_tmp rfl _ _ (w.heap.size + 1) 30 (ldisk A n cap left) _ rfl HR2.out Tryz.underlying30 rfl (disk_info _ _ _ _)) rfl ?_
      rw [HR.out]
      exact ans_same HN.out HX.out hb2
    · obtain rfl : z = k := hz.symm.trans h2
      obtain ⟨f2, hf2⟩ : ∃ f2 : FF, f2 = ⟨f.name, f.data, f.data.size⟩ := ⟨_, rfl⟩
      have HR : Hid (syncV ⟨l, left⟩ p = passV ⟨l, left⟩ (withF l f2)) := by show _ = _; unfold syncV; rw [if_neg hp, h1, hf2]
      have hkn : k < n := by have := (List.getElem?_eq_some_iff.1 h3).1; have := HN.out; omega
      have hki : (k : Int) < n := by omega
      have H3 := Lib.hid h3
      clear hp hz h1 h2 h3
      go_enter Tryz.func37, Tryz.ntmps37
      go_wp2_with fail
      rw [← hw0]
      clear hw0
      refine (HAT.out _ HX0.out (by omega)).mono ?_
      rintro e w1 ⟨rfl, hb1⟩
      have HB1 := Lib.hid (HB0.out.trans (hb1.mono (by omega)))
      have HX1 : Hid (FRow w1 w.heap.size A l) := HX0.out.below hb1 (by omega)
      have d0 := (hb1.cell (p := ⟨w.heap.size, 0, none⟩) (by show w.heap.size < _; omega)).trans HC0.out
      have d1 := (hb1.cell (p := ⟨w.heap.size, 1, none⟩) (by show w.heap.size < _; omega)).trans HC1.out
      have HZ1 := Lib.hid (HZ0.out.below hb1 (by omega))
      have hs1 : w.heap.size + 2 ≤ w1.heap.size := by have := hb1.size; omega
      clear hb1
      obtain ⟨b1, o1, rfl, hbl, hcs⟩ := HX1.out k f H3.out
      have e0 := hcs 0 _ (f_name f)
      rw [Nat.add_zero] at e0
      have e1 := hcs 1 _ (f_data f)
      have e2 := hcs 2 _ (f_sure f)
      clear hcs
      go_wp2_with fail
      obtain ⟨w2, hw2⟩ : ∃ w2, w2 = w1.alloc (.cells #[.string f.name, .string f.data, .int .i64 (f.data.size : Int)] 91) := ⟨_, rfl⟩
      rw [← hw2]
      have hs2 : w2.heap.size = w1.heap.size + 1 := by rw [hw2]; simp
      have HB2 : Hid (Below w.heap.size w w2) := by rw [hw2]; exact HB1.out.alloc (by omega) _
      have HX2 : Hid (FRow w2 w.heap.size (some ⟨b1, o1, none⟩) l) := by rw [hw2]; exact HX1.out.alloc (by omega) _
      have HZ2 : Hid (Row w2 (w.heap.size + 1) 30 zdisk) := by rw [hw2]; exact HZ1.out.alloc _
      have HCE : Hid (∀ W, Below w2.heap.size w2 W → SitC w.heap.size w1.heap.size (some ⟨b1, o1, none⟩) n cap left ⟨f.name, f.data, f.data.size⟩ W) := fun W hW => by
        refine SitC.below (W := w2) ?_ hW (by omega) (by omega)
        rw [hw2]
        exact SitC.made ⟨f.name, f.data, f.data.size⟩ d0 d1 (by omega)
      clear hw2 d0 d1 e0 e1 e2
      have HW : Hid (∀ W, Below w2.heap.size w2 W → Calls Tryz.prog 47 #[dval (some ⟨b1, o1, none⟩) n cap left, .agg #[.string f.name, .string f.data, .int .i64 (f.data.size : Int)]] W fun e w' => ∃ A1 m1 cp1, e = .returned (.slice A1 m1 cp1) ∧ ((withF l f2).length = m1 ∧ OwnsF w' w2.heap.size (.slice A1 m1 cp1) (withF l f2)) ∧ Below w2.heap.size w2 w') := fun W hW => by
        have h := with_any (some ⟨b1, o1, none⟩) cap w.heap.size n l left f2 W HN.out hnm (HX2.out.below hW (by omega)) (by have := hW.size; omega)
        rw [hf2] at h ⊢
        exact h.mono fun e w' ⟨A1, m1, cp1, h1, h2, h3, h4⟩ => ⟨A1, m1, cp1, h1, ⟨h2, h3.less hW.size⟩, hW.trans (h4.mono hW.size)⟩
      clear hf2
      have HP : Hid (∀ W A1 m1 cp1, Below w2.heap.size w2 W → ((withF l f2).length = m1 ∧ OwnsF W w2.heap.size (.slice A1 m1 cp1) (withF l f2)) → Calls Tryz.prog 46 #[dval (some ⟨b1, o1, none⟩) n cap left, .slice A1 m1 cp1] W fun e w' => RefAt w.heap.size w2.heap.size (some ⟨b1, o1, none⟩) (passV ⟨l, left⟩ (withF l f2)) e w' ∧ Below w2.heap.size w2 w') := fun W A1 m1 cp1 hW ho =>
        (pass_ans _ _ w.heap.size w2.heap.size n cap m1 cp1 l (withF l f2) left W hl hh HN.out ho.1 (by have := hW.size; omega) (HX2.out.below hW (by omega)) ho.2).mono fun e w' ⟨h1, h2⟩ => ⟨h1, hW.trans (h2.mono hW.size)⟩
      have HZE : Hid (∀ W, Below w2.heap.size w2 W → W.cell? ⟨w.heap.size + 1, 0, none⟩ = some (.slice none 0 0) ∧ W.cell? ⟨w.heap.size + 1, 1, none⟩ = some (.int .i64 0) ∧ W.frozen? ⟨w.heap.size + 1, 0, none⟩ = false ∧ W.frozen? ⟨w.heap.size + 1, 1, none⟩ = false) := fun W hW => by
        have h := HZ2.out.below hW (by omega)
        exact ⟨h.cell 0, h.cell 1, h.frozen 0, h.frozen 1⟩
      have H0 := Lib.hid (Below.refl w2.heap.size w2).drew
      have hS0 := HCE.out _ H0.out
      have hn1 : w.heap.size + 1 ≠ w.heap.size := by omega
      have hn2 : w.heap.size + 1 ≠ w1.heap.size := by omega
      go_region_held3 (fun w' : World => w'.cell? ⟨w.heap.size, 0, none⟩ = some (.slice (some ⟨b1, o1, none⟩) n cap) ∧ w'.cell? ⟨w.heap.size, 1, none⟩ = some (.int .i64 left) ∧ w'.cell? ⟨w1.heap.size, 0, none⟩ = some (.string f.name) ∧ w'.cell? ⟨w1.heap.size, 1, none⟩ = some (.string f.data) ∧ w'.cell? ⟨w1.heap.size, 2, none⟩ = some (.int .i64 (f.data.size : Int)))
        (first | exact hS0 | assumption | exact SitC.laid (by assumption) hn1 hn2 _ _)
        ((first
          | (go_at_call 47; (refine Calls.mono (HW.out _ H0.out) ?_); rintro e wa ⟨A1, m1, cp1, rfl, hoa, hba⟩; have hSa := HCE.out _ hba)
          | (go_at_call 46; (refine Calls.mono (HP.out _ _ _ _ hba hoa) ?_); rintro e wp ⟨⟨A3, m3, cp3, rfl, hr3⟩, hbp⟩; have hSp := HCE.out _ hbp; obtain ⟨hz0, hz1, hz2, hz3⟩ := HZE.out _ hbp)))
      have HRA := Lib.hid (RefAt.laid ⟨A3, m3, cp3, rfl, hr3⟩ (Nat.le_succ _) (by omega : w.heap.size + 1 < w2.heap.size) (.slice A3 m3 cp3) (.int .i64 (passV ⟨l, left⟩ (withF l f2)).1.left))
      have HRW : Hid (Row ((wp.setCell ⟨w.heap.size + 1, 0, none⟩ (.slice A3 m3 cp3)).setCell ⟨w.heap.size + 1, 1, none⟩ (.int .i64 (passV ⟨l, left⟩ (withF l f2)).1.left)) (w.heap.size + 1) 30 (ldisk A3 m3 cp3 (passV ⟨l, left⟩ (withF l f2)).1.left)) := ((HZ2.out.below hbp (by omega)).set 0 _).set 1 _
      have HBE : Hid (Below w.heap.size w ((wp.setCell ⟨w.heap.size + 1, 0, none⟩ (.slice A3 m3 cp3)).setCell ⟨w.heap.size + 1, 1, none⟩ (.int .i64 (passV ⟨l, left⟩ (withF l f2)).1.left))) := ((HB2.out.trans (hbp.mono (by omega))).setCell (by simp) _).setCell (by simp) _
      clear hr3 hba hbp hoa hSa hSp hz0 hz1 hz2 hz3 hS0
      go_wp2
      refine bodyPost_ret (results_row_tmp rfl _ _ (w.heap.size + 1) 30 (ldisk A3 m3 cp3 (passV ⟨l, left⟩ (withF l f2)).1.left) _ rfl HRW.out Tryz.underlying30 rfl (disk_info _ _ _ _)) rfl ?_
      rw [HR.out]
      exact ⟨HRA.out, HBE.out⟩
end Dk
end Go.Proofs.YtogpigfepebibaaGreatDoor

namespace Go.Proofs.YtogpigfepebibaaGreatDoor
namespace Dk
open Go.RowKit Go.ChangeShapes Kr

theorem file_info (f : FF) : (Tryz.prog.info? 91).map (·.size) = some (encF f).length := by show _ = some 3; kernel_rfl
theorem file_ones (f : FF) : (encF f).toArray.all (·.oneCell') = true := by simp [encF, Value.oneCell']
theorem row_sit {W : World} {x g n cap : Nat} {A : Option Addr} {left : Int} {f : FF} {T : TypeId} (h0 : W.cell? ⟨x, 0, none⟩ = some (.slice A n cap)) (h1 : W.cell? ⟨x, 1, none⟩ = some (.int .i64 left)) (h : Row W g T (encF f)) : SitC x g A n cap left f W :=
  ⟨h0, h1, h.cell 0, h.cell 1, h.cell 2⟩
set_option maxRecDepth 100000 in
set_option maxHeartbeats 4000000 in
theorem refappend_any (A : Option Addr) (cap n : Nat) (l : List FF) (left : Int) (p x : ByteArray) (w : World) (hn : l.length = n) (hnm : n ≤ 100000) (hl : -1 ≤ left) (hh : left ≤ 9223372036854775807) (hxs : x.size ≤ 1000000) (hsz : ∀ f ∈ l, f.data.size ≤ 1000000) (hx : FRow w w.heap.size A l) :
    Calls Tryz.prog 19 #[dval A n cap left, .string p, .string x] w (RefAns w A (appendV ⟨l, left⟩ p x)) := by
  have HX := Lib.hid hx
  have HN := Lib.hid hn
  clear hx hn
  obtain ⟨z, hz⟩ : ∃ z, idx l p = z := ⟨_, rfl⟩
  have HAT := Lib.hid (fun W (h : FRow W w.heap.size A l) (hW : w.heap.size ≤ W.heap.size) => at_any A cap w.heap.size n l left p z hz W HN.out (by omega) h hW)
  by_cases hp : p = nul
  · have HR : Hid (appendV ⟨l, left⟩ p x = (⟨l, left⟩, 1)) := by show _ = _; unfold appendV; rw [if_pos hp]
    have he : p.toList.isEmpty = true := by rw [emptyB]; exact decide_eq_true hp
    clear hp hz HAT
    go_enter Tryz.func19, Tryz.ntmps19
    go_wp2_with fail
    go_returns
    rw [HR.out]
    exact ans_same HN.out HX.out (((Below.refl _ _).alloc (Nat.le_refl _) _).alloc (by simp) _)
  · have he : p.toList.isEmpty = false := by rw [emptyB]; exact decide_eq_false hp
    obtain ⟨w0, hw0⟩ : ∃ w0, w0 = ((w.alloc (.cells #[.slice A n cap, .int .i64 left] 30)).alloc (.cells #[.slice none 0 0, .int .i64 0] 30)).alloc (.cells #[.string p, .string ⟨#[]⟩, .int .i64 0] 91) := ⟨_, rfl⟩
    have HX0 : Hid (FRow w0 w.heap.size A l) := by rw [hw0]; exact ((HX.out.alloc (Nat.le_refl _) _).alloc (by simp) _).alloc (by simp; omega) _
    have HB0 : Hid (Below w.heap.size w w0) := by rw [hw0]; exact (((Below.refl _ _).alloc (Nat.le_refl _) _).alloc (by simp) _).alloc (by simp; omega) _
    have HD0 : Hid (Row w0 w.heap.size 30 (ldisk A n cap left)) := by rw [hw0]; exact ((Row.new_at w _ _ _ rfl rfl).alloc _).alloc _
    have hs0 : w0.heap.size = w.heap.size + 3 := by rw [hw0]; simp
    have HZ0 : Hid (Row w0 (w.heap.size + 1) 30 zdisk) := by rw [hw0]; exact (Row.new_at _ _ _ _ (by simp) rfl).alloc _
    have HG0 : Hid (Row w0 (w.heap.size + 2) 91 (encF ⟨p, nul, 0⟩)) := by rw [hw0]; exact Row.new_at _ _ _ _ (by simp) rfl
    rcases idx_at (l := l) (p := p) with ⟨h1, h2⟩ | ⟨k, f, h1, h2, h3⟩
    · obtain rfl : z = -1 := hz.symm.trans h2
      obtain ⟨f2, hf2⟩ : ∃ f2 : FF, f2 = ⟨p, nul ++ x, 0⟩ := ⟨_, rfl⟩
      have HR : Hid (appendV ⟨l, left⟩ p x = passV ⟨l, left⟩ (withF l f2)) := by
        show _ = _
        unfold appendV addF
        rw [if_neg hp, h1, hf2]; rfl
      clear hp hz h1 h2
      go_enter Tryz.func19, Tryz.ntmps19
      go_wp2_with fail
      rw [← hw0]
      clear hw0
      refine (HAT.out _ HX0.out (by omega)).mono ?_
      rintro e w1 ⟨rfl, hb1⟩
      have HB1 := Lib.hid (HB0.out.trans (hb1.mono (by omega)))
      have HX1 : Hid (FRow w1 w.heap.size A l) := HX0.out.below hb1 (by omega)
      have HD1 := Lib.hid (HD0.out.below hb1 (by omega))
      have HZ1 := Lib.hid (HZ0.out.below hb1 (by omega))
      have HG1 := Lib.hid (HG0.out.below hb1 (by omega))
      have hs1 : w.heap.size + 3 ≤ w1.heap.size := by have := hb1.size; omega
      clear hb1
      have e1 : w1.cell? ⟨w.heap.size + 1 + 1, 1, none⟩ = some (.string ⟨#[]⟩) := HG1.out.cell 1
      have e2 : w1.frozen? ⟨w.heap.size + 1 + 1, 1, none⟩ = false := HG1.out.frozen 1
      go_wp2_with fail
      obtain ⟨w2, hw2⟩ : ∃ w2, w2 = w1.setCell ⟨w.heap.size + 1 + 1, 1, none⟩ (.string (ByteArray.mk #[] ++ x)) := ⟨_, rfl⟩
      rw [← hw2]
      have hs2 : w2.heap.size = w1.heap.size := by rw [hw2]; simp
      have HB2 : Hid (Below w.heap.size w w2) := by rw [hw2]; exact HB1.out.setCell (by show w.heap.size ≤ w.heap.size + 1 + 1; omega) _
      have HX2 : Hid (FRow w2 w.heap.size A l) := by rw [hw2]; exact HX1.out.keep fun q hq => World.cell?_setCell_far _ _ _ _ (by show w.heap.size + 1 + 1 ≠ q.block; omega)
      have HZ2 : Hid (Row w2 (w.heap.size + 1) 30 zdisk) := by rw [hw2]; exact HZ1.out.far (by show w.heap.size + 1 ≠ w.heap.size + 1 + 1; omega) _
      have HD2 : Hid (Row w2 w.heap.size 30 (ldisk A n cap left)) := by rw [hw2]; exact HD1.out.far (by show w.heap.size ≠ w.heap.size + 1 + 1; omega) _
      have HSC : Hid (SitC w.heap.size (w.heap.size + 1 + 1) A n cap left ⟨p, ByteArray.mk #[] ++ x, 0⟩ w2) := by
        refine row_sit (f := ⟨p, ByteArray.mk #[] ++ x, 0⟩) (T := 91) (HD2.out.cell 0) (HD2.out.cell 1) ?_
        rw [hw2]
        exact HG1.out.set 1 _
      clear hw2 e1 e2
      have HCE : Hid (∀ W, Below w2.heap.size w2 W → SitC w.heap.size (w.heap.size + 1 + 1) A n cap left ⟨p, ByteArray.mk #[] ++ x, 0⟩ W) := fun W hW => SitC.below (W := w2) HSC.out hW (by omega) (by omega)
      have HW : Hid (∀ W, Below w2.heap.size w2 W → Calls Tryz.prog 47 #[dval A n cap left, .agg #[.string p, .string (ByteArray.mk #[] ++ x), .int .i64 0]] W fun e w' => ∃ A1 m1 cp1, e = .returned (.slice A1 m1 cp1) ∧ ((withF l f2).length = m1 ∧ OwnsF w' w2.heap.size (.slice A1 m1 cp1) (withF l f2)) ∧ Below w2.heap.size w2 w') := fun W hW => by
        have h := with_any A cap w.heap.size n l left f2 W HN.out hnm (HX2.out.below hW (by omega)) (by have := hW.size; omega)
        rw [hf2] at h ⊢
        exact h.mono fun e w' ⟨A1, m1, cp1, h1, h2, h3, h4⟩ => ⟨A1, m1, cp1, h1, ⟨h2, h3.less hW.size⟩, hW.trans (h4.mono hW.size)⟩
      clear hf2
      have HP : Hid (∀ W A1 m1 cp1, Below w2.heap.size w2 W → ((withF l f2).length = m1 ∧ OwnsF W w2.heap.size (.slice A1 m1 cp1) (withF l f2)) → Calls Tryz.prog 46 #[dval A n cap left, .slice A1 m1 cp1] W fun e w' => RefAt w.heap.size w2.heap.size A (passV ⟨l, left⟩ (withF l f2)) e w' ∧ Below w2.heap.size w2 w') := fun W A1 m1 cp1 hW ho =>
        (pass_ans _ _ w.heap.size w2.heap.size n cap m1 cp1 l (withF l f2) left W hl hh HN.out ho.1 (by have := hW.size; omega) (HX2.out.below hW (by omega)) ho.2).mono fun e w' ⟨h1, h2⟩ => ⟨h1, hW.trans (h2.mono hW.size)⟩
      have HZE : Hid (∀ W, Below w2.heap.size w2 W → W.cell? ⟨w.heap.size + 1, 0, none⟩ = some (.slice none 0 0) ∧ W.cell? ⟨w.heap.size + 1, 1, none⟩ = some (.int .i64 0) ∧ W.frozen? ⟨w.heap.size + 1, 0, none⟩ = false ∧ W.frozen? ⟨w.heap.size + 1, 1, none⟩ = false) := fun W hW => by
        have h := HZ2.out.below hW (by omega)
        exact ⟨h.cell 0, h.cell 1, h.frozen 0, h.frozen 1⟩
      have H0 := Lib.hid (Below.refl w2.heap.size w2).drew
      have hS0 := HCE.out _ H0.out
      have hn1 : w.heap.size + 1 ≠ w.heap.size := by omega
      have hn2 : w.heap.size + 1 ≠ (w.heap.size + 1 + 1) := by omega
      go_region_held3 (fun w' : World => w'.cell? ⟨w.heap.size, 0, none⟩ = some (.slice A n cap) ∧ w'.cell? ⟨w.heap.size, 1, none⟩ = some (.int .i64 left) ∧ w'.cell? ⟨(w.heap.size + 1 + 1), 0, none⟩ = some (.string p) ∧ w'.cell? ⟨(w.heap.size + 1 + 1), 1, none⟩ = some (.string (ByteArray.mk #[] ++ x)) ∧ w'.cell? ⟨(w.heap.size + 1 + 1), 2, none⟩ = some (.int .i64 0))
        (first | exact hS0 | assumption | exact SitC.laid (by assumption) hn1 hn2 _ _)
        ((first
          | (go_at_call 47; (refine Calls.mono (HW.out _ H0.out) ?_); rintro e wa ⟨A1, m1, cp1, rfl, hoa, hba⟩; have hSa := HCE.out _ hba)
          | (go_at_call 46; (refine Calls.mono (HP.out _ _ _ _ hba hoa) ?_); rintro e wp ⟨⟨A3, m3, cp3, rfl, hr3⟩, hbp⟩; have hSp := HCE.out _ hbp; obtain ⟨hz0, hz1, hz2, hz3⟩ := HZE.out _ hbp)))
      have HRA := Lib.hid (RefAt.laid ⟨A3, m3, cp3, rfl, hr3⟩ (Nat.le_succ _) (by omega : w.heap.size + 1 < w2.heap.size) (.slice A3 m3 cp3) (.int .i64 (passV ⟨l, left⟩ (withF l f2)).1.left))
      have HRW : Hid (Row ((wp.setCell ⟨w.heap.size + 1, 0, none⟩ (.slice A3 m3 cp3)).setCell ⟨w.heap.size + 1, 1, none⟩ (.int .i64 (passV ⟨l, left⟩ (withF l f2)).1.left)) (w.heap.size + 1) 30 (ldisk A3 m3 cp3 (passV ⟨l, left⟩ (withF l f2)).1.left)) := ((HZ2.out.below hbp (by omega)).set 0 _).set 1 _
      have HBE : Hid (Below w.heap.size w ((wp.setCell ⟨w.heap.size + 1, 0, none⟩ (.slice A3 m3 cp3)).setCell ⟨w.heap.size + 1, 1, none⟩ (.int .i64 (passV ⟨l, left⟩ (withF l f2)).1.left))) := ((HB2.out.trans (hbp.mono (by omega))).setCell (by simp) _).setCell (by simp) _
      clear hr3 hba hbp hoa hSa hSp hz0 hz1 hz2 hz3 hS0
      go_wp2
      refine bodyPost_ret (results_row_tmp rfl _ _ (w.heap.size + 1) 30 (ldisk A3 m3 cp3 (passV ⟨l, left⟩ (withF l f2)).1.left) _ rfl HRW.out Tryz.underlying30 rfl (disk_info _ _ _ _)) rfl ?_
      rw [HR.out]
      exact ⟨HRA.out, HBE.out⟩
    · obtain rfl : z = k := hz.symm.trans h2
      obtain ⟨f2, hf2⟩ : ∃ f2 : FF, f2 = ⟨f.name, f.data ++ x, f.sure⟩ := ⟨_, rfl⟩
      have HR : Hid (appendV ⟨l, left⟩ p x = passV ⟨l, left⟩ (withF l f2)) := by
        show _ = _
        unfold appendV addF
        rw [if_neg hp, h1, hf2]; rfl
      have hkn : k < n := by have := (List.getElem?_eq_some_iff.1 h3).1; have := HN.out; omega
      have hki : (k : Int) < n := by omega
      have hfs := hsz f (List.mem_of_getElem? h3)
      have H3 := Lib.hid h3
      clear hp hz h1 h2 h3 hsz
      go_enter Tryz.func19, Tryz.ntmps19
      go_wp2_with fail
      rw [← hw0]
      clear hw0
      refine (HAT.out _ HX0.out (by omega)).mono ?_
      rintro e w1 ⟨rfl, hb1⟩
      have HB1 := Lib.hid (HB0.out.trans (hb1.mono (by omega)))
      have HX1 : Hid (FRow w1 w.heap.size A l) := HX0.out.below hb1 (by omega)
      have HD1 := Lib.hid (HD0.out.below hb1 (by omega))
      have HZ1 := Lib.hid (HZ0.out.below hb1 (by omega))
      have HG1 := Lib.hid (HG0.out.below hb1 (by omega))
      have hs1 : w.heap.size + 3 ≤ w1.heap.size := by have := hb1.size; omega
      clear hb1
      obtain ⟨b1, o1, rfl, hbl, hcs⟩ := HX1.out k f H3.out
      have e0 := hcs 0 _ (f_name f)
      rw [Nat.add_zero] at e0
      have e1 := hcs 1 _ (f_data f)
      have e2 := hcs 2 _ (f_sure f)
      have d0 : w1.cell? ⟨w.heap.size, 0, none⟩ = some (.slice (some ⟨b1, o1, none⟩) n cap) := HD1.out.cell 0
      clear hcs
      go_wp2_with (refine wpList_store_all rfl 91 (.tmp 8) (.tmp 24) rfl (w.heap.size + 1 + 1) (encF f) rfl rfl 91 (encF ⟨p, nul, 0⟩) HG1.out (file_info f) rfl (file_ones f) ?_)
      intro w3 HG3 HT3
      have hs3 : w3.heap.size = w1.heap.size := HT3.out.2.2.2.1
      have HB3 := Lib.hid (below_turn HB1.out HT3.out (by omega))
      have HX3 : Hid (FRow w3 w.heap.size (some ⟨b1, o1, none⟩) l) := HX1.out.keep fun q hq => World.cell?_of_block (w := w1) (HT3.out.2.2.2.2 q.block (by omega))
      have HD3 := Lib.hid (HD1.out.turn HT3.out (by omega))
      have HZ3 := Lib.hid (HZ1.out.turn HT3.out (by omega))
      clear HT3 e0 e1 e2 d0
      have g1 : w3.cell? ⟨w.heap.size + 1 + 1, 1, none⟩ = some (.string f.data) := HG3.out.cell 1
      have g2 : w3.frozen? ⟨w.heap.size + 1 + 1, 1, none⟩ = false := HG3.out.frozen 1
      go_wp2_with fail
      obtain ⟨w2, hw2⟩ : ∃ w2, w2 = w3.setCell ⟨w.heap.size + 1 + 1, 1, none⟩ (.string (f.data ++ x)) := ⟨_, rfl⟩
      rw [← hw2]
      have hs2 : w2.heap.size = w1.heap.size := by rw [hw2, ← hs3]; simp
      have HB2 : Hid (Below w.heap.size w w2) := by rw [hw2]; exact HB3.out.setCell (by show w.heap.size ≤ w.heap.size + 1 + 1; omega) _
      have HX2 : Hid (FRow w2 w.heap.size (some ⟨b1, o1, none⟩) l) := by rw [hw2]; exact HX3.out.keep fun q hq => World.cell?_setCell_far _ _ _ _ (by show w.heap.size + 1 + 1 ≠ q.block; omega)
      have HZ2 : Hid (Row w2 (w.heap.size + 1) 30 zdisk) := by rw [hw2]; exact HZ3.out.far (by show w.heap.size + 1 ≠ w.heap.size + 1 + 1; omega) _
      have HD2 : Hid (Row w2 w.heap.size 30 (ldisk (some ⟨b1, o1, none⟩) n cap left)) := by rw [hw2]; exact HD3.out.far (by show w.heap.size ≠ w.heap.size + 1 + 1; omega) _
      have HSC : Hid (SitC w.heap.size (w.heap.size + 1 + 1) (some ⟨b1, o1, none⟩) n cap left ⟨f.name, f.data ++ x, f.sure⟩ w2) := by
        refine row_sit (f := ⟨f.name, f.data ++ x, f.sure⟩) (T := 91) (HD2.out.cell 0) (HD2.out.cell 1) ?_
        rw [hw2]
        exact HG3.out.set 1 _
      clear hw2 g1 g2
      have HCE : Hid (∀ W, Below w2.heap.size w2 W → SitC w.heap.size (w.heap.size + 1 + 1) (some ⟨b1, o1, none⟩) n cap left ⟨f.name, f.data ++ x, f.sure⟩ W) := fun W hW => SitC.below (W := w2) HSC.out hW (by omega) (by omega)
      have HW : Hid (∀ W, Below w2.heap.size w2 W → Calls Tryz.prog 47 #[dval (some ⟨b1, o1, none⟩) n cap left, .agg #[.string f.name, .string (f.data ++ x), .int .i64 ((f.sure : Nat) : Int)]] W fun e w' => ∃ A1 m1 cp1, e = .returned (.slice A1 m1 cp1) ∧ ((withF l f2).length = m1 ∧ OwnsF w' w2.heap.size (.slice A1 m1 cp1) (withF l f2)) ∧ Below w2.heap.size w2 w') := fun W hW => by
        have h := with_any (some ⟨b1, o1, none⟩) cap w.heap.size n l left f2 W HN.out hnm (HX2.out.below hW (by omega)) (by have := hW.size; omega)
        rw [hf2] at h ⊢
        exact h.mono fun e w' ⟨A1, m1, cp1, h1, h2, h3, h4⟩ => ⟨A1, m1, cp1, h1, ⟨h2, h3.less hW.size⟩, hW.trans (h4.mono hW.size)⟩
      clear hf2
      have HP : Hid (∀ W A1 m1 cp1, Below w2.heap.size w2 W → ((withF l f2).length = m1 ∧ OwnsF W w2.heap.size (.slice A1 m1 cp1) (withF l f2)) → Calls Tryz.prog 46 #[dval (some ⟨b1, o1, none⟩) n cap left, .slice A1 m1 cp1] W fun e w' => RefAt w.heap.size w2.heap.size (some ⟨b1, o1, none⟩) (passV ⟨l, left⟩ (withF l f2)) e w' ∧ Below w2.heap.size w2 w') := fun W A1 m1 cp1 hW ho =>
        (pass_ans _ _ w.heap.size w2.heap.size n cap m1 cp1 l (withF l f2) left W hl hh HN.out ho.1 (by have := hW.size; omega) (HX2.out.below hW (by omega)) ho.2).mono fun e w' ⟨h1, h2⟩ => ⟨h1, hW.trans (h2.mono hW.size)⟩
      have HZE : Hid (∀ W, Below w2.heap.size w2 W → W.cell? ⟨w.heap.size + 1, 0, none⟩ = some (.slice none 0 0) ∧ W.cell? ⟨w.heap.size + 1, 1, none⟩ = some (.int .i64 0) ∧ W.frozen? ⟨w.heap.size + 1, 0, none⟩ = false ∧ W.frozen? ⟨w.heap.size + 1, 1, none⟩ = false) := fun W hW => by
        have h := HZ2.out.below hW (by omega)
        exact ⟨h.cell 0, h.cell 1, h.frozen 0, h.frozen 1⟩
      have H0 := Lib.hid (Below.refl w2.heap.size w2).drew
      have hS0 := HCE.out _ H0.out
      have hn1 : w.heap.size + 1 ≠ w.heap.size := by omega
      have hn2 : w.heap.size + 1 ≠ (w.heap.size + 1 + 1) := by omega
      go_region_held3 (fun w' : World => w'.cell? ⟨w.heap.size, 0, none⟩ = some (.slice (some ⟨b1, o1, none⟩) n cap) ∧ w'.cell? ⟨w.heap.size, 1, none⟩ = some (.int .i64 left) ∧ w'.cell? ⟨(w.heap.size + 1 + 1), 0, none⟩ = some (.string f.name) ∧ w'.cell? ⟨(w.heap.size + 1 + 1), 1, none⟩ = some (.string (f.data ++ x)) ∧ w'.cell? ⟨(w.heap.size + 1 + 1), 2, none⟩ = some (.int .i64 ((f.sure : Nat) : Int)))
        (first | exact hS0 | assumption | exact SitC.laid (by assumption) hn1 hn2 _ _)
        ((first
          | (go_at_call 47; (refine Calls.mono (HW.out _ H0.out) ?_); rintro e wa ⟨A1, m1, cp1, rfl, hoa, hba⟩; have hSa := HCE.out _ hba)
          | (go_at_call 46; (refine Calls.mono (HP.out _ _ _ _ hba hoa) ?_); rintro e wp ⟨⟨A3, m3, cp3, rfl, hr3⟩, hbp⟩; have hSp := HCE.out _ hbp; obtain ⟨hz0, hz1, hz2, hz3⟩ := HZE.out _ hbp)))
      have HRA := Lib.hid (RefAt.laid ⟨A3, m3, cp3, rfl, hr3⟩ (Nat.le_succ _) (by omega : w.heap.size + 1 < w2.heap.size) (.slice A3 m3 cp3) (.int .i64 (passV ⟨l, left⟩ (withF l f2)).1.left))
      have HRW : Hid (Row ((wp.setCell ⟨w.heap.size + 1, 0, none⟩ (.slice A3 m3 cp3)).setCell ⟨w.heap.size + 1, 1, none⟩ (.int .i64 (passV ⟨l, left⟩ (withF l f2)).1.left)) (w.heap.size + 1) 30 (ldisk A3 m3 cp3 (passV ⟨l, left⟩ (withF l f2)).1.left)) := ((HZ2.out.below hbp (by omega)).set 0 _).set 1 _
      have HBE : Hid (Below w.heap.size w ((wp.setCell ⟨w.heap.size + 1, 0, none⟩ (.slice A3 m3 cp3)).setCell ⟨w.heap.size + 1, 1, none⟩ (.int .i64 (passV ⟨l, left⟩ (withF l f2)).1.left))) := ((HB2.out.trans (hbp.mono (by omega))).setCell (by simp) _).setCell (by simp) _
      clear hr3 hba hbp hoa hSa hSp hz0 hz1 hz2 hz3 hS0
      go_wp2
      refine bodyPost_ret (results_row_tmp rfl _ _ (w.heap.size + 1) 30 (ldisk A3 m3 cp3 (passV ⟨l, left⟩ (withF l f2)).1.left) _ rfl HRW.out Tryz.underlying30 rfl (disk_info _ _ _ _)) rfl ?_
      rw [HR.out]
      exact ⟨HRA.out, HBE.out⟩
end Dk
end Go.Proofs.YtogpigfepebibaaGreatDoor
