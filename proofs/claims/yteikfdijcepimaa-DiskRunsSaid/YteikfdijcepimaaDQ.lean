/-
  Layer 7 (disk): the walk of the laws' Same.
-/
import Derived.Test.YteikfdijcepimaaDP
import Derived.Deep.RegionHeld3
namespace Go.Proofs.Yteikfdijcepimaa
namespace Dk
open Go.RowKit Go.ChangeShapes Kr

/-- All files read as they are. -/
theorem read_at {D : DD} {n : Nat} (hf : Fit n D) {k : Nat} {f : FF} (h : D.files[k]? = some f) : readV D f.name = (f.data, 0) := by
  unfold readV
  rw [(at_some hf.rise).2 ⟨List.mem_of_getElem? h, rfl⟩]

set_option maxRecDepth 100000 in
set_option maxHeartbeats 4000000 in
theorem lawsame_any {R : World → (Nat → Prop) → Nat → DD → Prop} (hK : Keeps R) (S : Nat → Prop) (b : Nat) (D : DD) (A : Option Addr) (cap n : Nat) (w : World) (hR : R w S b D) (hf : Fits D) (hn : D.files.length = n) (hx : FRow w w.heap.size A D.files) :
    Calls Try.prog 14 #[ptr b, dval A n cap D.left] w fun e w' => e = .returned (.int .i64 1) ∧ Below w.heap.size w w' := by
  obtain ⟨l, hl⟩ : ∃ l, D.files = l := ⟨_, rfl⟩
  have HX : Hid (FRow w w.heap.size A l) := by show FRow _ _ _ _; rw [← hl]; exact hx
  have HN : Hid (l.length = n) := by show _ = _; rw [← hl]; exact hn
  have hnb : n ≤ 10000 := by have := hf.len; omega
  obtain ⟨left, hleft⟩ : ∃ left, D.left = left := ⟨_, rfl⟩
  have HF := Lib.hid hf
  have HDL := Lib.hid hl
  obtain ⟨w0, hw0⟩ : ∃ w0, w0 = w.alloc (.cells #[.slice A n cap, .int .i64 left] 29) := ⟨_, rfl⟩
  have HB0 : Hid (Below w.heap.size w w0) := by rw [hw0]; exact (Below.refl _ _).alloc (Nat.le_refl _) _
  have hs0 : w0.heap.size = w.heap.size + 1 := by rw [hw0]; simp
  have HRW : Hid (∀ W, Below w0.heap.size w0 W → R W S b D) := fun W hW => hK.later hR (HB0.out.trans (hW.mono (by omega)))
  have HCE : Hid (∀ W, Below w0.heap.size w0 W → W.cell? ⟨w.heap.size, 0, none⟩ = some (.slice A n cap) ∧ W.cell? ⟨w.heap.size, 1, none⟩ = some (.int .i64 left)) := fun W hW =>
    ⟨(hW.cell (p := ⟨w.heap.size, 0, none⟩) (by show w.heap.size < _; omega)).trans (by rw [hw0]; simp), (hW.cell (p := ⟨w.heap.size, 1, none⟩) (by show w.heap.size < _; omega)).trans (by rw [hw0]; simp)⟩
  have HXE : Hid (∀ W, Below w0.heap.size w0 W → FRow W w.heap.size A l) := fun W hW => (HX.out.below (B' := w.heap.size) HB0.out (Nat.le_refl _)).below hW (by omega)
  have HNM : Hid (∀ W, Below w0.heap.size w0 W → Calls Try.prog 22 #[ptr b] W fun e w' => ∃ A1 cp1, e = .returned (.slice A1 n cp1) ∧ NRow w' w'.heap.size A1 (l.map (·.name)) ∧ Below w0.heap.size w0 w' ∧ Below W.heap.size W w') := fun W hW =>
    (hK.names W S b D (HRW.out W hW) HF.out).mono fun e w' ⟨A1, m, cp1, h1, h2, h3, h4⟩ => ⟨A1, cp1, by rw [h1, ← h2, HDL.out, HN.out], by rw [← HDL.out]; exact h3, hW.trans (h4.mono hW.size), h4⟩
  have HRN : Hid (∀ W, Below w0.heap.size w0 W → Calls Try.prog 32 #[dval A n cap left] W fun e w' => ∃ A1 cp1, e = .returned (.slice A1 n cp1) ∧ NRow w' w'.heap.size A1 (l.map (·.name)) ∧ Below w0.heap.size w0 w' ∧ Below W.heap.size W w') := fun W hW =>
    (refnames_any A cap w.heap.size n l left W HN.out (by omega) (HXE.out W hW) (by have := hW.size; omega)).mono fun e w' ⟨A1, cp1, h1, h2, h3⟩ => ⟨A1, cp1, h1, h2, hW.trans (h3.mono hW.size), h3⟩
  have hln : (l.map (·.name)).length = n := by rw [List.length_map]; exact HN.out
  have HSA : Hid (∀ W A1 A2 c1 c2, Below w0.heap.size w0 W → NRow W W.heap.size A1 (l.map (·.name)) → NRow W W.heap.size A2 (l.map (·.name)) → Calls Try.prog 21 #[.slice A1 n c1, .slice A2 n c2] W fun e w' => e = .returned (.bool true) ∧ Below w0.heap.size w0 w') := fun W A1 A2 c1 c2 hW h1 h2 =>
    (same_any A1 A2 c1 c2 W.heap.size n n (l.map (·.name)) (l.map (·.name)) W hln hln (by omega) (by omega) h1 h2).mono fun e w' ⟨h3, q, h4⟩ => ⟨by rw [h3, decide_eq_true rfl], by rw [h4]; exact ⟨hW.os, hW.tape, hW.output, hW.size, hW.block⟩⟩
  rw [hleft]
  clear hx hn hl hleft hR hf
  have H0 := Lib.hid (Below.refl w0.heap.size w0).drew
  have hS0 := HCE.out _ H0.out
  go_enter Try.func14, Try.ntmps14
  go_wp2_with fail
  rw [← hw0]
  clear hw0
  go_region_held3 (fun w' : World => w'.cell? ⟨w.heap.size, 0, none⟩ = some (.slice A n cap) ∧ w'.cell? ⟨w.heap.size, 1, none⟩ = some (.int .i64 left))
    (first | exact hS0 | assumption)
    ((first
      | (go_at_call 22; (refine Calls.mono (HNM.out _ H0.out) ?_); rintro e wa ⟨A1, cp1, rfl, hna, hba, hbba⟩; have hSa := HCE.out _ hba)
      | (go_at_call 32; (refine Calls.mono (HRN.out _ hba) ?_); rintro e wc ⟨A2, cp2, rfl, hnc, hbc, hbbc⟩; have hSc := HCE.out _ hbc)
      | (go_at_call 21; (refine Calls.mono (HSA.out _ _ _ _ _ hbc (hna.later hbbc) hnc) ?_); rintro e wp ⟨rfl, hbp⟩; have hSp := HCE.out _ hbp)))
  have HBP := Lib.hid hbp
  clear hbp hba hbc hbba hbbc hna hnc hSa hSc hS0
  have d0 := hSp.1
  clear hSp
  go_wp2_with fail
  go_loopw [22] (fun i wr => ∃ k : Nat, k ≤ n ∧ i = .int .i64 k ∧ Hid (Below w0.heap.size w0 wr)) (fun i _ => n - (intOf i).toNat)
  case atStart => exact ⟨0, Nat.zero_le _, rfl, HBP.out⟩
  case round =>
    obtain ⟨k, hk, rfl, HB⟩ := hrel
    clear HBP d0
    have hwr := HB.out.size
    by_cases hlt : k < n
    · have hki : (k : Int) < n := by omega
      have hxk : l[k]? = some (l[k]'(by rw [HN.out]; exact hlt)) := List.getElem?_eq_getElem _
      generalize l[k]'(by rw [HN.out]; exact hlt) = x at hxk
      obtain ⟨b1, o1, rfl, hb1, hcs⟩ := (HXE.out wr HB.out) k x hxk
      have c0 := hcs 0 _ (f_name x)
      rw [Nat.add_zero] at c0
      have c1 := hcs 1 _ (f_data x)
      have c2 := hcs 2 _ (f_sure x)
      have hrd : readV D x.name = (x.data, 0) := read_at HF.out (by rw [HDL.out]; exact hxk)
      have HB2 : Hid (Below w0.heap.size w0 (wr.alloc (.cells (encF x).toArray 69))) := HB.out.alloc (by omega) _
      have HRD : Hid (Calls Try.prog 16 #[ptr b, .string x.name] (wr.alloc (.cells (encF x).toArray 69)) fun e w' => e = .returned (.tuple #[.string x.data, .int .i64 0]) ∧ Below (wr.heap.size + 1) (wr.alloc (.cells (encF x).toArray 69)) w') := by
        have h := hK.read _ S b D x.name (HRW.out _ HB2.out) HF.out (hK.bound (HRW.out _ HB2.out) x (by rw [HDL.out]; exact List.mem_of_getElem? hxk))
        rw [hrd, World.size_alloc] at h
        exact h
      have HC1 := Lib.hid (new_cell wr (encF x) 69 rfl (f_data x))
      have hee : (x.data.toList == x.data.toList) = true := beq_self_eq_true _
      clear hcs hxk hrd
      go_wp2_with fail
      refine HRD.out.mono ?_
      rintro e w4 ⟨rfl, hb4⟩
      have d1 := (hb4.cell (p := ⟨wr.heap.size, 1, none⟩) (by show wr.heap.size < _; omega)).trans HC1.out
      have HB4 := Lib.hid (HB2.out.trans (hb4.mono (by omega)))
      clear hb4
      go_wp2_with fail
      go_roundw
      case rel => exact ⟨k + 1, by omega, by go_num, HB4.out⟩
      case measure => simp [intOf]; omega
    · obtain rfl : k = n := by omega
      go_wp2_with fail
      go_ret
      exact ⟨rfl, HB0.out.trans (HB.out.mono (by omega))⟩
end Dk
end Go.Proofs.Yteikfdijcepimaa
