/-
  Layer 7 (disk): the program's Remove, Rename.
-/
import Derived.Test.YteikfdijcepimaaEC
namespace Go.Proofs.Yteikfdijcepimaa
namespace Dk
open Go.RowKit Go.ChangeShapes Kr Go.Maps

theorem blk_moved {b m N : Nat} {pl : ByteArray → Value} {l : List FF} {p : ByteArray} {f : FF} {v : Value} (hv : ∀ g, v.ownBlock = some g → Blk b m pl l g) : ∀ q, Blk b m (upd pl f.name v) (withF (dropF l p) f) q → Blk b m pl l q ∨ N ≤ q := by
  rintro q (rfl | rfl | ⟨x, hx, hq⟩)
  · exact .inl (.inl rfl)
  · exact .inl (.inr (.inl rfl))
  · rcases (withF_mem _ f x).1 hx with rfl | ⟨h1, h2⟩
    · rw [upd_same] at hq; exact .inl (hv q hq)
    · rw [upd_other h2] at hq; exact .inl (.inr (.inr ⟨x, ((dropF_mem _ _ _).1 h1).1, hq⟩))

set_option maxRecDepth 100000 in
set_option maxHeartbeats 4000000 in
theorem prog_remove (w : World) (S : Nat → Prop) (b : Nat) (D : DD) (p : ByteArray) (h : Rd w S b D) (hfit : Fits D) (hp : NB p) :
    Calls Try.prog 19 #[ptr b, .string p] w (Wrote Rd S b (removeV D p).1 w (.int .i64 ((removeV D p).2 : Int))) := by
  obtain ⟨l, L⟩ := D
  obtain ⟨m, pl, z, h1, h2, h3⟩ := h
  have H1 := Lib.hid h1
  have HCH := Lib.hid (prog_change w b m pl z l p h3 (high_of h2 hfit.high) hp)
  obtain ⟨c, hc⟩ : ∃ c, chg l p z = c := ⟨_, rfl⟩
  by_cases h0 : c = 0
  · rw [h0] at hc
    obtain ⟨hz1, hpn, hz, f, ha⟩ := chg_ok hc
    have HR : Hid (removeV ⟨l, L⟩ p = (⟨dropF l p, if spent z < 0 then -1 else spent z⟩, 0)) := by
      show _ = _; unfold removeV; rw [if_neg hpn, ha]; exact pass_yes h2 hz
    rw [hc, hz1] at HCH
    have HRI : Hid (Rise l) := hfit.rise
    have HP := Lib.hid hp
    clear h0 hz1 hpn hz ha h1 h2 h3 hfit hp hc
    go_enter Try.func19, Try.ntmps19
    go_wp2_with fail
    refine HCH.out.mono ?_
    rintro e w1 ⟨rfl, hk1, ha1⟩
    obtain ⟨c0, _⟩ := cell_of hk1.cell
    have HK1 := Lib.hid hk1
    have HA1 := Lib.hid (ha1 S ((H1.out b).2 (.inl rfl)))
    clear hk1 ha1
    go_wp2_with (refine wpList_del_s _ rfl _ _ rfl m l pl p rfl HK1.out.map rfl HRI.out HP.out ?_)
    intro w3 HM3 HG
    have HK3 : Hid (Kept w3 b m pl (spent z) (dropF l p) none) := HK1.out.drop HM3.out HG.out
    have HA3 : Hid (Away S w w3) := HA1.out.trans (Away.grown HG.out (fun g e => by injection e with e; subst e; exact (H1.out _).2 (.inr (.inl rfl))))
    clear HG HM3
    go_wp2
    go_ret
    rw [HR.out]
    exact wrote_of H1.out rfl HK3.out rfl blk_drop HA3.out
  · have HR := Lib.hid (remove_not h2 (hc ▸ h0))
    rw [hc] at HR
    rw [hc, (chg_not (hc ▸ h0)).1] at HCH
    have hci : ¬ (c : Int) = 0 := by omega
    have H2 := Lib.hid h2
    clear h1 h2 h3 hfit hp hc h0
    go_enter Try.func19, Try.ntmps19
    go_wp2_with fail
    refine HCH.out.mono ?_
    rintro e w1 ⟨rfl, hk1, ha1⟩
    have HK1 := Lib.hid hk1
    have HA1 := Lib.hid (ha1 S ((H1.out b).2 (.inl rfl)))
    clear hk1 ha1
    go_wp2
    go_ret
    rw [HR.out]
    exact wrote_of H1.out rfl HK1.out H2.out (fun q hq => .inl hq) HA1.out

set_option maxRecDepth 100000 in
set_option maxHeartbeats 4000000 in
theorem prog_rename (w : World) (S : Nat → Prop) (b : Nat) (D : DD) (p q : ByteArray) (h : Rd w S b D) (hfit : Fits D) (hp : NB p) (hq : NB q) :
    Calls Try.prog 26 #[ptr b, .string p, .string q] w (Wrote Rd S b (renameV D p q).1 w (.int .i64 ((renameV D p q).2 : Int))) := by
  obtain ⟨l, L⟩ := D
  obtain ⟨m, pl, z, h1, h2, h3⟩ := h
  have H1 := Lib.hid h1
  by_cases hqn : q = nul
  · have he : q.toList.isEmpty = true := by rw [emptyB]; exact decide_eq_true hqn
    have HR : Hid (renameV ⟨l, L⟩ p q = (⟨l, L⟩, 1)) := by show _ = _; unfold renameV; rw [if_pos (.inr hqn)]
    have HK := Lib.hid h3
    have H2 := Lib.hid h2
    clear h1 h2 h3 hfit hp hq hqn
    go_enter Try.func26, Try.ntmps26
    go_wp2
    go_ret
    rw [HR.out]
    exact wrote_of H1.out rfl HK.out H2.out (fun q hq => .inl hq) (Away.refl S w)
  · have he : q.toList.isEmpty = false := by rw [emptyB]; exact decide_eq_false hqn
    have HCH := Lib.hid (prog_change w b m pl z l p h3 (high_of h2 hfit.high) hp)
    obtain ⟨c, hc⟩ : ∃ c, chg l p z = c := ⟨_, rfl⟩
    by_cases h0 : c = 0
    · rw [h0] at hc
      obtain ⟨hz1, hpn, hz, f, ha⟩ := chg_ok hc
      obtain ⟨A, cap, hpl, hf, hby⟩ := h3.found ha
      obtain rfl : f.name = p := at_name ha
      obtain ⟨n, hn⟩ : ∃ n, f.data.size = n := ⟨_, rfl⟩
      have HR : Hid (renameV ⟨l, L⟩ f.name q = (⟨withF (dropF l f.name) ⟨q, f.data, f.sure⟩, if spent z < 0 then -1 else spent z⟩, 0)) := by
        show _ = _; unfold renameV; rw [if_neg (fun e => e.elim hpn hqn), ha]; exact pass_yes h2 hz
      rw [hc, hz1] at HCH
      rw [hn] at hf hpl
      have HPL := Lib.hid hpl
      have HF := Lib.hid hf
      have HRI : Hid (Rise l) := hfit.rise
      have HLN : Hid ((dropF l f.name).length ≤ 100000) := Nat.le_trans (dropF_len _ _) (Nat.le_trans hfit.len (by decide))
      have HP := Lib.hid hp
      have HQ := Lib.hid hq
      have HM := Lib.hid (at_mem ha)
      have HAF := Lib.hid ha
      clear h0 hz1 hpn hz ha hf hpl hby hn h1 h2 h3 hfit hp hc hq hqn
      go_enter Try.func26, Try.ntmps26
      go_wp2_with fail
      refine HCH.out.mono ?_
      rintro e w1 ⟨rfl, hk1, ha1⟩
      obtain ⟨c0, _⟩ := cell_of hk1.cell
      have hbl := (Array.getElem?_eq_some_iff.1 hk1.cell).1
      have c2 := (World.cell?_alloc_lt w1 (.cells #[.slice A n cap, .int .i64 (f.sure : Int)] 65) ⟨b, 0, none⟩ hbl).trans c0
      have hlk := (hk1.map.look f.name HP.out).2
      rw [HF.out] at hlk
      have HK1 := Lib.hid hk1
      have HA1 := Lib.hid (ha1 S ((H1.out b).2 (.inl rfl)))
      have HB1 : Hid (Below w1.heap.size w1 (w1.alloc (.cells #[.slice A n cap, .int .i64 (f.sure : Int)] 65))) := (Below.refl _ _).alloc (Nat.le_refl _) _
      have HKA := Lib.hid (HK1.out.below HB1.out)
      have HCA : Hid (Row (w1.alloc (.cells #[.slice A n cap, .int .i64 (f.sure : Int)] 65)) w1.heap.size 65 [.slice A n cap, .int .i64 (f.sure : Int)]) := Row.new_at w1 _ _ _ rfl rfl
      have HBY : Hid (Bytes (w1.alloc (.cells #[.slice A n cap, .int .i64 (f.sure : Int)] 65)) (.slice A n cap) f.data) := by
        have h := HKA.out.rows f HM.out (by simp); rw [HPL.out] at h; exact h
      clear hk1 ha1
      go_wp2_with (refine wpList_del_s _ rfl _ _ rfl m l pl f.name rfl HKA.out.map rfl HRI.out HP.out ?_)
      intro w3 HM3 HG
      have HKD : Hid (Kept w3 b m pl (spent z) (dropF l f.name) none) := HKA.out.drop HM3.out HG.out
      have HBD : Hid (Bytes w3 (.slice A n cap) f.data) := HBY.out.same fun g hg => HG.out.block g (HBY.out.lt hg) (fun e => (HKA.out.off HBY.out hg).2 (by injection e))
      have HCD : Hid (Row w3 w1.heap.size 65 [.slice A n cap, .int .i64 (f.sure : Int)]) := HCA.out.grown HG.out (fun e => by injection e with e; have h := HK1.out.map.lt; rw [← e] at h; exact Nat.lt_irrefl _ h)
      have HA3 : Hid (Away S w w3) := (HA1.out.trans (Away.of HB1.out)).trans (Away.grown HG.out (fun g e => by injection e with e; subst e; exact (H1.out _).2 (.inr (.inl rfl))))
      clear HG HM3 HCA HBY HKA hlk c0 c2 hbl
      go_wp2_with fail
      obtain ⟨w2, hw2⟩ : ∃ w2 : World, w2 = { w3 with drawn := w3.drawn + 1 } := ⟨_, rfl⟩
      have HB2 : Hid (Below w3.heap.size w3 w2) := by rw [hw2]; exact (Below.refl _ _).drew
      have HC2 : Hid (Row w2 w1.heap.size 65 [.slice A n cap, .int .i64 (f.sure : Int)]) := HCD.out.below HB2.out HCD.out.lt
      have HK2 := Lib.hid (HKD.out.below HB2.out)
      have HBD2 : Hid (Bytes w2 (.slice A n cap) f.data) := HBD.out.same fun g hg => HB2.out.block g (HBD.out.lt hg)
      obtain ⟨d0, _⟩ := cell_of HK2.out.cell
      obtain ⟨e0, e1⟩ := cell_of HC2.out
      refine wp_region_still_tail 6 (by kernel_rfl) (by kernel_rfl) ?_
      rw [← hw2]
      clear hw2
      simp only [List.take_succ_cons, List.take_zero, List.drop_succ_cons, List.drop_zero]
      repeat still_step
      refine wpStill_nil ?_
      refine wpList_put_s _ rfl _ _ _ rfl m (dropF l f.name) pl ⟨q, f.data, f.sure⟩ (.slice A n cap) rfl HK2.out.map rfl rfl (dropF_rise HRI.out _) HQ.out HLN.out ?_
      intro w4 HM4 HG4
      have HK4 : Hid (Kept w4 b m (upd pl q (.slice A n cap)) (spent z) (withF (dropF l f.name) ⟨q, f.data, f.sure⟩) none) :=
        HK2.out.put (f := ⟨q, f.data, f.sure⟩) (.inl rfl) HBD2.out (fun g hg _ => by
          rw [← HPL.out]
          exact HK1.out.apart g ((dropF_mem _ _ _).1 hg).1 f HM.out ((dropF_mem _ _ _).1 hg).2) HQ.out HM4.out HG4.out
      have HA4 : Hid (Away S w w4) := (HA3.out.trans (Away.of HB2.out)).trans (Away.grown HG4.out (fun g e => by injection e with e; subst e; exact (H1.out _).2 (.inr (.inl rfl))))
      clear HG4 HM4
      go_wp2
      go_ret
      rw [HR.out]
      exact wrote_of H1.out rfl HK4.out rfl (blk_moved (f := ⟨q, f.data, f.sure⟩) fun g hg => .inr (.inr ⟨f, HM.out, by rw [HPL.out]; exact hg⟩)) HA4.out
    · have HR := Lib.hid (rename_not h2 hqn (hc ▸ h0))
      rw [hc] at HR
      rw [hc, (chg_not (hc ▸ h0)).1] at HCH
      have hci : ¬ (c : Int) = 0 := by omega
      have H2 := Lib.hid h2
      clear h1 h2 h3 hfit hp hq hc h0 hqn
      go_enter Try.func26, Try.ntmps26
      go_wp2_with fail
      refine HCH.out.mono ?_
      rintro e w1 ⟨rfl, hk1, ha1⟩
      have HK1 := Lib.hid hk1
      have HA1 := Lib.hid (ha1 S ((H1.out b).2 (.inl rfl)))
      clear hk1 ha1
      go_wp2
      go_ret
      rw [HR.out]
      exact wrote_of H1.out rfl HK1.out H2.out (fun q hq => .inl hq) HA1.out
end Dk
end Go.Proofs.Yteikfdijcepimaa
