/-
  Layer 4 (globs): the walks of Match and Fixed.
-/
import Derived.Test.YtffmnobcdhgfdaaDoorGJ
import Derived.Test.YtffmnobcdhgfdaaDoorGG
import Derived.Test.YtffmnobcdhgfdaaDoorShelfB
namespace Go.Proofs.YtffmnobcdhgfdaaDoor
namespace Gl
open Go.RowKit Pt

theorem split_any (s : ByteArray) (w : World) (hs : s.size ≤ 100000) (hm : Mx w) :
    Calls Tryd.prog 31 #[.string s, .string ⟨#[47]⟩] w fun e w' => e = .returned (.slice (some ⟨w.heap.size, 0, none⟩) (parts s.data.toList).length (parts s.data.toList).length) ∧ SRow w' w'.heap.size (some ⟨w.heap.size, 0, none⟩) (parts s.data.toList) ∧ Below w.heap.size w w' := by
  obtain ⟨m, hm⟩ := hm
  obtain ⟨h1, h2⟩ := split_parts s.size s (Nat.le_refl _)
  refine (Tryd.strings_Split s ⟨#[47]⟩ m w (by omega) hm (by show 1 ≤ 1; exact Nat.le_refl _)).mono ?_
  rintro e w' ⟨rfl, rfl⟩
  refine ⟨by rw [h2], ?_, (Below.refl _ _).alloc (Nat.le_refl _) _⟩
  intro j x hx
  rw [← h1, List.getElem?_map] at hx
  obtain ⟨t, ht, rfl⟩ := Option.map_eq_some_iff.1 hx
  refine ⟨w.heap.size, 0, t, rfl, by simp, rfl, ?_⟩
  rw [Nat.zero_add, (cell_made w _ _ j).1, List.getElem?_toArray, List.getElem?_map, ht]; rfl

set_option maxHeartbeats 2000000 in
set_option maxRecDepth 100000 in
theorem gmatch_any (p s : ByteArray) (b : Bool) (hb : mtch p.data.toList s.data.toList = b) (w : World) (hp : p.size ≤ 100000) (hs : s.size ≤ 100000) (hmx : Mx w) :
    Calls Tryd.prog 11 #[.string p, .string s] w fun e w' => e = .returned (.bool b) ∧ Below w.heap.size w w' := by
  cases hpm : pmay p.data.toList
  · have hb' : b = false := by rw [← hb]; unfold mtch; rw [hpm]; rfl
    subst hb'
    have HM := Lib.hid (gmay_any p false hpm w hp hmx)
    clear hb hpm
    go_enter Tryd.func11, Tryd.ntmps11
    go_wp2_with fail
    refine HM.out.mono ?_
    rintro e w1 ⟨rfl, hb1⟩
    have HB1 := Lib.hid hb1
    clear hb1
    go_wp2
    go_ret
    exact ⟨rfl, HB1.out⟩
  · have HM := Lib.hid (gmay_any p true hpm w hp hmx)
    cases hsm : may s.data.toList
    · have hb' : b = false := by rw [← hb]; unfold mtch; rw [hsm, Bool.and_false]; rfl
      subst hb'
      have HS := Lib.hid (fun W => may_any s false hsm W hs)
      clear hb hpm hsm
      go_enter Tryd.func11, Tryd.ntmps11
      go_wp2_with fail
      refine HM.out.mono ?_
      rintro e w1 ⟨rfl, hb1⟩
      have HB1 := Lib.hid hb1
      clear hb1
      go_wp2_with fail
      refine (HS.out _).mono ?_
      rintro e w2 ⟨rfl, hb2⟩
      have HB2 := Lib.hid (HB1.out.trans (hb2.mono HB1.out.size))
      clear hb2
      go_wp2
      go_ret
      exact ⟨rfl, HB2.out⟩
    · have HS := Lib.hid (fun W => may_any s true hsm W hs)
      have hb' : ass (parts p.data.toList) (parts s.data.toList) = b := by rw [← hb]; unfold mtch; rw [hpm, hsm]; rfl
      have HE := Lib.hid hb'
      have HPL := Lib.hid (parts_le p.data.toList)
      have HSL := Lib.hid (parts_le s.data.toList)
      have hn1 := pmay_len hpm
      have hm1 := may_len hsm
      have HP1 := Lib.hid (fun W h => split_any p W hp h)
      have HP2 := Lib.hid (fun W h => split_any s W hs h)
      have HMX := Lib.hid hmx
      clear hb hpm hsm hb' hmx
      obtain ⟨n, hn⟩ : ∃ n, (parts p.data.toList).length = n := ⟨_, rfl⟩
      obtain ⟨m, hm⟩ : ∃ m, (parts s.data.toList).length = m := ⟨_, rfl⟩
      rw [hn] at hn1
      rw [hm] at hm1
      have HN := Lib.hid hn
      have HMM := Lib.hid hm
      clear hn hm
      go_enter Tryd.func11, Tryd.ntmps11
      go_wp2_with fail
      refine HM.out.mono ?_
      rintro e w1 ⟨rfl, hb1⟩
      have HB1 := Lib.hid hb1
      have HX1 := Lib.hid (HMX.out.later hb1)
      clear hb1
      go_wp2_with fail
      refine (HS.out _).mono ?_
      rintro e w2 ⟨rfl, hb2⟩
      have HB2 := Lib.hid (HB1.out.trans (hb2.mono HB1.out.size))
      have HX2 := Lib.hid (HX1.out.later hb2)
      clear hb2
      go_wp2_with fail
      refine (HP2.out _ HX2.out).mono ?_
      rintro e w3 ⟨rfl, hr3, hb3⟩
      have HR3 := Lib.hid hr3
      have HB3 := Lib.hid (HB2.out.trans (hb3.mono HB2.out.size))
      have HX3 := Lib.hid (HX2.out.later hb3)
      clear hr3 hb3
      rw [HMM.out]
      go_wp2_with fail
      refine (HP1.out _ HX3.out).mono ?_
      rintro e w4 ⟨rfl, hr4, hb4⟩
      have HR3' := Lib.hid ((srow_later HR3.out hb4).more hb4.size)
      have HR4 := Lib.hid hr4
      have HB4 := Lib.hid (HB3.out.trans (hb4.mono HB3.out.size))
      clear hr4 hb4
      rw [HN.out]
      have HA := Lib.hid (assignable_any _ _ m n m n (parts s.data.toList) (parts p.data.toList) b HE.out w4 HMM.out HN.out (by omega) (by omega) (fun x hx => by have := HSL.out x hx; rw [data_length] at this; omega) (fun x hx => by have := HPL.out x hx; rw [data_length] at this; omega) HR3'.out HR4.out)
      go_wp2_with fail
      refine HA.out.mono ?_
      rintro e w5 ⟨rfl, hb5⟩
      have HB5 := Lib.hid (HB4.out.trans (hb5.mono HB4.out.size))
      clear hb5
      go_wp2
      go_ret
      exact ⟨rfl, HB5.out⟩

theorem mem_parts (l : Bs) (c : UInt8) (h : c ∈ l) : c = 47 ∨ ∃ q ∈ parts l, c ∈ q := by
  induction l with
  | nil => cases h
  | cons d l ih =>
    obtain ⟨p, ps, hp⟩ := parts_cons l
    unfold parts
    rw [hp] at ih ⊢
    by_cases hd : d = 47
    · rw [if_pos hd]
      rcases List.mem_cons.1 h with rfl | h
      · exact .inl hd
      · rcases ih h with h | ⟨q, hq, hc⟩
        · exact .inl h
        · exact .inr ⟨q, List.mem_cons_of_mem _ hq, hc⟩
    · rw [if_neg hd]
      simp only [List.headD_cons, List.tail_cons]
      rcases List.mem_cons.1 h with rfl | h
      · exact .inr ⟨_, List.mem_cons_self, by simp⟩
      · rcases ih h with h | ⟨q, hq, hc⟩
        · exact .inl h
        · rcases List.mem_cons.1 hq with rfl | hq
          · exact .inr ⟨_, List.mem_cons_self, by simp [hc]⟩
          · exact .inr ⟨q, List.mem_cons_of_mem _ hq, hc⟩
theorem chr_ascii (c : UInt8) (h : (wild c || chr c) = true) : c.toNat < 128 := by
  rw [Bool.or_eq_true] at h
  rcases h with h | h
  · unfold wild at h
    rw [Bool.or_eq_true, beq_iff_eq, beq_iff_eq] at h
    rcases h with h | h <;> subst h <;> decide
  · unfold chr at h
    simp at h
    omega
theorem pmay_ascii {l : Bs} (h : pmay l = true) : ∀ c ∈ l, c.toNat < 128 := by
  intro c hc
  rcases mem_parts l c hc with rfl | ⟨q, hq, hcq⟩
  · decide
  · have hp := pmay_all h q hq
    unfold pat at hp
    rw [Bool.or_eq_true] at hp
    rcases hp with hp | hp
    · rw [beq_iff_eq] at hp
      subst hp
      have : c = 42 := by unfold star at hcq; simp at hcq; exact hcq
      subst this; decide
    · rw [Bool.and_eq_true, Bool.and_eq_true] at hp
      exact chr_ascii c (List.all_eq_true.1 hp.1.2 c hcq)

set_option maxHeartbeats 2000000 in
set_option maxRecDepth 100000 in
theorem gfixed_any (s X : ByteArray) (hX : X.data.toList = fixd s.data.toList) (w : World) (hs : s.size ≤ 100000) (hmx : Mx w) :
    Calls Tryd.prog 13 #[.string s] w fun e w' => e = .returned (.string X) ∧ Below w.heap.size w w' := by
  cases hm : pmay s.data.toList
  · have hX' : X.data.toList = [] := by rw [hX]; unfold fixd; rw [hm, if_neg (by simp)]
    obtain rfl := str_nil hX'
    have HM := Lib.hid (gmay_any s false hm w hs hmx)
    clear hm hX hX'
    go_enter Tryd.func13, Tryd.ntmps13
    go_wp2_with fail
    refine HM.out.mono ?_
    rintro e w1 ⟨rfl, hb1⟩
    have HB1 := Lib.hid hb1
    clear hb1
    go_wp2
    go_ret
    exact ⟨rfl, HB1.out⟩
  · have hX' : X.data.toList = s.data.toList.takeWhile (fun c => !wild c) := by rw [hX]; unfold fixd; rw [hm, if_pos rfl]
    have HM := Lib.hid (gmay_any s true hm w hs hmx)
    have HIX := Lib.hid (fun W => Tryd.strings_IndexAny_laid s ⟨#[42, 63]⟩ W (by omega) (by decide) (fun j b h => pmay_ascii hm b (List.mem_of_getElem? h)) (fun j b h => by
      have : b ∈ ([42, 63] : Bs) := List.mem_of_getElem? h
      simp at this
      rcases this with h | h <;> subst h <;> decide))
    rcases any_wild s.data.toList with ⟨h1, h2⟩ | ⟨i, h1, h2, h3⟩
    · have hXe : s = X := str_eq (by rw [hX', h2])
      have e : (ByteArray.mk #[42, 63]).data.toList = [42, 63] := rfl
      rw [e, h1] at HIX
      have HXE := Lib.hid hXe
      clear hm hX hX' h1 h2 hXe
      go_enter Tryd.func13, Tryd.ntmps13
      go_wp2_with fail
      refine HM.out.mono ?_
      rintro e w1 ⟨rfl, hb1⟩
      have HB1 := Lib.hid hb1
      clear hb1
      go_wp2_with fail
      refine (HIX.out _).mono ?_
      rintro e w2 ⟨rfl, hb2⟩
      have HB2 := Lib.hid (HB1.out.trans (hb2.mono HB1.out.size))
      clear hb2
      go_wp2
      go_ret
      exact ⟨by rw [← HXE.out]; rfl, HB2.out⟩
    · have hXe : s.extract 0 i = X := str_take s X i (by rw [hX', h3])
      have e : (ByteArray.mk #[42, 63]).data.toList = [42, 63] := rfl
      rw [e, h1] at HIX
      rw [data_length] at h2
      have hi : (i : Int) ≤ s.size := by omega
      have HXE := Lib.hid hXe
      clear hm hX hX' h1 h3 hXe
      go_enter Tryd.func13, Tryd.ntmps13
      go_wp2_with fail
      refine HM.out.mono ?_
      rintro e w1 ⟨rfl, hb1⟩
      have HB1 := Lib.hid hb1
      clear hb1
      go_wp2_with fail
      refine (HIX.out _).mono ?_
      rintro e w2 ⟨rfl, hb2⟩
      have HB2 := Lib.hid (HB1.out.trans (hb2.mono HB1.out.size))
      clear hb2
      go_wp2
      go_ret
      exact ⟨by rw [← HXE.out]; rfl, HB2.out⟩
end Gl
end Go.Proofs.YtffmnobcdhgfdaaDoor
