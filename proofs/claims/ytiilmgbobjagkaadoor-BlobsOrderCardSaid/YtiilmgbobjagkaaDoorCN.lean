/-
  Layer 6 (blobs): law Order.
-/
import Derived.Test.YtiilmgbobjagkaaDoorCM
import Derived.Deep.Cut
import Derived.Deep.CutRange
import Derived.Deep.DeepCutAuto
namespace Go.Proofs.YtiilmgbobjagkaaDoor
namespace Bl
open Go.RowKit Kr

/-- Bytes in memory. -/
def URow (w : World) (B : Nat) (A : Option Addr) (us : List UInt8) : Prop := ∀ j c, us[j]? = some c → ∃ b o, A = some ⟨b, o, none⟩ ∧ b < B ∧ w.cell? ⟨b, o + j, none⟩ = some (.int .u8 (c.toNat : Int))
def PureIn (l : List Bs) (i k : Nat) : Prop := ∀ k' x y, k' < k → l[i]? = some x → l[k']? = some y → Sh.dig y = Sh.dig x → y = x
theorem pure_step {l : List Bs} {i : Nat} (h : Pure (l.take i)) (h2 : PureIn l i i) : Pure (l.take (i + 1)) := by
  intro a ha b hb he
  have key : ∀ a ∈ l.take (i + 1), a ∈ l.take i ∨ l[i]? = some a := fun a ha => by
    obtain ⟨j, hj⟩ := List.getElem?_of_mem ha
    rw [List.getElem?_take] at hj
    split at hj
    · rename_i hlt
      by_cases hji : j = i
      · subst hji; exact .inr hj
      · refine .inl (List.mem_of_getElem? (i := j) ?_)
        rw [List.getElem?_take, if_pos (by omega)]; exact hj
    · cases hj
  have low : ∀ a ∈ l.take i, ∃ j, j < i ∧ l[j]? = some a := fun a ha => by
    obtain ⟨j, hj⟩ := List.getElem?_of_mem ha
    rw [List.getElem?_take] at hj
    split at hj
    · exact ⟨j, by assumption, hj⟩
    · cases hj
  rcases key a ha with h3 | h3 <;> rcases key b hb with h4 | h4
  · exact h a h3 b h4 he
  · obtain ⟨j, hj, hja⟩ := low a h3
    exact h2 j b a hj h4 hja he
  · obtain ⟨j, hj, hjb⟩ := low b h4
    exact (h2 j a b hj h3 hjb he.symm).symm
  · rw [h3] at h4; injection h4
theorem Has.more {l l' p : List Bs} {row : List Bb} (h : Has l p row) (hl : ∀ s ∈ l, s ∈ l') : Has l' p row := ⟨h.rise, fun f hf => by obtain ⟨s, hs, e⟩ := h.of f hf; exact ⟨s, hl s hs, e⟩, h.all⟩

set_option maxRecDepth 100000 in
theorem wrap_small (z : Nat) (h : z < 256) : wrap64 (z : Int) = (z : Int) := by
  unfold wrap64
  omega
theorem wrap_q (q : Nat) (h : q < 1000) : IntKind.i64.wrap (q : Int) = (q : Int) := by
  simp [IntKind.wrap, IntKind.bits, IntKind.signed]
  omega
theorem wrap_rem (c : UInt8) (i q : Nat) (hq : c.toNat % i = q) : (wrap64 (c.toNat : Int)).tmod (i : Int) = (q : Int) := by
  rw [wrap_small _ c.toNat_lt, ← hq, Int.tmod_eq_emod_of_nonneg (Int.natCast_nonneg _)]
  simp

set_option maxRecDepth 100000 in
set_option maxHeartbeats 8000000 in
theorem order_law {R : World → (Nat → Prop) → Nat → List Bb → Prop} (hK : Keeps R) (B : Nat) (A A2 : Option Addr) (cap cap2 n n2 : Nat) (xs : List Bs) (us : List UInt8) (w : World) (hn : xs.length = n) (hn2 : us.length = n2)
    (hnm : n ≤ 9223372036854775807) (hnm2 : n2 ≤ 9223372036854775807) (hsz : ∀ x ∈ xs, x.length ≤ 140737488355328) (hx : Sh.SRow w w.heap.size A xs) (hu : URow w w.heap.size A2 us) (hok : Ok B w) :
    Calls Tryd.prog 5 #[.slice A n cap, .slice A2 n2 cap2] w fun e w' => e = .returned (.bool true) ∧ Below w.heap.size w w' := by
  have HX := Lib.hid hx
  have HU := Lib.hid hu
  have HN := Lib.hid hn
  have HN2 := Lib.hid hn2
  have HO := Lib.hid hok
  have HZ := Lib.hid hsz
  have HAL := Lib.hid (fun W (h : Ok B W) => alive_any hK B W h)
  clear hx hu hn hn2 hok hsz
  go_enter Tryd.func5, Tryd.ntmps5
  go_wp2_with fail
  refine (HAL.out _ HO.out).mono ?_
  rintro e w1 ⟨rfl, hb1⟩
  have HB1 := Lib.hid hb1
  have HO1 := Lib.hid (HO.out.below (hb1.mono HO.out.2.2))
  clear hb1
  by_cases h30 : 30 < n
  · have hi : (30 : Int) < n := by omega
    go_wp2
    go_ret
    exact ⟨rfl, HB1.out⟩
  · have hi : ¬ (30 : Int) < n := by omega
    by_cases h100 : 100 < n2
    · have hi2 : (100 : Int) < n2 := by omega
      go_wp2
      go_ret
      exact ⟨rfl, HB1.out⟩
    · have hi2 : ¬ (100 : Int) < n2 := by omega
      go_wp2_with fail
      refine (hK.new _).mono ?_
      rintro e w2 ⟨a, Sa, rfl, hra, hSa, hb2⟩
      have HRA := Lib.hid hra
      have HSA := Lib.hid hSa
      have HB2 := Lib.hid hb2
      clear hra hSa hb2
      go_wp2_with fail
      refine (hK.new _).mono ?_
      rintro e w3 ⟨b, Sb, rfl, hrb, hSb, hb3⟩
      have HT3 : Hid (Two R B w1 w3 Sa a [] Sb b []) := by
        have h1 : St R B w1 w2 Sa a [] := ⟨HO1.out.2.2, HB2.out, HO1.out.below (HB2.out.mono HO1.out.2.2), HSA.out, HRA.out⟩
        have h2 := h1.later hK hb3
        exact ⟨h2, ⟨h2.low, h2.below, h2.ok, fun q hq => Nat.le_trans HB2.out.size (hSb q hq), hrb⟩, fun q hq hn => absurd (hK.inside HRA.out q hq) (Nat.not_lt.2 (hSb q hn))⟩
      clear hrb hSb hb3 HRA HSA HB2
      go_wp2
      go_loopw [7] (fun iv wr => ∃ (i : Nat) (la : List Bb) (S : Nat → Prop), i ≤ n ∧ iv = .int .i64 i ∧ Hid (Pure (xs.take i)) ∧ Hid (∀ s ∈ xs.take i, s.length ≤ 300) ∧ Hid (Has (xs.take i) (xs.take i) la) ∧ Hid (Two R B w1 wr S a la Sb b [])) (fun iv _ => n - (intOf iv).toNat)
      case atStart => exact ⟨0, [], Sa, Nat.zero_le _, rfl, (fun x hx => by simp at hx), (fun x hx => by simp at hx), has_nil _, HT3⟩
      case round =>
        clear HT3
        obtain ⟨i, la, S, hin, rfl, HP, HSS, HH, HT⟩ := hrel
        by_cases hlt : i < n
        · have hii : (i : Int) < n := by omega
          have hxi : xs[i]? = some (xs[i]'(by rw [HN.out]; exact hlt)) := List.getElem?_eq_getElem _
          generalize xs[i]'(by rw [HN.out]; exact hlt) = x at hxi
          have HXI := Lib.hid hxi
          have hxz := HZ.out x (List.mem_of_getElem? hxi)
          obtain ⟨b1, o1, X, rfl, hb1, hX, hcx⟩ := HX.out i x hxi
          have hXs : X.size = x.length := by rw [← hX]; rfl
          have HXX := Lib.hid hX
          have HCX := Lib.hid hcx
          have HBW : Hid (Below w.heap.size w wr) := HB1.out.trans (HT.out.sa.below.mono HB1.out.size)
          have cX : wr.cell? ⟨b1, o1 + i, none⟩ = some (.string X) := (HBW.out.cell (p := ⟨b1, o1 + i, none⟩) hb1).trans hcx
          clear hxi hX hcx
          by_cases h3 : 300 < X.size
          · have h3i : (300 : Int) < X.size := by omega
            go_wp2
            go_ret
            exact ⟨rfl, HBW.out⟩
          · have h3i : ¬ (300 : Int) < X.size := by omega
            obtain ⟨wo, rfl⟩ : ∃ wo, wo = wr := ⟨_, rfl⟩
            go_wp2
            go_loopw [8] (fun kv wr => ∃ k : Nat, k ≤ i ∧ kv = .int .i64 k ∧ Hid (PureIn xs i k) ∧ Hid (Below wo.heap.size wo wr)) (fun kv _ => i - (intOf kv).toNat)
            case atStart => exact ⟨0, Nat.zero_le _, rfl, (fun k' x y hk => absurd hk (Nat.not_lt_zero _)), Below.refl _ _⟩
            case round =>
              obtain ⟨k, hki, rfl, HI, HQ⟩ := hrel
              by_cases hlk : k < i
              · have hkk : (k : Int) < i := by omega
                have hkn : (k : Int) < n := by omega
                have hyk : xs[k]? = some (xs[k]'(by rw [HN.out]; omega)) := List.getElem?_eq_getElem _
                generalize xs[k]'(by rw [HN.out]; omega) = y at hyk
                have HYK := Lib.hid hyk
                obtain ⟨b', o', Y, e, _, hY, hcy0⟩ := HX.out k y hyk
                injection e with e
                injection e with e1 e2
                subst e1 e2
                have HYY := Lib.hid hY
                have HBQ : Hid (Below w.heap.size w wr) := HBW.out.trans (HQ.out.mono HBW.out.size)
                have HCY := Lib.hid hcy0
                have hYs : Y.size ≤ 300 := by
                  have h1 := HSS.out y (List.mem_of_getElem? (i := k) (by rw [List.getElem?_take, if_pos hlk]; exact hyk))
                  have h2 : Y.size = y.length := by rw [← hY]; rfl
                  omega
                clear hyk hY hcy0 cX
                have hcx : ∀ W, Below wr.heap.size wr W → W.cell? ⟨b1, o1 + i, none⟩ = some (.string X) := fun W h => (h.cell (p := ⟨b1, o1 + i, none⟩) (by have := HBQ.out.size; show b1 < _; omega)).trans ((HBQ.out.cell (p := ⟨b1, o1 + i, none⟩) hb1).trans HCX.out)
                have hcy : ∀ W, Below wr.heap.size wr W → W.cell? ⟨b1, o1 + k, none⟩ = some (.string Y) := fun W h => (h.cell (p := ⟨b1, o1 + k, none⟩) (by have := HBQ.out.size; show b1 < _; omega)).trans ((HBQ.out.cell (p := ⟨b1, o1 + k, none⟩) hb1).trans HCY.out)
                by_cases hxy : Y = X
                · have HS : Hid (PureIn xs i (k + 1)) := fun k' a c hk' ha hc he => by
                    by_cases h3 : k' = k
                    · subst h3
                      rw [HXI.out] at ha
                      rw [HYK.out] at hc
                      injection ha with ha
                      injection hc with hc
                      rw [← ha, ← hc, ← HXX.out, ← HYY.out, hxy]
                    · exact HI.out k' a c (by omega) ha hc he
                  have c1 := hcx wr (Below.refl _ _)
                  have c2 := hcy wr (Below.refl _ _)
                  rw [hxy] at c2
                  have hee : (X.toList == X.toList) = true := beq_self_eq_true _
                  clear hcx hcy hxy
                  go_wp2
                  go_big_quiet (fail)
                  go_wp2
                  go_roundw
                  case rel => exact ⟨k + 1, by omega, by go_num, HS.out, Sh.below_drewN HQ.out _⟩
                  case measure => simp [intOf]; omega
                · have hee : (Y.toList == X.toList) = false := by
                    rw [beq_eq_false_iff_ne]
                    intro h
                    rw [ByteArray.toList_eq, ByteArray.toList_eq] at h
                    exact hxy (ByteArray.ext (Array.toList_inj.1 h))
                  obtain ⟨q, hq⟩ : ∃ q, decide (dig Y = dig X) = q := ⟨_, rfl⟩
                  have heq := bvals_inj (dig_len Y) (dig_len X)
                  rw [hq] at heq
                  have HS : Hid (q = false → PureIn xs i (k + 1)) := fun hq0 k' a c hk' ha hc he => by
                    by_cases h3 : k' = k
                    · subst h3
                      rw [HXI.out] at ha
                      rw [HYK.out] at hc
                      injection ha with ha
                      injection hc with hc
                      rw [hq0, decide_eq_false_iff_not] at hq
                      refine absurd ?_ hq
                      show Sh.dig Y.data.toList = Sh.dig X.data.toList
                      rw [HYY.out, HXX.out, ha, hc]
                      exact he
                    · exact HI.out k' a c (by omega) ha hc he
                  have HOB := Lib.hid (fun W (h : Below wr.heap.size wr W) => (HO.out.below (HBQ.out.mono HO.out.2.2)).below (h.mono (Nat.le_trans HO.out.2.2 HBQ.out.size)))
                  have HDD := (Below.refl wr.heap.size wr).drew
                  have fx : X.size ≤ 1000 := by omega
                  have fy : Y.size ≤ 1000 := by omega
                  clear hq hxy
                  obtain ⟨f, hf⟩ : ∃ f, f = dig := ⟨_, rfl⟩
                  rw [← hf] at heq
                  have HSM := Lib.hid (sum_at f hf B)
                  clear hf
                  go_wp2_with fail
                  (go_region_held3 (fun w' : World => Below wr.heap.size wr w')
                    (first | exact HDD | assumption | ((repeat (first | assumption | exact Below.refl _ _ | refine below_dr ?_ | refine below_al ?_ _)); done) | ((refine below_step ?_ (by assumption)); (repeat (first | assumption | exact Below.refl _ _ | refine below_dr ?_ | refine below_al ?_ _)); done))
                    ((first
                      | (go_at_call 17; (refine Calls.mono (HSM.out _ _ (by simp [fitAt, fx, fy]; done) (by simp <;> omega) (HOB.out _ (by repeat (first | assumption | exact Below.refl _ _ | refine below_dr ?_ | refine below_al ?_ _)))) ?_); rintro e wa ⟨D, rfl, hD, hba⟩; (simp [sumAt] at hD); subst hD)
                      | (go_at_call 17; (refine Calls.mono (HSM.out _ _ (by rw [fit_later hba (by simp <;> omega)]; simp [fitAt, fx, fy]; done) (Nat.lt_of_lt_of_le (by simp <;> omega) hba.size) (HOB.out _ (by repeat (first | assumption | exact Below.refl _ _ | refine below_dr ?_ | refine below_al ?_ _)))) ?_); rintro e wb ⟨D, rfl, hD, hbb⟩; (rw [sum_later hba (by simp <;> omega)] at hD); (simp [sumAt] at hD); subst hD))))
                  all_goals
                    cases q
                    · have HNN := Lib.hid (HS.out rfl)
                      go_wp2
                      go_roundw
                      case rel => exact ⟨k + 1, by omega, by go_num, HNN.out, Lib.hid (HQ.out.trans (Below.mono (by assumption) HQ.out.size))⟩
                      case measure => simp [intOf]; omega
                    · go_wp2
                      go_ret
                      exact ⟨rfl, HBQ.out.trans (Below.mono (by assumption) HBQ.out.size)⟩
              · obtain rfl : k = i := by omega
                have HBQ : Hid (Below w.heap.size w wr) := HBW.out.trans (HQ.out.mono HBW.out.size)
                have HPN := Lib.hid (pure_step HP.out HI.out)
                have htk : xs.take (k + 1) = xs.take k ++ [x] := Sh.take_snoc xs k x HXI.out
                have hxm : x ∈ xs.take (k + 1) := by rw [htk]; simp
                have HSN : Hid (∀ s ∈ xs.take (k + 1), s.length ≤ 300) := fun s hs => by
                  rw [htk] at hs
                  rcases List.mem_append.1 hs with hs | hs
                  · exact HSS.out s hs
                  · rw [List.mem_singleton.1 hs]; omega
                have hsub : ∀ s ∈ xs.take k, s ∈ xs.take (k + 1) := fun s hs => by rw [htk]; exact List.mem_append_left _ hs
                have hm := HH.out.more hsub
                have HFI := Lib.hid (hm.fits (by rw [List.length_take]; omega) (fun s hs => by have := HSN.out s hs; omega))
                have HSA := Lib.hid (hm.same HPN.out hxm)
                have HHN : Hid (Has (xs.take (k + 1)) (xs.take (k + 1)) (putV la (blob x))) := by
                  have h5 := hm.put HPN.out hxm
                  rwa [← htk] at h5
                have HTQ := Lib.hid (HT.out.later hK HQ.out)
                have cQ : wr.cell? ⟨b1, o1 + k, none⟩ = some (.string X) := (HBQ.out.cell (p := ⟨b1, o1 + k, none⟩) hb1).trans HCX.out
                have HBL : Hid ((dig X, X.data.toList) = blob x) := by show _ = _; unfold blob; rw [← HXX.out]
                have HPU := Lib.hid (hK.put wr B S a la X HTQ.out.sa.has HTQ.out.sa.ok HTQ.out.sa.base HFI.out (by omega) (by show ∀ y, Bl.get la (Sh.dig X.data.toList) = some y → y = X.data.toList; rw [HXX.out]; exact HSA.out))
                clear htk hxm hsub hm cX
                go_wp2_with fail
                refine HPU.out.mono ?_
                rintro e w5 ⟨S5, rfl, hr5, hq5, ha5⟩
                rw [HBL.out] at hr5
                have HT5 := Lib.hid (HTQ.out.acted hK hr5 hq5 ha5)
                clear hr5 hq5 ha5 HPU
                go_wp2
                go_roundw
                case rel => exact ⟨k + 1, _, S5, by omega, by go_num, HPN.out, HSN.out, HHN.out, HT5.out⟩
                case measure => simp [intOf]; omega
        · obtain rfl : i = n := by omega
          have hta : xs.take i = xs := List.take_of_length_le (by rw [HN.out]; exact Nat.le_refl _)
          rw [hta] at HP HSS HH
          clear hta
          have H1000 : Hid (∀ s ∈ xs, s.length ≤ 1000) := fun s hs => by have := HSS.out s hs; omega
          obtain ⟨wo, rfl⟩ : ∃ wo, wo = wr := ⟨_, rfl⟩
          go_wp2
          go_loopw [9] (fun jv wr => ∃ (j : Nat) (lb : List Bb) (S2 : Nat → Prop), j ≤ n2 ∧ jv = .int .i64 j ∧ Hid (Has xs [] lb) ∧ Hid (Two R B w1 wr S a la S2 b lb)) (fun jv _ => n2 - (intOf jv).toNat)
          case atStart => exact ⟨0, [], Sb, Nat.zero_le _, rfl, has_nil _, HT⟩
          case round =>
            clear HT
            obtain ⟨j, lb, S2, hjn, rfl, HHB, HT⟩ := hrel
            have HBW : Hid (Below w.heap.size w wr) := HB1.out.trans (HT.out.sa.below.mono HB1.out.size)
            by_cases hc : j < n2 ∧ 0 < i
            · obtain ⟨hj2, hi0⟩ := hc
              have hj2i : (j : Int) < n2 := by omega
              have hi0i : (0 : Int) < i := by omega
              have hjc : us[j]? = some (us[j]'(by rw [HN2.out]; exact hj2)) := List.getElem?_eq_getElem _
              generalize us[j]'(by rw [HN2.out]; exact hj2) = c at hjc
              obtain ⟨b4, o4, rfl, hb4, hcc⟩ := HU.out j c hjc
              obtain ⟨q, hq⟩ : ∃ q, c.toNat % i = q := ⟨_, rfl⟩
              have hqi : q < i := by rw [← hq]; exact Nat.mod_lt _ hi0
              have hqe := wrap_rem c i q hq
              have hqii : (q : Int) < i := by omega
              have hxq : xs[q]? = some (xs[q]'(by rw [HN.out]; exact hqi)) := List.getElem?_eq_getElem _
              generalize xs[q]'(by rw [HN.out]; exact hqi) = x at hxq
              obtain ⟨b1, o1, X, rfl, hb1, hX, hcx⟩ := HX.out q x hxq
              have cC : wr.cell? ⟨b4, o4 + j, none⟩ = some (.int .u8 (c.toNat : Int)) := (HBW.out.cell (p := ⟨b4, o4 + j, none⟩) hb4).trans hcc
              have cX : wr.cell? ⟨b1, o1 + q, none⟩ = some (.string X) := (HBW.out.cell (p := ⟨b1, o1 + q, none⟩) hb1).trans hcx
              have HXX := Lib.hid hX
              have HXM := Lib.hid (List.mem_of_getElem? hxq)
              have hXs : X.size ≤ 300 := by
                have h1 := HSS.out x HXM.out
                have h2 : X.size = x.length := by rw [← hX]; rfl
                omega
              have HFI := Lib.hid (HHB.out.fits (by rw [HN.out]; omega) H1000.out)
              have HSA := Lib.hid (HHB.out.same HP.out HXM.out)
              have HHN : Hid (Has xs [] (putV lb (blob x))) := (HHB.out.put HP.out HXM.out).less (fun s hs => by simp at hs)
              have HBL : Hid ((dig X, X.data.toList) = blob x) := by show _ = _; unfold blob; rw [← HXX.out]
              have HPU := Lib.hid (hK.put wr B S2 b lb X HT.out.sb.has HT.out.sb.ok HT.out.sb.base HFI.out (by omega) (by show ∀ y, Bl.get lb (Sh.dig X.data.toList) = some y → y = X.data.toList; rw [HXX.out]; exact HSA.out))
              clear hjc hcc hq hxq hX hcx
              go_wp2_with fail
              refine HPU.out.mono ?_
              rintro e w5 ⟨S5, rfl, hr5, hq5, ha5⟩
              rw [HBL.out] at hr5
              have HT5 := Lib.hid (HT.out.turned.acted hK hr5 hq5 ha5).turned
              clear hr5 hq5 ha5 HPU
              go_wp2
              go_roundw
              case rel => exact ⟨j + 1, _, S5, by omega, by go_num, HHN.out, HT5.out⟩
              case measure => simp [intOf]; omega
            · go_upto_region 18 with (fail)
              go_cut [81] from 73 to 96 (fun v wx => v = .bool false ∧ wr = wx)
              case first =>
                by_cases hj2 : j < n2
                · have hj2i : (j : Int) < n2 := by omega
                  have hi0i : ¬ 0 < i := by omega
                  have hi0j : ¬ (0 : Int) < i := by omega
                  clear hc
                  go_wp2_with fail
                  go_meet
                  exact ⟨rfl, rfl⟩
                · have hj2i : ¬ (j : Int) < n2 := by omega
                  clear hc
                  go_wp2_with fail
                  go_meet
                  exact ⟨rfl, rfl⟩
              case rest =>
                obtain ⟨rfl, rfl⟩ := hcut
                clear hc
                go_wp2
                go_loopw [10] (fun kv wr => ∃ (k : Nat) (z : Int) (lb : List Bb) (S2 : Nat → Prop), k ≤ i ∧ kv = .int .i64 z ∧ Hid (z = (k : Int) - 1) ∧ Hid (Has xs (xs.drop k) lb) ∧ Hid (Two R B w1 wr S a la S2 b lb)) (fun kv _ => ((intOf kv) + 1).toNat)
                case atStart => exact ⟨i, (i : Int) - 1, lb, S2, Nat.le_refl _, by go_num, rfl, HHB.out.less (fun s hs => by rw [List.drop_eq_nil_of_le (by rw [HN.out]; exact Nat.le_refl _)] at hs; simp at hs), HT⟩
                case round =>
                  clear HT HHB
                  obtain ⟨k, z, lb, S2, hki, rfl, HZK, HHB, HT⟩ := hrel
                  have HBW : Hid (Below w.heap.size w wr) := HB1.out.trans (HT.out.sa.below.mono HB1.out.size)
                  rcases Nat.eq_zero_or_pos k with hk0 | hk0
                  · subst hk0
                    have hz0 : z = -1 := HZK.out
                    subst hz0
                    have hone : lb = la := HHB.out.one HH.out (fun x hx => by rw [List.drop_zero]; exact hx) (fun x hx => hx)
                    subst hone
                    have HFI := Lib.hid (HH.out.fits (by rw [HN.out]; omega) H1000.out)
                    obtain ⟨sz, hsz⟩ : ∃ sz, sizeV lb = sz := ⟨_, rfl⟩
                    have HSZ := Lib.hid hsz
                    have HRI := Lib.hid HH.out.rise
                    clear HHB HH hsz
                    go_wp2_with fail
                    refine (hK.all wr S a lb HT.out.sa.has HFI.out).mono ?_
                    rintro e w6 ⟨A3, m3, cp3, rfl, hm3, hd3, hb6⟩
                    have HT6 := Lib.hid (HT.out.later hK hb6)
                    have HD3 := Lib.hid hd3
                    have HM3 := Lib.hid hm3
                    clear hd3 hb6
                    go_wp2_with fail
                    refine (hK.all w6 S2 b lb HT6.out.sb.has HFI.out).mono ?_
                    rintro e w7 ⟨A4, m4, cp4, rfl, hm4, hd4, hb7⟩
                    obtain rfl : m3 = m4 := hm3.symm.trans hm4
                    have HT7 := Lib.hid (HT6.out.later hK hb7)
                    have HD4 := Lib.hid hd4
                    have HD37 : Hid (DRow w7 w7.heap.size A3 (lb.map (·.1))) := HD3.out.later hb7
                    clear hd4 hb7 hm3 hm4 HD3
                    go_wp2_with fail
                    refine (hK.size w7 S a lb sz HT7.out.sa.has HFI.out HSZ.out).mono ?_
                    rintro e w8 ⟨rfl, hb8⟩
                    have HT8 := Lib.hid (HT7.out.later hK hb8)
                    have HD48 : Hid (DRow w8 w8.heap.size A4 (lb.map (·.1))) := HD4.out.later hb8
                    have HD38 : Hid (DRow w8 w8.heap.size A3 (lb.map (·.1))) := HD37.out.later hb8
                    clear hb8 HD4 HD37
                    go_wp2_with fail
                    refine (hK.size w8 S2 b lb sz HT8.out.sb.has HFI.out HSZ.out).mono ?_
                    rintro e w9 ⟨rfl, hb9⟩
                    have HT9 := Lib.hid (HT8.out.later hK hb9)
                    have HD49 : Hid (DRow w9 w9.heap.size A4 (lb.map (·.1))) := HD48.out.later hb9
                    have HD39 : Hid (DRow w9 w9.heap.size A3 (lb.map (·.1))) := HD38.out.later hb9
                    clear hb9 HD48 HD38
                    go_wp2
                    go_loopw [13] (fun iv wr => ∃ j : Nat, j ≤ m3 ∧ iv = .int .i64 j ∧ Hid (Below w9.heap.size w9 wr)) (fun iv _ => m3 - (intOf iv).toNat)
                    case atStart => exact ⟨0, Nat.zero_le _, rfl, Below.refl _ _⟩
                    case round =>
                      obtain ⟨j, hjm, rfl, HB⟩ := hrel
                      have HBW : Hid (Below w.heap.size w w9) := HB1.out.trans (HT9.out.sa.below.mono HB1.out.size)
                      by_cases hlt : j < m3
                      · have hji : (j : Int) < m3 := by omega
                        have hll : lb.length = m3 := HM3.out
                        have hm3b : m3 ≤ 100 := by have := HFI.out.2.2.1; omega
                        have hfj : lb[j]? = some (lb[j]'(by omega)) := List.getElem?_eq_getElem _
                        generalize lb[j]'(by omega) = f at hfj
                        have hdj : (lb.map (·.1))[j]? = some f.1 := by rw [List.getElem?_map, hfj]; rfl
                        have h32 := HFI.out.2.1 f (List.mem_of_getElem? hfj)
                        obtain ⟨b3, o3, rfl, hb3, _⟩ := HD39.out j f.1 hdj
                        obtain ⟨b4, o4, rfl, hb4, _⟩ := HD49.out j f.1 hdj
                        have HDR3 : Hid (DRow wr w9.heap.size (some ⟨b3, o3, none⟩) (lb.map (·.1))) := HD39.out.below HB.out (Nat.le_refl _)
                        have HDR4 : Hid (DRow wr w9.heap.size (some ⟨b4, o4, none⟩) (lb.map (·.1))) := HD49.out.below HB.out (Nat.le_refl _)
                        have HL32 := Lib.hid (dv_len f.1 h32)
                        have HQ3 : Hid (∀ q d, (lb.map (·.1))[q]? = some d → d.length = 32 → ∀ i v, (Sh.bvals d)[i]? = some v → wr.cell? ⟨b3, o3 + q * 32 + i, none⟩ = some v) := fun q d hq hd i v hv => by
                          have := KRow.part (i := 0) (m := 32) HDR3.out hq (by rw [List.drop_zero, fix32_id hd]; exact List.take_of_length_le (by rw [dv_len d hd]; exact Nat.le_refl _)) i v hv
                          rwa [Nat.add_zero] at this
                        have HQ4 : Hid (∀ q d, (lb.map (·.1))[q]? = some d → d.length = 32 → ∀ i v, (Sh.bvals d)[i]? = some v → wr.cell? ⟨b4, o4 + q * 32 + i, none⟩ = some v) := fun q d hq hd i v hv => by
                          have := KRow.part (i := 0) (m := 32) HDR4.out hq (by rw [List.drop_zero, fix32_id hd]; exact List.take_of_length_le (by rw [dv_len d hd]; exact Nat.le_refl _)) i v hv
                          rwa [Nat.add_zero] at this
                        have HDJ := Lib.hid hdj
                        have H32 := Lib.hid h32
                        have hng := Sh.no_guard
                        have heq := bvals_eqi h32 h32
                        rw [decide_eq_true rfl] at heq
                        rcases Nat.eq_zero_or_pos j with hj0 | hj0
                        · subst hj0
                          obtain ⟨T, hT⟩ : ∃ T, T = 29 := ⟨_, rfl⟩
                          obtain ⟨N, hNN⟩ : ∃ q, q = 32 := ⟨_, rfl⟩
                          have key : ∀ x, Op.load 29 x = Op.load T x := by intro x; rw [hT]
                          have hagg : ∀ W, (isAgg T).run Tryd.prog W = .ok true W := fun W => by rw [hT]; kernel_rfl
                          have hsize : ∀ W, (sizeOf T).run Tryd.prog W = .ok N W := fun W => by rw [hT, hNN]; kernel_rfl
                          have hl1 : ∀ m, (loadCellsFrom ⟨b3, o3, none⟩ 0 N #[]).run Tryd.prog (wr.drewN m) = .ok (Sh.bvals f.1).toArray (wr.drewN m) := fun m =>
                            load_part (by rw [HL32.out, hNN]) (fun i v hv => by have := HQ3.out 0 f.1 HDJ.out H32.out i v hv; rw [Nat.zero_mul, Nat.add_zero] at this; exact this)
                          have hl2 : ∀ m, (loadCellsFrom ⟨b4, o4, none⟩ 0 N #[]).run Tryd.prog (wr.drewN m) = .ok (Sh.bvals f.1).toArray (wr.drewN m) := fun m =>
                            load_part (by rw [HL32.out, hNN]) (fun i v hv => by have := HQ4.out 0 f.1 HDJ.out H32.out i v hv; rw [Nat.zero_mul, Nat.add_zero] at this; exact this)
                          have hji0 : (0 : Int) < m3 := by omega
                          clear hfj hdj h32 hT hNN hll hji
                          go_wp2
                          try (simp only [key])
                          clear key
                          go_big_quiet (fail)
                          go_wp2
                          go_roundw
                          case rel => exact ⟨1, by omega, by go_num, Sh.below_drewN HB.out _⟩
                          case measure => simp [intOf]; omega
                        · obtain ⟨q, hq⟩ : ∃ q, j = q + 1 := ⟨j - 1, by omega⟩
                          have hqe : (j : Int) - 1 = (q : Int) := by omega
                          have hqm : (q : Int) < m3 := by omega
                          have hj0d : decide ((0 : Int) < (j : Int)) = true := decide_eq_true (by omega)
                          have hj0n : decide (0 < j) = true := decide_eq_true (by omega)
                          have hwq : IntKind.i64.wrap (q : Int) = (q : Int) := wrap_q q (by have := HFI.out.2.2.1; omega)
                          have hgq : lb[q]? = some (lb[q]'(by omega)) := List.getElem?_eq_getElem _
                          generalize lb[q]'(by omega) = g at hgq
                          have hdq : (lb.map (·.1))[q]? = some g.1 := by rw [List.getElem?_map, hgq]; rfl
                          have h32g := HFI.out.2.1 g (List.mem_of_getElem? hgq)
                          have hlt2 : g.1 < f.1 := by
                            obtain ⟨h1, e1⟩ := List.getElem?_eq_some_iff.1 hgq
                            obtain ⟨h2, e2⟩ := List.getElem?_eq_some_iff.1 hfj
                            have h3 := List.pairwise_iff_getElem.1 HRI.out q j h1 h2 (by omega)
                            rwa [e1, e2] at h3
                          have HLG := Lib.hid (dv_len g.1 h32g)
                          obtain ⟨wd, hwd⟩ : ∃ wd : World, wd = { wr with drawn := wr.drawn + 1 } := ⟨_, rfl⟩
                          have HBD : Hid (Below w9.heap.size w9 wd) := by rw [hwd]; exact Sh.below_drewN HB.out 1
                          have HC3 : Hid (∀ i v, (Sh.bvals f.1)[i]? = some v → wd.cell? ((⟨b3, o3 + j * 32, none⟩ : Addr).add i) = some v) := fun i v hv => by rw [Addr.add_lit, hwd]; exact HQ3.out j f.1 HDJ.out H32.out i v hv
                          have HC4 : Hid (∀ i v, (Sh.bvals f.1)[i]? = some v → wd.cell? ((⟨b4, o4 + j * 32, none⟩ : Addr).add i) = some v) := fun i v hv => by rw [Addr.add_lit, hwd]; exact HQ4.out j f.1 HDJ.out H32.out i v hv
                          have HC5 : Hid (∀ i v, (Sh.bvals g.1)[i]? = some v → wd.cell? ((⟨b3, o3 + q * 32, none⟩ : Addr).add i) = some v) := fun i v hv => by rw [Addr.add_lit, hwd]; exact HQ3.out q g.1 hdq h32g i v hv
                          have HLE := Lib.hid (less_any g.1 f.1 true (decide_eq_true hlt2) h32g H32.out wd)
                          clear hfj hdj h32 hgq hdq h32g hlt2 hq hj0 hll
                          go_wp2
                          refine wp_region_still_tail 22 (by kernel_rfl) (by kernel_rfl) ?_
                          rw [← hwd]
                          clear hwd
                          simp only [List.take_succ_cons, List.take_zero, List.drop_succ_cons, List.drop_zero]
                          repeat (first
                            | (refine wpStill_load_at rfl 29 (.tmp 134) rfl ⟨b3, o3 + j * 32, none⟩ rfl (Sh.bvals f.1) 32 (digest_agg _) (digest_size _) HL32.out HC3.out ?_)
                            | (refine wpStill_load_at rfl 29 (.tmp 138) rfl ⟨b4, o4 + j * 32, none⟩ rfl (Sh.bvals f.1) 32 (digest_agg _) (digest_size _) HL32.out HC4.out ?_)
                            | (refine wpStill_load_at rfl 29 (.tmp 148) rfl ⟨b3, o3 + q * 32, none⟩ rfl (Sh.bvals g.1) 32 (digest_agg _) (digest_size _) HLG.out HC5.out ?_)
                            | (refine wpStill_load_at rfl 29 (.tmp 152) rfl ⟨b3, o3 + j * 32, none⟩ rfl (Sh.bvals f.1) 32 (digest_agg _) (digest_size _) HL32.out HC3.out ?_)
                            | still_step)
                          refine wpStill_nil ?_
                          go_wp2_with fail
                          refine HLE.out.mono ?_
                          rintro e w12 ⟨rfl, hb12⟩
                          have HB12 : Hid (Below w9.heap.size w9 w12) := HBD.out.trans (hb12.mono HBD.out.size)
                          clear hb12
                          go_wp2
                          go_roundw
                          case rel => exact ⟨j + 1, by omega, by go_num, HB12.out⟩
                          case measure => simp [intOf]; omega
                      · obtain rfl : j = m3 := by omega
                        have HBE := Lib.hid (HBW.out.trans (HB.out.mono HBW.out.size))
                        go_wp2
                        go_ret
                        exact ⟨rfl, HBE.out⟩
                  · obtain ⟨q, rfl⟩ : ∃ q, k = q + 1 := ⟨k - 1, by omega⟩
                    have hzq : z = (q : Int) := by have := HZK.out; omega
                    subst hzq
                    have hqi : q < i := by omega
                    have hqii : (q : Int) < i := by omega
                    have hxq : xs[q]? = some (xs[q]'(by rw [HN.out]; exact hqi)) := List.getElem?_eq_getElem _
                    generalize xs[q]'(by rw [HN.out]; exact hqi) = x at hxq
                    obtain ⟨b1, o1, X, rfl, hb1, hX, hcx⟩ := HX.out q x hxq
                    have cX : wr.cell? ⟨b1, o1 + q, none⟩ = some (.string X) := (HBW.out.cell (p := ⟨b1, o1 + q, none⟩) hb1).trans hcx
                    have HXX := Lib.hid hX
                    have HXM := Lib.hid (List.mem_of_getElem? hxq)
                    have hXs : X.size ≤ 300 := by
                      have h1 := HSS.out x HXM.out
                      have h2 : X.size = x.length := by rw [← hX]; rfl
                      omega
                    have HFI := Lib.hid (HHB.out.fits (by rw [HN.out]; omega) H1000.out)
                    have HSA := Lib.hid (HHB.out.same HP.out HXM.out)
                    have HHN : Hid (Has xs (xs.drop q) (putV lb (blob x))) := (HHB.out.put HP.out HXM.out).less (fun s hs => by
                      obtain ⟨hl, he⟩ := List.getElem?_eq_some_iff.1 hxq
                      rw [List.drop_eq_getElem_cons hl, he] at hs
                      rcases List.mem_cons.1 hs with rfl | hs
                      · exact List.mem_append_right _ (List.mem_singleton.2 rfl)
                      · exact List.mem_append_left _ hs)
                    have HBL : Hid ((dig X, X.data.toList) = blob x) := by show _ = _; unfold blob; rw [← HXX.out]
                    have HPU := Lib.hid (hK.put wr B S2 b lb X HT.out.sb.has HT.out.sb.ok HT.out.sb.base HFI.out (by omega) (by show ∀ y, Bl.get lb (Sh.dig X.data.toList) = some y → y = X.data.toList; rw [HXX.out]; exact HSA.out))
                    clear hxq hX hcx hk0
                    go_wp2_with fail
                    refine HPU.out.mono ?_
                    rintro e w5 ⟨S5, rfl, hr5, hq5, ha5⟩
                    rw [HBL.out] at hr5
                    have HT5 := Lib.hid (HT.out.turned.acted hK hr5 hq5 ha5).turned
                    clear hr5 hq5 ha5 HPU
                    go_wp2
                    go_roundw
                    case rel => exact ⟨q, (q : Int) - 1, _, S5, by omega, by go_num, rfl, HHN.out, HT5.out⟩
                    case measure => simp [intOf] <;> omega
end Bl
end Go.Proofs.YtiilmgbobjagkaaDoor
