/-
  Layer 6 (blobs): the walk of the laws' clash.
-/
import Derived.Test.YtiilmgbobjagkaaDoorBH
import Derived.Test.YtiilmgbobjagkaaDoorBG
import Derived.Deep.RegionHeld3
namespace Go.Proofs.YtiilmgbobjagkaaDoor
namespace Bl
open Go.RowKit Kr

/-- No two unlike texts of one digest. -/
def Clear (l : List Ac) : Prop := ∀ a ∈ l, ∀ b ∈ l, dig a.data = dig b.data → a.data = b.data
def ClearTo (l : List Ac) (i : Nat) : Prop := ∀ i' k' a b, i' < i → k' < i' → l[i']? = some a → l[k']? = some b → dig a.data = dig b.data → a.data = b.data
def ClearIn (l : List Ac) (i k : Nat) : Prop := ∀ k' a b, k' < k → l[i]? = some a → l[k']? = some b → dig a.data = dig b.data → a.data = b.data
theorem clear_step {l : List Ac} {i : Nat} (h : ClearTo l i) (h2 : ClearIn l i i) : ClearTo l (i + 1) := fun i' k' a b hi hk ha hb he => by
  by_cases h3 : i' = i
  · subst h3; exact h2 k' a b hk ha hb he
  · exact h i' k' a b (by omega) hk ha hb he
theorem clear_all {l : List Ac} {n : Nat} (hn : l.length = n) (h : ClearTo l n) : Clear l := fun a ha b hb he => by
  obtain ⟨i, hi⟩ := List.getElem?_of_mem ha
  obtain ⟨k, hk⟩ := List.getElem?_of_mem hb
  have hin := (List.getElem?_eq_some_iff.1 hi).1
  have hkn := (List.getElem?_eq_some_iff.1 hk).1
  rcases Nat.lt_trichotomy i k with h1 | h1 | h1
  · exact (h k i b a (by omega) h1 hk hi he.symm).symm
  · subst h1; rw [hi] at hk; injection hk with hk; rw [hk]
  · exact h i k a b (by omega) h1 hi hk he
theorem below_al {w w' : World} (h : Below w.heap.size w w') (o : Obj) : Below w.heap.size w (w'.alloc o) := h.alloc h.size o
theorem below_dr {w w' : World} (h : Below w.heap.size w w') : Below w.heap.size w w'.drew := h.drew
/-- What a function says of the text in a cell; is there a short text? -/
def sumAt (f : ByteArray → Bs) (W : World) (g : Nat) : Bs := match W.cell? ⟨g, 0, none⟩ with | some (.string Z) => f Z | _ => []
def fitAt (m : Nat) (W : World) (g : Nat) : Bool := match W.cell? ⟨g, 0, none⟩ with | some (.string Z) => decide (Z.size ≤ m) | _ => false
theorem sum_later {f : ByteArray → Bs} {W W' : World} {g : Nat} (h : Below W.heap.size W W') (hg : g < W.heap.size) : sumAt f W' g = sumAt f W g := by
  unfold sumAt
  rw [h.cell (p := ⟨g, 0, none⟩) hg]
theorem fit_later {m : Nat} {W W' : World} {g : Nat} (h : Below W.heap.size W W') (hg : g < W.heap.size) : fitAt m W' g = fitAt m W g := by
  unfold fitAt
  rw [h.cell (p := ⟨g, 0, none⟩) hg]
theorem sum_at (f : ByteArray → Bs) (hf : f = dig) (B : Nat) (W : World) (g : Nat) (h1 : fitAt 1000 W g = true) (hb : g < W.heap.size) (ho : Ok B W) :
    Calls Tryd.prog 17 #[.slice (some ⟨g, 0, none⟩) 1 1] W fun e w' => ∃ D, e = .returned (dv D) ∧ sumAt f W g = D ∧ Below W.heap.size W w' := by
  subst hf
  unfold fitAt at h1
  split at h1
  · rename_i Z hc
    rw [decide_eq_true_eq] at h1
    refine (sum_one W B g Z h1 hc hb ho).mono fun e w' ⟨he, hw⟩ => ⟨_, he, ?_, hw⟩
    unfold sumAt
    rw [hc]
  · cases h1
theorem later_cell {w w' : World} {p : Addr} {v : Value} (hb : Below w.heap.size w w') (hp : p.block < w.heap.size) (hc : w.cell? p = some v) : w'.cell? p = some v := (hb.cell hp).trans hc

set_option maxRecDepth 100000 in
set_option maxHeartbeats 8000000 in
theorem clash_any (A : Option Addr) (cap B n : Nat) (l : List Ac) (w : World) (hok : Ok B w) (hn : l.length = n) (hn40 : n ≤ 40) (hsz : ∀ a ∈ l, a.data.size ≤ 300) (hx : ARow w w.heap.size A l) :
    Calls Tryd.prog 9 #[.slice A n cap] w fun e w' => ∃ c, e = .returned (.bool c) ∧ (c = false → Clear l) ∧ Below w.heap.size w w' := by
  have HX := Lib.hid hx
  have HN := Lib.hid hn
  have HZ := Lib.hid hsz
  have HO := Lib.hid hok
  clear hx hn hsz hok
  go_enter Tryd.func9, Tryd.ntmps9
  go_wp2
  go_loopw [3] (fun i wr => ∃ k : Nat, k ≤ n ∧ i = .int .i64 k ∧ Hid (ClearTo l k) ∧ Hid (Below w.heap.size w wr)) (fun i _ => n - (intOf i).toNat)
  case atStart => exact ⟨0, Nat.zero_le _, rfl, fun i' k' a b hi => absurd hi (Nat.not_lt_zero _), Below.refl _ _⟩
  case round =>
    obtain ⟨i, hi, rfl, HC, HB⟩ := hrel
    by_cases hlt : i < n
    · have hii : (i : Int) < n := by omega
      have hxi : l[i]? = some (l[i]'(by rw [HN.out]; exact hlt)) := List.getElem?_eq_getElem _
      generalize l[i]'(by rw [HN.out]; exact hlt) = x at hxi
      have HXI := Lib.hid hxi
      obtain ⟨b1, o1, rfl, hb1, hcs⟩ := HX.out i x hxi
      have HCX : Hid (w.cell? ⟨b1, o1 + i * 35 + 1, none⟩ = some (.string x.data)) := hcs 1 _ (act_data x)
      have hxs := HZ.out x (List.mem_of_getElem? hxi)
      clear hxi hcs
      go_wp2
      go_loopw [4] (fun kv wr => ∃ k : Nat, k ≤ i ∧ kv = .int .i64 k ∧ Hid (ClearIn l i k) ∧ Hid (Below w.heap.size w wr)) (fun kv _ => i - (intOf kv).toNat)
      case atStart => exact ⟨0, Nat.zero_le _, rfl, fun k' a b hk => absurd hk (Nat.not_lt_zero _), HB.out⟩
      case round =>
        clear HB
        obtain ⟨k, hk, rfl, HI, HB⟩ := hrel
        by_cases hlk : k < i
        · have hkk : (k : Int) < i := by omega
          have hkn : (k : Int) < n := by omega
          have hyk : l[k]? = some (l[k]'(by rw [HN.out]; omega)) := List.getElem?_eq_getElem _
          generalize l[k]'(by rw [HN.out]; omega) = y at hyk
          have HYK := Lib.hid hyk
          obtain ⟨b', o', e, _, hcs⟩ := HX.out k y hyk
          injection e with e
          injection e with e1 e2
          subst e1 e2
          have HCY : Hid (w.cell? ⟨b1, o1 + k * 35 + 1, none⟩ = some (.string y.data)) := hcs 1 _ (act_data y)
          have hys := HZ.out y (List.mem_of_getElem? hyk)
          clear hyk hcs
          have hcx : ∀ W, Below wr.heap.size wr W → W.cell? ⟨b1, o1 + i * 35 + 1, none⟩ = some (.string x.data) := fun W h => (h.cell (p := ⟨b1, o1 + i * 35 + 1, none⟩) (by have := HB.out.size; show b1 < _; omega)).trans ((HB.out.cell (p := ⟨b1, o1 + i * 35 + 1, none⟩) hb1).trans HCX.out)
          have hcy : ∀ W, Below wr.heap.size wr W → W.cell? ⟨b1, o1 + k * 35 + 1, none⟩ = some (.string y.data) := fun W h => (h.cell (p := ⟨b1, o1 + k * 35 + 1, none⟩) (by have := HB.out.size; show b1 < _; omega)).trans ((HB.out.cell (p := ⟨b1, o1 + k * 35 + 1, none⟩) hb1).trans HCY.out)
          by_cases hxy : x.data = y.data
          · have HS : Hid (ClearIn l i (k + 1)) := fun k' a c hk' ha hc he => by
              by_cases h3 : k' = k
              · subst h3
                rw [HXI.out] at ha
                rw [HYK.out] at hc
                injection ha with ha
                injection hc with hc
                rw [← ha, ← hc, hxy]
              · exact HI.out k' a c (by omega) ha hc he
            have c1 := hcx wr (Below.refl _ _)
            have c2 := hcy wr (Below.refl _ _)
            rw [← hxy] at c2
            have hee : (x.data.toList == x.data.toList) = true := beq_self_eq_true _
            clear hcx hcy hxy
            go_wp2
            go_big_quiet (fail)
            go_wp2
            go_roundw
            case rel => exact ⟨k + 1, by omega, by go_num, HS.out, Sh.below_drewN HB.out _⟩
            case measure => simp [intOf]; omega
          · have hee : (x.data.toList == y.data.toList) = false := by
              rw [beq_eq_false_iff_ne]
              intro h
              rw [ByteArray.toList_eq, ByteArray.toList_eq] at h
              exact hxy (ByteArray.ext (Array.toList_inj.1 h))
            obtain ⟨q, hq⟩ : ∃ q, decide (dig x.data = dig y.data) = q := ⟨_, rfl⟩
            have heq := bvals_inj (dig_len x.data) (dig_len y.data)
            rw [hq] at heq
            have HS : Hid (q = false → ClearIn l i (k + 1)) := fun hq0 k' a c hk' ha hc he => by
              by_cases h3 : k' = k
              · subst h3
                rw [HXI.out] at ha
                rw [HYK.out] at hc
                injection ha with ha
                injection hc with hc
                rw [hq0, decide_eq_false_iff_not, ha, hc] at hq
                exact absurd he hq
              · exact HI.out k' a c (by omega) ha hc he
            have HOB := Lib.hid (fun W (h : Below wr.heap.size wr W) => (HO.out.below (HB.out.mono HO.out.2.2)).below (h.mono (Nat.le_trans HO.out.2.2 HB.out.size)))
            have HDD := (Below.refl wr.heap.size wr).drew
            have fx : x.data.size ≤ 1000 := by omega
            have fy : y.data.size ≤ 1000 := by omega
            clear hq hxy hxs hys
            obtain ⟨f, hf⟩ : ∃ f, f = dig := ⟨_, rfl⟩
            rw [← hf] at heq
            have HSM := Lib.hid (sum_at f hf B)
            clear hf
            generalize x.data = X at *
            generalize y.data = Y at *
            go_wp2_with fail
            (go_region_held3 (fun w' : World => Below wr.heap.size wr w')
              (first | exact HDD | assumption | ((repeat (first | assumption | exact Below.refl _ _ | refine below_dr ?_ | refine below_al ?_ _)); done) | ((refine below_step ?_ (by assumption)); (repeat (first | assumption | exact Below.refl _ _ | refine below_dr ?_ | refine below_al ?_ _)); done))
              ((first
                | (go_at_call 17; (refine Calls.mono (HSM.out _ _ (by simp [fitAt, fx, fy]; done) (by simp <;> omega) (HOB.out _ (by repeat (first | assumption | exact Below.refl _ _ | refine below_dr ?_ | refine below_al ?_ _)))) ?_); rintro e wa ⟨D, rfl, hD, hba⟩; (simp [sumAt] at hD); subst hD)
                | (go_at_call 17; (refine Calls.mono (HSM.out _ _ (by rw [fit_later hba (by simp <;> omega)]; simp [fitAt, fx, fy]; done) (Nat.lt_of_lt_of_le (by simp <;> omega) hba.size) (HOB.out _ (by repeat (first | assumption | exact Below.refl _ _ | refine below_dr ?_ | refine below_al ?_ _)))) ?_); rintro e wb ⟨D, rfl, hD, hbb⟩; (rw [sum_later hba (by simp <;> omega)] at hD); (simp [sumAt] at hD); subst hD))))
            all_goals
              cases q
              · have HN := Lib.hid (HS.out rfl)
                go_wp2
                go_roundw
                case rel => exact ⟨k + 1, by omega, by go_num, HN.out, Lib.hid (HB.out.trans (Below.mono (by assumption) HB.out.size))⟩
                case measure => simp [intOf]; omega
              · go_wp2
                go_ret
                exact ⟨true, rfl, fun h => (by cases h), HB.out.trans (Below.mono (by assumption) HB.out.size)⟩
        · obtain rfl : k = i := by omega
          go_wp2
          go_roundw
          case rel => exact ⟨k + 1, by omega, by go_num, clear_step HC.out HI.out, HB.out⟩
          case measure => simp [intOf]; omega
    · obtain rfl : i = n := by omega
      have HCL := Lib.hid (clear_all HN.out HC.out)
      go_wp2
      go_ret
      exact ⟨false, rfl, fun _ => HCL.out, HB.out⟩
end Bl
end Go.Proofs.YtiilmgbobjagkaaDoor
