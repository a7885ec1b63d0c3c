/-
  Layer 9 (lex): the walk of the document's At.
-/
import Derived.Test.YtpiiklpehfkdaaaNA
import Derived.Test.YtpiiklpehfkdaaaKR
import Derived.Test.YtpiiklpehfkdaaaKT
import Derived.Laws.ResultCell
import Derived.Handy
namespace Go.Proofs.Ytpiiklpehfkdaaa
namespace Lx
open Go.RowKit Kr

abbrev lpl (p : Pl) : List Value := [.int .i64 (p.1 : Int), .int .i64 (p.2 : Int)]
abbrev vpl (p : Pl) : Value := .agg (lpl p).toArray
theorem adv_snoc (p : Pl) (s : Bs) {k : Nat} {c : UInt8} (h : s[k]? = some c) : adv p (s.take (k + 1)) = step (adv p (s.take k)) c := by
  obtain ⟨hk, rfl⟩ := List.getElem?_eq_some_iff.1 h
  rw [List.take_succ_eq_append_getElem hk, adv_app]
  rfl
theorem adv_le : ∀ (s : Bs) (p : Pl), (adv p s).1 ≤ p.1 + s.length ∧ (adv p s).2 ≤ max p.2 1 + s.length
  | [], p => ⟨Nat.le_refl _, by show p.2 ≤ _; omega⟩
  | c :: s, p => by
    have h := adv_le s (step p c)
    rw [List.length_cons]
    show (adv (step p c) s).1 ≤ _ ∧ (adv (step p c) s).2 ≤ _
    unfold step at h ⊢
    split
    · rename_i hc; rw [if_pos hc] at h; simp only at h ⊢; omega
    · rename_i hc; rw [if_neg hc] at h; simp only at h ⊢; omega
set_option maxRecDepth 100000 in
set_option maxHeartbeats 1000000 in
theorem refat_any (s : ByteArray) (n : Nat) (w : World) (hn : n ≤ s.size) (hs : s.size ≤ 1000000) : Calls Try.prog 15 #[.string s, .int .i64 (n : Int)] w fun e w' => e = .returned (vpl (adv (1, 1) ((toB s).take n))) ∧ Below w.heap.size w w' := by
  go_enter Try.func15, Try.ntmps15
  go_wp2
  go_loopw [6] (fun i wr => ∃ k : Nat, k ≤ n ∧ i = .int .i64 k ∧ Hid (Row wr (w.heap.size + 1) 26 (lpl (adv (1, 1) ((toB s).take k)))) ∧ Hid (Row wr w.heap.size 26 (lpl (0, 0))) ∧ Hid (Below w.heap.size w wr)) (fun i _ => n - (intOf i).toNat)
  case atStart => exact ⟨0, Nat.zero_le _, rfl, Row.new_at _ _ _ _ (by simp) rfl, (Row.new_at _ _ _ _ rfl rfl).alloc _, ((Below.refl _ _).alloc (Nat.le_refl _) _).alloc (by simp) _⟩
  case round =>
    obtain ⟨k, hk, rfl, HP, HR, HB⟩ := hrel
    have hwr := HB.out.size
    by_cases hlt : k < n
    · have hki : (k : Int) < n := by omega
      have hx := str_index s k (k : Int) rfl (by omega)
      have hxk : (toB s)[k]? = some ((toB s).getD k 0) := by rw [List.getD_eq_getElem?_getD, List.getElem?_eq_getElem (by rw [toB_length]; omega)]; rfl
      have HA := Lib.hid (adv_snoc (1, 1) (toB s) hxk)
      have hle := adv_le ((toB s).take k) (1, 1)
      rw [List.length_take] at hle
      generalize (toB s).getD k 0 = c at hx HA
      generalize adv (1, 1) ((toB s).take k) = p at HP HA hle
      obtain ⟨l, m⟩ := p
      have c0 := HP.out.cell 0
      have c1 := HP.out.cell 1
      have d0 := HP.out.frozen 0
      have d1 := HP.out.frozen 1
      clear hxk
      simp only at hle
      by_cases hc : c = 10
      · subst hc
        have HA2 : Hid (adv (1, 1) ((toB s).take (k + 1)) = (l + 1, 1)) := HA.out
        have HP2 : Hid (Row ((wr.setCell ⟨w.heap.size + 1, 0, none⟩ (.int .i64 ((l : Int) + 1))).setCell ⟨w.heap.size + 1, 1, none⟩ (.int .i64 1)) (w.heap.size + 1) 26 (lpl (l + 1, 1))) := (HP.out.set 0 _).set 1 _
        have HR2 : Hid (Row ((wr.setCell ⟨w.heap.size + 1, 0, none⟩ (.int .i64 ((l : Int) + 1))).setCell ⟨w.heap.size + 1, 1, none⟩ (.int .i64 1)) w.heap.size 26 (lpl (0, 0))) := (HR.out.far (by simp) _).far (by simp) _
        have HB2 : Hid (Below w.heap.size w ((wr.setCell ⟨w.heap.size + 1, 0, none⟩ (.int .i64 ((l : Int) + 1))).setCell ⟨w.heap.size + 1, 1, none⟩ (.int .i64 1))) := (HB.out.setCell (by simp) _).setCell (by simp) _
        clear HP HR HB HA
        go_wp2
        go_roundw
        case rel => exact ⟨k + 1, by omega, by go_num, by rw [HA2.out]; exact HP2.out, HR2.out, HB2.out⟩
        case measure => simp [intOf]; omega
      · have HA2 : Hid (adv (1, 1) ((toB s).take (k + 1)) = (l, m + 1)) := by
          show _ = _
          rw [HA.out]
          unfold step
          rw [if_neg hc]
        have hcb : ((c.toNat : Int) == 10) = false := beq_eq_false_iff_ne.2 (fun e => hc ((u8_is c 10 (by decide)).2 (by omega)))
        have HP2 : Hid (Row (wr.setCell ⟨w.heap.size + 1, 1, none⟩ (.int .i64 ((m : Int) + 1))) (w.heap.size + 1) 26 (lpl (l, m + 1))) := HP.out.set 1 _
        have HR2 : Hid (Row (wr.setCell ⟨w.heap.size + 1, 1, none⟩ (.int .i64 ((m : Int) + 1))) w.heap.size 26 (lpl (0, 0))) := HR.out.far (by simp) _
        have HB2 : Hid (Below w.heap.size w (wr.setCell ⟨w.heap.size + 1, 1, none⟩ (.int .i64 ((m : Int) + 1)))) := HB.out.setCell (by simp) _
        clear HP HR HB HA
        go_wp2
        go_roundw
        case rel => exact ⟨k + 1, by omega, by go_num, by rw [HA2.out]; exact HP2.out, HR2.out, HB2.out⟩
        case measure => simp [intOf]; omega
    · obtain rfl : k = n := by omega
      have hr2 : Row ((wr.setCell ⟨w.heap.size, 0, none⟩ (.int .i64 ((adv (1, 1) ((toB s).take k)).1 : Int))).setCell ⟨w.heap.size, 1, none⟩ (.int .i64 ((adv (1, 1) ((toB s).take k)).2 : Int))) w.heap.size 26 (lpl (adv (1, 1) ((toB s).take k))) := (HR.out.set 0 _).set 1 _
      have HR2 := Lib.hid hr2
      have HB2 := Lib.hid ((HB.out.setCell (p := ⟨w.heap.size, 0, none⟩) (Nat.le_refl _) (.int .i64 ((adv (1, 1) ((toB s).take k)).1 : Int))).setCell (p := ⟨w.heap.size, 1, none⟩) (Nat.le_refl _) (.int .i64 ((adv (1, 1) ((toB s).take k)).2 : Int)))
      have c0 := HP.out.cell 0
      have c1 := HP.out.cell 1
      have d0 := HR.out.frozen 0
      have d1 := HR.out.frozen 1
      have e0 := HR.out.cell 0
      have e1 := HR.out.cell 1
      clear hr2
      obtain ⟨p, hp⟩ : ∃ p, adv (1, 1) ((toB s).take k) = p := ⟨_, rfl⟩
      have HPP := Lib.hid hp
      rw [hp] at HP HR2 HB2 c0 c1
      clear hp
      obtain ⟨l, m⟩ := p
      go_wp2
      refine bodyPost_ret (results_cell_row rfl _ _ w.heap.size 26 (lpl (l, m)).toArray (0, 0) _ rfl HR2.out Try.underlying26 rfl (by kernel_rfl)) rfl ⟨by rw [HPP.out], HB2.out⟩
end Lx
end Go.Proofs.Ytpiiklpehfkdaaa
