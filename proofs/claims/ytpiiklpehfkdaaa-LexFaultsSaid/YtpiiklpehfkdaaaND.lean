/-
  Layer 9 (lex): the walk of the document's quoted.
-/
import Derived.Test.YtpiiklpehfkdaaaNC
import Derived.Laws.BytesString
import Derived.Laws.IdiomStrings
namespace Go.Proofs.Ytpiiklpehfkdaaa
namespace Lx
open Go.RowKit Kr

def encU (c : UInt8) : List Value := [.int .u8 (c.toNat : Int)]
abbrev OwnsU (w : World) (base : Nat) (v : Value) (l : Bs) : Prop := OwnsK encU 1 5 w base v l
theorem u8Info : (Try.prog.info? 5).map (fun i => (i.zero, i.size, i.bytes)) = some (some (.int .u8 0), 1, 1) := by kernel_rfl
theorem conv_acc (w : World) (base cap : Nat) (A : Option Addr) (l : Bs) (h : OwnsU w base (.slice A l.length cap) l) : (convert 49 9 (.slice A l.length cap)).run Try.prog w = .ok (.string (ofB l)) w := by
  have hrow : KRow encU 1 w w.heap.size A l := OwnsK.row (enc := encU) (fun _ => rfl) h
  cases l with
  | nil =>
    show (convert 49 9 (.slice A 0 cap)).run Try.prog w = _
    rw [run_convert_bytes_string w 49 9 5 A 0 cap Try.underlying49 Try.underlying5 Try.underlying9]
    cases A with
    | none => rfl
    | some a => rfl
  | cons c l =>
    obtain ⟨b, o, rfl, _, _⟩ := hrow 0 c rfl
    refine run_convert_bytes_back (P := Try.prog) w 49 9 5 ⟨b, o, none⟩ cap (c :: l) Try.underlying49 Try.underlying5 Try.underlying9 (fun j hj => ?_)
    obtain ⟨b', o', h1, _, h3⟩ := hrow j _ (List.getElem?_eq_getElem hj)
    injection h1 with h1
    injection h1 with h4 h5
    subst h4 h5
    have := h3 0 _ rfl
    rw [Addr.add_lit]
    simpa using this
theorem pc_set {w : World} {g : Nat} {l : List Value} (h : Row w g 47 l) (hl : l.length = 4) (a b c d : Value) : Row ((((w.setCell ⟨g, 0, none⟩ a).setCell ⟨g, 1, none⟩ b).setCell ⟨g, 2, none⟩ c).setCell ⟨g, 3, none⟩ d) g 47 [a, b, c, d] := by
  have h4 := (((h.set 0 a).set 1 b).set 2 c).set 3 d
  match l, hl with
  | [x, y, z, t], _ => exact h4
theorem pc_below {w0 w : World} {g : Nat} (h : Below g w0 w) (a b c d : Value) : Below g w0 ((((w.setCell ⟨g, 0, none⟩ a).setCell ⟨g, 1, none⟩ b).setCell ⟨g, 2, none⟩ c).setCell ⟨g, 3, none⟩ d) :=
  (((h.setCell (p := ⟨g, 0, none⟩) (Nat.le_refl _) a).setCell (p := ⟨g, 1, none⟩) (Nat.le_refl _) b).setCell (p := ⟨g, 2, none⟩) (Nat.le_refl _) c).setCell (p := ⟨g, 3, none⟩) (Nat.le_refl _) d
theorem drop_getD (s : Bs) {k : Nat} (h : k < s.length) : s.drop k = s.getD k 0 :: s.drop (k + 1) := by
  rw [List.drop_eq_getElem_cons h, List.getD_eq_getElem?_getD, List.getElem?_eq_getElem h]; rfl
theorem bad_eq (c : UInt8) : bad c = (decide (c.toNat < 32) || decide (c.toNat = 127)) := rfl

set_option maxRecDepth 100000 in
set_option maxHeartbeats 4000000 in
theorem refquoted_any (s : ByteArray) (w : World) (h0 : toB s ≠ []) (hs : s.size ≤ 1000000) :
    Calls Try.prog 30 #[.string s] w fun e w' => e = .returned (vpc (qt ((toB s).drop 1) [] 1)) ∧ Below w.heap.size w w' := by
  obtain ⟨T, hT⟩ : ∃ T, toB s = T := ⟨_, rfl⟩
  have HT := Lib.hid hT
  have HTL : Hid (T.length = s.size) := by show _ = _; rw [← hT]; rfl
  have hpos : 0 < s.size := by
    have h := HTL.out
    rw [hT] at h0
    cases T with
    | nil => exact absurd rfl h0
    | cons c r => rw [List.length_cons] at h; omega
  rw [hT]
  clear hT h0
  obtain ⟨R, hR⟩ : ∃ R, qt (T.drop 1) [] 1 = R := ⟨_, rfl⟩
  have HR := Lib.hid hR
  rw [hR]
  clear hR
  obtain ⟨i0, hi, hz0, hz1, hz2⟩ := info_parts u8Info
  go_enter Try.func30, Try.ntmps30
  go_wp2
  go_loopw [3, 4] (fun o i wr => ∃ (k cp : Nat) (A : Option Addr) (acc : Bs), 1 ≤ k ∧ k ≤ s.size ∧ acc.length ≤ k ∧ i = .int .i64 k ∧ o = .slice A acc.length cp ∧ Hid (OwnsU wr (w.heap.size + 1) (.slice A acc.length cp) acc) ∧ Hid (Row wr w.heap.size 47 zpc) ∧ Hid (Below w.heap.size w wr) ∧ Hid (qt (T.drop k) acc k = R)) (fun _ i _ => s.size - (intOf i).toNat)
  case atStart => exact ⟨1, 0, none, [], by omega, by omega, by simp, rfl, rfl, OwnsK.nil _ _, Row.new_at _ _ _ _ rfl rfl, new_below _ _, HR.out⟩
  case round =>
    obtain ⟨k, cp, A, acc, hk1, hk, hal, rfl, rfl, HO, HRW, HB, HQ⟩ := hrel
    have hwr := HB.out.size
    have hwr1 := HRW.out.lt
    have d0 := HRW.out.frozen 0
    have d1 := HRW.out.frozen 1
    have d2 := HRW.out.frozen 2
    have d3 := HRW.out.frozen 3
    have e0 := HRW.out.cell 0
    have e1 := HRW.out.cell 1
    have e2 := HRW.out.cell 2
    have e3 := HRW.out.cell 3
    by_cases hlt : k < s.size
    · have hki : (k : Int) < s.size := by omega
      have hx := str_index s k (k : Int) rfl hlt
      rw [HT.out] at hx
      have hdr := drop_getD T (k := k) (by rw [HTL.out]; exact hlt)
      generalize T.getD k 0 = c at hx hdr
      rw [hdr] at HQ
      clear hdr
      have hc256 := c.toNat_lt
      by_cases h34 : c = 34
      · have HE : Hid (R = ⟨3, acc, k + 1, 0⟩) := by show _ = _; rw [← HQ.out]; unfold qt; rw [if_pos h34]
        subst h34
        have hcv := conv_acc wr (w.heap.size + 1) cp A acc HO.out
        have hcs : (ofB acc).size ≤ 1000000 := by rw [ofB_size]; omega
        obtain ⟨Y, hY⟩ : ∃ Y, ofB acc = Y := ⟨_, rfl⟩
        have HY := Lib.hid hY
        rw [hY] at hcv hcs
        clear hY HO HQ
        go_wp2
        refine bodyPost_ret (results_cell_row rfl _ _ w.heap.size 47 (lpc ⟨3, acc, k + 1, 0⟩).toArray (0, 0) _ rfl (by rw [← HY.out]; exact pc_set HRW.out rfl _ _ _ _) Try.underlying47 rfl (pc_info _)) rfl ⟨by rw [HE.out], pc_below HB.out _ _ _ _⟩
      · have j34 : ((c.toNat : Int) == 34) = false := beq_eq_false_iff_ne.2 fun e => h34 ((u8_is c 34 (by decide)).2 (by omega))
        by_cases hb : bad c = true
        · have HE : Hid (R = no 3) := by show _ = _; rw [← HQ.out]; unfold qt; rw [if_neg h34, if_pos hb]
          rw [bad_eq] at hb
          have hb2 : (c.toNat : Int) < 32 ∨ ¬ (c.toNat : Int) < 32 ∧ (c.toNat : Int) = 127 := by
            simp only [Bool.or_eq_true, decide_eq_true_eq] at hb
            omega
          clear HO HQ hb
          generalize c.toNat = n at *
          rcases hb2 with hb2 | ⟨hb2, hb3⟩
          · go_wp2
            refine bodyPost_ret (results_cell_row rfl _ _ w.heap.size 47 (lpc (no 3)).toArray (0, 0) _ rfl (pc_set HRW.out rfl _ _ _ _) Try.underlying47 rfl (pc_info _)) rfl ⟨by rw [HE.out], pc_below HB.out _ _ _ _⟩
          · obtain rfl : n = 127 := by omega
            go_wp2
            refine bodyPost_ret (results_cell_row rfl _ _ w.heap.size 47 (lpc (no 3)).toArray (0, 0) _ rfl (pc_set HRW.out rfl _ _ _ _) Try.underlying47 rfl (pc_info _)) rfl ⟨by rw [HE.out], pc_below HB.out _ _ _ _⟩
        · have hbn : ¬ (c.toNat : Int) < 32 ∧ ((c.toNat : Int) == 127) = false := by
            rw [bad_eq] at hb
            simp only [Bool.or_eq_true, decide_eq_true_eq, not_or] at hb
            exact ⟨by omega, beq_eq_false_iff_ne.2 (by omega)⟩
          obtain ⟨hb1, hb2⟩ := hbn
          by_cases h92 : c = 92
          · subst h92
            clear j34 hb1 hb2 h34
            by_cases hk2 : k + 1 = s.size
            · have HE : Hid (R = no 3) := by
                show _ = _
                have := HQ.out
                rw [List.drop_of_length_le (by rw [HTL.out]; omega)] at this
                rw [← this]; rfl
              have hki2 : (k : Int) + 1 = s.size := by omega
              clear HQ HO
              go_wp2
              refine bodyPost_ret (results_cell_row rfl _ _ w.heap.size 47 (lpc (no 3)).toArray (0, 0) _ rfl (pc_set HRW.out rfl _ _ _ _) Try.underlying47 rfl (pc_info _)) rfl ⟨by rw [HE.out], pc_below HB.out _ _ _ _⟩
            · have hki2 : ((k : Int) + 1 == s.size) = false := beq_eq_false_iff_ne.2 (by omega)
              have hx2 := str_index s (k + 1) ((k : Int) + 1) (by omega) (by omega)
              rw [HT.out] at hx2
              have hdr := drop_getD T (k := k + 1) (by rw [HTL.out]; omega)
              generalize T.getD (k + 1) 0 = d at hx2 hdr
              rw [hdr] at HQ
              clear hdr
              have HQ3 : Hid ((if d = 34 ∨ d = 92 then qt (T.drop (k + 2)) (acc ++ [d]) (k + 2) else if d = 110 then qt (T.drop (k + 2)) (acc ++ [10]) (k + 2) else no 3) = R) := HQ.out
              clear HQ
              have hd256 := d.toNat_lt
              by_cases hd1 : d = 34
              · subst hd1
                have hx3 : ∀ W, (Instr.index 9 (.string s) (.int .i64 ((k : Int) + 1))).run Try.prog W = .ok (.int .u8 34) W := hx2
                clear hx2
                have HQ2 : Hid (qt (T.drop (k + 2)) (acc ++ [34]) (k + 2) = R) := HQ3.out
                clear HQ3
                go_wp2_with (at_builtin; refine wpList_append_own _ rfl _ _ 49 rfl (w.heap.size + 1) 5 i0 (.int .u8 0) 1 1 Try.underlying49 hi hz0 hz1 hz2 rfl (by decide) _ acc.length (acc.flatMap encU) rfl ?d0a ⟨wr.heap.size, 0, none⟩ 1 1 (encU 34) rfl rfl ?d1a ?d2a ?d3a ?d4a ?d5a ?_)
                case d0a => have := fun o1 => HO.out.alloc o1; unfold OwnsK at this; exact this _
                case d2a => intro u hu; obtain rfl := List.mem_singleton.1 hu; rfl
                case d3a => simp only [maxLen]; omega
                case d4a => omega
                try (case d5a => simp; omega)
                · rintro (_ | j) u hj
                  · simp [encU] at hj; subst hj; simp [Addr.add]
                  · simp [encU] at hj
                intro v' w2 hown' hgrow _
                have hO2 : OwnsU w2 (w.heap.size + 1) v' (acc ++ [34]) := OwnsK.appended rfl hown'
                obtain ⟨A2, cap2, e⟩ := hO2.form
                subst e
                have hg0 : some w.heap.size ≠ (Value.slice A acc.length cp).ownBlock := fun e => by
                  have := (World.ownsRow.lt HO.out w.heap.size e.symm).1
                  omega
                have HB2 := Lib.hid ((HB.out.alloc hwr _).grown hgrow (by simp; omega) (fun q hq => by have := (World.ownsRow.lt HO.out q hq).1; omega))
                have HO2 := Lib.hid hO2
                have HRW2 := Lib.hid ((HRW.out.alloc _).grown hgrow hg0)
                have hlo : (acc ++ [34]).length ≤ k + 2 := by rw [List.length_append, List.length_singleton]; omega
                clear hO2 hown' hgrow hg0 d0 d1 d2 d3 e0 e1 e2 e3
                go_wp2
                go_roundw
                case rel => exact ⟨k + 2, cap2, A2, acc ++ [34], by omega, by omega, hlo, by go_num, rfl, HO2.out, HRW2.out, HB2.out, HQ2.out⟩
                case measure => simp [intOf]; omega
              · have jd1 : ((d.toNat : Int) == 34) = false := beq_eq_false_iff_ne.2 fun e => hd1 ((u8_is d 34 (by decide)).2 (by omega))
                by_cases hd2 : d = 92
                · subst hd2
                  have hx3 : ∀ W, (Instr.index 9 (.string s) (.int .i64 ((k : Int) + 1))).run Try.prog W = .ok (.int .u8 92) W := hx2
                  clear hx2
                  have HQ2 : Hid (qt (T.drop (k + 2)) (acc ++ [92]) (k + 2) = R) := HQ3.out
                  clear HQ3
                  go_wp2_with (at_builtin; refine wpList_append_own _ rfl _ _ 49 rfl (w.heap.size + 1) 5 i0 (.int .u8 0) 1 1 Try.underlying49 hi hz0 hz1 hz2 rfl (by decide) _ acc.length (acc.flatMap encU) rfl ?e0a ⟨wr.heap.size, 0, none⟩ 1 1 (encU 92) rfl rfl ?e1a ?e2a ?e3a ?e4a ?e5a ?_)
                  case e0a => have := fun o1 => HO.out.alloc o1; unfold OwnsK at this; exact this _
                  case e2a => intro u hu; obtain rfl := List.mem_singleton.1 hu; rfl
                  case e3a => simp only [maxLen]; omega
                  case e4a => omega
                  try (case e5a => simp; omega)
                  · rintro (_ | j) u hj
                    · simp [encU] at hj; subst hj; simp [Addr.add]
                    · simp [encU] at hj
                  intro v' w2 hown' hgrow _
                  have hO2 : OwnsU w2 (w.heap.size + 1) v' (acc ++ [92]) := OwnsK.appended rfl hown'
                  obtain ⟨A2, cap2, e⟩ := hO2.form
                  subst e
                  have hg0 : some w.heap.size ≠ (Value.slice A acc.length cp).ownBlock := fun e => by
                    have := (World.ownsRow.lt HO.out w.heap.size e.symm).1
                    omega
                  have HB2 := Lib.hid ((HB.out.alloc hwr _).grown hgrow (by simp; omega) (fun q hq => by have := (World.ownsRow.lt HO.out q hq).1; omega))
                  have HO2 := Lib.hid hO2
                  have HRW2 := Lib.hid ((HRW.out.alloc _).grown hgrow hg0)
                  have hlo : (acc ++ [92]).length ≤ k + 2 := by rw [List.length_append, List.length_singleton]; omega
                  clear hO2 hown' hgrow hg0 d0 d1 d2 d3 e0 e1 e2 e3
                  go_wp2
                  go_roundw
                  case rel => exact ⟨k + 2, cap2, A2, acc ++ [92], by omega, by omega, hlo, by go_num, rfl, HO2.out, HRW2.out, HB2.out, HQ2.out⟩
                  case measure => simp [intOf]; omega
                · have jd2 : ((d.toNat : Int) == 92) = false := beq_eq_false_iff_ne.2 fun e => hd2 ((u8_is d 92 (by decide)).2 (by omega))
                  by_cases hd3 : d = 110
                  · subst hd3
                    have hx3 : ∀ W, (Instr.index 9 (.string s) (.int .i64 ((k : Int) + 1))).run Try.prog W = .ok (.int .u8 110) W := hx2
                    clear hx2
                    have HQ2 : Hid (qt (T.drop (k + 2)) (acc ++ [10]) (k + 2) = R) := HQ3.out
                    clear HQ3
                    go_wp2_with (at_builtin; refine wpList_append_own _ rfl _ _ 49 rfl (w.heap.size + 1) 5 i0 (.int .u8 0) 1 1 Try.underlying49 hi hz0 hz1 hz2 rfl (by decide) _ acc.length (acc.flatMap encU) rfl ?f0a ⟨wr.heap.size, 0, none⟩ 1 1 (encU 10) rfl rfl ?f1a ?f2a ?f3a ?f4a ?f5a ?_)
                    case f0a => have := fun o1 => HO.out.alloc o1; unfold OwnsK at this; exact this _
                    case f2a => intro u hu; obtain rfl := List.mem_singleton.1 hu; rfl
                    case f3a => simp only [maxLen]; omega
                    case f4a => omega
                    try (case f5a => simp; omega)
                    · rintro (_ | j) u hj
                      · simp [encU] at hj; subst hj; simp [Addr.add]
                      · simp [encU] at hj
                    intro v' w2 hown' hgrow _
                    have hO2 : OwnsU w2 (w.heap.size + 1) v' (acc ++ [10]) := OwnsK.appended rfl hown'
                    obtain ⟨A2, cap2, e⟩ := hO2.form
                    subst e
                    have hg0 : some w.heap.size ≠ (Value.slice A acc.length cp).ownBlock := fun e => by
                      have := (World.ownsRow.lt HO.out w.heap.size e.symm).1
                      omega
                    have HB2 := Lib.hid ((HB.out.alloc hwr _).grown hgrow (by simp; omega) (fun q hq => by have := (World.ownsRow.lt HO.out q hq).1; omega))
                    have HO2 := Lib.hid hO2
                    have HRW2 := Lib.hid ((HRW.out.alloc _).grown hgrow hg0)
                    have hlo : (acc ++ [10]).length ≤ k + 2 := by rw [List.length_append, List.length_singleton]; omega
                    clear hO2 hown' hgrow hg0 d0 d1 d2 d3 e0 e1 e2 e3
                    go_wp2
                    go_roundw
                    case rel => exact ⟨k + 2, cap2, A2, acc ++ [10], by omega, by omega, hlo, by go_num, rfl, HO2.out, HRW2.out, HB2.out, HQ2.out⟩
                    case measure => simp [intOf]; omega
                  · have jd3 : ((d.toNat : Int) == 110) = false := beq_eq_false_iff_ne.2 fun e => hd3 ((u8_is d 110 (by decide)).2 (by omega))
                    have HE : Hid (R = no 3) := by
                      show _ = _
                      rw [← HQ3.out, if_neg (by rintro (e | e); exact hd1 e; exact hd2 e), if_neg hd3]
                    clear HQ3 HO
                    have kd1 : ((d.toNat : Int) != 34) = true := by rw [bne, jd1]; rfl
                    have kd2 : ((d.toNat : Int) != 92) = true := by rw [bne, jd2]; rfl
                    have kd3 : ((d.toNat : Int) != 110) = true := by rw [bne, jd3]; rfl
                    go_wp2
                    refine bodyPost_ret (results_cell_row rfl _ _ w.heap.size 47 (lpc (no 3)).toArray (0, 0) _ rfl (pc_set HRW.out rfl _ _ _ _) Try.underlying47 rfl (pc_info _)) rfl ⟨by rw [HE.out], pc_below HB.out _ _ _ _⟩
          · have j92 : ((c.toNat : Int) == 92) = false := beq_eq_false_iff_ne.2 fun e => h92 ((u8_is c 92 (by decide)).2 (by omega))
            have HQ2 : Hid (qt (T.drop (k + 1)) (acc ++ [c]) (k + 1) = R) := by
              show _ = _
              have := HQ.out
              unfold qt at this
              rw [if_neg h34, if_neg hb, if_neg h92] at this
              exact this
            clear HQ h34 hb h92
            go_wp2_with (at_builtin; refine wpList_append_own _ rfl _ _ 49 rfl (w.heap.size + 1) 5 i0 (.int .u8 0) 1 1 Try.underlying49 hi hz0 hz1 hz2 rfl (by decide) _ acc.length (acc.flatMap encU) rfl ?c0a ⟨wr.heap.size, 0, none⟩ 1 1 (encU c) rfl rfl ?c1a ?c2a ?c3a ?c4a ?c5a ?_)
            case c0a => have := fun o1 => HO.out.alloc o1; unfold OwnsK at this; exact this _
            case c2a => intro u hu; obtain rfl := List.mem_singleton.1 hu; rfl
            case c3a => simp only [maxLen]; omega
            case c4a => omega
            try (case c5a => simp; omega)
            · rintro (_ | j) u hj
              · simp [encU] at hj; subst hj; simp
              · simp [encU] at hj
            intro v' w2 hown' hgrow _
            have hO2 : OwnsU w2 (w.heap.size + 1) v' (acc ++ [c]) := OwnsK.appended rfl hown'
            obtain ⟨A2, cap2, e⟩ := hO2.form
            subst e
            have hg0 : some w.heap.size ≠ (Value.slice A acc.length cp).ownBlock := fun e => by
              have := (World.ownsRow.lt HO.out w.heap.size e.symm).1
              omega
            have HB2 := Lib.hid ((HB.out.alloc hwr _).grown hgrow (by simp; omega) (fun q hq => by have := (World.ownsRow.lt HO.out q hq).1; omega))
            have HO2 := Lib.hid hO2
            have HRW2 := Lib.hid ((HRW.out.alloc _).grown hgrow hg0)
            have hlo : (acc ++ [c]).length ≤ k + 1 := by rw [List.length_append, List.length_singleton]; omega
            clear hO2 hown' hgrow hg0 d0 d1 d2 d3 e0 e1 e2 e3
            go_wp2
            go_roundw
            case rel => exact ⟨k + 1, cap2, A2, acc ++ [c], by omega, by omega, hlo, by go_num, rfl, HO2.out, HRW2.out, HB2.out, HQ2.out⟩
            case measure => simp [intOf]; omega
    · obtain rfl : k = s.size := by omega
      have HE : Hid (R = no 3) := by
        show _ = _
        rw [← HQ.out, List.drop_of_length_le (by rw [HTL.out]; exact Nat.le_refl _)]
        rfl
      clear HQ HO
      go_wp2
      refine bodyPost_ret (results_cell_row rfl _ _ w.heap.size 47 (lpc (no 3)).toArray (0, 0) _ rfl (pc_set HRW.out rfl _ _ _ _) Try.underlying47 rfl (pc_info _)) rfl ⟨by rw [HE.out], pc_below HB.out _ _ _ _⟩
end Lx
end Go.Proofs.Ytpiiklpehfkdaaa
