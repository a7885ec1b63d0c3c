/-
  Layer 8 (journal): law Frames.
-/
import Derived.Test.YtogpigfepebibaaDoorMJJ
namespace Go.Proofs.YtogpigfepebibaaDoor
namespace Jl
open Go.RowKit Go.ChangeShapes Kr Dk

section
variable {P : Program} {w : World}
/-- make, of very many zeros. -/
theorem wpList_make_zeros {ops : Array Oper} {rest : List Oper} {o : Oper} {a : Act} {Q : Exit → Act → World → Prop} (hgd : o.guard = none) (l : Operand) (t : TypeId) (hop : o.op = Op.makeSlice t l l)
    (e : TypeId) (i : TypeInfo) (z : Value) (ht : P.underlying t = some (.slice e)) (hi : P.info? e = some i) (hz : i.zero = some z) (hsize : i.size = 1) (hb16 : i.bytes ≤ 16) (hzc : z.cells = #[z])
    (kl : IntKind) (L : Int) (n : Nat) (hl : a.eval l = .int kl L) (hL : L = (n : Int)) (hm : n ≤ 2000000)
    (h : ∀ w', Hid (∀ j, j < n → w'.cell? ⟨w.heap.size, j, none⟩ = some z) → Hid (Below w.heap.size w w') → wpList P ops Q rest (a.put o.dst (.slice (some ⟨w.heap.size, 0, none⟩) n n)) w') : wpList P ops Q (o :: rest) a w := by
  subst hL
  have hbm : i.bytes * n ≤ 16 * 2000000 := Nat.mul_le_mul hb16 hm
  have hrun := run_make (P := P) w t e i z ht hi hz kl kl (n : Int) (n : Int) (by omega) (by omega) (by
    have h : ((i.bytes * n : Nat) : Int) ≤ 281474976710656 := by omega
    rwa [Int.natCast_mul] at h) (by omega)
  rw [hzc, hsize, Nat.mul_one, Int.toNat_natCast] at hrun
  have hr : Row (w.alloc (.cells (madeCells #[z] n) e)) w.heap.size e (List.replicate n z) := Row.new_at _ _ _ _ rfl (by rw [← toList_madeCells_one, Array.toArray_toList])
  refine wpList_plain hgd fun K hK' => ?_
  unfold Oper.wp
  simp [execOp, hop, hl, hrun, Result.andThen]
  refine hK' _ _ (h _ (fun j hj => ?_) ((Below.refl _ _).alloc (Nat.le_refl _) _))
  rw [hr.cell]
  simp [hj]
end
theorem u8Info : (Tryd.prog.info? 5).map (fun i => (i.zero, i.size, i.bytes)) = some (some (.int .u8 0), 1, 1) := by kernel_rfl

set_option maxRecDepth 100000 in
set_option maxHeartbeats 4000000 in
theorem frames_law {Q : World → (Nat → Prop) → Nat → DD → Jn → Prop} (hK : JKeeps Q) (B : Nat) (w : World) (r : ByteArray) (k : Nat) (ho : Ok B w) (hk : k < 256) :
    Calls Tryd.prog 3 #[.string r, .int .u8 (k : Int)] w fun e w' => e = .returned (.bool true) ∧ Below w.heap.size w w' := by
  obtain ⟨i0, hi, hz0, hz1, hz2⟩ := info_parts u8Info
  have HOK := Lib.hid ho
  clear ho
  by_cases hr : 300 < r.size
  · have hri : (300 : Int) < r.size := by omega
    go_enter Tryd.func3, Tryd.ntmps3
    go_wp2_with fail
    refine (fixed_any hK B _ HOK.out).mono ?_
    rintro e w1 ⟨rfl, hb1⟩
    go_wp2
    go_ret
    exact ⟨rfl, hb1⟩
  · have hri : ¬ (300 : Int) < r.size := by omega
    have HF := Lib.hid (hK.frame B w r HOK.out (by omega))
    have HR := Lib.hid (fun W => refframe_any r W (by omega))
    rw [frameV_ok (by omega)] at HR
    generalize ofB (frame Sh.dig (toB r)) = f at *
    obtain ⟨n, hn⟩ : ∃ n, 1048577 + k = n := ⟨_, rfl⟩
    have hL : (1048577 : Int) + k = n := by omega
    obtain ⟨z, hz⟩ : ∃ z : Bs, z = List.replicate n 0 := ⟨_, rfl⟩
    have hzl : z.length = n := by rw [hz, List.length_replicate]
    have hzs : (ofB z).size = n := by rw [ofB_size, hzl]
    have HLO := Lib.hid (fun W => hK.long W (ofB z) (by rw [hzs]; have e : most = 1048576 := rfl; omega) (by omega))
    have HCV : Hid (∀ (W : World) (g : Nat), (∀ j, j < n → W.cell? ⟨g, j, none⟩ = some (.int .u8 0)) → (convert 28 9 (.slice (some ⟨g, 0, none⟩) n n)).run Tryd.prog W = .ok (.string (ofB z)) W) := fun W g hc => by
      have h := run_convert_bytes_back (P := Tryd.prog) W 28 9 5 ⟨g, 0, none⟩ z.length z Tryd.underlying28 Tryd.underlying5 Tryd.underlying9 (fun j hj => by
        rw [Addr.add_lit, Nat.zero_add, hc j (by omega)]
        have e : z[j] = 0 := by simp [hz]
        rw [e]; rfl)
      rw [hzl] at h
      exact h
    clear hz
    generalize ofB z = Z at *
    go_enter Tryd.func3, Tryd.ntmps3
    go_wp2_with fail
    refine HF.out.mono ?_
    rintro e w1 ⟨rfl, hb1⟩
    have HB1 := Lib.hid hb1
    clear hb1
    go_wp2_with fail
    refine (HR.out _).mono ?_
    rintro e w2 ⟨rfl, hb2⟩
    have HB2 := Lib.hid (HB1.out.trans (hb2.mono HB1.out.size))
    clear hb2
    go_wp2_with (at_make; refine wpList_make_zeros rfl (.tmp 28) 28 rfl 5 i0 (.int .u8 0) Tryd.underlying28 hi hz0 hz1 (by rw [hz2]; decide) rfl .i64 _ n rfl ?m1 (by omega) ?_)
    case m1 => omega
    intro w3 HS3 HB3
    have hcv := HCV.out w3 _ HS3.out
    have HB3' := Lib.hid (HB2.out.trans (HB3.out.mono HB2.out.size))
    clear HCV HS3 HB3 hn hL
    go_wp2_with fail
    refine (HLO.out _).mono ?_
    rintro e w4 ⟨rfl, hb4⟩
    have HB4 := Lib.hid (HB3'.out.trans (hb4.mono HB3'.out.size))
    clear hb4 hcv
    go_wp2_with fail
    refine (fixed_any hK B _ (HOK.out.later HB4.out)).mono ?_
    rintro e w5 ⟨rfl, hb5⟩
    have HB5 := Lib.hid (HB4.out.trans (hb5.mono HB4.out.size))
    clear hb5
    go_wp2
    go_ret
    exact ⟨rfl, HB5.out⟩
end Jl
end Go.Proofs.YtogpigfepebibaaDoor
