/-
  Layer 6 (blobs): the program's compare of two digests; Put of a nil store; Check.
-/
import Derived.Test.YtiilmgbobjagkaaDoorCC
import Derived.Test.YtiilmgbobjagkaaDoorBG
import Derived.Lib.BytesEntry
import Derived.Lib.Bytealg
import Derived.Laws.Externs
import Derived.Deep.QuietTactic
import Derived.Sort.Grow
namespace Go.Proofs.YtiilmgbobjagkaaDoor
namespace Bl
open Go.RowKit Kr Go.Maps

theorem ints_bytes (d : Bs) : Lib.bytesOf (d.map fun x => (x.toNat : Int)) = d := by
  unfold Lib.bytesOf
  rw [List.map_map]
  conv => rhs; rw [← List.map_id d]
  refine List.map_congr_left fun x _ => ?_
  simp
theorem load_bytes {P : Program} (d : Bs) (g n : Nat) (w : World) (hn : d.length = n) (h : ∀ j v, (Sh.bvals d)[j]? = some v → w.cell? ⟨g, j, none⟩ = some v) :
    (Extern.Bytes.loadBytes ⟨g, 0, none⟩ n .empty).run P w = .ok ⟨d.toArray⟩ w := by
  have h2 := Lib.run_loadBytesX (P := P) w (d.map fun x => (x.toNat : Int)) ⟨g, 0, none⟩ .empty (fun j x hj => by
    rw [Addr.add_lit, Nat.zero_add]
    refine h j _ ?_
    rw [List.getElem?_map] at hj
    obtain ⟨y, hy, rfl⟩ := Option.map_eq_some_iff.1 hj
    exact bv_at hy)
  rw [List.length_map, hn, ints_bytes] at h2
  rw [h2]
  congr 1
  apply ByteArray.ext
  show (#[] : Array UInt8) ++ d.toArray = d.toArray
  simp
theorem run_compare {P : Program} (a b : Bs) (g1 g2 n1 n2 c1 c2 : Nat) (w : World) (h1 : a.length = n1) (h2 : b.length = n2) (h3 : ∀ j v, (Sh.bvals a)[j]? = some v → w.cell? ⟨g1, j, none⟩ = some v) (h4 : ∀ j v, (Sh.bvals b)[j]? = some v → w.cell? ⟨g2, j, none⟩ = some v) :
    (Extern.BytealgCompare.compare #[.slice (some ⟨g1, 0, none⟩) n1 c1, .slice (some ⟨g2, 0, none⟩) n2 c2]).run P w = .ok (.int .i64 (Lib.compareBytes a b)) w := by
  change Sem.run P (do pure (goInt (Extern.BytealgCompare.cmp (← Extern.Bytes.loadBytes ⟨g1, 0, none⟩ n1 .empty) (← Extern.Bytes.loadBytes ⟨g2, 0, none⟩ n2 .empty)))) w = _
  simp only [Sem.run_bind, Sem.run_pure, load_bytes a g1 n1 w h1 h3, load_bytes b g2 n2 w h2 h4, Result.andThen]
  rw [Lib.cmp_eq]
  simp [goInt]

set_option maxRecDepth 100000 in
set_option maxHeartbeats 4000000 in
theorem bcompare_any (a b : Bs) (g1 g2 c1 c2 : Nat) (w : World) (h1 : a.length = 32) (h2 : b.length = 32) (h3 : ∀ j v, (Sh.bvals a)[j]? = some v → w.cell? ⟨g1, j, none⟩ = some v) (h4 : ∀ j v, (Sh.bvals b)[j]? = some v → w.cell? ⟨g2, j, none⟩ = some v) :
    Calls Tryd.prog 36 #[.slice (some ⟨g1, 0, none⟩) 32 c1, .slice (some ⟨g2, 0, none⟩) 32 c2] w fun e w' => e = .returned (.int .i64 (Lib.compareBytes a b)) ∧ w = w' := by
  have hrun := run_compare (P := Tryd.prog) a b g1 g2 32 32 c1 c2 w h1 h2 h3 h4
  go_enter Tryd.func36, Tryd.ntmps36
  go_wp2
  rw [run_callFunc_extern Tryd.func42 (by kernel_rfl) (by kernel_rfl) (by kernel_rfl) (e := Extern.BytealgCompare.compare) (by kernel_rfl), hrun]
  simp only [Result.andThen]
  rw [Oper.upon_value]
  go_wp2
  go_ret
  exact ⟨rfl, rfl⟩

open Go.Sort in
set_option maxRecDepth 100000 in
set_option maxHeartbeats 4000000 in
theorem compare_any (a b : Bs) (w : World) (h1 : a.length = 32) (h2 : b.length = 32) :
    Calls Tryd.prog 30 #[dv a, dv b] w fun e w' => e = .returned (.int .i64 (Lib.compareBytes a b)) ∧ ∃ q os', w' = grow (w.drewN q) os' := by
  obtain ⟨w0, hw0⟩ : ∃ w0, w0 = (w.alloc (.cells (Sh.bvals a).toArray 29)).alloc (.cells (Sh.bvals b).toArray 29) := ⟨_, rfl⟩
  have HR1 : Hid (Sh.Row w0 w.heap.size 29 (Sh.bvals a)) := by rw [hw0]; exact (Sh.Row.new_at w _ _ _ rfl rfl).alloc _
  have HR2 : Hid (Sh.Row w0 (w.heap.size + 1) 29 (Sh.bvals b)) := by rw [hw0]; exact Sh.Row.new_at _ _ _ _ (by simp) rfl
  have HC := Lib.hid (fun q => bcompare_any a b w.heap.size (w.heap.size + 1) 32 32 (w0.drewN q) h1 h2 (fun j v hv => ((HR1.out.drewN q).cell j).trans hv) (fun j v hv => ((HR2.out.drewN q).cell j).trans hv))
  have HG : Hid (∀ q, ∃ q' os', w0.drewN q = grow (w.drewN q') os') := fun q => ⟨q, _, by rw [hw0, alloc_eq_grow, alloc_eq_grow, grow_grow]; rfl⟩
  clear h1 h2
  go_enter Tryd.func30, Tryd.ntmps30
  go_wp2
  rw [← hw0]
  clear hw0
  go_quiet ((go_at_call 36; exact Sh.quiet_s (HC.out _) ⟨_, rfl⟩))
  go_wp2
  go_ret
  exact ⟨rfl, HG.out _⟩
end Bl
end Go.Proofs.YtiilmgbobjagkaaDoor
