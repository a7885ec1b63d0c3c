/-
  Layer 7 (disk): the program's Names.
-/
import Derived.Test.YteikfdijcepimaaEE
import Derived.Test.YteikfdijcepimaaIterB
namespace Go.Proofs.Yteikfdijcepimaa
namespace Dk
open Go.RowKit Go.ChangeShapes Kr Go.Maps Go.Sort

theorem keys_perm {w : World} {b n : Nat} {D : DataW Value} {l : List FF} {pl : ByteArray → Value} (hown : w.ownsMap Try.prog 9 hold b n D) (hm : MapOf D l pl) (hr : Rise l) : (l.map nm).Perm (strKeys D) := by
  obtain ⟨es, hD, hpw, _⟩ := hown.entries keyed
  obtain ⟨es', hD', hko⟩ := hown.keysOf
  obtain rfl : es = es' := by rw [hD] at hD'; simpa using hD'
  subst hD
  refine perm_strKeys hpw (fun p hp => by obtain ⟨v, hv⟩ := hko p hp; obtain ⟨x, _, hx, _⟩ := Maps.keyOf_str Try.underlying9 hv; exact ⟨x, hx⟩) (List.pairwise_map.2 (hr.imp fun {a b} hab => ne_of hab)) fun x => ?_
  have h1 := hm.1 ⟨x.toArray⟩
  rw [show (ByteArray.mk x.toArray).data.toList = x from List.toList_toArray] at h1
  rw [h1, Option.isSome_iff_exists]
  constructor
  · intro hx
    obtain ⟨f, hf, rfl⟩ := List.mem_map.1 hx
    exact ⟨f, (at_some hr).2 ⟨hf, ba_eq (by simp)⟩⟩
  · rintro ⟨f, hf⟩
    refine List.mem_map.2 ⟨f, at_mem hf, ?_⟩
    unfold nm
    rw [at_name hf]
theorem names_sorted {l : List FF} (hr : Rise l) {ss : List Bs} (h : ss.Perm (l.map nm)) : ss.mergeSort (fun x y => decide (x ≤ y)) = l.map nm := by
  rw [mergeSort_of_perm h]
  refine List.mergeSort_of_pairwise ?_
  exact (List.pairwise_map.2 (hr.imp fun {a b} hab => decide_eq_true (le_of hab)))
theorem enc_names (l : List FF) : (l.map nm).map encStr = (l.map (·.name)).flatMap encN := by
  induction l with
  | nil => rfl
  | cons f l ih =>
    rw [List.map_cons, List.map_cons, List.map_cons, List.flatMap_cons, ih]
    rfl

set_option maxRecDepth 100000 in
set_option maxHeartbeats 4000000 in
theorem prog_names_own (w : World) (S : Nat → Prop) (b : Nat) (D : DD) (h : Rd w S b D) (hfit : Fits D) :
    Calls Try.prog 22 #[ptr b] w fun e w' => ∃ A cap, e = .returned (.slice A D.files.length cap) ∧ OwnsK encN 1 9 w' w.heap.size (.slice A D.files.length cap) (D.files.map (·.name)) ∧ Below w.heap.size w w' := by
  obtain ⟨m, pl, z, h1, h2, h3⟩ := h
  obtain ⟨c0, _⟩ := cell_of h3.cell
  obtain ⟨D0, hown, hm⟩ := h3.map
  have HO := Lib.hid hown
  have HPM := Lib.hid (keys_perm hown hm hfit.rise)
  have HRI : Hid (Rise D.files) := hfit.rise
  have hmax : Maps.size D0 ≤ maxLen := by rw [hm.2.2]; exact Nat.le_trans hfit.len (by decide)
  have hbytes : Maps.size D0 * 16 ≤ 140737488355328 := by have := hfit.len; rw [hm.2.2]; omega
  have HMX := Lib.hid hmax
  have HBY := Lib.hid hbytes
  clear h1 h2 h3 hown hm hfit hmax hbytes
  refine (callsIn_wide (n := 6)).1 ?_
  have hfK : Fence.wide.fn 38 := trivial
  have hfS : Fence.wide.fn 37 := trivial
  refine callsIn_of_wp Try.func22 rfl trivial ?_ rfl
  simp only [Try.ntmps22, List.size_toArray, List.length_cons, List.length_nil, Nat.reduceAdd, Nat.reduceSub, Array.replicate_succ, Array.replicate_zero, List.push_toArray, List.append_toArray, List.nil_append, List.cons_append]
  gi_wp2_with (first
    | (gi_at_call 38; refine (Try.maps_Keys_38 _ _).mono ?_; rintro e w' ⟨rfl, rfl⟩)
    | (gi_at_call 37; refine (Try.slices_Sorted_keys_37_38 m D.files.length D0 hold w HO.out HMX.out HBY.out).mono ?_; rintro e w' ⟨v, ss, rfl, hS, hrow, hnil, hb⟩))
  go_ret
  have hss := names_sorted HRI.out (hS.trans HPM.out.symm)
  have hlen : ss.length = D.files.length := by rw [(hS.trans HPM.out.symm).length_eq, List.length_map]
  rw [hss, enc_names, hlen] at hrow
  have hrow2 : OwnsK encN 1 9 w' w.heap.size v (D.files.map (·.name)) := by
    show World.ownsRow _ _ _ _ _ _ _
    rw [List.length_map]
    exact ownsRow_base_a hrow (by simp)
  obtain ⟨A, cap, hv⟩ := hrow2.form
  rw [List.length_map] at hv
  subst hv
  exact ⟨A, cap, rfl, hrow2, ((Below.refl _ w).alloc (Nat.le_refl _) _).trans (hb.mono (by simp))⟩
theorem prog_names (w : World) (S : Nat → Prop) (b : Nat) (D : DD) (h : Rd w S b D) (hfit : Fits D) :
    Calls Try.prog 22 #[ptr b] w fun e w' => ∃ A m cap, e = .returned (.slice A m cap) ∧ D.files.length = m ∧ NRow w' w'.heap.size A (D.files.map (·.name)) ∧ Below w.heap.size w w' :=
  (prog_names_own w S b D h hfit).mono fun _ _ ⟨A, cap, h1, h2, h3⟩ => ⟨A, _, cap, h1, rfl, h2.row encN_length, h3⟩
end Dk
end Go.Proofs.Yteikfdijcepimaa
