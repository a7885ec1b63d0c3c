/-
  Layer 6 (blobs): rows of digests sorted by the library.
-/
import Derived.Test.YtiilmgbobjagkaaDoorCH
import Derived.Shelf.SlSortCmp.WholeK
namespace Go.Proofs.YtiilmgbobjagkaaDoor
namespace Bl
open Go.RowKit Go.Shelf Kr Go.Maps Go.Sort

theorem compare_lt : ∀ a b : Bs, Lib.compareBytes a b < 0 ↔ a < b
  | [], [] => by simp [Lib.compareBytes]
  | [], _ :: _ => by simp [Lib.compareBytes]
  | _ :: _, [] => by simp [Lib.compareBytes]
  | x :: a, y :: b => by
    have ih := compare_lt a b
    unfold Lib.compareBytes
    rw [List.cons_lt_cons_iff]
    by_cases h1 : x < y
    · simp [h1]
    · by_cases h2 : y < x
      · have : x ≠ y := fun e => h1 (by subst e; exact h2)
        simp [h1, h2, this]
      · have e : x = y := by
          rw [UInt8.lt_iff_toNat_lt] at h1 h2
          exact UInt8.toNat_inj.1 (by omega)
        subst e
        simp [h1, ih]
def cfD (x y : Bs) : Int := Lib.compareBytes (fix32 x) (fix32 y)
theorem lt_cf (x y : Bs) : ltOf cfD x y = decide (fix32 x < fix32 y) := decide_eq_decide.2 (compare_lt _ _)
theorem swo_cf : SWO (ltOf cfD) where
  irrefl x := by rw [lt_cf]; exact decide_eq_false lt_no
  trans x y z h1 h2 := by
    rw [lt_cf, decide_eq_true_eq] at *
    exact lt_lt h1 h2
  ntrans x y z h1 h2 := by
    rw [lt_cf, decide_eq_false_iff_not] at *
    exact List.not_lt.2 (List.le_trans (List.not_lt.1 h2) (List.not_lt.1 h1))
theorem sorted_same {l : List Bb} {ss : List Bs} {d' : Array Bs} (hr : Rise l) (hs : Sums l) (hp : ss.Perm (l.map (·.1))) (h1 : PermIn 0 ss.toArray.size ss.toArray d') (h2 : SortedIn (ltOf cfD) 0 ss.toArray.size d') : d'.toList = l.map (·.1) := by
  obtain ⟨hsz, _, hpm⟩ := h1
  have e1 : (d'.extract 0 ss.toArray.size).toList = d'.toList := by rw [← hsz]; simp
  have e2 : (ss.toArray.extract 0 ss.toArray.size).toList = ss := by simp
  rw [e1, e2] at hpm
  have hpm2 := hpm.trans hp
  have h32 : ∀ x ∈ d'.toList, fix32 x = x := fun x hx => by
    obtain ⟨f, hf, rfl⟩ := List.mem_map.1 (hpm2.mem_iff.1 hx)
    exact fix32_id (hs f hf)
  have hpw : d'.toList.Pairwise (· ≤ ·) := by
    rw [List.pairwise_iff_getElem]
    intro i j hi hj hij
    have hj2 : j < ss.toArray.size := by rw [← hsz]; simpa using hj
    have h3 := h2 i j (Nat.zero_le _) hij hj2
    rw [getElem!_pos d' i (by simpa using hi), getElem!_pos d' j (by simpa using hj), lt_cf, decide_eq_false_iff_not] at h3
    have h4 := List.not_lt.1 h3
    have ei : fix32 d'[i] = d'[i] := h32 _ (by simp)
    have ej : fix32 d'[j] = d'[j] := h32 _ (by simp)
    rw [ei, ej] at h4
    simpa using h4
  have hlw : (l.map (·.1)).Pairwise (· ≤ ·) := List.pairwise_map.2 (hr.imp fun {a b} hab => le_of hab)
  exact List.Perm.eq_of_pairwise (le := fun a b => a ≤ b) (fun a b _ _ h1 h2 => List.le_antisymm h1 h2) hpw hlw hpm2

theorem holds_of_owns {W : World} {base g n cap : Nat} {ss : List Bs} (h : OwnsK encD 32 29 W base (.slice (some ⟨g, 0, none⟩) n cap) ss) : HoldsK encD 32 W g 0 ss.toArray := by
  have hrow := OwnsK.row encD_length h
  intro t ht
  rw [size_flatK, List.size_toArray] at ht
  have hj : t / 32 < ss.length := Nat.div_lt_of_lt_mul (by omega)
  have hi : t % 32 < 32 := Nat.mod_lt _ (by omega)
  have hx : ss[t / 32]? = some ss[t / 32] := List.getElem?_eq_getElem hj
  obtain ⟨b', o', e, hb, hc⟩ := hrow _ _ hx
  injection e with e
  injection e with e1 e2
  subst e1 e2
  have hv : (encD ss[t / 32])[t % 32]? = some (encD ss[t / 32])[t % 32]! := by
    rw [List.getElem?_eq_getElem (by rw [encD_length]; exact hi), getElem!_pos _ _ (by rw [encD_length]; exact hi)]
  have h1 := hc _ _ hv
  rw [Nat.zero_add, Nat.mul_comm, Nat.div_add_mod] at h1
  refine ⟨?_, ?_⟩
  · rw [Nat.zero_add, get_flatK _ _ _ _ (by rw [List.size_toArray]; exact ht), h1]
    rw [getElem!_pos ss.toArray (t / 32) (by simpa using hj)]
    rfl
  · rcases h.2 with ⟨hn, _⟩ | ⟨g', cap', cur, hv2, _, hg, _⟩
    · cases hn
    · injection hv2 with hv2
      injection hv2 with hv2
      injection hv2 with hv2
      subst hv2
      simp [World.frozen?, hg]
theorem row_of_holds {W : World} {g : Nat} {d : Array Bs} (h : HoldsK encD 32 W g 0 d) (hg : g < W.heap.size) : DRow W W.heap.size (some ⟨g, 0, none⟩) d.toList := by
  intro j x hx
  refine ⟨g, 0, rfl, hg, fun i v hv => ?_⟩
  have hi : i < 32 := by
    have h1 : i < (encD x).length := (List.getElem?_eq_some_iff.1 hv).1
    rwa [encD_length] at h1
  obtain ⟨hj, hjx⟩ := List.getElem?_eq_some_iff.1 hx
  rw [Array.length_toList] at hj
  have ht : j * 32 + i < d.size * 32 := by omega
  have h1 := (h (j * 32 + i) (by rw [size_flatK]; exact ht)).1
  rw [get_flatK _ _ _ _ ht] at h1
  have e1 : (j * 32 + i) / 32 = j := by omega
  have e2 : (j * 32 + i) % 32 = i := by omega
  rw [e1, e2, getElem!_pos d j hj] at h1
  rw [Nat.zero_add] at h1 ⊢
  rw [h1]
  have e3 : d[j] = x := by rw [← hjx]; simp
  rw [e3]
  have hv2 : (encD x)[i]? = some v := hv
  have e4 : (encD x)[i]! = v := by
    rw [getElem!_pos _ _ (by rw [encD_length]; exact hi)]
    exact (List.getElem?_eq_some_iff.1 hv2).2
  show some (id ((encD x)[i]!)) = _
  rw [e4]; rfl
theorem below_sort {W : World} {B g n : Nat} {d : Array Bs} {os : Array Obj} (hg : B ≤ g) (hB : B ≤ W.heap.size) : Below B W (sortWorldK encD 32 W g 0 n d os) := by
  have hs : (putRowK encD 32 (Sort.ahead W n) g 0 d).heap.size = W.heap.size := by rw [size_putRowK]; rfl
  refine ⟨rfl, rfl, rfl, ?_, fun q hq => ?_⟩
  · unfold sortWorldK; rw [size_grow, hs]; omega
  · unfold sortWorldK grow
    show (_ ++ os)[q]? = _
    rw [Array.getElem?_append_left (by rw [hs]; omega)]
    show ((Sort.ahead W n).heap.modify g _)[q]? = _
    rw [Array.getElem?_modify, if_neg (by omega)]
    rfl
end Bl
end Go.Proofs.YtiilmgbobjagkaaDoor
