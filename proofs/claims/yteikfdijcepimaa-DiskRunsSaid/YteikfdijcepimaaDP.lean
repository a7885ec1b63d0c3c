/-
  Layer 7 (disk): rows of acts in memory; the walk of the laws' Great.
-/
import Derived.Test.YteikfdijcepimaaDK
import Derived.Test.YteikfdijcepimaaDO
namespace Go.Proofs.Yteikfdijcepimaa
namespace Dk
open Go.RowKit Go.ChangeShapes Kr

/-- Something done. -/
structure Ac where
  kind : Int
  num : Int
  name : ByteArray
  to : ByteArray
  data : ByteArray
  pa : Option Addr
  pn : Nat
  pcap : Nat
  picks : List Int
def encA (a : Ac) : List Value := [.int .i64 a.kind, .int .i64 a.num, .string a.name, .string a.to, .string a.data, .slice a.pa a.pn a.pcap]
theorem encA_length (a : Ac) : (encA a).length = 6 := rfl
/-- What any act's cells are. -/
structure Ok (a : Ac) : Prop where
  name : a.name.size ≤ 140737488355328
  to : a.to.size ≤ 140737488355328
  data : a.data.size ≤ 140737488355328
  pn : a.pn ≤ 140737488355328
  len : a.picks.length = a.pn
  num : -9223372036854775808 ≤ a.num ∧ a.num ≤ 9223372036854775807
  picks : ∀ z ∈ a.picks, -9223372036854775808 ≤ z ∧ z ≤ 9223372036854775807
/-- A row of acts: their cells, and their picks. -/
def ARow (w : World) (B : Nat) (A : Option Addr) (t : List Ac) : Prop := KRow encA 6 w B A t ∧ ∀ a ∈ t, PRow w B a.pa a.picks
theorem ARow.below {w w' : World} {B B' : Nat} {A : Option Addr} {t : List Ac} (h : ARow w B A t) (hb : Below B' w w') (hB : B ≤ B') : ARow w' B A t := ⟨h.1.below hb hB, fun a ha => (h.2 a ha).below hb hB⟩
def wgt (a : Ac) : Nat := a.name.size + a.to.size + a.data.size + a.pn + 1
def tot (t : List Ac) : Nat := (t.map wgt).sum
theorem tot_snoc {t : List Ac} {k : Nat} {x : Ac} (hx : t[k]? = some x) : tot (t.take (k + 1)) = tot (t.take k) + wgt x := by
  unfold tot
  rw [take_snoc t k x hx, List.map_append, List.sum_append]
  simp
theorem tot_take (t : List Ac) (k : Nat) : tot (t.take k) ≤ tot t := by
  have e : tot t = tot (t.take k) + tot (t.drop k) := by
    unfold tot
    rw [← List.sum_append, ← List.map_append, List.take_append_drop]
  omega
theorem tot_len (t : List Ac) : t.length ≤ tot t := by
  induction t with
  | nil => simp [tot]
  | cons a t ih =>
    have e : tot (a :: t) = wgt a + tot t := by unfold tot; simp
    rw [e]
    unfold wgt
    simp
    omega
theorem tot_mem {t : List Ac} {a : Ac} (h : a ∈ t) : wgt a ≤ tot t := by
  induction t with
  | nil => simp at h
  | cons b t ih =>
    have e : tot (b :: t) = wgt b + tot t := by unfold tot; simp
    rw [e]
    rcases List.mem_cons.1 h with rfl | h
    · omega
    · have := ih h; omega

set_option maxRecDepth 100000 in
set_option maxHeartbeats 4000000 in
theorem great_any (A : Option Addr) (cap n : Nat) (t : List Ac) (w : World) (hn : t.length = n) (hnm : n ≤ 9223372036854775807) (hok : ∀ a ∈ t, Ok a) (hx : KRow encA 6 w w.heap.size A t) :
    Calls Try.prog 8 #[.slice A n cap] w fun e w' => e = .returned (.int .i64 (if 3000 < tot t then 1 else 0)) ∧ Below w.heap.size w w' := by
  have HX := Lib.hid hx
  have HN := Lib.hid hn
  have HOK := Lib.hid hok
  clear hx hn hok
  go_enter Try.func8, Try.ntmps8
  go_wp2
  go_loopw [3, 8] (fun s i wr => ∃ k y : Nat, k ≤ n ∧ i = .int .i64 k ∧ s = .int .i64 y ∧ y ≤ 3000 ∧ Hid (tot (t.take k) = y) ∧ Hid (Below w.heap.size w wr)) (fun _ i _ => n - (intOf i).toNat)
  case atStart => exact ⟨0, 0, Nat.zero_le _, rfl, rfl, by omega, rfl, Below.refl _ _⟩
  case round =>
    obtain ⟨k, y, hk, rfl, rfl, hy, HY, HB⟩ := hrel
    have hwr := HB.out.size
    by_cases hlt : k < n
    · have hki : (k : Int) < n := by omega
      have hxk : t[k]? = some (t[k]'(by rw [HN.out]; exact hlt)) := List.getElem?_eq_getElem _
      generalize t[k]'(by rw [HN.out]; exact hlt) = x at hxk
      obtain ⟨b1, o1, rfl, hb1, hcs⟩ := (HX.out.below HB.out (Nat.le_refl _)) k x hxk
      have c0 := hcs 0 (.int .i64 x.kind) rfl
      rw [Nat.add_zero] at c0
      have c1 := hcs 1 (.int .i64 x.num) rfl
      have c2 := hcs 2 (.string x.name) rfl
      have c3 := hcs 3 (.string x.to) rfl
      have c4 := hcs 4 (.string x.data) rfl
      have c5 := hcs 5 (.slice x.pa x.pn x.pcap) rfl
      have ho := HOK.out x (List.mem_of_getElem? hxk)
      have k1 := ho.name
      have k2 := ho.to
      have k3 := ho.data
      have k4 := ho.pn
      have HT := Lib.hid (tot_snoc hxk)
      rw [HY.out] at HT
      have HTT := Lib.hid (tot_take t (k + 1))
      clear hcs hxk ho
      by_cases hg : 3000 < y + wgt x
      · have hgi : (3000 : Int) < (y : Int) + ((x.name.size : Int) + x.to.size + x.data.size + x.pn + 1) := by unfold wgt at hg; omega
        have HGR : Hid (3000 < tot t) := by show _ < _; have := HTT.out; have := HT.out; omega
        clear hg
        go_wp2
        go_ret
        try rw [if_pos HGR.out]
        exact ⟨rfl, HB.out.alloc hwr _⟩
      · have hgi : ¬ (3000 : Int) < (y : Int) + ((x.name.size : Int) + x.to.size + x.data.size + x.pn + 1) := by unfold wgt at hg; omega
        have hw : ((y + wgt x : Nat) : Int) = (y : Int) + ((x.name.size : Int) + x.to.size + x.data.size + x.pn + 1) := by unfold wgt; omega
        have HWW := Lib.hid hw
        have hyw : y + wgt x ≤ 3000 := by omega
        have HYW := Lib.hid hyw
        clear hg hw hyw
        go_wp2
        go_roundw
        case rel => exact ⟨k + 1, y + wgt x, by omega, by go_num, by rw [HWW.out], HYW.out, HT.out, HB.out.alloc hwr _⟩
        case measure => simp [intOf]; omega
    · obtain rfl : k = n := by omega
      have HGR : Hid (¬ 3000 < tot t) := by
        show ¬ _
        have := HY.out
        rw [List.take_of_length_le (by rw [HN.out]; omega)] at this
        omega
      go_wp2
      go_ret
      try rw [if_neg HGR.out]
      exact ⟨rfl, HB.out⟩
end Dk
end Go.Proofs.Yteikfdijcepimaa
