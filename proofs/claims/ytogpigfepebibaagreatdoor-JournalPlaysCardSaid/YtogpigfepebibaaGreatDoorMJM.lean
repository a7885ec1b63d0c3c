/-
  Layer 8 (journal): frames and scans as lists of bytes, over any digest: no program, no world. Layer 8 (journal): journals on disks, over any digest: no program, no world. Layer 8 (journal): what the laws on crashes come to: no program, no world. Layer 8 (journal): a swap, and how great disks are: no program, no world.
-/
import Derived.WalkKit
import Derived.Test.YtogpigfepebibaaGreatDoorMDM
namespace Go.Proofs.YtogpigfepebibaaGreatDoor
namespace Jl

abbrev Bs := List UInt8
def most : Nat := 1048576
def be4 (n : Nat) : Bs := [UInt8.ofNat (n / 16777216), UInt8.ofNat (n / 65536), UInt8.ofNat (n / 256), UInt8.ofNat n]
theorem be4_length (n : Nat) : (be4 n).length = 4 := rfl
def num4 (b : Bs) : Nat := 256 * (256 * (256 * (b.getD 0 0).toNat + (b.getD 1 0).toNat) + (b.getD 2 0).toNat) + (b.getD 3 0).toNat
theorem num4_be4 {n : Nat} (h : n < 4294967296) (r : Bs) : num4 (be4 n ++ r) = n := by
  unfold num4 be4
  simp only [List.cons_append, List.nil_append, List.getD_cons_zero, List.getD_cons_succ, UInt8.toNat_ofNat']
  omega
theorem num4_take (b : Bs) {k : Nat} (h : 4 ≤ k) : num4 (b.take k) = num4 b := by
  have e : ∀ i, i < 4 → (b.take k).getD i 0 = b.getD i 0 := fun i hi => by
    rw [List.getD_eq_getElem?_getD, List.getD_eq_getElem?_getD, List.getElem?_take, if_pos (by omega)]
  unfold num4
  rw [e 0 (by decide), e 1 (by decide), e 2 (by decide), e 3 (by decide)]
theorem num4_app {b : Bs} (c : Bs) (h : 4 ≤ b.length) : num4 (b ++ c) = num4 b := by
  have e : ∀ i, i < 4 → (b ++ c).getD i 0 = b.getD i 0 := fun i hi => by
    rw [List.getD_eq_getElem?_getD, List.getD_eq_getElem?_getD, List.getElem?_append_left (by omega)]
  unfold num4
  rw [e 0 (by decide), e 1 (by decide), e 2 (by decide), e 3 (by decide)]

section
variable (D : Bs → Bs)
def head (r : Bs) : Bs := be4 r.length ++ (D (be4 r.length ++ r)).take 8
def frame (r : Bs) : Bs := head D r ++ r
def frames (l : List Bs) : Bs := l.flatMap (frame D)
/-- What stands at the front of b is a frame. -/
def Front (b : Bs) : Prop := 12 ≤ b.length ∧ num4 b ≤ most ∧ 12 + num4 b ≤ b.length ∧ head D ((b.drop 12).take (num4 b)) = b.take 12
instance (b : Bs) : Decidable (Front D b) := by unfold Front; infer_instance
def scanF : Nat → Bs → List Bs × Nat
  | 0, _ => ([], 0)
  | f + 1, b => if Front D b then ((b.drop 12).take (num4 b) :: (scanF f (b.drop (12 + num4 b))).1, 12 + num4 b + (scanF f (b.drop (12 + num4 b))).2) else ([], 0)
def scan (b : Bs) : List Bs × Nat := scanF D b.length b
variable {D}
theorem scanF_enough : ∀ (f g : Nat) (b : Bs), b.length ≤ f → b.length ≤ g → scanF D f b = scanF D g b
  | 0, 0, _, _, _ => rfl
  | 0, g + 1, b, hf, _ => by
    unfold scanF
    rw [if_neg (fun h => by have := h.1; omega)]
  | f + 1, 0, b, _, hg => by
    unfold scanF
    rw [if_neg (fun h => by have := h.1; omega)]
  | f + 1, g + 1, b, hf, hg => by
    unfold scanF
    by_cases h : Front D b
    · rw [if_pos h, if_pos h, scanF_enough f g _ (by rw [List.length_drop]; have := h.1; omega) (by rw [List.length_drop]; have := h.1; omega)]
    · rw [if_neg h, if_neg h]
theorem scan_step (b : Bs) : scan D b = if Front D b then ((b.drop 12).take (num4 b) :: (scan D (b.drop (12 + num4 b))).1, 12 + num4 b + (scan D (b.drop (12 + num4 b))).2) else ([], 0) := by
  by_cases h : Front D b
  · rw [if_pos h]
    have hl := h.1
    show scanF D b.length b = _
    obtain ⟨q, hq⟩ : ∃ q, b.length = q + 1 := ⟨b.length - 1, by omega⟩
    rw [hq]
    unfold scanF
    rw [if_pos h]
    have e : scanF D q (b.drop (12 + num4 b)) = scan D (b.drop (12 + num4 b)) := scanF_enough _ _ _ (by rw [List.length_drop]; omega) (Nat.le_refl _)
    rw [e]
  · rw [if_neg h]
    show scanF D b.length b = _
    cases hb : b.length with
    | zero => rfl
    | succ q => unfold scanF; rw [if_neg h]
theorem scan_not {b : Bs} (h : ¬ Front D b) : scan D b = ([], 0) := by rw [scan_step, if_neg h]
theorem scan_nil : scan D [] = ([], 0) := rfl
theorem scan_le : ∀ (n : Nat) (b : Bs), b.length ≤ n → (scan D b).2 ≤ b.length ∧ (scan D b).1.length ≤ b.length
  | 0, b, h => by
    have : b = [] := List.eq_nil_of_length_eq_zero (by omega)
    subst this
    exact ⟨Nat.le_refl _, Nat.le_refl _⟩
  | n + 1, b, h => by
    rw [scan_step]
    split
    · rename_i hf
      have h2 := scan_le n (b.drop (12 + num4 b)) (by rw [List.length_drop]; have := hf.1; omega)
      rw [List.length_drop] at h2
      have := hf.2.2.1
      constructor
      · show 12 + num4 b + _ ≤ _; omega
      · rw [List.length_cons]; omega
    · exact ⟨Nat.zero_le _, Nat.zero_le _⟩

theorem num4_frame {r : Bs} (h : r.length ≤ most) (b : Bs) : num4 (frame D r ++ b) = r.length := by
  unfold frame head
  rw [List.append_assoc, List.append_assoc]
  exact num4_be4 (Nat.lt_of_le_of_lt h (by decide)) _
variable (hD : ∀ b, 8 ≤ (D b).length)
include hD
theorem head_length (r : Bs) : (head D r).length = 12 := by
  unfold head
  rw [List.length_append, be4_length, List.length_take, Nat.min_eq_left (hD _)]
theorem frame_length (r : Bs) : (frame D r).length = 12 + r.length := by
  unfold frame
  rw [List.length_append, head_length hD]
theorem frame_drop (r b : Bs) : (frame D r ++ b).drop 12 = r ++ b := by
  unfold frame
  rw [List.append_assoc, List.drop_left' (head_length hD r)]
theorem frame_take (r b : Bs) : (frame D r ++ b).take 12 = head D r := by
  unfold frame
  rw [List.append_assoc, List.take_left' (head_length hD r)]
theorem front_frame {r : Bs} (h : r.length ≤ most) (b : Bs) : Front D (frame D r ++ b) := by
  have hn := num4_frame (D := D) h b
  have hl : (frame D r ++ b).length = 12 + r.length + b.length := by rw [List.length_append, frame_length hD]
  refine ⟨by omega, by omega, by omega, ?_⟩
  rw [hn, frame_drop hD, frame_take hD, List.take_left' rfl]
theorem scan_frame {r : Bs} (h : r.length ≤ most) (b : Bs) : scan D (frame D r ++ b) = (r :: (scan D b).1, (frame D r).length + (scan D b).2) := by
  have hn := num4_frame (D := D) h b
  rw [scan_step, if_pos (front_frame hD h b), hn, frame_drop hD, List.take_left' rfl]
  have e : (frame D r ++ b).drop (12 + r.length) = b := List.drop_left' (frame_length hD r)
  rw [e, frame_length hD]
theorem scan_frames : ∀ {l : List Bs}, (∀ r ∈ l, r.length ≤ most) → ∀ b, scan D (frames D l ++ b) = (l ++ (scan D b).1, (frames D l).length + (scan D b).2)
  | [], _, b => by simp [frames]
  | r :: l, h, b => by
    have e : frames D (r :: l) ++ b = frame D r ++ (frames D l ++ b) := by unfold frames; rw [List.flatMap_cons, List.append_assoc]
    rw [e, scan_frame hD (h r List.mem_cons_self), scan_frames (fun x hx => h x (List.mem_cons_of_mem _ hx)) b]
    unfold frames
    rw [List.flatMap_cons, List.length_append]
    simp only [List.cons_append, Prod.mk.injEq, true_and]
    omega
/-- The front of a frame has none. -/
theorem scan_part {r : Bs} (h : r.length ≤ most) {k : Nat} (hk : k < (frame D r).length) : scan D ((frame D r).take k) = ([], 0) := by
  rw [frame_length hD] at hk
  refine scan_not fun hf => ?_
  have hl : ((frame D r).take k).length = k := by rw [List.length_take, frame_length hD]; omega
  have h12 := hf.1
  have h3 := hf.2.2.1
  rw [num4_take _ (by omega)] at h3
  have hn := num4_frame (D := D) h []
  rw [List.append_nil] at hn
  omega
theorem scan_all {l : List Bs} (h : ∀ r ∈ l, r.length ≤ most) : scan D (frames D l) = (l, (frames D l).length) := by
  have := scan_frames hD h []
  rw [List.append_nil, scan_nil, List.append_nil, Nat.add_zero] at this
  exact this
theorem scan_tail {l : List Bs} (h : ∀ r ∈ l, r.length ≤ most) {r : Bs} (hr : r.length ≤ most) {k : Nat} (hk : k < (frame D r).length) : scan D (frames D l ++ (frame D r).take k) = (l, (frames D l).length) := by
  rw [scan_frames hD h, scan_part hD hr hk, List.append_nil, Nat.add_zero]
end
theorem frames_snoc (D : Bs → Bs) (l : List Bs) (r : Bs) : frames D (l ++ [r]) = frames D l ++ frame D r := by
  unfold frames
  rw [List.flatMap_append, List.flatMap_cons, List.flatMap_nil, List.append_nil]
end Jl
end Go.Proofs.YtogpigfepebibaaGreatDoor

namespace Go.Proofs.YtogpigfepebibaaGreatDoor
namespace Jl
open Dk (DD FF at? nul readV appendV syncV renameV removeV withF dropF passV addF Fit Rise nm)

/-- Disks that the laws meet. -/
abbrev Fits (D : DD) : Prop := Fit 40000 D
abbrev toB (s : ByteArray) : Bs := s.data.toList
abbrev ofB (l : Bs) : ByteArray := ⟨l.toArray⟩
theorem ofB_toB (s : ByteArray) : ofB (toB s) = s := Dk.ba_eq (List.toList_toArray)
theorem toB_ofB (l : Bs) : toB (ofB l) = l := List.toList_toArray
theorem ofB_size (l : Bs) : (ofB l).size = l.length := by simp [ByteArray.size]
theorem toB_length (s : ByteArray) : (toB s).length = s.size := rfl
/-- The name of the other file. -/
def nw (p : ByteArray) : ByteArray := p ++ ⟨#[46, 110, 101, 119]⟩
theorem nw_size (p : ByteArray) : (nw p).size = p.size + 4 := Dk.ba_size_append _ _
theorem nw_ne (p : ByteArray) : nw p ≠ nul := fun e => by
  have := nw_size p
  rw [e] at this
  have h0 : (nul : ByteArray).size = 0 := rfl
  omega
theorem nw_self (p : ByteArray) : nw p ≠ p := fun e => by
  have := nw_size p
  rw [e] at this
  omega
/-- The other file goes. -/
def clearV (D : DD) (p : ByteArray) : DD × Nat := if at? D.files (nw p) = none then (D, 0) else removeV D (nw p)
/-- A file has other bytes. -/
def anewV (D : DD) (p x : ByteArray) : DD × Nat :=
  if (appendV D (nw p) x).2 ≠ 0 then appendV D (nw p) x
  else if (syncV (appendV D (nw p) x).1 (nw p)).2 ≠ 0 then syncV (appendV D (nw p) x).1 (nw p)
  else renameV (syncV (appendV D (nw p) x).1 (nw p)).1 (nw p) p
section
variable (H : Bs → Bs)
def frameV (r : ByteArray) : ByteArray × Nat := if most < r.size then (nul, 6) else (ofB (frame H (toB r)), 0)
def framesV (l : List ByteArray) : ByteArray × Nat := if ∃ r ∈ l, most < r.size then (nul, 6) else (ofB (frames H (l.map toB)), 0)
/-- The records of bytes, and how many bytes their frames have. -/
def recsV (b : ByteArray) : List ByteArray := (scan H (toB b)).1.map ofB
def lenV (b : ByteArray) : Nat := (scan H (toB b)).2
theorem lenV_le (b : ByteArray) : lenV H b ≤ b.size := (scan_le _ _ (Nat.le_refl _)).1
/-- Open: the disk, whether there is a journal, its records, the error's number. -/
structure Op where
  disk : DD
  is : Bool
  recs : List ByteArray
  err : Nat
def openV (D : DD) (p : ByteArray) : Op :=
  if p = nul then ⟨D, false, [], 1⟩
  else if (clearV D p).2 ≠ 0 then ⟨(clearV D p).1, false, [], (clearV D p).2⟩
  else if lenV H (readV (clearV D p).1 p).1 < (readV (clearV D p).1 p).1.size then
    if (anewV (clearV D p).1 p ((readV (clearV D p).1 p).1.extract 0 (lenV H (readV (clearV D p).1 p).1))).2 ≠ 0 then
      ⟨(anewV (clearV D p).1 p ((readV (clearV D p).1 p).1.extract 0 (lenV H (readV (clearV D p).1 p).1))).1, false, [], (anewV (clearV D p).1 p ((readV (clearV D p).1 p).1.extract 0 (lenV H (readV (clearV D p).1 p).1))).2⟩
    else ⟨(anewV (clearV D p).1 p ((readV (clearV D p).1 p).1.extract 0 (lenV H (readV (clearV D p).1 p).1))).1, true, recsV H (readV (clearV D p).1 p).1, 0⟩
  else ⟨(clearV D p).1, true, recsV H (readV (clearV D p).1 p).1, 0⟩
/-- Add, of a journal that is there and not broken: the disk, the error's number. -/
def putV (D : DD) (p f : ByteArray) : DD × Nat := if (appendV D p f).2 = 0 then syncV (appendV D p f).1 p else appendV D p f
def addV (D : DD) (p r : ByteArray) : DD × Nat := if (frameV H r).2 ≠ 0 then (D, (frameV H r).2) else putV D p (frameV H r).1
def restV (D : DD) (p f : ByteArray) : DD × Nat := if (clearV D p).2 = 0 then anewV (clearV D p).1 p f else clearV D p
def swapV (D : DD) (p : ByteArray) (l : List ByteArray) : DD × Nat := if (framesV H l).2 ≠ 0 then (D, (framesV H l).2) else restV D p (framesV H l).1
end
end Jl
end Go.Proofs.YtogpigfepebibaaGreatDoor

namespace Go.Proofs.YtogpigfepebibaaGreatDoor
namespace Jl
open Dk

section
variable {n : Nat} {D : DD} {p x : ByteArray}
theorem clear_free (hf : Fit n D) (hl : D.left = -1) (p : ByteArray) : (clearV D p).2 = 0 ∧ (clearV D p).1.left = -1 ∧ Fit n (clearV D p).1 ∧ at? (clearV D p).1.files p = at? D.files p := by
  unfold clearV
  by_cases h : at? D.files (nw p) = none
  · rw [if_pos h]
    exact ⟨rfl, hl, hf, rfl⟩
  · rw [if_neg h]
    have hfr := fit_remove hf (nw p)
    cases hg : at? D.files (nw p) with
    | none => exact absurd hg h
    | some g =>
      have e : removeV D (nw p) = (⟨dropF D.files (nw p), -1⟩, 0) := by unfold removeV; rw [if_neg (nw_ne p), hg]; exact pass_free hl _
      rw [e] at hfr ⊢
      exact ⟨rfl, rfl, hfr, by rw [dropF_at hf.rise, if_neg (nw_self p)]⟩
theorem anew_free (hf : Fit n D) (hl : D.left = -1) (hp : p ≠ nul) (x : ByteArray) : (anewV D p x).2 = 0 := by
  have h1 := append_free hl (nw_ne p) x
  have hf1 := fit_append hf (nw p) x
  have hat : at? (appendV D (nw p) x).1.files (nw p) = some (addF D.files (nw p) x) := by
    rw [h1]
    show at? (withF _ _) _ = _
    rw [withF_at hf.rise, addF_name, if_pos rfl]
  have hl1 : (appendV D (nw p) x).1.left = -1 := by rw [h1]
  have h0 : (appendV D (nw p) x).2 = 0 := by rw [h1]
  obtain ⟨h2, hat2⟩ := sync_at hf1 hl1 (nw_ne p) hat
  have h3 := hat2 (nw p)
  rw [if_pos rfl] at h3
  unfold anewV
  rw [if_neg (by rw [h0]; simp), h2, if_neg (by simp)]
  unfold renameV
  rw [if_neg (fun h => h.elim (nw_ne p) hp)]
  show (match at? (withF _ _) (nw p) with | none => _ | some f => _ : DD × Nat).2 = 0
  rw [h3]
  exact congrArg Prod.snd (pass_free rfl _)
theorem open_free (H : Bs → Bs) (hf : Fit n D) (hl : D.left = -1) (hp : p ≠ nul) : (openV H D p).is = true ∧ (openV H D p).recs = recsV H (readV D p).1 ∧ (openV H D p).err = 0 := by
  obtain ⟨h1, h2, h3, h4⟩ := clear_free hf hl p
  have hr : (readV (clearV D p).1 p).1 = (readV D p).1 := by unfold readV; rw [h4]
  unfold openV
  rw [if_neg hp, if_neg (by rw [h1]; simp), hr]
  split
  · rw [if_neg (by rw [anew_free h3 h2 hp]; simp)]
    exact ⟨rfl, rfl, rfl⟩
  · exact ⟨rfl, rfl, rfl⟩
end
theorem read_some {D : DD} {p : ByteArray} {f : FF} (h : at? D.files p = some f) : readV D p = (f.data, 0) := by unfold readV; rw [h]
theorem crash_read {l : List FF} (h : Rise l) (ps : List Int) {p : ByteArray} {f : FF} (hf : at? l p = some f) (hs : f.data.size ≤ f.sure) : (readV ⟨crashV l ps, -1⟩ p).1 = f.data := by
  obtain ⟨x, hx, ⟨h1, _⟩ | ⟨z, _, h2⟩⟩ := crash_at h ps p f hf
  · unfold readV
    show (match at? (crashV l ps) p with | none => (nul, 10) | some f => (f.data, 0) : ByteArray × Nat).1 = _
    rw [hx]; exact h1
  · omega
theorem crash_none {l : List FF} (ps : List Int) {p : ByteArray} (hf : at? l p = none) : (readV ⟨crashV l ps, -1⟩ p).1 = nul := by
  have h : at? (crashV l ps) p = none := by
    refine at_none.2 fun f hm e => ?_
    have h1 : f.name ∈ (crashV l ps).map (·.name) := List.mem_map.2 ⟨f, hm, rfl⟩
    rw [crash_names] at h1
    obtain ⟨y, hy, e2⟩ := List.mem_map.1 h1
    exact at_none.1 hf y hy (e2.trans e)
  unfold readV
  show (match at? (crashV l ps) p with | none => (nul, 10) | some f => (f.data, 0) : ByteArray × Nat).1 = _
  rw [h]

section
variable {H : Bs → Bs} (hH : ∀ b, 8 ≤ (H b).length)
abbrev log : ByteArray := ⟨#[108, 111, 103]⟩
variable (H) in
/-- The bytes of records' frames. -/
def FL (l : List ByteArray) : ByteArray := ofB (frames H (l.map toB))
variable (H) in
def FR (r : ByteArray) : ByteArray := ofB (frame H (toB r))
def Small (l : List ByteArray) : Prop := ∀ r ∈ l, r.size ≤ most
theorem map_back (l : List ByteArray) : (l.map toB).map ofB = l := by
  rw [List.map_map]
  have : (fun s => ofB (toB s)) = id := funext fun s => ofB_toB s
  show l.map (fun s => ofB (toB s)) = l
  rw [this, List.map_id]
theorem small_toB {l : List ByteArray} (h : Small l) : ∀ r ∈ l.map toB, r.length ≤ most := by
  intro r hr
  obtain ⟨s, hs, rfl⟩ := List.mem_map.1 hr
  exact h s hs
theorem FL_nil : FL H [] = nul := rfl
theorem FL_snoc (l : List ByteArray) (r : ByteArray) : FL H (l ++ [r]) = FL H l ++ FR H r := by
  refine ba_eq ?_
  unfold FL FR
  rw [app_data, List.map_append, List.map_cons, List.map_nil, frames_snoc]
theorem recs_nul : recsV H nul = [] := rfl
include hH
theorem FR_size (r : ByteArray) : (FR H r).size = 12 + r.size := by unfold FR; rw [ofB_size, frame_length hH]; rfl
theorem recs_all {l : List ByteArray} (h : Small l) : recsV H (FL H l) = l := by
  unfold recsV FL
  rw [toB_ofB, scan_all hH (small_toB h), map_back]
theorem recs_tail {l : List ByteArray} (h : Small l) {r : ByteArray} (hr : r.size ≤ most) {k : Nat} (hk : k < (FR H r).size) : recsV H (FL H l ++ (FR H r).extract 0 k) = l := by
  unfold recsV
  have e : toB (FL H l ++ (FR H r).extract 0 k) = frames H (l.map toB) ++ (frame H (toB r)).take k := by
    show (FL H l ++ (FR H r).extract 0 k).data.toList = _
    rw [app_data, ext_front]
    unfold FL FR
    show toB (ofB _) ++ (toB (ofB _)).take k = _
    rw [toB_ofB, toB_ofB]
  have hk2 : k < (frame H (toB r)).length := by
    unfold FR at hk
    rw [ofB_size] at hk
    exact hk
  rw [e, scan_tail hH (small_toB h) hr hk2, map_back]
omit hH

/-- A disk with one file, or none. -/
def one (d : ByteArray) (k : Nat) (c : Int) : DD := ⟨[⟨log, d, k⟩], c⟩
theorem with_one (d d' : ByteArray) (k k' : Nat) : withF [⟨log, d, k⟩] ⟨log, d', k'⟩ = [⟨log, d', k'⟩] := by
  have h1 : decide (nm (⟨log, d, k⟩ : FF) < nm ⟨log, d', k'⟩) = false := decide_eq_false lt_no
  unfold withF
  rw [List.filter_cons, List.filter_cons, h1]
  rfl
variable (H) in
/-- A journal's disk behind so many records, all sure. -/
def logD (l : List ByteArray) (c : Int) : DD := if l = [] then ⟨[], c⟩ else one (FL H l) (FL H l).size c
variable (H) in
/-- .. and one more that isn't sure. -/
def midD (l : List ByteArray) (r : ByteArray) : DD := one (FL H l ++ FR H r) (FL H l).size 0
theorem log_left (l : List ByteArray) (c : Int) : (logD H l c).left = c := by unfold logD; split <;> rfl
theorem log_append (l : List ByteArray) (c : Int) (f : ByteArray) : appendV (logD H l c) log f = if c = 0 then (logD H l 0, 18) else (one (FL H l ++ f) (FL H l).size (if 0 < c then c - 1 else c), 0) := by
  have hne : log ≠ nul := by decide
  have hw : withF (logD H l c).files (addF (logD H l c).files log f) = [⟨log, FL H l ++ f, (FL H l).size⟩] := by
    unfold logD
    by_cases h : l = []
    · rw [if_pos h, h]; rfl
    · rw [if_neg h]
      have e : addF (one (FL H l) (FL H l).size c).files log f = ⟨log, FL H l ++ f, (FL H l).size⟩ := by
        unfold addF one
        rw [at_cons, if_pos rfl]; rfl
      rw [e]
      exact with_one _ _ _ _
  unfold appendV
  rw [if_neg hne, hw]
  unfold passV
  rw [log_left]
  by_cases h : c = 0
  · rw [if_pos h, if_pos h, h]
  · rw [if_neg h, if_neg h]; rfl
theorem sync_one (d : ByteArray) (k : Nat) (c : Int) : syncV (one d k c) log = if c = 0 then (one d k 0, 18) else (one d d.size (if 0 < c then c - 1 else c), 0) := by
  have hne : log ≠ nul := by decide
  unfold syncV
  rw [if_neg hne]
  have hat : at? (one d k c).files log = some ⟨log, d, k⟩ := by unfold one; rw [at_cons, if_pos rfl]
  rw [hat]
  show passV (one d k c) (withF [⟨log, d, k⟩] ⟨log, d, d.size⟩) = _
  rw [with_one]
  unfold passV
  show (if c = 0 then _ else _ : DD × Nat) = _
  by_cases h : c = 0
  · rw [if_pos h, if_pos h, h]
  · rw [if_neg h, if_neg h]; rfl
theorem frame_ok {r : ByteArray} (h : r.size ≤ most) : frameV H r = (FR H r, 0) := by unfold frameV; rw [if_neg (by omega)]; rfl
theorem frames_ok {l : List ByteArray} (h : Small l) : framesV H l = (FL H l, 0) := by
  unfold framesV
  rw [if_neg (fun ⟨r, hr, h2⟩ => by have := h r hr; omega)]; rfl
/-- A record more, in the three ways. -/
theorem add_log (l : List ByteArray) (c : Int) {r : ByteArray} (h : r.size ≤ most) :
    addV H (logD H l c) log r = if c = 0 then (logD H l 0, 18) else if c = 1 then (midD H l r, 18) else (logD H (l ++ [r]) (if 0 < c then c - 2 else c), 0) := by
  unfold addV
  rw [frame_ok h, if_neg (by simp)]
  unfold putV
  rw [log_append]
  by_cases h0 : c = 0
  · rw [if_pos h0, if_pos h0, if_neg (by simp)]
  · rw [if_neg h0, if_neg h0, if_pos rfl]
    show syncV (one _ _ _) log = _
    rw [sync_one]
    by_cases h1 : c = 1
    · rw [if_pos h1, h1]; rfl
    · have hne : ¬ (if 0 < c then c - 1 else c) = 0 := by split <;> omega
      rw [if_neg h1, if_neg hne]
      have hl : logD H (l ++ [r]) (if 0 < c then c - 2 else c) = one (FL H l ++ FR H r) (FL H l ++ FR H r).size (if 0 < c then c - 2 else c) := by
        unfold logD
        rw [if_neg (by simp), FL_snoc]
      rw [hl]
      have e : (if 0 < (if 0 < c then c - 1 else c) then (if 0 < c then c - 1 else c) - 1 else (if 0 < c then c - 1 else c)) = if 0 < c then c - 2 else c := by
        (repeat' split) <;> omega
      rw [e]
theorem log_at (l : List ByteArray) (c : Int) (p : ByteArray) : at? (logD H l c).files p = if l ≠ [] ∧ log = p then some ⟨log, FL H l, (FL H l).size⟩ else none := by
  unfold logD
  by_cases h : l = []
  · rw [if_pos h, if_neg (fun h2 => h2.1 h)]; rfl
  · rw [if_neg h]
    show at? [⟨log, FL H l, (FL H l).size⟩] p = _
    rw [at_cons]
    by_cases e : log = p
    · rw [if_pos e, if_pos ⟨h, e⟩]
    · rw [if_neg e, if_neg (fun h2 => e h2.2)]; rfl
theorem log_rise (l : List ByteArray) (c : Int) : Rise (logD H l c).files := by
  unfold logD
  split
  · exact List.Pairwise.nil
  · exact List.pairwise_singleton _ _
/-- Files in which the log is as it was. -/
theorem read_log {L : List FF} (hr : Rise L) {l : List ByteArray} {c : Int} (h : at? L log = at? (logD H l c).files log) (ps : List Int) : (readV ⟨crashV L ps, -1⟩ log).1 = FL H l := by
  rw [log_at] at h
  by_cases e : l = []
  · rw [if_neg (fun h2 => h2.1 e)] at h
    rw [crash_none ps h, e]; rfl
  · rw [if_pos ⟨e, rfl⟩] at h
    exact crash_read hr ps h (Nat.le_refl _)
include hH
theorem recs_log {L : List FF} (hr : Rise L) {l : List ByteArray} {c : Int} (h : at? L log = at? (logD H l c).files log) (hs : Small l) (ps : List Int) : recsV H (readV ⟨crashV L ps, -1⟩ log).1 = l := by
  rw [read_log hr h ps, recs_all hH hs]
/-- Behind a crash, one record that wasn't sure is there, or not. -/
theorem recs_mid {l : List ByteArray} (hs : Small l) {r : ByteArray} (hr : r.size ≤ most) (ps : List Int) : recsV H (readV ⟨crashV (midD H l r).files ps, -1⟩ log).1 = l ∨ recsV H (readV ⟨crashV (midD H l r).files ps, -1⟩ log).1 = l ++ [r] := by
  have hsz : (FL H l ++ FR H r).size = (FL H l).size + (FR H r).size := ba_size_append _ _
  have hfr := FR_size hH r
  have hlt : (FL H l).size < (FL H l ++ FR H r).size := by omega
  obtain ⟨z, hz⟩ : ∃ z, ps.headD 0 = z := ⟨_, rfl⟩
  have hc : crashV (midD H l r).files ps = [cutV ⟨log, FL H l ++ FR H r, (FL H l).size⟩ z] := by
    unfold midD one
    show crashV [_] ps = _
    unfold crashV
    rw [if_pos hlt, hz]
    rfl
  obtain ⟨k, hk⟩ : ∃ k, (z % (((FL H l ++ FR H r).size : Int) - (FL H l).size + 1)).toNat = k := ⟨_, rfl⟩
  have hkl : k ≤ (FR H r).size := by
    have h1 := Int.emod_lt_of_pos z (show (0 : Int) < ((FL H l ++ FR H r).size : Int) - (FL H l).size + 1 by omega)
    omega
  have hd : (readV ⟨crashV (midD H l r).files ps, -1⟩ log).1 = FL H l ++ (FR H r).extract 0 k := by
    rw [hc, read_some (D := ⟨[cutV ⟨log, FL H l ++ FR H r, (FL H l).size⟩ z], -1⟩) (f := cutV ⟨log, FL H l ++ FR H r, (FL H l).size⟩ z) (by show at? [cutV _ z] log = _; rw [at_cons]; exact if_pos rfl)]
    show (cutV _ z).data = _
    unfold cutV
    show (FL H l ++ FR H r).extract 0 ((FL H l).size + _) = _
    rw [hk]
    refine ba_eq ?_
    rw [ext_front, app_data, app_data, ext_front, List.take_append, List.take_of_length_le (by rw [bdata_length]; omega)]
    congr 2
    rw [bdata_length]; omega
  rw [hd]
  by_cases h : k < (FR H r).size
  · exact .inl (recs_tail hH hs hr h)
  · right
    rw [show k = (FR H r).size by omega, ext_all, ← FL_snoc]
    exact recs_all hH (fun x hx => (List.mem_append.1 hx).elim (hs x) (fun h => by rw [List.mem_singleton.1 h]; exact hr))
end
end Jl
end Go.Proofs.YtogpigfepebibaaGreatDoor

namespace Go.Proofs.YtogpigfepebibaaGreatDoor
namespace Jl
open Dk

section
variable {H : Bs → Bs}
theorem log_fit (l : List ByteArray) {c : Int} {n : Nat} (hs : (FL H l).size ≤ n) (hn : 1 ≤ n) (h1 : -1 ≤ c) (h2 : c ≤ 9223372036854775807) : Fit n (logD H l c) := by
  have hm : ∀ f ∈ (logD H l c).files, f = ⟨log, FL H l, (FL H l).size⟩ := fun f hf => by
    unfold logD at hf
    split at hf
    · simp at hf
    · exact List.mem_singleton.1 hf
  refine ⟨log_rise l c, fun f hf => by rw [hm f hf]; exact Nat.le_refl _, fun f hf => by rw [hm f hf]; exact hs, ?_, by rw [log_left]; exact h1, by rw [log_left]; exact h2⟩
  unfold logD
  split
  · exact Nat.zero_le _
  · exact hn
theorem mid_fit (l : List ByteArray) (r : ByteArray) {n : Nat} (hs : (FL H l).size + (FR H r).size ≤ n) (hn : 1 ≤ n) : Fit n (midD H l r) := by
  have hz : (FL H l ++ FR H r).size = (FL H l).size + (FR H r).size := ba_size_append _ _
  have hm : ∀ f ∈ (midD H l r).files, f = ⟨log, FL H l ++ FR H r, (FL H l).size⟩ := fun f hf => List.mem_singleton.1 hf
  refine ⟨List.pairwise_singleton _ _, fun f hf => ?_, fun f hf => ?_, hn, (by decide : (-1 : Int) ≤ 0), (by decide : (0 : Int) ≤ 9223372036854775807)⟩
  · rw [hm f hf]
    show (FL H l).size ≤ (FL H l ++ FR H r).size
    omega
  · rw [hm f hf]
    show (FL H l ++ FR H r).size ≤ n
    omega
theorem clear_log (l : List ByteArray) (c : Int) : clearV (logD H l c) log = (logD H l c, 0) := by
  unfold clearV
  rw [if_pos (by rw [log_at, if_neg (fun h => nw_self log h.2.symm)])]
/-- A swap, in its ways. -/
theorem swap_log (was now : List ByteArray) {c : Int} {n : Nat} (hc : 0 ≤ c) (hc2 : c ≤ 5) (hn : Small now) (hs : (FL H was).size ≤ n) (h1 : 1 ≤ n) :
    Rise (swapV H (logD H was c) log now).1.files ∧ (((swapV H (logD H was c) log now).2 = 0 ∧ at? (swapV H (logD H was c) log now).1.files log = some ⟨log, FL H now, (FL H now).size⟩) ∨ ((swapV H (logD H was c) log now).2 ≠ 0 ∧ at? (swapV H (logD H was c) log now).1.files log = at? (logD H was c).files log)) := by
  have hf := log_fit (H := H) was (c := c) hs h1 (by omega) (by omega)
  obtain ⟨D, hD⟩ : ∃ D, logD H was c = D := ⟨_, rfl⟩
  have hleft : D.left = c := by rw [← hD, log_left]
  have hnone : at? D.files (nw log) = none := by rw [← hD, log_at, if_neg (fun h => nw_self log h.2.symm)]
  have hcl := clear_log (H := H) was c
  rw [hD] at hf hcl ⊢
  obtain ⟨f, hfe⟩ : ∃ f, FL H now = f := ⟨_, rfl⟩
  have e0 : swapV H D log now = anewV D log f := by
    unfold swapV
    rw [frames_ok hn, if_neg (by simp)]
    unfold restV
    rw [hcl, if_pos rfl, hfe]
  rw [e0, hfe]
  have hadd : addF D.files (nw log) f = ⟨nw log, f, 0⟩ := by
    unfold addF
    rw [hnone]
    show FF.mk (nw log) (nul ++ f) 0 = _
    rw [nul_app]
  have ha : appendV D (nw log) f = passV D (withF D.files ⟨nw log, f, 0⟩) := by unfold appendV; rw [if_neg (nw_ne _), hadd]
  have hfa := fit_append hf (nw log) f
  unfold anewV
  by_cases c0 : c = 0
  · have e1 : appendV D (nw log) f = (D, 18) := by rw [ha]; unfold passV; rw [if_pos (hleft.trans c0)]
    rw [e1, if_pos (by simp)]
    exact ⟨hf.rise, .inr ⟨by simp, rfl⟩⟩
  have e1 : appendV D (nw log) f = (⟨withF D.files ⟨nw log, f, 0⟩, c - 1⟩, 0) := by
    rw [ha]; unfold passV; rw [if_neg (by rw [hleft]; exact c0), if_pos (by rw [hleft]; omega), hleft]
  rw [e1] at hfa ⊢
  rw [if_neg (by simp)]
  have a1 : at? (withF D.files ⟨nw log, f, 0⟩) (nw log) = some ⟨nw log, f, 0⟩ := by rw [withF_at hf.rise, if_pos rfl]
  have a2 : at? (withF D.files ⟨nw log, f, 0⟩) log = at? D.files log := by rw [withF_at hf.rise, if_neg (nw_self log)]
  obtain ⟨L1, hL1⟩ : ∃ L1, withF D.files ⟨nw log, f, 0⟩ = L1 := ⟨_, rfl⟩
  rw [hL1] at hfa a1 a2 ⊢
  have hs1 : syncV ⟨L1, c - 1⟩ (nw log) = passV ⟨L1, c - 1⟩ (withF L1 ⟨nw log, f, f.size⟩) := by unfold syncV; rw [if_neg (nw_ne _), a1]
  have hfs := fit_sync hfa (nw log)
  by_cases c1 : c = 1
  · have e2 : syncV ⟨L1, c - 1⟩ (nw log) = (⟨L1, c - 1⟩, 18) := by rw [hs1]; unfold passV; rw [if_pos (show c - 1 = 0 by omega)]
    rw [e2, if_pos (by simp)]
    exact ⟨hfa.rise, .inr ⟨by simp, a2⟩⟩
  have e2 : syncV ⟨L1, c - 1⟩ (nw log) = (⟨withF L1 ⟨nw log, f, f.size⟩, c - 2⟩, 0) := by
    rw [hs1]; unfold passV
    rw [if_neg (show ¬ c - 1 = 0 by omega), if_pos (show 0 < c - 1 by omega), show c - 1 - 1 = c - 2 by omega]
  rw [e2] at hfs ⊢
  rw [if_neg (by simp)]
  have b1 : at? (withF L1 ⟨nw log, f, f.size⟩) (nw log) = some ⟨nw log, f, f.size⟩ := by rw [withF_at hfa.rise, if_pos rfl]
  have b2 : at? (withF L1 ⟨nw log, f, f.size⟩) log = at? D.files log := by rw [withF_at hfa.rise, if_neg (nw_self log), a2]
  obtain ⟨L2, hL2⟩ : ∃ L2, withF L1 ⟨nw log, f, f.size⟩ = L2 := ⟨_, rfl⟩
  rw [hL2] at hfs b1 b2 ⊢
  have hr : renameV ⟨L2, c - 2⟩ (nw log) log = passV ⟨L2, c - 2⟩ (withF (dropF L2 (nw log)) ⟨log, f, f.size⟩) := by
    unfold renameV; rw [if_neg (fun h => h.elim (nw_ne _) (by decide)), b1]
  rw [hr]
  unfold passV
  by_cases c2 : c = 2
  · rw [if_pos (show c - 2 = 0 by omega)]
    exact ⟨hfs.rise, .inr ⟨by simp, b2⟩⟩
  · rw [if_neg (show ¬ c - 2 = 0 by omega)]
    refine ⟨withF_rise (dropF_rise hfs.rise _) _, .inl ⟨rfl, ?_⟩⟩
    show at? (withF _ _) log = _
    rw [withF_at (dropF_rise hfs.rise _), if_pos rfl]
/-- .. and opened again. -/
theorem swap_recs (hH : ∀ b, 8 ≤ (H b).length) (was now : List ByteArray) {c : Int} {n : Nat} (hc : 0 ≤ c) (hc2 : c ≤ 5) (hw : Small was) (hn : Small now) (hs : (FL H was).size ≤ n) (h1 : 1 ≤ n) (ps : List Int) :
    recsV H (readV ⟨crashV (swapV H (logD H was c) log now).1.files ps, -1⟩ log).1 = if (swapV H (logD H was c) log now).2 = 0 then now else was := by
  obtain ⟨hr, ⟨h2, h3⟩ | ⟨h2, h3⟩⟩ := swap_log (H := H) was now hc hc2 hn hs h1
  · rw [if_pos h2, crash_read hr ps h3 (Nat.le_refl _), recs_all hH hn]
  · rw [if_neg h2]
    exact recs_log hH hr h3 hw ps
theorem FL_le (hH : ∀ b, 8 ≤ (H b).length) {m : Nat} : ∀ {l : List ByteArray}, (∀ r ∈ l, r.size ≤ m) → (FL H l).size ≤ l.length * (12 + m)
  | [], _ => Nat.zero_le _
  | r :: l, h => by
    have ih := FL_le hH (l := l) (fun x hx => h x (List.mem_cons_of_mem _ hx))
    have hr := h r List.mem_cons_self
    have e : FL H (r :: l) = FR H r ++ FL H l := by
      refine ba_eq ?_
      rw [app_data]
      unfold FL FR
      show toB (ofB _) = toB (ofB _) ++ toB (ofB _)
      simp only [toB_ofB]
      rfl
    rw [e, ba_size_append, FR_size hH, List.length_cons, Nat.add_mul]
    omega
end
end Jl
end Go.Proofs.YtogpigfepebibaaGreatDoor
