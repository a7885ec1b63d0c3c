/-
  Layer 6 (blobs): two stores side by side; what texts put in any order leave.
-/
import Derived.Test.YtiilmgbobjagkaaDoorCK
namespace Go.Proofs.YtiilmgbobjagkaaDoor
namespace Bl
open Go.RowKit Kr

/-! Texts, put. -/
def blob (s : Bs) : Bb := (Sh.dig s, s)
/-- No two unlike texts have one digest. -/
def Pure (l : List Bs) : Prop := ∀ a ∈ l, ∀ b ∈ l, Sh.dig a = Sh.dig b → a = b
/-- A row that has just texts of l, those of p among them. -/
structure Has (l p : List Bs) (row : List Bb) : Prop where
  rise : Rise row
  of : ∀ f ∈ row, ∃ s ∈ l, f = blob s
  all : ∀ s ∈ p, blob s ∈ row
theorem has_nil (l : List Bs) : Has l [] [] := ⟨List.Pairwise.nil, fun f h => by simp at h, fun s h => by simp at h⟩
theorem Has.same {l p : List Bs} {row : List Bb} {s : Bs} (h : Has l p row) (hp : Pure l) (hs : s ∈ l) : ∀ y, Bl.get row (Sh.dig s) = some y → y = s := fun y hy => by
  obtain ⟨a, ha, e⟩ := h.of _ ((get_some h.rise).1 hy)
  injection e with e1 e2
  rw [e2]
  exact hp a ha s hs e1.symm
theorem Has.put {l p : List Bs} {row : List Bb} {s : Bs} (h : Has l p row) (hp : Pure l) (hs : s ∈ l) : Has l (p ++ [s]) (putV row (blob s)) := by
  have hr := put_rise (blob s) h.rise
  have hm : ∀ f, f ∈ putV row (blob s) → f = blob s ∨ f ∈ row := fun f hf => by
    unfold putV at hf
    split at hf
    · exact .inr hf
    · rw [insV_eq _ h.rise] at hf
      exact (insAt_mem _ _ _).1 hf
  have hold : ∀ f ∈ row, f ∈ putV row (blob s) := fun f hf => by
    unfold putV
    split
    · exact hf
    · rw [insV_eq _ h.rise]
      exact (insAt_mem _ _ _).2 (.inr hf)
  refine ⟨hr, fun f hf => ?_, fun x hx => ?_⟩
  · rcases hm f hf with rfl | hf
    · exact ⟨s, hs, rfl⟩
    · exact h.of f hf
  · rcases List.mem_append.1 hx with hx | hx
    · exact hold _ (h.all x hx)
    · obtain rfl := List.mem_singleton.1 hx
      refine (get_some hr (d := Sh.dig x) (x := x)).1 ?_
      rw [put_get (blob x) h.rise]
      cases hg : Bl.get row (Sh.dig x) with
      | none => rw [if_pos ⟨rfl, rfl⟩]; rfl
      | some y => rw [if_neg (by rintro ⟨_, h2⟩; cases h2), h.same hp hs y hg]
theorem Has.less {l p q : List Bs} {row : List Bb} (h : Has l p row) (hq : ∀ s ∈ q, s ∈ p) : Has l q row := ⟨h.rise, h.of, fun s hs => h.all s (hq s hs)⟩
theorem Has.one {l p q : List Bs} {s t : List Bb} (hs : Has l p s) (ht : Has l q t) (hp : ∀ x ∈ l, x ∈ p) (hq : ∀ x ∈ l, x ∈ q) : s = t := by
  have hm : ∀ f, f ∈ s ↔ f ∈ t := fun f => ⟨fun hf => by obtain ⟨x, hx, rfl⟩ := hs.of f hf; exact ht.all x (hq x hx), fun hf => by obtain ⟨x, hx, rfl⟩ := ht.of f hf; exact hs.all x (hp x hx)⟩
  exact List.Perm.eq_of_pairwise (le := fun a b => a.1 < b.1) (fun a b _ _ h1 h2 => absurd (lt_lt h1 h2) lt_no) hs.rise ht.rise ((List.perm_ext_iff_of_nodup (rise_nodup hs.rise) (rise_nodup ht.rise)).2 hm)
theorem sub_len {α : Type} [DecidableEq α] : ∀ (s t : List α), s.Nodup → (∀ x ∈ s, x ∈ t) → s.length ≤ t.length
  | [], _, _, _ => Nat.zero_le _
  | x :: s, t, hn, h => by
    obtain ⟨h1, h2⟩ := List.nodup_cons.1 hn
    have hx := h x List.mem_cons_self
    have ih := sub_len s (t.erase x) h2 fun y hy => (List.mem_erase_of_ne (fun e => h1 (by rw [← e]; exact hy))).2 (h y (List.mem_cons_of_mem _ hy))
    rw [List.length_erase_of_mem hx] at ih
    have := List.length_pos_of_mem hx
    rw [List.length_cons]
    omega
theorem Has.len {l p : List Bs} {row : List Bb} (h : Has l p row) : row.length ≤ l.length := by
  have h1 := sub_len row (l.map blob) (rise_nodup h.rise) fun f hf => by
    obtain ⟨s, hs, rfl⟩ := h.of f hf
    exact List.mem_map.2 ⟨s, hs, rfl⟩
  rwa [List.length_map] at h1
theorem Has.fits {l p : List Bs} {row : List Bb} (h : Has l p row) (hn : l.length ≤ 100) (hs : ∀ s ∈ l, s.length ≤ 1000) : Fits row := by
  refine ⟨h.rise, fun f hf => ?_, Nat.le_trans h.len hn, fun f hf => ?_⟩
  · obtain ⟨s, _, rfl⟩ := h.of f hf
    exact Sh.dig_length _
  · obtain ⟨s, hs2, rfl⟩ := h.of f hf
    exact hs s hs2

/-! Two stores. -/
structure Two (R : World → (Nat → Prop) → Nat → List Bb → Prop) (B : Nat) (w0 W : World) (Sa : Nat → Prop) (a : Nat) (la : List Bb) (Sb : Nat → Prop) (b : Nat) (lb : List Bb) : Prop where
  sa : St R B w0 W Sa a la
  sb : St R B w0 W Sb b lb
  dis : ∀ q, Sa q → ¬ Sb q
section
variable {R : World → (Nat → Prop) → Nat → List Bb → Prop} {B a b : Nat} {w0 W W' : World} {la la' lb lb' : List Bb} {Sa Sa' Sb Sb' : Nat → Prop}
theorem Two.turned (h : Two R B w0 W Sa a la Sb b lb) : Two R B w0 W Sb b lb Sa a la := ⟨h.sb, h.sa, fun q hq hn => h.dis q hn hq⟩
theorem Two.later (hK : Keeps R) (h : Two R B w0 W Sa a la Sb b lb) (hb : Below W.heap.size W W') : Two R B w0 W' Sa a la Sb b lb := ⟨h.sa.later hK hb, h.sb.later hK hb, h.dis⟩
theorem Two.acted (hK : Keeps R) (h : Two R B w0 W Sa a la Sb b lb) (hr : R W' Sa' a la') (hq : ∀ q, Sa' q → Sa q ∨ W.heap.size ≤ q) (ha : Away Sa W W') : Two R B w0 W' Sa' a la' Sb b lb := by
  have h1 := h.sa.acted hr hq ha
  refine ⟨h1, ⟨h.sb.low, h1.below, h1.ok, h.sb.own, hK.keep h.sb.has fun q hs => ha.block q (hK.inside h.sb.has q hs) (fun hn => h.dis q hn hs)⟩, fun q hs hn => ?_⟩
  rcases hq q hs with h2 | h2
  · exact h.dis q h2 hn
  · exact absurd (hK.inside h.sb.has q hn) (Nat.not_lt.2 h2)
end
end Bl
end Go.Proofs.YtiilmgbobjagkaaDoor
