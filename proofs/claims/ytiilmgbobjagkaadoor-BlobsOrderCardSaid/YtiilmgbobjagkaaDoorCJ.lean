/-
  Layer 6 (blobs): the library's SortedFunc at digests; the program's All; what the laws ask of the program's stores.
-/
import Derived.Test.YtiilmgbobjagkaaDoorCI
import Derived.Test.YtiilmgbobjagkaaDoorSort
import Derived.Shelf.SlSortCmp.NoneTotal
namespace Go.Proofs.YtiilmgbobjagkaaDoor
namespace Bl
open Go.RowKit Go.Shelf Kr Go.Maps Go.Sort

theorem encD_one (x : Bs) : ∀ v ∈ encD x, v.oneCell' = true := fun v hv => (Array.all_eq_true_iff_forall_mem.1 (Sh.bvals_one (fix32 x))) v (by unfold encD at hv; simpa using hv)
theorem cmp_lays (g size : Nat) (w : World) : CmpLays Tryd.prog 30 #[] encD 32 cfD g 0 size w := fun _ _ _ _ x y => compare_any (fix32 x) (fix32 y) _ (fix32_length x) (fix32_length y)
theorem compare_enters : ∀ args w, (callFunc 30 args).run Tryd.prog w = .ok (.enter 30 args) w := enters_of Tryd.func30 (by kernel_rfl) rfl

theorem sort_any (g n cap base : Nat) (ss : List Bs) (W : World) (hn : ss.length = n) (hs : n ≤ 1000) (h : OwnsK encD 32 29 W base (.slice (some ⟨g, 0, none⟩) n cap) ss) :
    Calls Tryd.prog 34 #[.slice (some ⟨g, 0, none⟩) n cap, .func (.func 30) #[] #[]] W fun e w' =>
      e = .returned (.tuple #[]) ∧ ∃ d' q os, PermIn 0 ss.toArray.size ss.toArray d' ∧ SortedIn (ltOf cfD) 0 ss.toArray.size d' ∧ w' = sortWorldK encD 32 W g 0 q d' os := by
  have hsz : ss.toArray.size = n := by simp [hn]
  have hcon := AnyQ.slices_SortFunc Tryd.sortDig 32 digest_agg digest_size encD encD_length encD_one cfD swo_cf 30 #[] g 0 cap ss.toArray W compare_enters (cmp_lays g _ W) (holds_of_owns h) (h.lt g rfl).2 (by omega)
  change Calls Tryd.prog 34 _ _ _ at hcon
  rw [hsz] at hcon ⊢
  exact hcon

set_option maxRecDepth 100000 in
theorem collect_any (Bm m : Nat) (D : DataW Unit) (l : List Bb) (w : World) (hBm : Bm < w.heap.size) (hm : w.cell? ⟨Bm, 0, none⟩ = some (.map (some m)))
    (hown : w.ownsMap Tryd.prog 29 (plainElem Tryd.prog 9) m l.length D) (h4 : MapOf D l) (hr : Rise l) (hl : l.length ≤ 100) :
    Calls Tryd.prog 33 #[.func (.func 35) #[] #[.pointer (some ⟨Bm, 0, none⟩)]] w fun e w' =>
      ∃ v ss, e = .returned v ∧ ss.Perm (l.map (·.1)) ∧ OwnsK encD 32 29 w' w.heap.size v ss ∧ Below w.heap.size w w' := by
  have HA := Lib.hid (append_seq_any Bm m D l w hBm hm hown h4 hr hl)
  clear hBm hm hown h4 hr hl
  go_enter Tryd.func33, Tryd.ntmps33
  go_wp2_with fail
  refine HA.out.mono ?_
  rintro e w' ⟨v, ss, rfl, h1, h2, h3⟩
  have H1 := Lib.hid h1
  have H2 := Lib.hid h2
  have H3 := Lib.hid h3
  clear h1 h2 h3
  go_wp2
  go_ret
  exact ⟨v, ss, rfl, H1.out, H2.out, H3.out⟩

set_option maxRecDepth 100000 in
set_option maxHeartbeats 4000000 in
theorem sorted_any (Bm m : Nat) (D : DataW Unit) (l : List Bb) (w : World) (hBm : Bm < w.heap.size) (hm : w.cell? ⟨Bm, 0, none⟩ = some (.map (some m)))
    (hown : w.ownsMap Tryd.prog 29 (plainElem Tryd.prog 9) m l.length D) (h4 : MapOf D l) (hf : Fits l) :
    Calls Tryd.prog 28 #[.func (.func 35) #[] #[.pointer (some ⟨Bm, 0, none⟩)], .func (.func 30) #[] #[]] w fun e w' =>
      ∃ A m cap, e = .returned (.slice A m cap) ∧ l.length = m ∧ DRow w' w'.heap.size A (l.map (·.1)) ∧ Below w.heap.size w w' := by
  have HA := Lib.hid (collect_any Bm m D l w hBm hm hown h4 hf.1 hf.2.2.1)
  have HF := Lib.hid hf
  clear hBm hm hown h4 hf
  go_enter Tryd.func28, Tryd.ntmps28
  go_wp2_with fail
  refine HA.out.mono ?_
  rintro e w1 ⟨v, ss, rfl, h1, h2, h3⟩
  have hlen : ss.length = l.length := by rw [h1.length_eq]; simp
  have HL := Lib.hid hlen
  have H1 := Lib.hid h1
  have H2 := Lib.hid h2
  have H3 := Lib.hid h3
  obtain ⟨n, hn⟩ : ∃ n, l.length = n := ⟨_, rfl⟩
  have HN := Lib.hid hn
  have hn2 : ss.length = n := hlen.trans hn
  have HN2 := Lib.hid hn2
  have hfo : (v = .slice none 0 0 ∧ n = 0) ∨ ∃ g cap, v = .slice (some ⟨g, 0, none⟩) n cap ∧ w.heap.size ≤ g := by
    rcases h2.2 with ⟨hv, h0⟩ | ⟨g, cap, cur, hv, hb, _⟩
    · exact .inl ⟨hv, by rw [← hn2]; exact h0⟩
    · exact .inr ⟨g, cap, by rw [hv, hn2], hb⟩
  clear h1 h2 h3 hlen hn hn2
  rcases hfo with ⟨rfl, rfl⟩ | ⟨g, cap, rfl, hg⟩
  · have hcon := fun W => AnyF.slices_SortFunc_none Tryd.sortDig none 0 (.func (.func 30) #[] #[]) W
    change ∀ W, Calls Tryd.prog 34 _ _ _ at hcon
    have HC := Lib.hid hcon
    clear hcon
    go_wp2_with fail
    refine (HC.out _).mono ?_
    rintro e w2 ⟨rfl, rfl⟩
    go_wp2
    go_ret
    refine ⟨none, 0, 0, rfl, HN.out, ?_, H3.out⟩
    have e0 : l = [] := List.eq_nil_of_length_eq_zero HN.out
    subst e0
    intro j x hx
    simp at hx
  · have HC := Lib.hid (sort_any g n cap w.heap.size ss w1 HN2.out (by have := HF.out.2.2.1; have := HN.out; omega) (by have := H2.out; exact this))
    have HG := Lib.hid hg
    clear hg
    go_wp2_with fail
    refine HC.out.mono ?_
    rintro e w2 ⟨rfl, d', q, os, hp, hs, rfl⟩
    have he := sorted_same HF.out.1 HF.out.2.1 H1.out hp hs
    have hds : d'.size = ss.toArray.size := hp.1
    have HH := Lib.hid (holdsK_sortWorldK_c encD 32 w1 g 0 ss.toArray d' q os (holds_of_owns H2.out) (H2.out.lt g rfl).2 hds)
    have HB : Hid (Below w.heap.size w1 (sortWorldK encD 32 w1 g 0 q d' os)) := below_sort HG.out H3.out.size
    have HLT : Hid (g < (sortWorldK encD 32 w1 g 0 q d' os).heap.size) := Nat.lt_of_lt_of_le (H2.out.lt g rfl).2 (size_sortWorldK_c encD 32 w1 g 0 q d' os)
    have HE := Lib.hid he
    generalize sortWorldK encD 32 w1 g 0 q d' os = w2 at HH HB HLT
    clear he hp hs hds
    go_wp2
    go_ret
    refine ⟨some ⟨g, 0, none⟩, n, cap, rfl, HN.out, ?_, H3.out.trans HB.out⟩
    rw [← HE.out]
    exact row_of_holds HH.out HLT.out

set_option maxRecDepth 100000 in
set_option maxHeartbeats 4000000 in
theorem prog_all (w : World) (S : Nat → Prop) (b : Nat) (l : List Bb) (h : Rs w S b l) (hf : Fits l) :
    Calls Tryd.prog 21 #[ptr b] w fun e w' => ∃ A m cap, e = .returned (.slice A m cap) ∧ l.length = m ∧ DRow w' w'.heap.size A (l.map (·.1)) ∧ Below w.heap.size w w' := by
  obtain ⟨m, _, h2, D, h3, h4⟩ := h
  have hcb := cell_of h2
  have HF := Lib.hid hf
  have H4 := Lib.hid h4
  have HO := Lib.hid h3
  clear h2 h4 h3 hf
  go_enter Tryd.func21, Tryd.ntmps21
  go_wp2_with fail
  refine (keys_any (some m) _).mono ?_
  rintro e w1 ⟨rfl, rfl⟩
  have HS := Lib.hid (sorted_any w.heap.size m D l (w.alloc (.cells #[.map (some m)] 53)) (by simp) (cell_of (MapKept.heap_alloc w _).1) (HO.out.alloc _) H4.out HF.out)
  go_wp2_with fail
  refine HS.out.mono ?_
  rintro e w2 ⟨A, n, cap, rfl, hn, hd, hb⟩
  have HD := Lib.hid hd
  have HN := Lib.hid hn
  have HB : Hid (Below w.heap.size w w2) := ((Below.refl _ _).alloc (Nat.le_refl _) _).trans (hb.mono (by simp))
  clear hd hb hn
  go_wp2
  go_ret
  exact ⟨A, n, cap, rfl, HN.out, HD.out, HB.out⟩

theorem keeps : Keeps Rs where
  keep := rs_keep
  inside := rs_inside
  new := prog_new
  put w B S b l X h ho _ hf hX hy := prog_put w B S b l X h ho hf hX hy
  get w S b l d Y t h _ hd hY ht := prog_get w S b l d Y t h hd hY ht
  drop w S b l d t h hf hd ht := prog_drop w S b l d t h hf.1 hd ht
  all := prog_all
  size := prog_size
end Bl
end Go.Proofs.YtiilmgbobjagkaaDoor
