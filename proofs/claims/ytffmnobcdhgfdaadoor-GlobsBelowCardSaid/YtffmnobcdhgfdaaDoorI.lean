/-
  Layer 3 (path): the walks of May, isDirectory, only, Base.
-/
import Derived.Test.YtffmnobcdhgfdaaDoorH
namespace Go.Proofs.YtffmnobcdhgfdaaDoor
namespace Pt
open Go.RowKit Go.Shelf

theorem may_any (s : ByteArray) (b : Bool) (hb : may s.data.toList = b) (w : World) (hs : s.size ≤ 100000) :
    Calls Tryd.prog 26 #[.string s] w fun e w' => e = .returned (.bool b) ∧ Below w.heap.size w w' := by
  have hc := count_any s w hs
  have hp := cnt_pos s.data.toList
  generalize cnt s.data.toList = n at hc hp
  rw [hb] at hp
  have HC := Lib.hid hc
  have hb' : b = decide (0 < n) := hp.symm
  have HB := Lib.hid hb'
  clear hc hp hb hb'
  go_enter Tryd.func26, Tryd.ntmps26
  go_wp2_with fail
  refine HC.out.mono ?_
  rintro e w1 ⟨rfl, hb1⟩
  have HB1 := Lib.hid hb1
  clear hb1
  go_wp2
  go_ret
  rw [HB.out]
  exact ⟨rfl, HB1.out⟩

end Pt
end Go.Proofs.YtffmnobcdhgfdaaDoor
