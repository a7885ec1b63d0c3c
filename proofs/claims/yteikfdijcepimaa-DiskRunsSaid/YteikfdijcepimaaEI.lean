/-
  Layer 7 (disk): the landed disk keeps what the laws ask.
-/
import Derived.Test.YteikfdijcepimaaEH
namespace Go.Proofs.Yteikfdijcepimaa
namespace Dk
open Go.RowKit Go.ChangeShapes Kr Go.Maps

theorem keeps : Keeps Rd where
  keep := rd_keep
  inside := rd_inside
  bound := rd_bound
  new := prog_new
  append := fun w S b D p x h hf hp hx => prog_append w S b D p x h hf hp hx
  sync := fun w S b D p h hf hp => prog_sync w S b D p h hf hp
  rename := fun w S b D p q h hf hp hq => prog_rename w S b D p q h hf hp hq
  remove := fun w S b D p h hf hp => prog_remove w S b D p h hf hp
  budget := fun w S b D z h _ _ _ => prog_budget w S b D z h
  read := fun w S b D p h _ hp => prog_read w S b D p h hp
  names := fun w S b D h hf => prog_names w S b D h hf
  crash := fun w S b D A n cap ps h hf hn hnc hnm hpz hp => prog_crash w S b D A n cap ps h hf hn hnc hnm hpz hp
end Dk
end Go.Proofs.Yteikfdijcepimaa
