/-
  CLOSED FACTS of the whole program, each a lemma of its own (the kernel gives its memory back behind each).
-/
import Derived.Test.YtmepffenlgedbaaGreatDoorCards
import Derived.Test.YtmepffenlgedbaaGreatDoorTie
import Derived.WalkKit
import Derived.ProofKit
import Derived.OpenShut
import Derived.Carry
import Derived.Deep.DeepHandedRow
import Derived.Lib.LaidTab
import Derived.Stop.LaidErr
namespace Go.Proofs.YtmepffenlgedbaaGreatDoor
open Go.ChangeShapes Go.WideShapes Go.ChangeAt Go.RowKit

theorem pfOut : laidOutB Tryz.prog = true := by kernel_rfl
theorem pfMaps : mapsRowed Tryz.prog = true := by kernel_rfl
theorem pfHeard : Tryz.prog.stopsHeard = true := by kernel_rfl
theorem pfEnter : Tryz.prog.mayEnter = true := by kernel_rfl
theorem pfLift : (Rows.readsRow.lifted == Tryz.prog.liftsFinal) = true := by kernel_rfl
theorem pfKeys : (Rows.readsRow.plainKeys == Tryz.prog.plainKeys) = true := by kernel_rfl
theorem pfMake : (Tryz.prog.make == some Rows.readsRow.make) = true := by kernel_rfl
theorem jrPlace : (Rows.readsRow.inPlace == Tryz.prog.inPlace 3) = true := by kernel_rfl
theorem jrFollow : (Rows.readsRow.unfollowed == Tryz.prog.unfollowed 3) = true := by kernel_rfl
theorem jrRec : (Rows.readsRow.recurses == Tryz.prog.recurses 3) = true := by kernel_rfl
theorem jrNamed : (Rows.readsRow.named == Tryz.prog.varsNamed 3) = true := by kernel_rfl

theorem jfReads : joinedFacts Tryz.prog 3 Tryz.f3 (OpenSpec.ofChange Rows.readsSpec).bare Rows.readsRow = true := by
  unfold joinedFacts
  rw [pfOut, pfMaps, pfHeard, pfEnter, pfLift, pfKeys, pfMake, jrPlace, jrFollow, jrRec, jrNamed]
  kernel_rfl

end Go.Proofs.YtmepffenlgedbaaGreatDoor
