import Derived.Test.YtjobgpahajhbnaaGreatDoorLh
namespace Go.Proofs.YtjobgpahajhbnaaGreatDoor
open Go.ChangeShapes Go.WideShapes Go.ChangeAt Go.WideMaps Go.WideElems Go.RowKit

theorem named_facts : joinedFacts Tryz.pinned.checked.prog 11 Tryz.f11 Rows.namedSpec Rows.namedRow = true := by
  unfold joinedFacts
  rw [named_f1, named_f2, named_f3, named_f4]
  kernel_rfl
end Go.Proofs.YtjobgpahajhbnaaGreatDoor
