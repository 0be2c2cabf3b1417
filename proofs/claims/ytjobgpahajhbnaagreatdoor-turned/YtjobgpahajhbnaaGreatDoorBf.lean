import Derived.Test.YtjobgpahajhbnaaGreatDoorXq
namespace Go.Proofs.YtjobgpahajhbnaaGreatDoor
open Go.ChangeShapes Go.WideShapes Go.ChangeAt Go.WideMaps Go.WideElems Go.RowKit

theorem turned_facts : joinedFacts Tryz.pinned.checked.prog 7 Tryz.f7 Rows.turnedSpec Rows.turnedRow = true := by kernel_rfl
end Go.Proofs.YtjobgpahajhbnaaGreatDoor
