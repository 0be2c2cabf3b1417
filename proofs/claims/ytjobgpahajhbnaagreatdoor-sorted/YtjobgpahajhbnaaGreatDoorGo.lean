import Derived.Test.YtjobgpahajhbnaaGreatDoorXq
namespace Go.Proofs.YtjobgpahajhbnaaGreatDoor
open Go.ChangeShapes Go.WideShapes Go.ChangeAt Go.WideMaps Go.WideElems Go.RowKit

theorem sorted_facts : joinedFacts Tryz.pinned.checked.prog 8 Tryz.f8 Rows.sortedSpec Rows.sortedRow = true := by kernel_rfl
end Go.Proofs.YtjobgpahajhbnaaGreatDoor
