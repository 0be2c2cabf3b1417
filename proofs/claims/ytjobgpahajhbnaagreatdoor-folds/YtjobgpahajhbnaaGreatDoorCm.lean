import Derived.Test.YtjobgpahajhbnaaGreatDoorXq
namespace Go.Proofs.YtjobgpahajhbnaaGreatDoor
open Go.ChangeShapes Go.WideShapes Go.ChangeAt Go.WideMaps Go.WideElems Go.RowKit

theorem folds_facts : joinedFacts Tryz.pinned.checked.prog 5 Tryz.f5 Rows.foldsSpec Rows.foldsRow = true := by kernel_rfl
end Go.Proofs.YtjobgpahajhbnaaGreatDoor
