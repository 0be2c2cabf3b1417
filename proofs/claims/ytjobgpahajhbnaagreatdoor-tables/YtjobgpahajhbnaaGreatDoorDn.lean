import Derived.Test.YtjobgpahajhbnaaGreatDoorXq
namespace Go.Proofs.YtjobgpahajhbnaaGreatDoor
open Go.ChangeShapes Go.WideShapes Go.ChangeAt Go.WideMaps Go.WideElems Go.RowKit

theorem tables_facts : joinedFacts Tryz.pinned.checked.prog 6 Tryz.f6 Rows.tablesSpec Rows.tablesRow = true := by kernel_rfl
end Go.Proofs.YtjobgpahajhbnaaGreatDoor
