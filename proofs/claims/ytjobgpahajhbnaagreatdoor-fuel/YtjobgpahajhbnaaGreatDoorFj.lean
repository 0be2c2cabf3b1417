import Derived.Test.YtjobgpahajhbnaaGreatDoorXq
namespace Go.Proofs.YtjobgpahajhbnaaGreatDoor
open Go.ChangeShapes Go.WideShapes Go.ChangeAt Go.WideMaps Go.WideElems Go.RowKit

theorem fuel_f3 : (Rows.fuelRow.recurses == Tryz.pinned.checked.prog.recurses 12) = true := by kernel_rfl
theorem fuel_f4 : (Rows.fuelRow.named == Tryz.pinned.checked.prog.varsNamed 12) = true := by kernel_rfl
end Go.Proofs.YtjobgpahajhbnaaGreatDoor
