import Derived.Test.YtjobgpahajhbnaaGreatDoorXq
namespace Go.Proofs.YtjobgpahajhbnaaGreatDoor
open Go.ChangeShapes Go.WideShapes Go.ChangeAt Go.WideMaps Go.WideElems Go.RowKit

theorem fuel_f1 : (Rows.fuelRow.inPlace == Tryz.pinned.checked.prog.inPlace 12) = true := by kernel_rfl
theorem fuel_f2 : (Rows.fuelRow.unfollowed == Tryz.pinned.checked.prog.unfollowed 12) = true := by kernel_rfl
end Go.Proofs.YtjobgpahajhbnaaGreatDoor
