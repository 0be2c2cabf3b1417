import Derived.Test.YtjobgpahajhbnaaGreatDoorLg
namespace Go.Proofs.YtjobgpahajhbnaaGreatDoor
open Go.ChangeShapes Go.WideShapes Go.ChangeAt Go.WideMaps Go.WideElems Go.RowKit

theorem named_f3 : (Rows.namedRow.recurses == Tryz.pinned.checked.prog.recurses 11) = true := by kernel_rfl
theorem named_f4 : (Rows.namedRow.named == Tryz.pinned.checked.prog.varsNamed 11) = true := by kernel_rfl
end Go.Proofs.YtjobgpahajhbnaaGreatDoor
