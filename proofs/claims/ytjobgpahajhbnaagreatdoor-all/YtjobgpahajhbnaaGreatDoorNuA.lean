import Derived.Test.YtjobgpahajhbnaaGreatDoorXq
namespace Go.Proofs.YtjobgpahajhbnaaGreatDoor
open Go.ChangeShapes Go.WideShapes Go.ChangeAt Go.WideMaps Go.WideElems Go.RowKit
set_option linter.all false
theorem J20:(Rows.allUptoRow.recurses == Tryz.pinned.checked.prog.recurses 13)=true:=by kernel_rfl
theorem J2z:(Rows.allUptoRow.named == Tryz.pinned.checked.prog.varsNamed 13)=true:=by kernel_rfl
end Go.Proofs.YtjobgpahajhbnaaGreatDoor
