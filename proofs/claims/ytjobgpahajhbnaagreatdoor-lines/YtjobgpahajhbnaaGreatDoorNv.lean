import Derived.Test.YtjobgpahajhbnaaGreatDoorNt
import Derived.Test.YtjobgpahajhbnaaGreatDoorNu
namespace Go.Proofs.YtjobgpahajhbnaaGreatDoor
open Go.ChangeShapes Go.WideShapes Go.ChangeAt Go.WideMaps Go.WideElems Go.RowKit
set_option linter.all false
theorem Ji7:joinedFacts Tryz.pinned.checked.prog 3 Tryz.f3 (Rows.OpenSpec.upto Rows.linesSpec).bare Rows.linesUptoRow=true:=by
 unfold joinedFacts;rw[Jv3,Jv2,Jv1,Jv0];kernel_rfl
end Go.Proofs.YtjobgpahajhbnaaGreatDoor
