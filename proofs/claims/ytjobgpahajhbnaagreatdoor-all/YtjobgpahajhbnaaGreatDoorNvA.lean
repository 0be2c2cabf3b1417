import Derived.Test.YtjobgpahajhbnaaGreatDoorNtA
import Derived.Test.YtjobgpahajhbnaaGreatDoorNuA
namespace Go.Proofs.YtjobgpahajhbnaaGreatDoor
open Go.ChangeShapes Go.WideShapes Go.ChangeAt Go.WideMaps Go.WideElems Go.RowKit
set_option linter.all false
theorem Jtc:joinedFacts Tryz.pinned.checked.prog 13 Tryz.f13 (Rows.OpenSpec.upto Rows.allSpec).bare Rows.allUptoRow=true:=by
 unfold joinedFacts;rw[J22,J21,J20,J2z];kernel_rfl
end Go.Proofs.YtjobgpahajhbnaaGreatDoor
