import Derived.Test.YtjobgpahajhbnabGreatDoorRta
import Derived.Test.YtjobgpahajhbnabGreatDoorRtb
namespace Go.Proofs.YtjobgpahajhbnabGreatDoor
open Go.ChangeShapes Go.WideShapes Go.ChangeAt Go.WideMaps Go.WideElems Go.RowKit
theorem Gg : joinedFacts Tryz.pinned.checked.prog 3 Tryz.f3 Rows.togetherSpec Rows.togetherRow = true := by
  unfold joinedFacts
  rw [Jbc, Jbb, Jba, Ja9]
  kernel_rfl
end Go.Proofs.YtjobgpahajhbnabGreatDoor
