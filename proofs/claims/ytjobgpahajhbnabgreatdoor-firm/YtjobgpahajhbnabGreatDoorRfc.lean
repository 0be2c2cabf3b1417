import Derived.Test.YtjobgpahajhbnabGreatDoorRfa
import Derived.Test.YtjobgpahajhbnabGreatDoorRfb
namespace Go.Proofs.YtjobgpahajhbnabGreatDoor
open Go.ChangeShapes Go.WideShapes Go.ChangeAt Go.WideMaps Go.WideElems Go.RowKit
theorem Jd7 : joinedFacts Tryz.pinned.checked.prog 4 Tryz.f4 Rows.firmSpec Rows.firmRow = true := by
  unfold joinedFacts
  rw [Jng, Jnf, Jne, Jnd]
  kernel_rfl
end Go.Proofs.YtjobgpahajhbnabGreatDoor
