import Derived.Test.YtjobgpahajhbnabGreatDoorRaa
import Derived.Test.YtjobgpahajhbnabGreatDoorRab
namespace Go.Proofs.YtjobgpahajhbnabGreatDoor
open Go.ChangeShapes Go.WideShapes Go.ChangeAt Go.WideMaps Go.WideElems Go.RowKit
theorem Jce : joinedFacts Tryz.pinned.checked.prog 5 Tryz.f5 Rows.apartSpec Rows.apartRow = true := by
  unfold joinedFacts; rw [Jlm, Jll, Jlk, Jlj]; kernel_rfl
end Go.Proofs.YtjobgpahajhbnabGreatDoor
