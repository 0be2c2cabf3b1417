import Derived.Test.YtjobgpahajhbnaaGreatDoorFi
import Derived.Test.YtjobgpahajhbnaaGreatDoorFj
namespace Go.Proofs.YtjobgpahajhbnaaGreatDoor
open Go.ChangeShapes Go.WideShapes Go.ChangeAt Go.WideMaps Go.WideElems Go.RowKit

theorem fuel_facts : joinedFacts Tryz.pinned.checked.prog 12 Tryz.f12 Rows.fuelSpec Rows.fuelRow = true := by
  unfold joinedFacts
  rw [fuel_f1, fuel_f2, fuel_f3, fuel_f4]
  kernel_rfl
end Go.Proofs.YtjobgpahajhbnaaGreatDoor
