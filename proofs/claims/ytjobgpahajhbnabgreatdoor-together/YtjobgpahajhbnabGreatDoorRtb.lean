import Derived.Test.YtjobgpahajhbnabGreatDoorRows
import Derived.ProofKit
import Derived.LaidMore
import Derived.OpenShut
import Derived.Stop.Joined
import Derived.Stop.LaidErr
import Derived.Deep.Slices
import Derived.KernelRfl
namespace Go.Proofs.YtjobgpahajhbnabGreatDoor
open Go.ChangeShapes Go.WideShapes Go.ChangeAt Go.WideMaps Go.WideElems Go.RowKit
theorem Jba : (Rows.togetherRow.recurses == Tryz.pinned.checked.prog.recurses 3) = true := by kernel_rfl
theorem Ja9 : (Rows.togetherRow.named == Tryz.pinned.checked.prog.varsNamed 3) = true := by kernel_rfl
end Go.Proofs.YtjobgpahajhbnabGreatDoor
