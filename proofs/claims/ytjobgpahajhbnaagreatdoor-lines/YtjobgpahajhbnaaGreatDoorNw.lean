import Derived.Test.YtjobgpahajhbnaaGreatDoorNs
import Derived.Test.YtjobgpahajhbnaaGreatDoorNv
namespace Go.Proofs.YtjobgpahajhbnaaGreatDoor
open Go.ChangeShapes Go.WideShapes Go.ChangeAt Go.WideMaps Go.WideElems Go.RowKit
set_option linter.all false
theorem Ji6:Rows.LinesUptoSaid :=
 OpenClaim.holds_of_cond 3 Tryz.f3 rfl rfl rfl rfl rfl rfl rfl ⟨rfl,rfl,rfl,rfl,rfl⟩ rfl rfl rfl rfl rfl (by kernel_rfl) Tryz.func3 Ji7
  (YB (by kernel_rfl)) (by unfold Func.isWrapper;first|(rw[FY (by decide +kernel)];kernel_rfl)| (rw[FU (by decide +kernel)];exact⟨rfl,rfl⟩))
  (fun os started H enc _ F=>by rw[OpenClaim.pre_eq_preRow];exact Jgx os started H enc F)
end Go.Proofs.YtjobgpahajhbnaaGreatDoor
