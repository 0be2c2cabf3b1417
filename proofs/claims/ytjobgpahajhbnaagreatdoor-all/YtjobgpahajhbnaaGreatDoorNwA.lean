import Derived.Test.YtjobgpahajhbnaaGreatDoorNsA
import Derived.Test.YtjobgpahajhbnaaGreatDoorNvA
namespace Go.Proofs.YtjobgpahajhbnaaGreatDoor
open Go.ChangeShapes Go.WideShapes Go.ChangeAt Go.WideMaps Go.WideElems Go.RowKit
set_option linter.all false
theorem Jtb:Rows.AllUptoSaid :=
 OpenClaim.holds_of_cond 13 Tryz.f13 rfl rfl rfl rfl rfl rfl rfl ⟨rfl,rfl,rfl,rfl,rfl⟩ rfl rfl rfl rfl rfl (by kernel_rfl) Tryz.func13 Jtc
  (YB (by kernel_rfl)) (by unfold Func.isWrapper;first|(rw[FY (by decide +kernel)];kernel_rfl)| (rw[FU (by decide +kernel)];exact⟨rfl,rfl⟩))
  (fun os started H enc _ F=>by rw[OpenClaim.pre_eq_preRow];exact Jns os started H enc F)
end Go.Proofs.YtjobgpahajhbnaaGreatDoor
