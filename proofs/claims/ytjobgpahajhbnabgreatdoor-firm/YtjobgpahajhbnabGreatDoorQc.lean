import Derived.Test.YtjobgpahajhbnabGreatDoorQb
import Derived.Test.YtjobgpahajhbnabGreatDoorRfc
namespace Go.Proofs.YtjobgpahajhbnabGreatDoor
open Go.ChangeShapes Go.WideShapes Go.ChangeAt Go.WideMaps Go.WideElems Go.RowKit
theorem Jd6 : Rows.FirmSaid :=
  OpenClaim.holds_of_wide 4 Tryz.f4 rfl rfl rfl rfl rfl rfl rfl ⟨rfl, rfl, rfl, rfl, rfl⟩ rfl rfl rfl rfl rfl (by kernel_rfl) Tryz.func4 Jd7
    (of_decide_eq_true (by kernel_rfl)) (by unfold Func.isWrapper; first | (rw [if_pos (by decide +kernel)]; kernel_rfl) | (rw [if_neg (by decide +kernel)]; exact ⟨rfl, rfl⟩))
    (fun os started H enc _ => Jbf os started H enc)
end Go.Proofs.YtjobgpahajhbnabGreatDoor
