import Derived.Test.YtjobgpahajhbnabGreatDoorQg
import Derived.Test.YtjobgpahajhbnabGreatDoorRac
namespace Go.Proofs.YtjobgpahajhbnabGreatDoor
open Go.ChangeShapes Go.WideShapes Go.ChangeAt Go.WideMaps Go.WideElems Go.RowKit
theorem Jcd : Rows.ApartSaid :=
  OpenClaim.holds_of_wide 5 Tryz.f5 rfl rfl rfl rfl rfl rfl rfl ⟨rfl, rfl, rfl, rfl, rfl⟩ rfl rfl rfl rfl rfl (by kernel_rfl) Tryz.func5 Jce
    (of_decide_eq_true (by kernel_rfl)) (by unfold Func.isWrapper; first | (rw [if_pos (by decide +kernel)]; kernel_rfl) | (rw [if_neg (by decide +kernel)]; exact ⟨rfl, rfl⟩))
    (fun os started H enc _ => Ja1 os started H enc)
end Go.Proofs.YtjobgpahajhbnabGreatDoor
