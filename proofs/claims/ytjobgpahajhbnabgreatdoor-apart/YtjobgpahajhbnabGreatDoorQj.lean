import Derived.Test.YtjobgpahajhbnabGreatDoorQi
import Derived.Test.YtjobgpahajhbnabGreatDoorTie
import Derived.Test.YtjobgpahajhbnabGreatDoorCards
import Derived.SevenTiedAt
namespace Go.Proofs.YtjobgpahajhbnabGreatDoor
open Go
theorem apart_card : Rows.ApartCardSaid :=
  Claim7.holds_tied_plain_at .later [] [.data, .data, .data, .sentinel, .sentinel] true Rows.apartCard.stood.harness true
    Jcd (fun _ h => by cases h) (by kernel_rfl) (fun _ h => by cases h) apart_row_tie rfl ⟨rfl, rfl⟩ (by kernel_rfl) rfl
    (fun f fn hf hfn => by
      obtain rfl : f = 5 := Option.some.inj ((show Tryz.prog.funcNamed Rows.apartRow.func = some 5 by kernel_rfl).symm.trans hf) |>.symm
      obtain rfl : fn = Tryz.f5 := (Option.some.inj (Tryz.func5.symm.trans hfn)).symm; exact ⟨by kernel_rfl, fun j t ht => by
        rw [Tryz.params5] at ht; have hm : t ∈ [31, 31, 22] := by simpa using Array.mem_of_getElem? ht
        have hall : ([31, 31, 22].all fun u => !Tryz.prog.wantsStandIn u) = true := by kernel_rfl
        exact (show Tryz.prog.wantsStandIn t = false by simpa using List.all_eq_true.1 hall t hm)⟩)
    (by kernel_rfl)
#print axioms apart_card
end Go.Proofs.YtjobgpahajhbnabGreatDoor
