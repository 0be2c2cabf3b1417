import Derived.Test.YtjobgpahajhbnabGreatDoorQc
import Derived.Test.YtjobgpahajhbnabGreatDoorTie
import Derived.Test.YtjobgpahajhbnabGreatDoorCards
import Derived.SevenTiedAt
namespace Go.Proofs.YtjobgpahajhbnabGreatDoor
open Go
theorem firm_card : Rows.FirmCardSaid :=
  Claim7.holds_tied_plain_at .later [] [.data, .data, .data, .sentinel, .sentinel] true Rows.firmCard.stood.harness true
    Jd6 (fun _ h => by cases h) (by kernel_rfl) (fun _ h => by cases h) firm_row_tie rfl ⟨rfl, rfl⟩ (by kernel_rfl) rfl
    (fun f fn hf hfn => by
      obtain rfl : f = 4 := Option.some.inj ((show Tryz.prog.funcNamed Rows.firmRow.func = some 4 by kernel_rfl).symm.trans hf) |>.symm
      obtain rfl : fn = Tryz.f4 := (Option.some.inj (Tryz.func4.symm.trans hfn)).symm
      exact ⟨by kernel_rfl, fun j t ht => by
        rw [Tryz.params4] at ht
        have hm : t ∈ [31, 3] := by simpa using Array.mem_of_getElem? ht
        have hall : ([31, 3].all fun u => !Tryz.prog.wantsStandIn u) = true := by kernel_rfl
        exact (show Tryz.prog.wantsStandIn t = false by simpa using List.all_eq_true.1 hall t hm)⟩)
    (by kernel_rfl)
#print axioms firm_card
end Go.Proofs.YtjobgpahajhbnabGreatDoor
