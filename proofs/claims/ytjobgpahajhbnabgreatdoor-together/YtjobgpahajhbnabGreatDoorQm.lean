import Derived.Test.YtjobgpahajhbnabGreatDoorQl
import Derived.Test.YtjobgpahajhbnabGreatDoorTie
import Derived.Test.YtjobgpahajhbnabGreatDoorCards
import Derived.SevenTiedAt
namespace Go.Proofs.YtjobgpahajhbnabGreatDoor
open Go
theorem together_card : Rows.TogetherCardSaid :=
  Claim7.holds_tied_plain_at .later [] [.data, .data, .data, .sentinel, .sentinel] true Rows.togetherCard.stood.harness true
    Gf (fun _ h => by cases h) (by kernel_rfl) (fun _ h => by cases h) together_row_tie rfl ⟨rfl, rfl⟩ (by kernel_rfl) rfl
    (fun f fn hf hfn => by
      obtain rfl : f = 3 := Option.some.inj ((show Tryz.prog.funcNamed Rows.togetherRow.func = some 3 by kernel_rfl).symm.trans hf) |>.symm
      obtain rfl : fn = Tryz.f3 := (Option.some.inj (Tryz.func3.symm.trans hfn)).symm
      exact ⟨by kernel_rfl, fun j t ht => by
        rw [Tryz.params3] at ht
        have hm : t ∈ [22, 3] := by simpa using Array.mem_of_getElem? ht
        have hall : ([22, 3].all fun u => !Tryz.prog.wantsStandIn u) = true := by kernel_rfl
        exact (show Tryz.prog.wantsStandIn t = false by simpa using List.all_eq_true.1 hall t hm)⟩)
    (by kernel_rfl)
#print axioms together_card
end Go.Proofs.YtjobgpahajhbnabGreatDoor
