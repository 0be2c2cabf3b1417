import Derived.Test.YtjobgpahajhbnaaGreatDoorJi
import Derived.Test.YtjobgpahajhbnaaGreatDoorTie
import Derived.Test.YtjobgpahajhbnaaGreatDoorCards
import Derived.SevenTiedAt
namespace Go.Proofs.YtjobgpahajhbnaaGreatDoor
open Go

theorem found_card : Rows.FoundCardSaid :=
  Claim7.holds_tied_plain_at .later [] [.data, .data, .data, .sentinel, .sentinel] true Rows.foundCard.stood.harness true
    found_holds (fun _ h => by cases h) (by kernel_rfl) (fun _ h => by cases h) found_row_tie rfl ⟨rfl, rfl⟩ (by kernel_rfl) rfl
    (fun f fn hf hfn => by
      obtain rfl : f = 9 := Option.some.inj ((show Tryz.prog.funcNamed Rows.foundRow.func = some 9 by kernel_rfl).symm.trans hf) |>.symm
      obtain rfl : fn = Tryz.f9 := (Option.some.inj (Tryz.func9.symm.trans hfn)).symm
      exact ⟨by kernel_rfl, fun j t ht => by
        rw [Tryz.params9] at ht
        have hm : t ∈ [37, 37] := by simpa using Array.mem_of_getElem? ht
        have hall : ([37, 37].all fun u => !Tryz.prog.wantsStandIn u) = true := by kernel_rfl
        exact (show Tryz.prog.wantsStandIn t = false by simpa using List.all_eq_true.1 hall t hm)⟩)
    (by kernel_rfl)
#print axioms found_card
end Go.Proofs.YtjobgpahajhbnaaGreatDoor
