import Derived.Test.YtjobgpahajhbnaaGreatDoorDp
import Derived.Test.YtjobgpahajhbnaaGreatDoorTie
import Derived.Test.YtjobgpahajhbnaaGreatDoorCards
import Derived.SevenTiedAt
namespace Go.Proofs.YtjobgpahajhbnaaGreatDoor
open Go

theorem tables_card : Rows.TablesCardSaid :=
  Claim7.holds_tied_plain_at .later [] [.data, .data, .data, .sentinel, .sentinel] true Rows.tablesCard.stood.harness true
    tables_holds (fun _ h => by cases h) (by kernel_rfl) (fun _ h => by cases h) tables_row_tie rfl ⟨rfl, rfl⟩ (by kernel_rfl) rfl
    (fun f fn hf hfn => by
      obtain rfl : f = 6 := Option.some.inj ((show Tryz.prog.funcNamed Rows.tablesRow.func = some 6 by kernel_rfl).symm.trans hf) |>.symm
      obtain rfl : fn = Tryz.f6 := (Option.some.inj (Tryz.func6.symm.trans hfn)).symm
      exact ⟨by kernel_rfl, fun j t ht => by
        rw [Tryz.params6] at ht
        have hm : t ∈ [3, 3, 37] := by simpa using Array.mem_of_getElem? ht
        have hall : ([3, 3, 37].all fun u => !Tryz.prog.wantsStandIn u) = true := by kernel_rfl
        exact (show Tryz.prog.wantsStandIn t = false by simpa using List.all_eq_true.1 hall t hm)⟩)
    (by kernel_rfl)
#print axioms tables_card
end Go.Proofs.YtjobgpahajhbnaaGreatDoor
