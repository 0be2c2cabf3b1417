import Derived.Test.YtjobgpahajhbnaaGreatDoorYj
import Derived.Test.YtjobgpahajhbnaaGreatDoorTie
import Derived.Test.YtjobgpahajhbnaaGreatDoorCards
import Derived.SevenTiedAt
namespace Go.Proofs.YtjobgpahajhbnaaGreatDoor
open Go

theorem card_goes : false = Rows.cellsRow.goesBy Tryz.pinned.checked.prog := by kernel_rfl
theorem card_main : Tryz.pinned.checked.prog.mainIs = some (Rows.cellsCard.stood.harness.1, Rows.cellsCard.stood.harness.2.toList) := by kernel_rfl
theorem card_looks : true = Tryz.pinned.checked.prog.looks [] := by kernel_rfl
theorem card_func : Tryz.prog.funcNamed Rows.cellsRow.func = some 4 := by kernel_rfl
theorem cells_card : Rows.CellsCardSaid :=
  Claim7.holds_tied_plain_at .later [] [.data, .data, .data, .sentinel, .sentinel] true Rows.cellsCard.stood.harness true
    cells_holds (fun _ h => by cases h) (by kernel_rfl) (fun _ h => by cases h) cells_row_tie rfl ⟨rfl, rfl⟩ card_main rfl
    (fun f fn hf hfn => by
      obtain rfl : f = 4 := Option.some.inj (card_func.symm.trans hf) |>.symm
      obtain rfl : fn = Tryz.f4 := (Option.some.inj (Tryz.func4.symm.trans hfn)).symm
      exact ⟨card_looks, fun j t ht => by
        rw [Tryz.params4] at ht
        have hm : t ∈ [2, 2] := by simpa using Array.mem_of_getElem? ht
        have hall : ([2, 2].all fun u => !Tryz.prog.wantsStandIn u) = true := by kernel_rfl
        exact (show Tryz.prog.wantsStandIn t = false by simpa using List.all_eq_true.1 hall t hm)⟩)
    card_goes
#print axioms cells_card
end Go.Proofs.YtjobgpahajhbnaaGreatDoor
