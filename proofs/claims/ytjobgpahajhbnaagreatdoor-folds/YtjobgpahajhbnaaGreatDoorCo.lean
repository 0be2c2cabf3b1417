import Derived.Test.YtjobgpahajhbnaaGreatDoorCn
import Derived.Test.YtjobgpahajhbnaaGreatDoorTie
import Derived.Test.YtjobgpahajhbnaaGreatDoorCards
import Derived.SevenTiedAt
namespace Go.Proofs.YtjobgpahajhbnaaGreatDoor
open Go

theorem card_goes : false = Rows.foldsRow.goesBy Tryz.pinned.checked.prog := by kernel_rfl
theorem card_main : Tryz.pinned.checked.prog.mainIs = some (Rows.foldsCard.stood.harness.1, Rows.foldsCard.stood.harness.2.toList) := by kernel_rfl
theorem card_looks : true = Tryz.pinned.checked.prog.looks [] := by kernel_rfl
theorem card_func : Tryz.prog.funcNamed Rows.foldsRow.func = some 5 := by kernel_rfl
theorem folds_card : Rows.FoldsCardSaid :=
  Claim7.holds_tied_plain_at .later [] [.data, .data, .data, .sentinel, .sentinel] true Rows.foldsCard.stood.harness true
    folds_holds (fun _ h => by cases h) (by kernel_rfl) (fun _ h => by cases h) folds_row_tie rfl ⟨rfl, rfl⟩ card_main rfl
    (fun f fn hf hfn => by
      obtain rfl : f = 5 := Option.some.inj (card_func.symm.trans hf) |>.symm
      obtain rfl : fn = Tryz.f5 := (Option.some.inj (Tryz.func5.symm.trans hfn)).symm
      exact ⟨card_looks, fun j t ht => by
        rw [Tryz.params5] at ht
        have hm : t ∈ [37] := by simpa using Array.mem_of_getElem? ht
        have hall : ([37].all fun u => !Tryz.prog.wantsStandIn u) = true := by kernel_rfl
        exact (show Tryz.prog.wantsStandIn t = false by simpa using List.all_eq_true.1 hall t hm)⟩)
    card_goes
#print axioms folds_card
end Go.Proofs.YtjobgpahajhbnaaGreatDoor
