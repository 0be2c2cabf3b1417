import Derived.Test.YtjobgpahajhbnaaGreatDoorNwA
import Derived.Test.YtjobgpahajhbnaaGreatDoorTie
import Derived.Test.YtjobgpahajhbnaaGreatDoorCards
import Derived.SevenTiedAt
namespace Go.Proofs.YtjobgpahajhbnaaGreatDoor
open Go
set_option linter.all false
theorem all_card:Rows.AllUptoCardSaid :=
 Claim7.holds_tied_plain_at .later [] [.data,.data,.data,.sentinel,.sentinel] true Rows.allUptoCard.stood.harness true
  Jtb (fun _ h=>by cases h) (by kernel_rfl) (fun _ h=>by cases h) allUpto_row_tie rfl ⟨rfl,rfl⟩ (by kernel_rfl) rfl
  (fun f fn hf hfn=>by
   obtain rfl:f=13:=NS ((show Tryz.prog.funcNamed Rows.allUptoRow.func=some 13 by kernel_rfl).symm.trans hf)|>.symm;obtain rfl:fn=Tryz.f13:=(NS (Tryz.func13.symm.trans hfn)).symm;exact⟨by kernel_rfl,fun j t ht=>by
    rw[Tryz.params13]at ht;have hm:t ∈ [22]:=by simpa using Array.mem_of_getElem? ht
    have a:([22].all fun b=>!Tryz.prog.wantsStandIn b)=true:=by kernel_rfl
    exact(show Tryz.prog.wantsStandIn t=false by simpa using YL.1 a t hm)⟩)
  (by kernel_rfl)
#print axioms all_card
end Go.Proofs.YtjobgpahajhbnaaGreatDoor
