import Derived.Test.YtjobgpahajhbnaaGreatDoorNwA
import Derived.Test.YtjobgpahajhbnaaGreatDoorTie
import Derived.Test.YtjobgpahajhbnaaGreatDoorCards
import Derived.SevenTiedAt
namespace Go.Proofs.YtjobgpahajhbnaaGreatDoor
open Go
set_option linter.all false
theorem cg:false=Rows.allUptoRow.goesBy Tryz.pinned.checked.prog:=by kernel_rfl
theorem cm:Tryz.pinned.checked.prog.mainIs=some (Rows.allUptoCard.stood.harness.1,Rows.allUptoCard.stood.harness.2.toList):=by kernel_rfl
theorem cl:true=Tryz.pinned.checked.prog.looks []:=by kernel_rfl
theorem cf:Tryz.prog.funcNamed Rows.allUptoRow.func=some 13:=by kernel_rfl
theorem all_card:Rows.AllUptoCardSaid :=
 Claim7.holds_tied_plain_at .later [] [.data,.data,.data,.sentinel,.sentinel] true Rows.allUptoCard.stood.harness true
  Jtb (fun _ h=>by cases h) (by kernel_rfl) (fun _ h=>by cases h) allUpto_row_tie rfl ⟨rfl,rfl⟩ cm rfl
  (fun f fn hf hfn=>by
   obtain rfl:f=13:=NS (cf.symm.trans hf)|>.symm;obtain rfl:fn=Tryz.f13:=(NS (Tryz.func13.symm.trans hfn)).symm;exact⟨cl,fun j t ht=>by
    rw[Tryz.params13]at ht;have hm:t ∈ [22]:=by simpa using Array.mem_of_getElem? ht
    have a:([22].all fun b=>!Tryz.prog.wantsStandIn b)=true:=by kernel_rfl
    exact(show Tryz.prog.wantsStandIn t=false by simpa using YL.1 a t hm)⟩)
  cg
#print axioms all_card
end Go.Proofs.YtjobgpahajhbnaaGreatDoor
