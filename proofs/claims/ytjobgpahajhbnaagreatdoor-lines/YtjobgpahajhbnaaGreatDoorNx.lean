import Derived.Test.YtjobgpahajhbnaaGreatDoorNw
import Derived.Test.YtjobgpahajhbnaaGreatDoorTie
import Derived.Test.YtjobgpahajhbnaaGreatDoorCards
import Derived.SevenTiedAt
namespace Go.Proofs.YtjobgpahajhbnaaGreatDoor
open Go
set_option linter.all false
theorem cg:false=Rows.linesUptoRow.goesBy Tryz.pinned.checked.prog:=by kernel_rfl
theorem cm:Tryz.pinned.checked.prog.mainIs=some (Rows.linesUptoCard.stood.harness.1,Rows.linesUptoCard.stood.harness.2.toList):=by kernel_rfl
theorem cl:true=Tryz.pinned.checked.prog.looks []:=by kernel_rfl
theorem cf:Tryz.prog.funcNamed Rows.linesUptoRow.func=some 3:=by kernel_rfl
theorem lines_card:Rows.LinesUptoCardSaid :=
 Claim7.holds_tied_plain_at .later [] [.data,.data,.data,.sentinel,.sentinel] true Rows.linesUptoCard.stood.harness true
  Ji6 (fun _ h=>by cases h) (by kernel_rfl) (fun _ h=>by cases h) linesUpto_row_tie rfl ⟨rfl,rfl⟩ cm rfl
  (fun f fn hf hfn=>by
   obtain rfl:f=3:=NS (cf.symm.trans hf)|>.symm;obtain rfl:fn=Tryz.f3:=(NS (Tryz.func3.symm.trans hfn)).symm;exact⟨cl,fun j t ht=>by
    rw[Tryz.params3]at ht;have hm:t ∈ [22]:=by simpa using Array.mem_of_getElem? ht
    have a:([22].all fun b=>!Tryz.prog.wantsStandIn b)=true:=by kernel_rfl
    exact(show Tryz.prog.wantsStandIn t=false by simpa using YL.1 a t hm)⟩)
  cg
#print axioms lines_card
end Go.Proofs.YtjobgpahajhbnaaGreatDoor
