import Derived.Test.YtjobgpahajhbnaaGreatDoorNr
import Derived.Deep.DeepWitnessRowRef
namespace Go.Proofs.YtjobgpahajhbnaaGreatDoor
open Go.ChangeShapes Go.WideShapes Go.ChangeAt Go.WideMaps Go.WideElems Go.RowKit
set_option linter.all false
set_option maxRecDepth 100000
theorem Jav{W:World}(h:laidMetH Tryz.prog Rows.linesUptoRow.laid W):Evs W:=by
 rw[MakeChecks.laidMetH_plain _ _ _ (by kernel_rfl)]at h;have a:=laidMet.tail (laidMet.tail (laidMet.tail h));have d:=laidMet.tail a;obtain⟨c,e⟩:=Jle a XJ XL;obtain⟨b,_⟩:=Jle d XI XK;exact⟨e,b,c⟩
theorem Je6(os)(args):laidMetH Tryz.prog Rows.linesUptoRow.laid ((World.doorLaid Tryz.prog 400 os).forCall (fun _ _=>0) ⟨#[],args,[]⟩).memory :=
 laidMetH_of_parts3 (fuel:=8) (laidMet_of_run' 8 (by kernel_rfl) (by kernel_rfl)) (by kernel_rfl) (by kernel_rfl)
theorem Ji5(os){H:Type}(enc:TypeId × Value->H):∃places,DataW.whole enc Tryz.prog ((World.doorLaid Tryz.prog 400 os).forCall (fun _ _=>0) ⟨#[],#[aH],[]⟩).memory Tryz.f3.params.toList (Rows.OpenSpec.upto Rows.linesSpec).vars false #[aH].toList 8=some ([.nil],[],places):=
 ⟨[],by kernel_rfl⟩
theorem Jgx(os)(started:os.Started)(H)(enc:TypeId × Value->H)(F):
 ReturnsInHanded {} Tryz.checked os 3 .any ((Rows.OpenSpec.upto Rows.linesSpec).preRow enc Tryz.prog Tryz.f3 Rows.linesUptoRow.domain false Rows.linesUptoRow.laid) (((Rows.OpenSpec.upto Rows.linesSpec).at F).post enc Tryz.prog Tryz.f3 false true false false):=by
 obtain⟨aa,g⟩:=Ji5 os enc;refine returnsInHanded_of_row (C:=Tryz.checked) (s:=Rows.OpenSpec.upto Rows.linesSpec) XG started (by kernel_rfl) Tryz.func3
  (witness_row_atRef (enc:=enc) (C:=Tryz.checked) false (World.doorLaid Tryz.prog 400 os) #[aH] rfl (by kernel_rfl) (by kernel_rfl) (by kernel_rfl)
   (OpenSpec.preRow_of_cond 8 g (by kernel_rfl) (fun a f=>by cases f;kernel_rfl) (by kernel_rfl) (Je6 os _))) ?_
 intro a u args w W T q n _ L _ z _ _;have f:=L _ rfl;have p:∀(j:Nat) t v,Tryz.f3.params[j]?=some t->args[j]?=some v->Value.okWide Tryz.prog a .any u t v:=q;have e:=n;obtain⟨r,ab,m,D,rfl,Y,Z⟩:=n;have l:DataW.TrodAll enc Tryz.prog a 0 (fun _=>true) true Tryz.f3.params.toList args.toList w r:=m;rw[Tryz.params3]at l p;obtain⟨R,d0,rfl,rfl,k⟩:=trodAll_one l;obtain⟨rfl,rfl⟩:=trodVars_none D;obtain⟨h,Q,i,rfl⟩:=okWide_slice Tryz.underlying22 (p 0 22 R rfl rfl);have N:=Jav z;have y:=k;clear m q;simp only[YU]at e;have P:=fun S g=>by simpa using e.lt S g
 have d:Rows.linesSpec.fn H ([d0]++[])={ results:=[.lit (.bool true)],args:=[d0] }:=rfl;have fin:∀c b,(c=.returned (.bool true)/\J a b)->∃v,c=Ending.returned v/\Rows.linesSpec.post enc Tryz.checked.prog Tryz.f3 false true false false a #[.slice h Q i] v b:=by
  rintro c b ⟨rfl,o⟩;refine⟨_,rfl,_,_,_,[],r,[],e,?_,?_,?_,o.frame _,fun x=>by cases x⟩
  .rw [d];exact trodAll_mk1 (shut_bool Tryz.underlying4 true)
  .rw [d];exact trodAll_mk1 (Below.trod XH (by kernel_rfl) (YB (by kernel_rfl)) y o P)
  rw[d];rfl
 obtain⟨o,rfl,B,A,X⟩:=Jxs k;have K:cntP o<=1048576:=by
  have x:=YB f;simp only[YU,Rows.uptoBulkAll]at x;omega
 exact(Jq2 h i o a N B A K).mono fin
end Go.Proofs.YtjobgpahajhbnaaGreatDoor
