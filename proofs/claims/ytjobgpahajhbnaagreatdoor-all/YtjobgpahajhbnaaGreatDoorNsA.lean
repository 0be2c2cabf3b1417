import Derived.Test.YtjobgpahajhbnaaGreatDoorNr
import Derived.Deep.DeepWitnessRowRef
namespace Go.Proofs.YtjobgpahajhbnaaGreatDoor
open Go.ChangeShapes Go.WideShapes Go.ChangeAt Go.WideMaps Go.WideElems Go.RowKit Go.Proofs Go.Maps
attribute [local go_sem ↓] Go.wp_at_zero Go.wp_at_succ
set_option linter.all false
set_option maxRecDepth 100000
theorem J04(so:Option Addr)(sc:Nat)(ops:List OpD)(w:World)(hE:Evs w)(hS:Scr w so ops)(hOk:∀o ∈ ops,OpOk o)(hcnt:cntP ops<=1048576):
 Calls Tryz.prog 13 #[.slice so ops.length sc] w fun e w'=>e=.returned (.bool true)/\J w w':=by
 have a:=O (Jgc so sc ops 5 w hE hS hOk hcnt);clear hE hS hOk hcnt;go_enter Tryz.func13,Tryz.ntmps13;go_wp2_with (go_at_call 14;refine aR a fun c b=>?_);exact FR (v:=.bool true) (by simp[results,Tryz.results13,go_sem]) rfl ⟨rfl,b⟩
theorem Jc1{W:World}(h:laidMetH Tryz.prog Rows.allUptoRow.laid W):Evs W:=by
 rw[MakeChecks.laidMetH_plain _ _ _ (by kernel_rfl)]at h;have a:=laidMet.tail (laidMet.tail (laidMet.tail h));have d:=laidMet.tail a;obtain⟨c,e⟩:=Jle a XJ XL;obtain⟨b,_⟩:=Jle d XI XK;exact⟨e,b,c⟩
theorem Jji(os:Os)(args:Array Value):laidMetH Tryz.prog Rows.allUptoRow.laid ((World.doorLaid Tryz.prog 400 os).forCall (fun _ _=>0) ⟨#[],args,[]⟩).memory :=
 laidMetH_of_parts3 (fuel:=8) (laidMet_of_run' 8 (by kernel_rfl) (by kernel_rfl)) (by kernel_rfl) (by kernel_rfl)
theorem Jta(os:Os){H:Type}(enc:TypeId × Value->H):∃places,DataW.whole enc Tryz.prog ((World.doorLaid Tryz.prog 400 os).forCall (fun _ _=>0) ⟨#[],#[aH],[]⟩).memory Tryz.f13.params.toList (Rows.OpenSpec.upto Rows.allSpec).vars false #[aH].toList 8=some ([.nil],[],places):=
 ⟨[],by kernel_rfl⟩
theorem Jns(os:Os)(started:os.Started)(H:Type)(enc:TypeId × Value->H)(F:Stop.Interp):
 ReturnsInHanded {} Tryz.checked os 13 .any ((Rows.OpenSpec.upto Rows.allSpec).preRow enc Tryz.prog Tryz.f13 Rows.allUptoRow.domain false Rows.allUptoRow.laid) (((Rows.OpenSpec.upto Rows.allSpec).at F).post enc Tryz.prog Tryz.f13 false true false false):=by
 obtain⟨aa,g⟩:=Jta os enc;refine returnsInHanded_of_row (C:=Tryz.checked) (s:=Rows.OpenSpec.upto Rows.allSpec) XG started (by kernel_rfl) Tryz.func13
  (witness_row_atRef (enc:=enc) (C:=Tryz.checked) false (World.doorLaid Tryz.prog 400 os) #[aH] rfl (by kernel_rfl) (by kernel_rfl) (by kernel_rfl)
   (OpenSpec.preRow_of_cond 8 g (by kernel_rfl) (fun a f=>by cases f;kernel_rfl) (by kernel_rfl) (Jji os _))) ?_
 intro a w args x W T u p _ N _ A _ _;have f:=N _ rfl;have r:∀(j:Nat) t v,Tryz.f13.params[j]?=some t->args[j]?=some v->Value.okWide Tryz.prog a .any w t v:=u;have e:=p;obtain⟨h,ab,o,K,rfl,Y,Z⟩:=p;have n:DataW.TrodAll enc Tryz.prog a 0 (fun _=>true) true Tryz.f13.params.toList args.toList x h:=o;rw[Tryz.params13]at n r;obtain⟨S,d0,rfl,rfl,m⟩:=trodAll_one n;obtain⟨rfl,rfl⟩:=trodVars_none K;obtain⟨k,R,l,rfl⟩:=okWide_slice Tryz.underlying22 (r 0 22 S rfl rfl);have P:=Jc1 A;have z:=m;clear o u;simp only[YU]at e;have Q:∀i ∈ h,i.block<a.1.size:=fun i g=>by simpa using e.lt i g
 have d:Rows.allSpec.fn H ([d0]++[])={ results:=[.lit (.bool true)],args:=[d0] }:=rfl;have fin:∀c b,(c=.returned (.bool true)/\J a b)->∃v,c=Ending.returned v/\Rows.allSpec.post enc Tryz.checked.prog Tryz.f13 false true false false a #[.slice k R l] v b:=by
  rintro c b ⟨rfl,q⟩;refine⟨_,rfl,_,_,_,[],h,[],e,?_,?_,?_,q.frame _,fun y=>by cases y⟩
  .rw [d];exact trodAll_mk1 (shut_bool Tryz.underlying4 true)
  .rw [d];exact trodAll_mk1 (Below.trod XH (by kernel_rfl) (YB (by kernel_rfl)) z q Q)
  rw[d];rfl
 obtain⟨q,rfl,D,B,X⟩:=Jxs m;have L:cntP q<=1048576:=by
  have y:Rows.uptoBulkAll ([d0]++[])<=1048576:=YB f;simp only[YU,Rows.uptoBulkAll]at y;omega
 exact(J04 k l q a P D B L).mono fin
end Go.Proofs.YtjobgpahajhbnaaGreatDoor
