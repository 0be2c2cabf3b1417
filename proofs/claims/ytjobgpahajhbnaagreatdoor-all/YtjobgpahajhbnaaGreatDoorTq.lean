import Derived.Test.YtjobgpahajhbnaaGreatDoorTe
namespace Go.Proofs.YtjobgpahajhbnaaGreatDoor
open Go.RowKit Go.Proofs Go.Maps Go.Proofs.Tryz
attribute [local go_sem ↓] Go.wp_at_zero Go.wp_at_succ
set_option linter.all false
set_option maxHeartbeats 1000000
set_option maxRecDepth 20000
variable {W0:World}
theorem KE:Enters prog 261:=NF func261 (by decide) rfl
theorem KF:Enters prog 262:=NF func262 (by decide) rfl
theorem KG:Enters prog 206:=NF func206 (by decide) rfl
def outB(n:Nat)(x:Int):Bool:=decide (x<0)|| decide ((n:Int)<=x)
theorem Jvn(pb n:Nat)(hpb:pb<W0.1.size)(c0:W0.cell? (U pb 0)=some (G n)):PredC 261 #[aJ pb 0] W0 (outB n) where
 enters:=KE
 call:=by
  intro a f b;have:=V b hpb c0;unfold outB;by_cases d:a<0
  .go_enter func261,ntmps261;go_wp2;go_ret;simp;omega
  by_cases e:(n:Int)<=a
  .go_enter func261,ntmps261;go_wp2;go_ret;simp
  go_enter func261,ntmps261;go_wp2;go_ret;simp;omega
def atF(xs:List Int)(x:Int):Int:=xs.getD x.toNat 0
theorem J01{P:Nat->Prop}(pb)(hpb:pb<W0.1.size)(co)(cn cc)(xs)(c1:W0.cell? (U pb 1)=some (E co cn cc))(h:Nums P W0 (E co cn cc) xs):CellB 262 pb W0 (fun x=>0<=x/\x<xs.length) (atF xs) where
 enters:=KF
 call:=by
  intro x z c w;obtain⟨a,rfl⟩:∃a:Nat,x=a:=⟨x.toNat,by omega⟩;have d:a<xs.length:=by omega
  have:=V c hpb c1;have:=Je h;obtain⟨l,o,b,_,g,_⟩:=h.below c;injection b with f p q;obtain⟨m,y,i,_,u,j⟩:=g (by omega);subst f;subst i;have e:=j a d;have b:atF xs (a:Int)=xs[a]:=by simp[atF,NC,d]
  rw[b];obtain⟨A,k⟩:=nm (xs[a]);rw[k]at e⊢;have:(0:Int)<=a:=by omega
  have:(a:Int)<cn:=by omega
  go_enter func262,ntmps262;go_wp2;go_ret;simp
def atP(a b:Arr):Arr × Int:=if b.shape.length≠1 then(eArr,5)else if a.cells.any (outB b.cells.length)=true then(eArr,8)else(⟨a.shape,a.cells.map (atF b.cells)⟩,0)
theorem J3r(w):FnTwo 206 #[] w atP:=by
 intro b P bR v a e _ am S d ag bb;obtain⟨k,j,sc,s,r,q,rfl,an,ac⟩:=S;obtain⟨L,n,K,z,f,y,rfl,ao,m⟩:=d;have S:IsArr P b (agV k j sc s r q) a:=⟨_,_,_,_,_,_,rfl,an,ac⟩;have ar:=Je m;have aj:=Je ao;simp at aj;obtain⟨h,i⟩:=nm (((b.alloc (.cells (aL k j sc s r q) 89)).alloc (.cells (aL L n K z f y) 89)).alloc (.cells #[M,M] 89));have u:J b h:=by rw[<-i];exact Jnr
 have bw:h.1.size=b.1.size+1+1+1:=by rw[<-i];simp
 have aw:h.cell? (adQ0 b)=some (E L n K):=by
  rw[<-i,WA (a:=adQ0 b) (NB _ _ _ (by simp))];exact(NH _ _ _ _ (by simp)).trans rfl
 have ax:h.cell? (adQ1 b)=some (E z f y):=by
  rw[<-i,WA (a:=adQ1 b) (NB _ _ _ (by simp))];exact(NH _ _ _ _ (by simp)).trans rfl
 have b0:h.cell? (adP0 b)=some (E k j sc):=by
  rw[<-i,WA (a:=adP0 b) (NB _ _ _ (by simp;omega)),WA (a:=adP0 b) (NB _ _ _ (by simp))];exact alA
 have b1:h.cell? (adP1 b)=some (E s r q):=by
  rw[<-i,WA (a:=adP1 b) (NB _ _ _ (by simp;omega)),WA (a:=adP1 b) (NB _ _ _ (by simp))];exact alA
 have ay:h.cell? (adR0 b)=some M:=by rw[<-i];exact(NH _ _ _ _ (by simp)).trans rfl
 have az:h.cell? (adR1 b)=some M:=by rw[<-i];exact(NH _ _ _ _ (by simp)).trans rfl
 have ab:∀av,h.frozen? (U (b.1.size+1+1) av)=false:=fun av=>by rw[<-i];simp[NL]
 have F:∀c,J h c->(c.cell? (adP0 b)=some (E k j sc)/\c.cell? (adP1 b)=some (E s r q)/\c.cell? (adQ0 b)=some (E L n K)/\c.cell? (adQ1 b)=some (E z f y)/\c.cell? (adR0 b)=some M/\c.cell? (adR1 b)=some M)/\c.frozen? (adR0 b)=false/\c.frozen? (adR1 b)=false:=fun c d=>⟨⟨V d (by omega) b0,V d (by omega) b1,V d (by omega) aw,V d (by omega) ax,V d (by omega) ay,V d (by omega) az⟩,bF d (by omega) (ab 0),bF d (by omega) (ab 1)⟩
 have a5:=O (fun c=>(Qu c L n K z f y).mono (fun l o g=>(⟨g.1,by rw[g.2];exact belA2⟩:l=aD (.bool ((n:Int)== 1))/\J c o)));have a6:=O (fun c=>(Y0 c L n K z f y).mono (fun l o g=>(⟨g.1,by rw[g.2];exact belA1⟩:l=aD (G f)/\J c o)));have a4:∀c,J h c->∀H,H<c.1.size->c.cell? (U H 0)=some (G f)->Calls prog 251 #[(agV k j sc s r q),.func (.func 261) #[] #[aJ H 0]] c fun l o=>l=aD (.bool (a.cells.any (outB f)))/\J c o:=fun c d H bc af=>(Jjf P c c aS 261 _ (outB f) (Jvn H f bc af) k j sc s r q a.cells ((ac.below u).below d) ag.few).mono (fun l o g=>⟨g.1,by rw[g.2];exact belA1⟩);have aY:(∀t ∈ a.cells,0<=t/\t<e.cells.length)->∀c,J h c->Calls prog 227 #[(agV k j sc s r q),.func (.func 262) #[] #[aJ (b.1.size+1) 0]] c fun l o=>∃c1 Q R,l=aD (aK k j sc c1 Q R)/\IsArr (fun e=>P e/\e≠b.1.size+1+1) o (aK k j sc c1 Q R) ⟨a.shape,a.cells.map (atF e.cells)⟩/\J c o:=fun ad c d=>Jlf (atF e.cells) 262 (b.1.size+1) (fun e=>P e/\e≠b.1.size+1+1) c _ (J01 (b.1.size+1) (by have:=d.size;omega) z f y e.cells ((F c d).1.2.2.2.1) ((m.below u).below d)) (fun e g=>⟨am e (by have:=d.size;omega),by have:=d.size;omega⟩) k j sc s r q a (((S.imp (fun e g x=>⟨g,by omega⟩)).below u).below d) ag ad;obtain⟨ak,ah⟩:=nm (atP a e);simp only[ah];have aa:=O ah;have aX:=O ar;have bt:=O aj;obtain⟨⟨a7,a8,bf,bg,bj,bl⟩,bh,bi⟩:=F h aS;clear am ag bb S an ac ao m ah aw ax b0 b1 ay az ab ar aj;go_enter func206,ntmps206;go_wp2_with fail;try rw[i]
 clear i;clear a7 a8 bf bg bj bl bh bi;refine aR (I a5 _) fun W m=>?_;obtain⟨⟨bn,bo,bp,bq,Y,Z⟩,aU,aV⟩:=F W m;have bx:=m.size;have n1:b.1.size<W.1.size:=by omega
 have n2:b.1.size+1<W.1.size:=by omega
 have n3:b.1.size+1+1<W.1.size:=by omega
 by_cases ai:n=1
 .have be:((n:Int)== 1)=true:=by rw[ai];rfl
  have br:=O ai;clear ai;go_wp2_with fail;refine aR (I a6 _) fun X ba=>?_;have ap:=m.trans (ba.mono m.size);have A:=ap.alloc ap.size (.cells #[G f] 2);obtain⟨x,T⟩:=nm (X.alloc (.cells #[G f] 2));rw[T]at A;have bz:x.1.size=X.1.size+1:=by rw[<-T];simp
  have bd:x.cell? (adP0 X)=some (G f):=by rw[<-T];exact alA
  obtain⟨⟨bJ,bK,bL,bM,bN,bO⟩,bP,bQ⟩:=F x A;have aZ:=a4 x A X.1.size (by omega) bd;have bA:=A.size;have bE:b.1.size<x.1.size:=by omega
  have bG:b.1.size+1<x.1.size:=by omega
  have bH:b.1.size+1+1<x.1.size:=by omega
  go_wp2_with fail;try rw[T]
  refine aR aZ fun N aq=>?_;have ae:=A.trans (aq.mono A.size);obtain⟨⟨bn,bo,bp,bq,Y,Z⟩,aU,aV⟩:=F N ae;have bB:=aq.size;have n1:b.1.size<N.1.size:=by omega
  have n2:b.1.size+1<N.1.size:=by omega
  have n3:b.1.size+1+1<N.1.size:=by omega
  have D:=u.trans (ae.mono u.size);cases hany:a.cells.any (outB f)
  .have ad:∀t ∈ a.cells,0<=t/\t<e.cells.length:=by
    intro t af;have:=Pd.1 hany t af;rw[<-I aX];simp[outB]at this;omega
   have C:ak=(⟨a.shape,a.cells.map (atF e.cells)⟩,0):=by
    rw[<-I aa];unfold atP;rw[FU (by grind[I]),FU (by grind[I])]
   have al:=aY ad N ae;obtain⟨bI,au⟩:=nm ((⟨a.shape,a.cells.map (atF e.cells)⟩:Arr):Arr);rw[au]at C;simp only[au]at al;subst C;go_wp2_with fail;refine al.mono ?_;rintro l bm ⟨c1,Q,R,rfl,a9,B⟩;have d0:=V B n3 Y;have d1:=V B n3 Z;have bu:=bF B n3 aU;have bv:=bF B n3 aV;have bD:=B.size;have n4:b.1.size+1+1<bm.1.size:=by omega
   have aW:=D.trans (B.mono D.size);go_wp2;refine FR (v:=.tuple #[(agV k j sc c1 Q R),G 0]) (by simp[results,results206,go_sem,d0,d1]) rfl ⟨_,_,_,_,_,_,rfl,?_,?_⟩
   .exact ((a9.set (fun g=>g.2 rfl) 0 _).set (fun g=>g.2 rfl) 1 _).imp (fun e g _=>g.1)
   .exact (aW.setCell (p:=adR0 b) (by simp;omega) _).setCell (p:=adR1 b) (by simp;omega) _
  .have C:ak=(eArr,8):=by
    rw[<-I aa];unfold atP;rw[FU (by grind[I]),FY (by grind[I])]
   subst C;go_wp2;refine FR (by simp[results,results206,go_sem,Y,Z]) rfl ⟨_,_,_,_,_,_,rfl,Jt _ _,?_⟩;exact(D.setCell (p:=adR0 b) (by simp;omega) _).setCell (p:=adR1 b) (by simp;omega) _
 .have be:((n:Int)== 1)=false:=by
   rw[NT];omega
  have C:ak=(eArr,5):=by
   rw[<-I aa];unfold atP;rw[FY (by grind[I])]
  subst C;have D:=u.trans (m.mono u.size);go_wp2;refine FR (by simp[results,results206,go_sem,Y,Z]) rfl ⟨_,_,_,_,_,_,rfl,Jt _ _,?_⟩;exact(D.setCell (p:=adR0 b) (by show b.1.size<=b.1.size+1+1;omega) _).setCell (p:=adR1 b) (by show b.1.size<=b.1.size+1+1;omega) _
theorem J2x:TwoC ⟨#[97,116]⟩ atP:=⟨fun w=>(Q6 (t:=⟨#[97,116]⟩) (k1:=.string [116]) (k2:=.string [97,116]) (f:=206) (by decide) (by kernel_rfl) (by kernel_rfl) (by kernel_rfl) (by kernel_rfl) (by kernel_rfl) w).mono (by rintro e w' ⟨rfl,hb⟩;exact⟨206,#[],rfl,KG,hb,J3r w'⟩),fun a b ha hb=>by
 unfold atP;split
 .simp [eArr]
 split
 .simp [eArr]
 refine⟨by simpa using ha.few,fun _=>⟨ha.rank,ha.lens,by simpa using ha.size,by simpa using ha.few,?_⟩⟩;intro c hc;obtain⟨x,_,rfl⟩:=NZ.1 hc;unfold atF;by_cases hx:x.toNat<b.cells.length
 .rw [NC,FX hx];exact hb.fits _ (ND hx)
 simp_all[Jk]⟩
end Go.Proofs.YtjobgpahajhbnaaGreatDoor
