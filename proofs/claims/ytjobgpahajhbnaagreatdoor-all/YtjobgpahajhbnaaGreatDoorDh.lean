import Derived.Test.YtjobgpahajhbnaaGreatDoorGh
namespace Go.Proofs.YtjobgpahajhbnaaGreatDoor
open Go.RowKit Go.Proofs Go.Maps Go.Proofs.Tryz
attribute [local go_sem ↓] Go.wp_at_zero Go.wp_at_succ
set_option linter.all false
set_option maxHeartbeats 4000000
set_option maxRecDepth 20000
variable {a b g h i j:Nat} {d:List Int} {f:Arr->Arr->Arr × Int} {k2 ks:Lit} {t:ByteArray} {w:World} {z:Int} {α:Type}
theorem Jdt{P:Nat->Prop}{so:Option Addr}{sn sc:Nat}{co:Option Addr}{cn cc:Nat}{a:Arr}(h:IsArr P w (aK so sn sc co cn cc) a):Nums P w (E so sn sc) (a.shape.map Int.ofNat):=by
 obtain⟨_,_,_,_,_,_,b,c,_⟩:=h;injection b with b;simp at b;obtain⟨⟨rfl,rfl,rfl⟩,_⟩:=b;exact c
theorem Jn4{Q:Nat->Prop}{o1:Option Addr}{n1 c1:Nat}{o2:Option Addr}{n2 c2:Nat}{xs ys:List Int}(h1:Nums Q w (E o1 n1 c1) xs)(h2:Nums Q w (E o2 n2 c2) ys)(t):Jj0 Q (w.alloc (.cells (aL o1 n1 c1 o2 n2 c2) t)) w.1.size [xs,ys]:=by
 have a:J w (w.alloc (.cells (aL o1 n1 c1 o2 n2 c2) t)):=aS.alloc aT _;intro i b;match i,b with
 | 0,_=>exact⟨o1,n1,c1,alA,h1.below a⟩
 | 1,_=>exact⟨o2,n2,c2,alA,h2.below a⟩
theorem Jqd(z)(hen:Enters prog g){w0:World}(hfn:FnTwo g #[] w0 f)(hsp:Spread f)(P)(W)(hW:J w0 W)(hP:∀b,W.1.size<=b->P b)(so)(sn sc)(co)(cn cc)(so2)(sn2 sc2)(co2)(cn2 cc2)(a b)(ha:IsArr P W (aK so sn sc co cn cc) a)(hb:IsArr P W (aK so2 sn2 sc2 co2 cn2 cc2) b)(hoa:a.ok)(hob:b.ok):
 Calls prog 199 #[aK so sn sc co cn cc,aK so2 sn2 sc2 co2 cn2 cc2,.agg #[aC g,G z]] W fun e W'=>∃so sn sc co cn cc,e=aD (.tuple #[aK so sn sc co cn cc,G (Yr f a b).2])/\IsArr P W' (aK so sn sc co cn cc) (Yr f a b).1/\J W W':=by
 have cL:=(Jb ha).2;have cB:=(Jb ha).1;have cM:=(Jb hb).2;have dy:=(Jb hb).1;have bh:=Bx.n4 W (aM so sn sc co cn cc) (aM so2 sn2 sc2 co2 cn2 cc2) [aC g,G z] aG 89 89 241 89;have cy:IsArr (OffB W.1.size 4 P) W (aK so sn sc co cn cc) a:=ha.imp (fun b h Z=>⟨h,NN Z⟩);have D:IsArr (OffB W.1.size 4 P) W (aK so2 sn2 sc2 co2 cn2 cc2) b:=hb.imp (fun b h Z=>⟨h,NN Z⟩);have cw:∀b,W.1.size+4<=b->OffB W.1.size 4 P b:=fun b hb=>OffB.new hP hb;have bb:=O bh;have b8:=cy;have b9:=D;have X:=O cw;have c7:=O hfn;have bu:=O hsp;have cl:=O hW;have a8:=O hoa;have af:=O hob;have br:=O cL;have bt:=O cM;have an:=O cB;have eg:sn<=3:=by have:=hoa.rank;omega
 have ef:sn2<=3:=by have:=hob.rank;omega
 have d9:cn<=200:=by have:=hoa.few;omega
 have ec:∀args w,(callFunc g args).run prog w=.ok (.enter g args) w:=hen;have bp:Hid (∀c,Calls prog 221 #[aK so sn sc co cn cc] c fun e aZ=>e=aD (G sn)/\J c aZ):=O (fun c=>(Z7 c so sn sc co cn cc).mono (fun e aZ h=>⟨h.1,by rw[h.2];exact aS.alloc aT _⟩));have bq:Hid (∀c,Calls prog 221 #[aK so2 sn2 sc2 co2 cn2 cc2] c fun e aZ=>e=aD (G sn2)/\J c aZ):=O (fun c=>(Z7 c so2 sn2 sc2 co2 cn2 cc2).mono (fun e aZ h=>⟨h.1,by rw[h.2];exact aS.alloc aT _⟩));obtain⟨bm,bN⟩:=nm (Yr f a b);simp only[bN];have a9:=O bN;obtain⟨C,bJ⟩:=nm ((((W.alloc (.cells (aL so sn sc co cn cc) 89)).alloc (.cells (aL so2 sn2 sc2 co2 cn2 cc2) 89)).alloc (.cells #[aC g,G z] 241)).alloc (.cells aF 89));have ba:Hid (∀c,J C c->c.cell? (U W.1.size 0)=some (E so sn sc)/\c.cell? (U W.1.size 1)=some (E co cn cc)/\c.cell? (U (W.1.size+1) 0)=some (E so2 sn2 sc2)/\c.cell? (U (W.1.size+1) 1)=some (E co2 cn2 cc2)):=O (fun c D=>by
  rw[bJ]at bh;have be:=bh.next D;exact⟨(be.cell 0 0 _ rfl).1,(be.cell 0 1 _ rfl).1,(be.cell 1 0 _ rfl).1,(be.cell 1 1 _ rfl).1⟩)
 rw[bJ]at bb;clear bh ha hb cy D hP cw hfn hsp hW hoa hob cL cM cB dy bN hen;go_enter func199,ntmps199;go_upto_region 1 with fail;obtain⟨dV,dW,dX,dY⟩:=I ba C aS;clear bJ;have cH:=(I bb).lt;simp at cH;have n1:W.1.size<C.1.size:=by omega
 have n2:W.1.size+1<C.1.size:=by omega
 have cN:IntKind.i64.wrap ((sn:Int)+(sn2:Int))=((sn+sn2:Nat):Int):=by
  rw[<-MM];exact Jg (by omega) (by omega)
 obtain⟨bn,bO⟩:=nm (sn+sn2);rw[bO]at cN;have ch:=O bO;clear bO;go_cut [19]from 14 to 18 (fun dR ae=>dR=.bool (decide ((3:Int)<(bn:Int)))/\J C ae)
 case first =>
  go_region_with (first
   | (go_at_call 221;(with_reducible refine(I bp _).mono ?_);rintro e S ⟨rfl,N⟩;have B:=(FQ C.1.size C).drew.trans N;obtain⟨b4,b5,b6,dZ⟩:=I ba S B;have az:=B.size;have bS:=FT n1 az;have bT:=FT n2 az;clear N)
   | (go_at_call 221;(with_reducible refine(I bq _).mono ?_);rintro e S ⟨rfl,N⟩;have B:=(FQ C.1.size C).drew.trans N;obtain⟨b4,b5,b6,dZ⟩:=I ba S B;have az:=B.size;have bS:W.1.size<S.1.size:=FT n1 az;have bT:W.1.size+1<S.1.size:=FT n2 az;clear N)
   | (go_at_call 221;(with_reducible refine(I bp _).mono ?_);rintro e F ⟨rfl,Q⟩;have ca:=B.trans (Q.mono B.size);clear Q)
   | (go_at_call 221;(with_reducible refine(I bq _).mono ?_);rintro e F ⟨rfl,Q⟩;have ca:=B.trans (Q.mono B.size);clear Q))
  all_goals go_wp2_with fail
  all_goals go_meet
  all_goals first|exact⟨rfl,ca⟩| (trace_state;fail)
 case rest =>
  obtain⟨rfl,N⟩:=hcut;have o:=O ((I bb).next N);clear N bb ba bp bq dV dW dX dY n1 n2 cH cN;rename World=>S;by_cases l:3<bn
  .have bA:(3:Int)<(bn:Int):=by omega
   rw[MV bA];have ab:bm=(eArr,5):=by
    rw[<-I a9];unfold Yr;rw[FY (by rw[<-I br,<-I bt,I ch];exact l)]
   subst ab;have ac:=(I o).d0;have ad:=(I o).d1;have bx:=(I o).D0;have bz:=(I o).D1;clear l;go_wp2_with fail;have t:=Ze (q:=3) (P:=P) (k:=4) (a:=eArr) (u0:=aH) (u1:=aH) (I o).below (by decide) (Jt _ _);exact FR (by simp[results,results199,go_sem,ac,ad]) rfl ⟨none,0,0,none,0,0,rfl,t.1,t.2⟩
  .have bA:¬ (3:Int)<(bn:Int):=by omega
   rw[Mu bA];have a5:¬ 3<a.shape.length+b.shape.length:=by rw[<-I br,<-I bt,I ch];exact l
   have b0:=(I o).a0;have b1:=(I o).b0;have cI:=(I o).lt;simp at cI;have dq:=b8.below (I o).below;have ds:=b9.below (I o).below;have cu:=Jdt dq;have cv:=Jdt ds;have cb:=O (Jjn (OffB W.1.size 4 P) (S.alloc (.cells (aL so sn sc so2 sn2 sc2) 37)) (fun b hb=>I X b (by simp at hb;omega)) S.1.size 2 2 [a.shape.map Int.ofNat,b.shape.map Int.ofNat] rfl (by decide) (by simp) (Jn4 cu cv 37) (by simp;have:=I br;have:=I bt;omega));clear l cu cv;go_wp2_with fail;refine(I cb).mono ?_;rintro e F ⟨bX,bY,bZ,rfl,bd,Q⟩;have cz:=(aS.alloc aT _).trans (Q.mono (by simp));have H:=O ((I o).next cz);have bd:Nums (OffB W.1.size 4 P) F (E bX bY bZ) ((a.shape++b.shape).map Int.ofNat):=by simpa using bd
   have cf:=O bd;have dc:Hid (Lens (a.shape++b.shape)):=O ⟨by simp;have:=a5;omega,fun cV dG=>by
    rcases ZK.1 dG with h|h
    .have:=(I a8).lens cV h;omega
    .have:=(I af).lens cV h;omega⟩
   clear Q cz bd o cb b0 b1 cI;go_wp2_with fail;refine aR (Jbh F bX bY bZ _ (I cf) (I dc)) fun ep cO=>?_;have dK:=cO.symm;subst dK;clear cO;by_cases R:Yb (a.shape++b.shape)=true
   .rw [R];have b7:¬ Yb (a.shape++b.shape)=false:=by rw[R];simp
    have dg:Hid (cn*b.cells.length<=64):=O (by
     have bB:Jd (a.shape++b.shape)<=64:=by
      unfold Yb at R;simp only[ZJ,JM]at R;exact R.2
     rw[Ji,<-(I a8).size,<-(I af).size]at bB;rw[I an];exact bB)
    have b1:=(I H).a1;have dF:=(I H).lt;simp at dF;clear R;go_wp2_with fail;go_loopw [9,34] (fun dS b2 wr=>∃i:Nat,b2=G i/\i<=cn/\Hid (outE f b a.cells i=0)/\OwnL F.1.size wr dS (outC f b (a.cells.take i))/\J F wr) (fun _ b2 _=>cn-(intOf b2).toNat)
    case atStart=>exact⟨0,rfl,by omega,O rfl,by simpa[outC]using OwnL.nil _ _,FQ _ _⟩
    case round =>
     obtain⟨i,rfl,ed,bG,aa,aj⟩:=hrel;rename World=>wr;have cg:=O aa;have bo:=O aj;have s:=O ((I H).next aj);have eh:=aj.size;by_cases dA:i<cn
     .have ax:i<a.cells.length:=by rw[<-I an];exact dA
      have dr:=b8.below (I s).below;have bE:=b9.below (I s).below;have ah:=J8 dr;obtain⟨d5,d6,rfl,cA,dx,bK⟩:=ah.at ax;obtain⟨u,aU⟩:=nm (a.cells[i]);rw[aU]at dx;have bQ:=(I a8).fits u (by rw[<-aU];exact ND ax);have bc:Hid (outC f b (a.cells.take (i+1))=outC f b (a.cells.take i)++(f ⟨[],[u]⟩ b).1.cells):=O (by rw[NG ax,aU,Jqe]);have aq:Hid (outE f b a.cells (i+1)=(f ⟨[],[u]⟩ b).2):=O (by rw[outE,FU (by rw[I bG];simp),NC,FX ax,aU];rfl);have db:Hid ((outC f b (a.cells.take i)).length=i*b.cells.length):=O (by
       have dp:∀cW ∈ a.cells.take i,(f ⟨[],[cW]⟩ b).1.cells.length=b.cells.length:=fun cW dL=>by
        obtain⟨k,dB,rfl⟩:=ZS dL;have dC:k<i:=by simp at dB;omega
        have ct:=Jcb (I bG) k dC;rw[NC,FX (by omega)]at ct;rw[H7];exact(I bu).len _ b ((I a8).fits _ (ND _)) (I af) ct
       rw[Jes dp,YD,ME (by omega)])
      have cm:=O bQ;have d2:=bE;have cj:=O (No (fun b=>OffB W.1.size 4 P b/\b≠wr.1.size) (wr.alloc (.cells aF 89)).drew (fun b hb=>by simp at hb;exact⟨I X b (by omega),by omega⟩) u);have ck:=O (No (OffB W.1.size 4 P) wr.drew (fun b hb=>by simp at hb;exact I X b (by omega)) u);have ao:Hid (∀(c:World) (ag:Nat->Prop) (d1:Option Addr) (x K:Nat),J wr c->(∀b,c.1.size<=b->ag b)->IsArr ag c (.agg #[aH,E d1 x K]) ⟨[],[u]⟩->(∀b,OffB W.1.size 4 P b->b<wr.1.size->ag b)->Calls prog g #[.agg #[aH,E d1 x K],aK so2 sn2 sc2 co2 cn2 cc2] c fun e W'=>∃so sn sc co cn cc,e=aD (.tuple #[aK so sn sc co cn cc,G (f ⟨[],[u]⟩ b).2])/\IsArr ag W' (aK so sn sc co cn cc) (f ⟨[],[u]⟩ b).1/\J c W'):=O (fun c ag d1 x K D dt dv du=>by
       have dw:J W c:=(I s).below.trans (D.mono (I s).below.size);exact I c7 c ag _ _ _ b ((I cl).trans (dw.mono (I cl).size)) dt dv ((bE.imp du).below D) (J1s bQ) (I af))
      have m:Hid (∀c,J wr c->c.cell? (U (W.1.size+1) 0)=some (E so2 sn2 sc2)/\c.cell? (U (W.1.size+1) 1)=some (E co2 cn2 cc2)/\c.cell? (U (W.1.size+1+1) 0)=some (aC g)):=O (fun c D=>by
       have l:=(I s).next D;exact⟨(l.cell 1 0 _ rfl).1,(l.cell 1 1 _ rfl).1,(l.cell 2 0 _ rfl).1⟩)
      obtain⟨b4,b5,b6⟩:=I m wr aS;obtain⟨Y,bI⟩:=nm (f ⟨[],[u]⟩ b);simp only[bI]at ao bc aq;have ci:=O bI;have ej:(0:Int)<=(i:Int):=by omega
      have dN:(i:Int)<(cn:Int):=by omega
      have ek:W.1.size+1<wr.1.size:=by omega
      have el:W.1.size+1+1<wr.1.size:=by omega
      have d8:=cA;have d7:W.1.size+4<=wr.1.size:=by omega
      clear aa aj bE ah aU bQ bI bK ax cA;go_upto_region 10 with fail;go_cut [12,13]from 38 to 46 (fun dP dQ ae=>∃au bU bV bW d1 x K,dP=aJ au 0/\dQ=G Y.2/\ae.cell? (U au 0)=some (E bU bV bW)/\ae.cell? (U au 1)=some (E d1 x K)/\IsArr (OffB W.1.size 4 P) ae (aK bU bV bW d1 x K) Y.1/\au<ae.1.size/\J wr ae)
      case first =>
       go_region_held3 (fun c=>c.cell? (U (W.1.size+1) 0)=some (E so2 sn2 sc2)/\c.cell? (U (W.1.size+1) 1)=some (E co2 cn2 cc2)/\c.cell? (U (W.1.size+1+1) 0)=some (aC g))
        (first
         | exact I m _ aS.drew
         | exact I m _ am
         | exact I m _ n
         | exact I m _ r
         | exact I m _ ((aS.alloc aT _).drew)
         | exact I m _ (aS.drew.alloc (by simp) _)
         | exact I m _ (n.alloc n.size _)
         | exact I m _ (r.alloc r.size _)
         | exact I m _ ((r.setCell (p:=U wr.1.size 0) aT _).setCell (p:=U wr.1.size 1) aT _)
         | exact I m _ ((r.setCell (p:=U d.1.size 0) bg _).setCell (p:=U d.1.size 1) bg _)
         | (trace_state;fail))
        (first
        | (go_at_call 150;(with_reducible refine(I cj).mono ?_);rintro e d ⟨bi,bj,bl,rfl,ai,y⟩;have am:=((FQ wr.1.size wr).alloc aT (.cells aF 89)).drew.trans (y.mono (by simp));have cT:=(y.cell (p:=U wr.1.size 0) (by simp));have cU:=(y.cell (p:=U wr.1.size 1) (by simp));have cr:=(y.frozen (p:=U wr.1.size 0) (by simp));have cs:=(y.frozen (p:=U wr.1.size 1) (by simp));simp at cT cU cr cs;have bf:wr.1.size<d.1.size:=(by have:=y.size;simp at this;omega);obtain⟨u0,u1,u2⟩:=I m d am;have bS:W.1.size+1<d.1.size:=(by omega);have bT:W.1.size+1+1<d.1.size:=(by omega);have c8:=O (I ao d (fun b=>OffB W.1.size 4 P b/\b≠wr.1.size) bi bj bl am (fun b hb=>⟨I X b (by omega),by omega⟩) ai (fun b h Z=>⟨h,by omega⟩));clear ai y)
        | (go_at_call 150;(with_reducible refine(I ck).mono ?_);rintro e d ⟨bi,bj,bl,rfl,ai,y⟩;have n:=(FQ wr.1.size wr).drew.trans y;obtain⟨u0,u1,u2⟩:=I m d n;have bg:=n.size;have bS:W.1.size+1<d.1.size:=(by omega);have bT:W.1.size+1+1<d.1.size:=(by omega);have c9:=O (I ao (d.alloc (.cells aF 89)) (fun b=>OffB W.1.size 4 P b/\b≠d.1.size) bi bj bl (n.alloc n.size _) (fun b hb=>by simp at hb;exact⟨I X b (by omega),by omega⟩) ((ai.imp (fun b h Z=>⟨h,by omega⟩)).below (aS.alloc aT _)) (fun b h Z=>⟨h,by omega⟩));have da:=O (I ao d (OffB W.1.size 4 P) bi bj bl n (fun b hb=>I X b (by omega)) ai (fun b h Z=>h));clear ai y)
        | (go_at_fn g;(with_reducible refine(I c8).mono ?_);rintro e a4 ⟨aW,aX,aY,c4,c5,av,rfl,L,j⟩;have cX:=L;have r:=am.trans (j.mono am.size);have ak:=V j bf cT;have al:=V j bf cU;have cp:=bF j bf cr;have cq:=bF j bf cs;have cJ:=j.size;have bR:wr.1.size<a4.1.size:=(by omega);clear L j)
        | (go_at_fn g;(with_reducible refine(I c9).mono ?_);rintro e a4 ⟨aW,aX,aY,c4,c5,av,rfl,L,j⟩;have cY:=L;have r:=(n.alloc n.size (.cells aF 89)).trans (j.mono (by simp;omega));have ak:=(j.cell (p:=U d.1.size 0) (by simp));have al:=(j.cell (p:=U d.1.size 1) (by simp));have cp:=(j.frozen (p:=U d.1.size 0) (by simp));have cq:=(j.frozen (p:=U d.1.size 1) (by simp));simp at ak al cp cq;have cJ:=j.size;simp at cJ;have bR:d.1.size<a4.1.size:=(by omega);clear L j)
        | (go_at_fn g;(with_reducible refine(I da).mono ?_);rintro e a4 ⟨aW,aX,aY,c4,c5,av,rfl,L,j⟩;have cZ:=L;have r:=n.trans (j.mono n.size);clear L j))
       all_goals go_wp2_with fail
       all_goals go_meet
       all_goals first
        | exact⟨wr.1.size,aW,aX,aY,c4,c5,av,rfl,rfl,(Ns ak al _ _).1,(Ns ak al _ _).2,((cX.set (fun h=>h.2 rfl) 0 _).set (fun h=>h.2 rfl) 1 _).imp (fun b h _=>h.1),by simpa using bR,(r.setCell (p:=U wr.1.size 0) aT _).setCell (p:=U wr.1.size 1) aT _⟩
        | exact⟨d.1.size,aW,aX,aY,c4,c5,av,rfl,rfl,(Ns ak al _ _).1,(Ns ak al _ _).2,((cY.set (fun h=>h.2 rfl) 0 _).set (fun h=>h.2 rfl) 1 _).imp (fun b h _=>h.1),by simpa using bR,(r.setCell (p:=U d.1.size 0) bg _).setCell (p:=U d.1.size 1) bg _⟩
        | exact⟨a4.1.size,aW,aX,aY,c4,c5,av,rfl,rfl,alA,alA,cZ.below (aS.alloc aT _),by simp,r.alloc r.size _⟩
        | (trace_state;fail)
      case rest =>
       obtain⟨au,bU,bV,bW,d1,x,K,rfl,rfl,en,eo,bD,ee,aw⟩:=hcut;rename World=>wc;have ar:=O ((I s).next aw);have T:=O ((I cg).below aw);have a6:=(I bo).trans (aw.mono (I bo).size);clear cj ck ao m b4 b5 b6 cg bo;by_cases A:Y.2=0
       .have dH:Y.1.ok:=by
         have:=(I bu).ok u b (I cm) (I af);rw[I ci]at this;exact this A
        have dE:Y.1.cells.length=b.cells.length:=by
         have:=(I bu).len u b (I cm) (I af);rw[I ci]at this;exact this A
        have cd:Hid (outE f b a.cells (i+1)=0):=O (by rw[I aq,A]);have ah:=J8 bD;have cC:=Je ah;have cK:i*b.cells.length+x<=64:=by
         have l:(i+1)*b.cells.length<=cn*b.cells.length:=NR _ (by omega);have bB:=I dg;rw[ZG,YA]at l;omega
        rw[<-I db]at cK;rw[A];obtain⟨b3,vc,rfl⟩:=(I T).shape;obtain⟨aV,ay⟩:=nm (outC f b (a.cells.take i));rw[ay]at T bc cK⊢;have a7:=O ah;have ap:=O cC;obtain⟨-,em,-,ei,-⟩:=Zm (I T);clear bD ah dH dE A aw cC ay;obtain⟨cS,cF,cP,cQ,cR⟩:=NY VI;have ce:=O cF;have dh:=O cP;have di:=O cQ;have dj:=O cR;clear cF cP cQ cR;by_cases hd0:x=0
        .subst hd0;have de:Hid (OwnL F.1.size wc (E b3 aV.length vc) (outC f b (a.cells.take (i+1)))):=O (by
          have dM:=NK (I ap).symm;rw[I bc,dM,YU];exact I T)
         have dJ:aV.length<=vc:=by
          obtain⟨_,_,bP,dD,_⟩:=Zm (I T);injection bP with _ _ bv;rw[bv];exact dD
         go_wp2_with (at_builtin;refine Za rfl _ _ 32 rfl 2 cS ZP (I ce) _ _ _ ?c1 rfl _ _ rfl ?_)
         case c1=>exact dJ
         go_wp2_with fail;go_roundw
         case rel=>exact⟨i+1,by go_num,by omega,cd,I de,a6⟩
         case measure=>simp[intOf];omega
        .obtain ⟨d3,d4,bP,bK,l,_⟩:=I a7;obtain⟨dm,dn,rfl,_,eb,dz⟩:=l (by rw[<-I ap];omega);injection bP with dk dl bv;subst dk;clear l dz bK dl bv;go_wp2_with (at_builtin;refine JA _ rfl _ _ 32 rfl F.1.size 2 cS (G 0) 1 8 ZP (I ce) (I dh) (I di) (I dj) rfl (by decide) _ _ _ rfl (I T) ⟨dm,dn,none⟩ x K (Y.1.cells.map (Value.int .i64)) rfl (by simp[I ap]) ?c2 X9 ?c3 ?c4 ?c5 ?_)
         case c2 =>
          have:=I a7;rw[I ap]at this;exact Fj this
         case c3=>unfold maxLen;omega
         case c4=>omega
         case c5=>exact a6.size
         intro dO dT bM cE _;have c6:=a6.grown cE a6.size (fun q dI=>(Mj (I T) q dI).1);have df:Hid (OwnL F.1.size dT dO (outC f b (a.cells.take (i+1)))):=O (by
          rw[I bc];unfold OwnL;rw[JD,NU];rw[I ap]at bM;exact bM)
         clear bM cE;go_wp2_with fail;go_roundw
         case rel=>exact⟨i+1,by go_num,by omega,cd,I df,c6⟩
         case measure=>simp[intOf];omega
       .obtain ⟨bw,cD⟩:=nm Y.2;rw[cD]at A aq⊢;have ea:(bw != 0)=true:=by simpa using A
        have ab:bm=(eArr,bw):=by
         have l:outE f b a.cells a.cells.length=bw:=by
          rw[<-I aq];exact Jdq (by rw[I aq];exact A) (by have:=I an;omega)
         rw[<-I a9];unfold Yr;rw[FU a5,FU b7,l,FY A]
        subst ab;have ac:=(I ar).d0;have ad:=(I ar).d1;have bx:=(I ar).D0;have bz:=(I ar).D1;clear bD aw A cD;go_wp2_with fail;have t:=Ze (q:=3) (P:=P) (k:=4) (a:=eArr) (u0:=aH) (u1:=aH) (I ar).below (by decide) (Jt _ _);exact FR (by simp[results,results199,go_sem,ac,ad]) rfl ⟨none,0,0,none,0,0,rfl,t.1,t.2⟩
     .have cG:i=cn:=by omega
      have cx:a.cells.take i=a.cells:=NJ (by have:=I an;omega);have bH:=I bG;rw[cG,I an]at bH;rw[cx]at aa;have dN:¬ (i:Int)<(cn:Int):=by omega
      obtain⟨b3,vc,rfl⟩:=aa.shape;obtain⟨aV,ay⟩:=nm (outC f b a.cells);rw[ay]at aa⊢;have ab:bm=(⟨a.shape++b.shape,aV⟩,0):=by
       rw[<-I a9];unfold Yr;rw[FU a5,FU b7,FU (by rw[bH];simp),ay]
      subst ab;have dd:=O ((I cf).below aj);have a7:=O (aa.nums.imp (fun b h _=>I X b (by omega)));have ac:=(I s).d0;have ad:=(I s).d1;have bx:=(I s).D0;have bz:=(I s).D1;clear aa aj cx cG bH;go_wp2_with fail;have t:=Ze (q:=3) (u0:=E bX bY bZ) (u1:=E b3 aV.length vc) (I s).below (by decide) (Jd3 (sh:=a.shape++b.shape) (I dd) (I a7));exact FR (by simp[results,results199,go_sem,ac,ad]) rfl ⟨_,_,_,_,_,_,rfl,t.1,t.2⟩
   .have bL:Yb (a.shape++b.shape)=false:=by simpa using R
    rw[bL];have ab:bm=(eArr,9):=by
     rw[<-I a9];unfold Yr;rw[FU a5,FY bL]
    subst ab;have ac:=(I H).d0;have ad:=(I H).d1;have bx:=(I H).D0;have bz:=(I H).D1;clear R bL;go_wp2_with fail;have t:=Ze (q:=3) (P:=P) (k:=4) (a:=eArr) (u0:=aH) (u1:=aH) (I H).below (by decide) (Jt _ _);exact FR (by simp[results,results199,go_sem,ac,ad]) rfl ⟨none,0,0,none,0,0,rfl,t.1,t.2⟩
theorem GM(h)(w):(binOp .eql 246 (aC h) .nilFunc).run prog w=.ok (.bool false) w:=by kernel_rfl
theorem Jnf{k1:Lit}(h1:1<=t.size)(hk2:keyOf prog 9 (aE t)=some k2)(hh:Maps.has signsD k2=false)(hk1:keyOf prog 9 (aE (t.extract 1 t.size))=some k1)(ha1:formsTwoD.atKey k1 (.held .nilFunc)=.held (aC h))(hks:keyOf prog 9 (aE (t.extract 0 1))=some ks)(has:signsD.atKey ks (.held Jh5)=.held (.agg #[aC g,G z]))(w):
 Calls prog 111 #[aE t] w fun e w'=>∃b3 b4,e=aD (.func (.func 159) #[] #[aJ b3 0,aJ b4 0])/\w'.cell? (U b3 0)=some (aC h)/\b3<w'.1.size/\w'.cell? (U b4 0)=some (aC g)/\w'.cell? (U b4 1)=some (G z)/\b4<w'.1.size/\J w w':=by
 have A:∀w' b,w'.ownsMap prog 9 J0 b 9 signsD->(Instr.lookup 242 (.map (some b)) (aE t) true).run prog w'=.ok (.tuple #[.agg #[.nilFunc,G 0],.bool false]) w':=fun w' b h=>Xm YW (VN w') h hk2 hh (atKey_of_not_has hh _);have l:∀w' b,w'.ownsMap prog 9 J0 b 1 formsTwoD->(Instr.lookup 247 (.map (some b)) (aE (t.extract 1 t.size)) false).run prog w'=.ok (aC h) w':=fun w' b h=>Kd underlying247 (XQ w') h hk1 ha1;have m:∀w' b,w'.ownsMap prog 9 J0 b 9 signsD->(Instr.lookup 242 (.map (some b)) (aE (t.extract 0 1)) false).run prog w'=.ok (.agg #[aC g,G z]) w':=fun w' b h=>Kd YW (VN w') h hks has;have F:=GM h;clear hk1 ha1 hks has hk2 hh;go_enter func111,ntmps111;go_upto_region 4 with(go_at_call 154;refine aR (Qs _) ?_;rintro d ⟨c,a⟩;have C:=A _ _ c;have k:=a;clear c a);have n:J w (d.alloc (.cells #[.nilFunc,G 0] 241)):=k.alloc k.size _;generalize hW1:(d.alloc (.cells #[.nilFunc,G 0] 241))=W1 at n⊢;clear hW1 C k;go_cut [5]from 16 to 19 (fun i f=>∃b3,i=aJ b3 0/\f.cell? (U b3 0)=some (aC h)/\b3<f.1.size/\J W1 f)
 .go_region_with (first|(go_at_call 157;refine aR (Q4 _) ?_;rintro d ⟨c,a⟩;have q:=l _ W1.1.size (by exact c);have D:=l (d.alloc (.cells #[.nilFunc] 246)) W1.1.size (MN (by exact c) _);have f:=a;obtain⟨j,o⟩:=Yy a;have i:=a.size;(try simp at i);(try have r:W1.1.size<d.1.size:=by omega);clear c a)| (go_at_call 157;refine aR (Q4 _) ?_;rintro d ⟨c,a⟩;have q:=(by have:=l _ _ c;simpa[World.drew]using this);have f:=a;obtain⟨j,o⟩:=Yy a;have i:=a.size;(try simp at i);(try have r:W1.1.size<d.1.size:=by omega);clear c a))
  all_goals go_wp2_with fail
  all_goals go_meet
  all_goals first
   | exact⟨d.1.size,rfl,alA,by simp,(Jw f).alloc (Jw f).size _⟩
   | exact⟨W1.1.size,rfl,FW _ _ _ (u:=.nilFunc) ((j W1.1.size 0 (by simp)).trans (alA)),by simp;omega,((((FQ W1.1.size W1).alloc aT _).drew.trans (f.mono (by simp))).setCell (p:=U W1.1.size 0) aT _)⟩
   | (trace_state;fail)
 obtain⟨b3,rfl,B,y,x⟩:=hcut;rename World=>wc;have s:=n.trans (x.mono n.size);clear x;go_upto_region 7 with fail;go_cut [6]from 25 to 28 (fun i f=>∃b4,i=aJ b4 0/\f.cell? (U b4 0)=some (aC g)/\f.cell? (U b4 1)=some (G z)/\b4<f.1.size/\J wc f)
 .go_region_with (first|(go_at_call 154;refine aR (Qs _) ?_;rintro d ⟨c,a⟩;have q:=m _ wc.1.size (by exact c);have D:=m (d.alloc (.cells #[.nilFunc,G 0] 241)) wc.1.size (MN (by exact c) _);have f:=a;obtain⟨j,o⟩:=Yy a;have i:=a.size;(try simp at i);(try have r:wc.1.size<d.1.size:=by omega);clear c a)| (go_at_call 154;refine aR (Qs _) ?_;rintro d ⟨c,a⟩;have q:=(by have:=m _ _ c;simpa[World.drew]using this);have f:=a;obtain⟨j,o⟩:=Yy a;have i:=a.size;(try simp at i);(try have r:wc.1.size<d.1.size:=by omega);clear c a))
  all_goals go_wp2_with fail
  all_goals go_meet
  all_goals first
   | exact⟨d.1.size,rfl,alA,alA,by simp,(Jw f).alloc (Jw f).size _⟩
   | exact⟨wc.1.size,rfl,celN (by omega) (FW _ _ _ (u:=.nilFunc) ((j wc.1.size 0 (by simp)).trans (alA))),FW _ _ _ (u:=G 0) (celN (by omega) ((j wc.1.size 1 (by simp)).trans (alA))),by simp;omega,(((((FQ wc.1.size wc).alloc aT _).drew.trans (f.mono (by simp))).setCell (p:=U wc.1.size 0) aT _).setCell (p:=U wc.1.size 1) aT _)⟩
   | (trace_state;fail)
 obtain⟨b4,rfl,i,j,o,f⟩:=hcut;rename World=>wd;go_wp2_with fail;go_ret;exact⟨b3,b4,rfl,V f y B,FT y f.size,i,j,o,s.trans (f.mono s.size)⟩
theorem Jwt(hh:Enters prog h){F:Arr->Arr->Arr × Int}{w':World}(hF:∀(P:Nat->Prop) (W:World),J w' W->(∀b,W.1.size<=b->P b)->∀(so:Option Addr) (sn sc:Nat) (co:Option Addr) (cn cc:Nat) (so2:Option Addr) (sn2 sc2:Nat) (co2:Option Addr) (cn2 cc2:Nat) (a b:Arr),IsArr P W (aK so sn sc co cn cc) a->IsArr P W (aK so2 sn2 sc2 co2 cn2 cc2) b->a.ok->b.ok->Calls prog h #[aK so sn sc co cn cc,aK so2 sn2 sc2 co2 cn2 cc2,.agg #[aC g,G z]] W fun e W'=>∃so sn sc co cn cc,e=aD (.tuple #[aK so sn sc co cn cc,G (F a b).2])/\IsArr P W' (aK so sn sc co cn cc) (F a b).1/\J W W')
 {b3 b4:Nat} (c3:w'.cell? (U b3 0)=some (aC h)) (l3:b3<w'.1.size) (c4:w'.cell? (U b4 0)=some (aC g)) (c5:w'.cell? (U b4 1)=some (G z)) (l4:b4<w'.1.size):FnTwo 159 #[aJ b3 0,aJ b4 0] w' F:=by
 intro W P ae v a b d s j k u x;have o:=j;have r:=k;obtain⟨so,sn,sc,co,cn,cc,rfl,_,_⟩:=o;obtain⟨so2,sn2,sc2,co2,cn2,cc2,rfl,_,_⟩:=r;show Calls prog 159 #[(agV so sn sc co cn cc),(agV so2 sn2 sc2 co2 cn2 cc2),aJ b3 0,aJ b4 0] W _;have K:=V d l3 c3;have L:=V d l4 c4;have N:=V d l4 c5;have y:=d.size;have Y:b3<W.1.size:=by omega
 have ab:b4<W.1.size:=by omega
 have X:∀args w,(callFunc h args).run prog w=.ok (.enter h args) w:=hh;have f:=Bx.n3 W (aM so sn sc co cn cc) (aM so2 sn2 sc2 co2 cn2 cc2) [M,M] 89 89 89;have m:=hF (OffB W.1.size 3 P) _ (d.trans (f.below.mono y)) (fun b T=>OffB.new s (by simp_all)) so sn sc co cn cc so2 sn2 sc2 co2 cn2 cc2 a b ((j.imp (Q:=OffB W.1.size 3 P) (fun b h i=>⟨h,NN i⟩)).below f.below) ((k.imp (Q:=OffB W.1.size 3 P) (fun b h i=>⟨h,NN i⟩)).below f.below) u x;have Z:b3<W.1.size+1:=by omega
 have aa:b3<W.1.size+1+1:=by omega
 have ac:b4<W.1.size+1:=by omega
 have ad:b4<W.1.size+1+1:=by omega
 go_enter func159,ntmps159;go_wp2_with (go_at_fn h;refine m.mono ?_);rintro e af ⟨C,D,H,c4,c5,n,rfl,p,t⟩;have c:=f.next t;have A:=c.c0;have B:=c.c1;have R:=c.C0;have S:=c.C1;go_wp2_with fail;have l:=Ze (q:=2) (u0:=E C D H) (u1:=E c4 c5 n) c.below (by decide) p;exact FR (by simp[results,results159,go_sem,A,B]) rfl ⟨_,_,_,_,_,_,rfl,l.1,l.2⟩
theorem GN:Enters prog 159:=NF func159 (by decide) rfl
theorem GO:Enters prog 199:=NF func199 (by decide) rfl
theorem V7(h1:1<=t.size)(hk2:keyOf prog 9 (aE t)=some k2)(hh:Maps.has signsD k2=false)(hk1:keyOf prog 9 (aE (t.extract 1 t.size))=some (.string [46]))(hks:keyOf prog 9 (aE (t.extract 0 1))=some ks)(has:signsD.atKey ks (.held Jh5)=.held (.agg #[aC g,G z]))(hen:Enters prog g)(hfn:∀w,FnTwo g #[] w f)(hsp:Spread f):TwoC t (Yr f) where
 finds:=fun w=>(Jnf h1 hk2 hh hk1 (show formsTwoD.atKey (.string [46]) (.held .nilFunc)=.held (aC 199) by kernel_rfl) hks has w).mono (by
  rintro e w' ⟨b3,b4,rfl,c3,l3,c4,c5,l4,hb⟩;exact⟨159,_,rfl,GN,hb,Jwt GO (fun P W hW hP so sn sc co cn cc so2 sn2 sc2 co2 cn2 cc2 a b ha hb hoa hob=>Jqd z hen (hfn w') hsp P W hW hP so sn sc co cn cc so2 sn2 sc2 co2 cn2 cc2 a b ha hb hoa hob) c3 l3 c4 c5 l4⟩)
 ok:=fun a b ha hb=>Jvm hsp ha hb
theorem Jpw:OneC ⟨#[43,92]⟩ (Z1 (Jh V5)):=Fd (z:=0) (by decide) (by kernel_rfl) (ks:=.string [43]) (by kernel_rfl) (by kernel_rfl) VX Jeo (J3 plus_rule.fits)
theorem Jmt:OneC ⟨#[45,92]⟩ (Z1 (Jh Kn)):=Fd (z:=0) (by decide) (by kernel_rfl) (ks:=.string [45]) (by kernel_rfl) (by kernel_rfl) VY Jbe (J3 minus_rule.fits)
theorem Jlt:OneC ⟨#[42,92]⟩ (Z1 (Jh Kh)):=Fd (z:=1) (by decide) (by kernel_rfl) (ks:=.string [42]) (by kernel_rfl) (by kernel_rfl) VZ Jay (J3 times_rule.fits)
theorem Jqb:OneC ⟨#[37,92]⟩ (Z1 (Jh Z8)):=Fd (z:=1) (by decide) (by kernel_rfl) (ks:=.string [37]) (by kernel_rfl) (by kernel_rfl) XA Jer (J3 over_rule.fits)
theorem Jpm:OneC ⟨#[124,92]⟩ (Z1 (Jh Qi)):=Fd (z:=0) (by decide) (by kernel_rfl) (ks:=.string [124]) (by kernel_rfl) (by kernel_rfl) XB Jek (J3 rest_rule.fits)
theorem Ji9:OneC ⟨#[38,92]⟩ (Z1 (Jh Zk)):=Fd (z:=9223372036854775807) (by decide) (by kernel_rfl) (ks:=.string [38]) (by kernel_rfl) (by kernel_rfl) XC Fr (J3 lesser_rule.fits)
theorem Jg8:OneC ⟨#[33,92]⟩ (Z1 (Jh Yp)):=Fd (z:=(-9223372036854775808)) (by decide) (by kernel_rfl) (ks:=.string [33]) (by kernel_rfl) (by kernel_rfl) XD Gb (J3 greater_rule.fits)
theorem Joz:OneC ⟨#[61,92]⟩ (Z1 (Jh V2)):=Fd (z:=1) (by decide) (by kernel_rfl) (ks:=.string [61]) (by kernel_rfl) (by kernel_rfl) XE Jee (J3 same_rule.fits)
theorem Jnp:OneC ⟨#[60,92]⟩ (Z1 (Jh Kv)):=Fd (z:=0) (by decide) (by kernel_rfl) (ks:=.string [60]) (by kernel_rfl) (by kernel_rfl) XF Jbm (J3 below_rule.fits)
theorem Jpx:TwoC ⟨#[43,46]⟩ (Yr (Jh V5)):=V7 (z:=0) (by decide) (k2:=.string [43,46]) (by kernel_rfl) (by kernel_rfl) (by kernel_rfl) (ks:=.string [43]) (by kernel_rfl) (by kernel_rfl) VX Jeo (Zj plus_rule.fits)
theorem Jmu:TwoC ⟨#[45,46]⟩ (Yr (Jh Kn)):=V7 (z:=0) (by decide) (k2:=.string [45,46]) (by kernel_rfl) (by kernel_rfl) (by kernel_rfl) (ks:=.string [45]) (by kernel_rfl) (by kernel_rfl) VY Jbe (Zj minus_rule.fits)
theorem Jlu:TwoC ⟨#[42,46]⟩ (Yr (Jh Kh)):=V7 (z:=1) (by decide) (k2:=.string [42,46]) (by kernel_rfl) (by kernel_rfl) (by kernel_rfl) (ks:=.string [42]) (by kernel_rfl) (by kernel_rfl) VZ Jay (Zj times_rule.fits)
theorem Jqc:TwoC ⟨#[37,46]⟩ (Yr (Jh Z8)):=V7 (z:=1) (by decide) (k2:=.string [37,46]) (by kernel_rfl) (by kernel_rfl) (by kernel_rfl) (ks:=.string [37]) (by kernel_rfl) (by kernel_rfl) XA Jer (Zj over_rule.fits)
theorem Jpn:TwoC ⟨#[124,46]⟩ (Yr (Jh Qi)):=V7 (z:=0) (by decide) (k2:=.string [124,46]) (by kernel_rfl) (by kernel_rfl) (by kernel_rfl) (ks:=.string [124]) (by kernel_rfl) (by kernel_rfl) XB Jek (Zj rest_rule.fits)
theorem Jja:TwoC ⟨#[38,46]⟩ (Yr (Jh Zk)):=V7 (z:=9223372036854775807) (by decide) (k2:=.string [38,46]) (by kernel_rfl) (by kernel_rfl) (by kernel_rfl) (ks:=.string [38]) (by kernel_rfl) (by kernel_rfl) XC Fr (Zj lesser_rule.fits)
theorem Jg9:TwoC ⟨#[33,46]⟩ (Yr (Jh Yp)):=V7 (z:=(-9223372036854775808)) (by decide) (k2:=.string [33,46]) (by kernel_rfl) (by kernel_rfl) (by kernel_rfl) (ks:=.string [33]) (by kernel_rfl) (by kernel_rfl) XD Gb (Zj greater_rule.fits)
theorem Jo0:TwoC ⟨#[61,46]⟩ (Yr (Jh V2)):=V7 (z:=1) (by decide) (k2:=.string [61,46]) (by kernel_rfl) (by kernel_rfl) (by kernel_rfl) (ks:=.string [61]) (by kernel_rfl) (by kernel_rfl) XE Jee (Zj same_rule.fits)
theorem Jnq:TwoC ⟨#[60,46]⟩ (Yr (Jh Kv)):=V7 (z:=0) (by decide) (k2:=.string [60,46]) (by kernel_rfl) (by kernel_rfl) (by kernel_rfl) (ks:=.string [60]) (by kernel_rfl) (by kernel_rfl) XF Jbm (Zj below_rule.fits)
def Jqz{α:Type}(d:α):List (List UInt8 × α)->List UInt8->α
 | [],_=>d
 | (k,f)::r,t=>if k=t then f else Jqz d r t
theorem Xn{α:Type}{d:α}:∀{L:List (List UInt8 × α)} {t:List UInt8},t ∈ L.map (·.1)->∃p ∈ L,p.1=t/\Jqz d L t=p.2
 | [],_,h=>by cases h
 | (k,f)::r,t,h=>by
  unfold Jqz;by_cases e:k=t
  .simp_all
  rw[FU e];rw[Mv,JO]at h;rcases h with h|h
  .simp_all
  obtain⟨p,h1,h2,h3⟩:=Xn (d:=d) h;grind
def tab1:List (List UInt8 × (Arr->Arr × Int)):=[([43],fun a=>(a,0)),([45],fun a=>(⟨a.shape,a.cells.map Km⟩,0)),([124],fun a=>(⟨a.shape,a.cells.map Yg⟩,0)),([42],fun a=>(⟨a.shape,a.cells.map Yj⟩,0)),([114,97,118,101,108],fun a=>(Kk a,0)),([105,111,116,97],Gm),([114,104,111],Zq),([114,101,118],revP),([117,112],Kl Qw),([100,111,119,110],Kl (fun x y=>Qw y x)),([102,108,105,112],N5),([43,47],Zw (Jh V5) 0),([45,47],Zw (Jh Kn) 0),([42,47],Zw (Jh Kh) 1),([37,47],Zw (Jh Z8) 1),([124,47],Zw (Jh Qi) 0),([38,47],Zw (Jh Zk) 9223372036854775807),([33,47],Zw (Jh Yp) (-9223372036854775808)),([61,47],Zw (Jh V2) 1),([60,47],Zw (Jh Kv) 0),([43,92],Z1 (Jh V5)),([45,92],Z1 (Jh Kn)),([42,92],Z1 (Jh Kh)),([37,92],Z1 (Jh Z8)),([124,92],Z1 (Jh Qi)),([38,92],Z1 (Jh Zk)),([33,92],Z1 (Jh Yp)),([61,92],Z1 (Jh V2)),([60,92],Z1 (Jh Kv))]
def tab2:List (List UInt8 × (Arr->Arr->Arr × Int)):=[([43],Jh V5),([45],Jh Kn),([42],Jh Kh),([37],Jh Z8),([124],Jh Qi),([38],Jh Zk),([33],Jh Yp),([61],Jh V2),([60],Jh Kv),([43,46],Yr (Jh V5)),([45,46],Yr (Jh Kn)),([42,46],Yr (Jh Kh)),([37,46],Yr (Jh Z8)),([124,46],Yr (Jh Qi)),([38,46],Yr (Jh Zk)),([33,46],Yr (Jh Yp)),([61,46],Yr (Jh V2)),([60,46],Yr (Jh Kv)),([114,104,111],Yd),([114,101,118],Ni),([116,97,107,101],Jas),([100,114,111,112],Jaw),([99,97,116],catP),([105,110],inP),([97,116],atP),([107,101,101,112],Gk)]
inductive AllC {α:Type} (P:List UInt8->α->Prop):List (List UInt8 × α)->Prop where
 | nil:AllC P []
 | cons {k:List UInt8} {f:α} {r:List (List UInt8 × α)}:P k f->AllC P r->AllC P ((k,f)::r)
theorem AllC.of{P:List UInt8->α->Prop}{L:List (List UInt8 × α)}(h:AllC P L):∀p ∈ L,P p.1 p.2:=by
 induction h with
 | nil=>simp
 | cons h1 _ ih =>
  simp_all
theorem tab1_all:AllC (fun k f=>OneC ⟨k.toArray⟩ f) tab1:=.cons Jm3 (.cons Ji2 (.cons Jey (.cons Je7 (.cons Jpv (.cons Jwm (.cons Jjb (.cons Jo7 (.cons J1b (.cons Jw1 (.cons Jwv (.cons Jy3 (.cons J03 (.cons Jva (.cons Ju7 (.cons Jpl (.cons Jrc (.cons Jvv (.cons Joy (.cons Jno (.cons Jpw (.cons Jmt (.cons Jlt (.cons Jqb (.cons Jpm (.cons Ji9 (.cons Jg8 (.cons Joz (.cons Jnp (.nil)))))))))))))))))))))))))))))
theorem tab2_all:AllC (fun k f=>TwoC ⟨k.toArray⟩ f) tab2:=.cons Jve (.cons Jqv (.cons Jod (.cons Jvk (.cons Jut (.cons Jmx (.cons Jjg (.cons Jue (.cons Js6 (.cons Jpx (.cons Jmu (.cons Jlu (.cons Jqc (.cons Jpn (.cons Jja (.cons Jg9 (.cons Jo0 (.cons Jnq (.cons Jir (.cons Jtp (.cons Jtt (.cons Jw0 (.cons J0y (.cons J2c (.cons J2x (.cons Jwa (.nil))))))))))))))))))))))))))
def f1A(t:ByteArray):Arr->Arr × Int:=Jqz (fun a=>(a,0)) tab1 t.data.toList
def f2A(t:ByteArray):Arr->Arr->Arr × Int:=Jqz (fun a _=>(a,0)) tab2 t.data.toList
theorem J3m(h:t.data.toList ∈ tab1.map (·.1)):OneC t (f1A t):=by
 obtain⟨c,b,e,f⟩:=Xn (d:=fun a=>(a,0)) h;have:=tab1_all.of c b;simp_all[f1A]
theorem J3g(h:t.data.toList ∈ tab2.map (·.1)):TwoC t (f2A t):=by
 obtain⟨c,b,e,f⟩:=Xn (d:=fun a _=>(a,0)) h;have:=tab2_all.of c b;simp_all[f2A]
def ix(d:List Int)(k:Nat):Int:=d.getD k 0
theorem N0(hi:i<d.length)(hj:j<d.length)(k):ix (Qc d i j) k=if j=k then ix d i else if i=k then ix d j else ix d k:=Jj9 hi hj k
structure Ord (cf:Int->Int->Int) (lt:Int->Int->Prop):Prop where
 trans:∀ {x y z},lt x y->lt y z->lt x z
 irr:∀ x,¬ lt x x
 less:∀ {x y},cf x y<0->lt x y
 more:∀ {x y},¬ cf y x<0->x<y->lt x y
def J2(lt:Int->Int->Prop)(d:List Int)(a b:Nat):Prop:=∀i j,a<=i->i<j->j<b->lt (ix d i) (ix d j)
def Jak(d:List Int)(a m b:Nat):Prop:=∀i j,a<=i->i<m->m<=j->j<b->ix d i<ix d j
structure From (d d':List Int) (a b:Nat):Prop where
 len:d'.length=d.length
 out:∀ k,k<a\/b<=k->ix d' k=ix d k
 inn:∀ k,a<=k->k<b->∃ k',a<=k'/\k'<b/\ix d' k=ix d k'
theorem From.refl(d)(a b):From d d a b:=⟨rfl,fun _ _=>rfl,fun k h1 h2=>⟨k,h1,h2,rfl⟩⟩
theorem From.trans{d1 d2:List Int}(h:From d d1 a b)(k:From d1 d2 a b):From d d2 a b :=
 ⟨k.len.trans h.len,fun q hq=>(k.out q hq).trans (h.out q hq),fun q h1 h2=>by
  obtain⟨q1,e1,e2,e3⟩:=k.inn q h1 h2;obtain⟨q2,f1,f2,f3⟩:=h.inn q1 e1 e2;grind⟩
theorem From.mono{d':List Int}{a' b':Nat}(h:From d d' a b)(ha:a'<=a)(hb:b<=b'):From d d' a' b' :=
 ⟨h.len,fun q hq=>h.out q (by omega),fun q h1 h2=>by
  by_cases e:q<a\/b<=q
  .exact ⟨q,h1,h2,h.out q e⟩
  obtain⟨q1,e1,e2,e3⟩:=h.inn q (by omega) (by omega);grind⟩
theorem From.swap(hb:b<=d.length)(hi:a<=i/\i<b)(hj:a<=j/\j<b):From d (Qc d i j) a b :=
 ⟨Yn d i j,fun k hk=>by rw[N0 (by omega) (by omega),FU (by omega),FU (by omega)],fun k h1 h2=>by
  rw[N0 (by omega) (by omega)];grind⟩
section
variable {cf:Int->Int->Int} {lt:Int->Int->Prop}
theorem Jk3(hO:Ord cf lt){a K:Nat}:∀(k:Nat) (d:List Int),a+K<d.length->k<=K->J2 lt d a (a+k)->(∀i,a<=i->i<a+k->ix d i<ix d (a+k))->J2 lt d (a+k) (a+K+1)->(∀i j,a<=i->i<a+k->a+k<j->j<a+K+1->lt (ix d i) (ix d j))->J2 lt (Gn cf a k d) a (a+K+1)/\From d (Gn cf a k d) a (a+K+1)
 | 0,d,_,_,_,_,h3,_=>⟨h3,From.refl _ _ _⟩
 | k+1,d,hl,hk,h1,h2,h3,h4=>by
  rw[Gn];by_cases hc:cf (d.getD (a+k+1) 0) (d.getD (a+k) 0)<0
  .rw [FY hc];have:lt (ix d (a+k+1)) (ix d (a+k)):=hO.less hc;have hs:=N0 (d:=d) (i:=a+k+1) (j:=a+k) (by omega) (by omega);have v1:ix (Qc d (a+k+1) (a+k)) (a+k)=ix d (a+k+1):=by rw[hs,FY rfl]
   have p:ix (Qc d (a+k+1) (a+k)) (a+k+1)=ix d (a+k):=by rw[hs,FU (by omega),FY rfl]
   have f:∀t,t≠a+k->t≠a+k+1->ix (Qc d (a+k+1) (a+k)) t=ix d t:=fun t h q=>by grind
   obtain⟨n,o⟩:=Jk3 hO k (Qc d (a+k+1) (a+k)) (by rw[Yn];exact hl) (by omega) (by
    intro i j b c e;rw[f i (by omega) (by omega),f j (by omega) (by omega)];exact h1 i j b c (by omega)) (by
    grind) (by
    intro i j b c e;by_cases l:i=a+k
    .subst l;rw[v1];by_cases g:j=a+k+1
     .simp_all
     rw[f j (by omega) g];exact h3 (a+k+1) j (by omega) (by omega) e
    .rw [f j (by omega) (by omega)];by_cases m:i=a+k+1
     .grind
     rw[f i l m];exact h3 i j (by omega) c e) (by
    intro i j b c e l;rw[f i (by omega) (by omega)];by_cases g:j=a+k+1
    .subst g;rw[p];exact h1 i (a+k) b (by omega) (by omega)
    grind)
   exact⟨n,(From.swap (by omega) (by omega) (by omega)).trans o⟩
  rw[FU hc];have f:lt (ix d (a+k)) (ix d (a+k+1)):=hO.more hc (h2 (a+k) (by omega) (by omega));refine⟨fun i j b c e=>?_,From.refl _ _ _⟩;by_cases g:j<a+k+1
  .exact h1 i j b c g
  by_cases l:i<a+k+1
  .by_cases c:j=a+k+1
   .subst c;by_cases m:i=a+k
    .subst m;exact f
    exact hO.trans (h1 i (a+k) b (by omega) (by omega)) f
   exact h4 i j b l (by omega) e
  exact h3 i j (by omega) c e
theorem Jch(hO:Ord cf lt){a b:Nat}:∀(s i:Nat) (d:List Int),b<=d.length->i+s=b->a<=i->J2 lt d a i->(∀p q,a<=p->p<q->i<=q->q<b->ix d p<ix d q)->J2 lt (Zr cf a s i d) a b/\From d (Zr cf a s i d) a b
 | 0,i,d,_,h1,_,h3,_=>by
  have:i=b:=by omega
  subst this;exact⟨h3,From.refl _ _ _⟩
 | s+1,i,d,hl,h1,h2,h3,h4=>by
  rw[Zr];obtain⟨j,e⟩:=Jk3 hO (a:=a) (K:=i-a) (i-a) d (by omega) aT (by rw[show a+(i-a)=i by omega];exact h3) (by rw[show a+(i-a)=i by omega];exact fun p c f=>h4 p i c f aT (by omega)) (fun p q c f g=>by omega) (fun p q c f g h=>by omega);rw[show a+(i-a)+1=i+1 by omega]at j e;obtain⟨o,r⟩:=Jch hO s (i+1) (Gn cf a (i-a) d) (by rw[e.len];exact hl) (by omega) (by omega) j (by
   intro p q c f g h;rw[e.out q (NO g)];by_cases m:p<i+1
   .obtain ⟨n,k,t,l⟩:=e.inn p c m;rw[l];exact h4 n q k (by omega) (by omega) h
   rw[e.out p (NO (by omega))];exact h4 p q c f (by omega) h)
  exact⟨o,(e.mono aT (by omega)).trans r⟩
theorem Jhw{p:Nat->Bool}:∀(f:Nat) {i j:Nat},j-i<=f->i<=j->(∀c c',i<=c->c<c'->c'<j->p c'=true->p c=true)->(∀c,i<=c->c<bsF p i j->p c=true)/\(∀c,bsF p i j<=c->c<j->p c=false)
 | 0,i,j,hf,h,_=>by
  grind[Xc]
 | f+1,i,j,hf,h,hm=>by
  by_cases hij:i<j
  .by_cases hp:p ((i+j) / 2)=true
   .rw [Jcu hij hp];obtain⟨r1,r2⟩:=Jhw (p:=p) f (i:=(i+j) / 2+1) (j:=j) (by omega) (by omega) (fun c c' e1 e2 e3 e4=>hm c c' (by omega) e2 e3 e4);grind
   rw[Jhx hij hp];obtain⟨r1,r2⟩:=Jhw (p:=p) f (i:=i) (j:=(i+j) / 2) (by omega) (by omega) (fun c c' e1 e2 e3 e4=>hm c c' e1 e2 (by omega) e4);grind
  grind[Xc]
theorem Joq:∀(s k:Nat) (d:List Int),k+s<d.length->∀t,ix (shUp s k d) t=if k<=t/\t<k+s then ix d (t+1)else if t=k+s then ix d k else ix d t
 | 0,k,d,_,t=>by
  simp_all[shUp,FU]
 | s+1,k,d,h,t=>by
  rw[shUp,Joq s (k+1) _ (by grind[Yn]) t];have:=N0 (d:=d) (i:=k) (j:=k+1) (by omega) (by omega);grind
theorem Jor:∀(s k:Nat) (d:List Int),s<=k->k<d.length->∀t,ix (shDn s k d) t=if t=k-s then ix d k else if k-s<t/\t<=k then ix d (t-1)else ix d t
 | 0,k,d,_,_,t=>by
  simp_all[shDn,FU]
 | s+1,k,d,h,hl,t=>by
  rw[shDn,Jor s (k-1) _ (by omega) (by grind[Yn]) t];have:=N0 (d:=d) (i:=k) (j:=k-1) (by omega) (by omega);grind
theorem Jka{a b:Nat}:∀(s i:Nat) (d:List Int),a+i+s<=b+i->b+i+s<=d.length->∀t,ix (swR a b s i d) t=if a+i<=t/\t<a+i+s then ix d (t-a+b)else if b+i<=t/\t<b+i+s then ix d (t-b+a)else ix d t
 | 0,i,d,_,_,t=>by simp[swR,FU]
 | s+1,i,d,h1,h2,t=>by
  rw[swR,Jka s (i+1) _ (by omega) (by grind[Yn]) t];have:=N0 (d:=d) (i:=a+i) (j:=b+i) (by omega) (by omega);grind
theorem Jip{m:Nat}:∀(f i j:Nat) (d:List Int),i+j<=f->0<i->0<j->i<=m->m+j<=d.length->∀t,ix (rotP m f i j d) t=if m-i<=t/\t<m-i+j then ix d (t+i)else if m-i+j<=t/\t<m+j then ix d (t-j)else ix d t
 | 0,i,j,d,h,h1,_,_,_,_=>absurd h (by omega)
 | f+1,i,j,d,h,h1,h2,h3,h4,t=>by
  rw[rotP];by_cases e:i=j
  .subst e;rw[FY rfl,Jka i 0 d (by omega) (by omega) t];grind
  rw[FU e];by_cases hlt:j<i
  .rw [FY hlt];have hw:=Jka (a:=m-i) (b:=m) j 0 d (by omega) (by omega);have hlen:(swR (m-i) m j 0 d).length=d.length:=by
    exact(show ∀(a b c i:Nat) (d:List Int),(swR a b c i d).length=d.length from by
     intro a b c;induction c with
     | zero=>intro i d;rfl
     | succ c ih=>simp_all[swR,Yn]) _ _ _ _ _
   rw[Jip f (i-j) j _ (by omega) (by omega) h2 (by omega) (by omega) t];by_cases c1:m-(i-j)<=t/\t<m-(i-j)+j
   .rw [FY c1,FU (by omega),FY (by omega),hw];by_cases g:m+0<=t+(i-j)/\t+(i-j)<m+0+j
    .rw [FU (by omega),FY g];congr 1;omega
    omega
   rw[FU c1];by_cases g:m-(i-j)+j<=t/\t<m+j
   .rw [FY g,FU (by omega),FY (by omega),hw,FU (by omega),FU (by omega)]
   rw[FU g,hw];by_cases k:m-i+0<=t/\t<m-i+0+j
   .rw [FY k,FY (by omega)];congr 1;omega
   rw[FU k,FU (by omega),FU (by omega),FU (by omega)]
  rw[FU hlt];have hw:=Jka (a:=m-i) (b:=m+j-i) i 0 d (by omega) (by omega);have hlen:(swR (m-i) (m+j-i) i 0 d).length=d.length:=(show ∀(a b c i:Nat) (d:List Int),(swR a b c i d).length=d.length from by
   intro a b c;induction c with
   | zero=>intro i d;rfl
   | succ c ih=>intro i d;rw[swR,ih,Yn]) _ _ _ _ _
  rw[Jip f i (j-i) _ (by omega) h1 (by omega) h3 (by rw[hlen];omega) t];by_cases c1:m-i<=t/\t<m-i+(j-i)
  .rw [FY c1,FY (by omega),hw,FU (by omega),FU (by omega)]
  rw[FU c1];by_cases g:m-i+(j-i)<=t/\t<m+(j-i)
  .rw [FY g,hw,FY (by omega),FY (by omega)];congr 1;omega
  rw[FU g,hw,FU (by omega)];by_cases k:m+j-i+0<=t/\t<m+j-i+0+i
  .rw [FY k,FU (by omega),FY (by omega)];congr 1;omega
  rw[FU k,FU (by omega),FU (by omega)]
end
end Go.Proofs.YtjobgpahajhbnaaGreatDoor
