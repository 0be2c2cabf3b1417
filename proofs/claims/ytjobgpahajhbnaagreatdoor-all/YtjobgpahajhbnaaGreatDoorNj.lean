import Derived.Test.YtjobgpahajhbnaaGreatDoorNi
namespace Go.Proofs.YtjobgpahajhbnaaGreatDoor
open Go.RowKit Go.Proofs Go.Maps Go.Proofs.Tryz
attribute [local go_sem ↓] Go.wp_at_zero Go.wp_at_succ
set_option linter.all false
set_option maxHeartbeats 8000000
set_option maxRecDepth 20000
variable {F:Int} {e:Ending} {k:Nat} {w2:World}
theorem Jgv{lb:Nat}{xv yv:Value}{m:Nat}{D:Nat->DS}{p q:Nat}{col:Nat->Nat}{w:World}(h:LSt lb xv yv m D p q col w)(hk:k<m)(hs:(D k).ce=(D k).de)(hq:q<=9000000):
 Calls prog 37 #[aJ lb 0,G k] w fun e w'=>e=aD (.bool true)/\∃col',Pass (fun b=>col b≠0) col col' w w'/\LSt lb xv yv m D p (q+1) col' w':=by
 obtain⟨i,L,ae⟩:∃i L,xv=aI i 0 m L:=by
  obtain⟨-,⟨_,A⟩| ⟨a,c,x,e,-⟩⟩:=h.law.xrow
  .omega
  simp_all
 obtain⟨j,N,ag⟩:∃j N,yv=aI j 0 m N:=by
  obtain⟨-,⟨_,A⟩| ⟨a,c,x,e,-⟩⟩:=h.law.yrow
  .omega
  simp_all
 subst ae ag;have:=(h.law.xrow.lt i rfl).2;have X:=(h.law.yrow.lt j rfl).2;have Z:=h.law.lt;have:=h.law.c0;have:w.cell? (U i k)=some (aJ (D k).db 0):=by rw[h.law.xrow.cellAt k (by omega),Jb2 hk]
 have ah:=h.law.c1;have ai:w.cell? (U j k)=some (aJ (D k).yb 0):=by rw[h.law.yrow.cellAt k (by omega),Jb2 hk]
 obtain⟨ax,az,ay,a4,l,S⟩:=id (h.doc k hk);have H:=Fo S (h.ok k hk).dn;obtain⟨no,aw,ak,aa,-⟩:=Yf l.nown;subst aa;have af:=l.lt;have C:=l.c0;have r:=Jqq h hk hs;have t:=l.nown;have u:=h;generalize(D k).ns=ns at r t C H;generalize hn:ns.length=n at r t C H;have:(0:Int)<=k:=by omega
 have:(k:Int)<m:=by omega
 go_enter func37,ntmps37;go_wp2_with (go_at_call 31;refine r.mono ?_;rintro e w1 ⟨v,rfl,d,f⟩;obtain⟨B,vc,al,rfl,ar⟩:=Yf d;have F:=d;have o:=f;have:=f.size;have:=V f Z ah;have:=V f X ai;have:=V f af C);go_loopw [7,8] (fun g a wr=>∃c:Nat,a=G c/\c<=n/\g=.bool true/\J w1 wr) (fun _ a _=>n-(intOf a).toNat)
 .exact ⟨0,rfl,ZL _,by simp,FQ _ _⟩
 obtain⟨c,rfl,ao,rfl,g⟩:=hrel;by_cases Y:c<n
 .have K:c<ns.length:=by rw[hn];exact Y
  obtain⟨ab,T,c1⟩:∃a,B=some (U a 0)/\wr.cell? (U a c)=some (aE ns[c]):=by
   have d:=Jf F g;obtain⟨-,⟨e,A⟩| ⟨a,Q,x,e,-⟩⟩:=id d
   .omega
   injection e with y R z;subst y;refine⟨a,rfl,?_⟩;rw[z]at d;rw[d.cellAt c (by omega),MK,FX K];rfl
  obtain⟨ac,W,P⟩:∃a,no=some (U a 0)/\wr.cell? (U a c)=some (aE ns[c]):=by
   have d:=Jf (Jf t o) g;obtain⟨-,⟨e,A⟩| ⟨a,Q,x,e,-⟩⟩:=id d
   .omega
   injection e with y R z;subst y;refine⟨a,rfl,?_⟩;rw[z]at d;rw[d.cellAt c (by omega),MK,FX K];rfl
  subst T W;generalize ns[c]=s at c1 P;have:(0:Int)<=c:=by omega
  have:(c:Int)<n:=by omega
  go_wp2_with fail;go_quiet (fail);obtain⟨z,x⟩:=nm (wr.drewN nq);have y:=x▸Below.drewN g nq;rw[x];go_wp2;go_roundw
  .exact ⟨c+1,by go_num,by omega,by simp,y⟩
  simp[intOf];omega
 rename World=>w2;have x:=o.trans (g.mono o.size);have z:=Jf F g;have ad:=fun a y=>(z.lt a y).1;have ac:w2.ownsRow 0 9 1 (E B n vc) ns.length (ns.map Value.string):=by rw[hn];exact Nu z
 have K:=Jxd (u.below x 7) (E B n vc) ns ac (fun a y=>Ku (ad a y)) (by omega) hq;go_wp2_with (go_at_call 49;refine aR K fun aU Q=>?_;have A:=Q);go_ret;refine⟨rfl,?_⟩;obtain⟨aj,P,ab,au,T⟩:=A;have W:=Pass.new (col:=col) x 7;have R:=(u.below x 7);refine⟨P,(W.zero (fun _ _ h=>h.elim) u.law.low).trans (ab.zero (fun b f av e=>?_) R.law.low),T⟩;grind[Ku]
theorem FK:(prog.info? 25).map (fun i=>(i.zero,i.size,i.bytes))=some (some (.pointer none),1,8):=by kernel_rfl
theorem FL:(prog.info? 81).map (fun i=>(i.zero,i.size,i.bytes))=some (some (.pointer none),1,8):=by kernel_rfl
theorem Jmv(s)(w)(hv:Evs w)(hm:s.size<=9223372036854775807):
 Calls prog 43 #[aE s] w fun e w'=>e=aD (.bool true)/\J w w':=by
 have b:=O (Jp1 s w hv hm);have c:Hid (∀a,Calls prog 65 #[aE s] a fun e w'=>∃i j,e=aD (.tuple #[i,G (Jr s).1,G (Jr s).2,j])/\J a w'):=O (fun a=>(Jem s a hm).mono (fun _ _ ⟨v,g,d,f,_⟩=>⟨v,g,d,f⟩));obtain⟨d,g⟩:=nm ((Jr s).1);obtain⟨f,h⟩:=nm ((Jr s).2);rw[g,h]at b;simp only[g,h]at c;have:(d == d)=true:=by simp
 have:(f == f)=true:=by simp
 go_enter func43,ntmps43;go_wp2_with fail;refine aR b fun w1 k=>?_;go_wp2_with fail;refine(I c _).mono ?_;rintro e w2 ⟨i,j,rfl,l⟩;go_wp2;go_ret;exact⟨rfl,Jcv k l⟩
theorem Jz2(F)(h:F<0\/1000<F)(w):Calls prog 32 #[G F] w fun e w'=>e=aD (.tuple #[.pointer none,G 11])/\w'=w:=by
 rcases h with h|h
 .go_enter func32,ntmps32;go_wp2;go_ret2;simp
 have:¬ F<0:=by omega
 go_enter func32,ntmps32;go_wp2;go_ret2;simp
def colM(col:Nat->Nat)(n m:Nat)(xv':Value)(yb:Nat)(yv':Value)(b:Nat):Nat:=if b<n then col b else if b=n then 10+2*m else if xv'.ownBlock=some b then 8 else if b=yb then 11+2*m else if yv'.ownBlock=some b then 9 else 0
def Jte(lb m p q:Nat)(col:Nat->Nat)(F:Int)(w:World)(e:Ending)(w':World):Prop :=
 e=.returned (.bool true)/\∃col' xv' yv' m' D',Pass (fun b=>col b≠0) col col' w w'/\LSt lb xv' yv' m' D' p q col' w'/\(∀i,i<m'->(D' i).ce=(D' i).de)/\m<=m'/\(0<=F->F<=1000->0<m')
theorem BkS.move{lb q:Nat}{Z:Nat->Prop}{col col':Nat->Nat}{w w':World}(h:BkS lb q col w)(hp:Pass Z col col' w w')(hz:∀b,b<w.1.size->Z b->col b≠2/\col b≠3/\col b≠4/\col b≠5/\col b≠6)(hc:∀i,2<=i->w'.cell? (U lb i)=w.cell? (U lb i)):BkS lb q col' w':=by
 obtain⟨r,p,k,t,s,e,f,g,j,l,m,n,o,h⟩:=h;have d:=fun b a c=>(hz b a c).1;exact⟨r,p,k,t,s,e,f,g,j,l,m,n,o,(hc 2 (by decide)).trans h.c2,(hc 3 (by decide)).trans h.c3,(hc 4 (by decide)).trans h.c4,(hc 5 (by decide)).trans h.c5,(hc 6 (by decide)).trans h.c6,h.r1.pass li_ok hp d (fun b a c=>(hz b a c).2.1),h.r2.pass Jjc hp d (fun b a c=>(hz b a c).2.2.1),h.r3.pass Ji3 hp d (fun b a c=>(hz b a c).2.2.2.1),h.r4.pass Ji4 hp d (fun b a c=>(hz b a c).2.2.2.2),h.q0,h.q1,h.q2,h.q3,h.q4⟩
theorem Jvy{lb:Nat}{xv yv:Value}{m:Nat}{D:Nat->DS}{p q:Nat}{col:Nat->Nat}{w w3 w4 w5:World}{xv' yv':Value}(h:LSt lb xv yv m D p q col w)(hs:∀i,i<m->(D i).ce=(D i).de)(hE:Evs w)(h0:0<=F)(h1:F<=1000)(hm:m<3)
 (hg1:((w.alloc (.cells #[G F,.map none] 91)).alloc (.cells #[aJ w.1.size 0] 25)).grownBy w2 xv.ownBlock) (ho1:w2.ownsRow 0 25 1 xv' (m+1) (ptrs (fun i=>(D i).db) m++[aJ w.1.size 0])) (hat1:xv'.ownBlock=xv.ownBlock\/xv'.ownBlock=some (w.1.size+2))
 (e3:w2.setCell (U lb 0) xv'=w3) (e4:w3.alloc (.cells #[aH,aH,G F] 80)=w4)
 (hg2:(w4.alloc (.cells #[aJ w3.1.size 0] 81)).grownBy w5 yv.ownBlock) (ho2:w5.ownsRow 0 81 1 yv' (m+1) (ptrs (fun i=>(D i).yb) m++[aJ w3.1.size 0])) (hat2:yv'.ownBlock=yv.ownBlock\/yv'.ownBlock=some (w3.1.size+2)):
 Jte lb m p q col F w (aD (.bool true)) (w5.setCell (U lb 1) yv'):=by
 have f:=h.law;have A:=f.lt;have aZ:=f.six;have clb:=f.clb;generalize ew1:(w.alloc (.cells #[G F,.map none] 91))=w1 at hg1;have y:=ew1▸aS.alloc aT _;have a4:w1.1.size=w.1.size+1:=by rw[<-ew1];simp
 have a5:w.1.size+2<=w2.1.size:=by have:=hg1.size;simp at this;omega
 have ay:w3.1.size=w2.1.size:=by rw[<-e3];simp
 have az:w4.1.size=w3.1.size+1:=by rw[<-e4];simp
 have aU:w3.1.size+2<=w5.1.size:=by have:=hg2.size;simp at this;omega
 generalize hyb:w3.1.size=yb at hg2 ho2 hat2 ay az aU;obtain⟨j,n⟩:=nm (w5.setCell (U lb 1) yv');have a6:j.1.size=w5.1.size:=by rw[<-n];simp
 have ag:=fun g c=>(f.xrow.lt g c).2;have Q:=fun g c=>(f.yrow.lt g c).2
 -- blocks
 have ak:∀b,b<w1.1.size->xv.ownBlock≠some b->w2.heap[b]?=w1.heap[b]?:=fun b d k=>by
  rw[hg1.block b (by simp;omega) (fun e=>k e.symm)];exact((belA1).block b d)
 have al:∀b,b<w2.1.size->b≠lb->w4.heap[b]?=w2.heap[b]?:=fun b d k=>by
  rw[<-e4,((belA1).block b (by omega)),<-e3];grind[RowKit.Below.heap_setCell]
 have S:∀b,b<w4.1.size->yv.ownBlock≠some b->w5.heap[b]?=w4.heap[b]?:=fun b d k=>by
  rw[hg2.block b (by simp;omega) (fun e=>k e.symm)];exact((belA1).block b d)
 have T:∀b,b≠lb->j.heap[b]?=w5.heap[b]?:=fun b k=>by
  grind[RowKit.Below.heap_setCell]
 have ab:∀b,b<w1.1.size->b≠lb->xv.ownBlock≠some b->yv.ownBlock≠some b->j.heap[b]?=w1.heap[b]?:=fun b d n1 n2 n3=>by
  grind
 have u:j.os=w1.os/\j.tape=w1.tape/\j.output=w1.output:=by
  have a1:=hg1.os;have a2:=hg1.tape;have a3:=hg1.output;have c1:=hg2.os;have l:=hg2.tape;have o:=hg2.output;refine⟨?_,?_,?_⟩
  .rw [<-n,(Yk _ _ _).1,c1,<-e4];show w3.os=_;rw[<-e3,(Yk _ _ _).1,a1];rfl
  .rw [<-n,(Yk _ _ _).2.1,l,<-e4];show w3.tape=_;rw[<-e3,(Yk _ _ _).2.1,a2];rfl
  rw[<-n,(Yk _ _ _).2.2,o,<-e4];show w3.output=_;rw[<-e3,(Yk _ _ _).2.2,a3];rfl
 have Z:=f.xcol;have P:=f.ycol;obtain⟨r,z⟩:=nm (colM col w.1.size m xv' yb yv');have l:∀b,b<w.1.size->r b=col b:=fun b d=>by rw[<-z];exact FY d
 have am:r w.1.size=10+2*m:=by rw[<-z];unfold colM;rw[FU (by omega),FY rfl]
 have af:∀g,xv'.ownBlock=some g->g<yb:=fun g c=>by have:=(ho1.lt g c).2;omega
 have ac:∀g,xv'.ownBlock=some g->r g=8:=fun g c=>by
  rcases hat1 with e|e
  .have o:=e▸c;rw[l g (ag g o)];exact Z g o
  have o:=c;rw[e]at o;injection o with o;rw[<-z];unfold colM;rw[FU (by omega),FU (by omega),FY c]
 have an:r yb=11+2*m:=by
  rw[<-z];unfold colM;rw[FU (by omega),FU (by omega),FU (fun e=>by have:=af yb e;omega),FY rfl]
 have ad:∀g,yv'.ownBlock=some g->r g=9:=fun g c=>by
  rcases hat2 with e|e
  .have o:=e▸c;rw[l g (Q g o)];exact P g o
  have o:=c;rw[e]at o;injection o with o;rw[<-z];unfold colM;rw[FU (by omega),FU (by omega),FU (fun e=>by have:=af g e;omega),FU (by omega),FY c]
 have C:∀b,(b=lb\/xv.ownBlock=some b\/yv.ownBlock=some b)->col b=1\/col b=8\/col b=9:=fun b hz=>by
  rcases hz with rfl|hz|hz
  .exact NN clb
  .exact NO (NN (Z b hz))
  exact NO (NO (P b hz))
 have ah:∀b,(b=lb\/xv.ownBlock=some b\/yv.ownBlock=some b)->b<w.1.size:=fun b hz=>by
  rcases hz with rfl|hz|hz
  .exact A
  .exact ag b hz
  exact Q b hz
 have ao:Pass (fun b=>b=lb\/xv.ownBlock=some b\/yv.ownBlock=some b) (colN col w.1.size (10+2*m)) r w1 j:=by
  refine⟨⟨u.1,u.2.1,u.2.2,by omega,fun b d k=>ab b d (fun e=>k (NN e)) (fun e=>k (NO (NN e))) (fun e=>k (NO (NO e)))⟩,fun b d _=>?_,fun b _ hz=>f.low6 (by have:=C b hz;omega)⟩;rcases YS b w.1.size with hbl|hbl
  .rw [l b hbl,Kt hbl]
  have:b=w.1.size:=by omega
  rw[this,am,Ku aT]
 have H:Pass (fun b=>b=lb\/xv.ownBlock=some b\/yv.ownBlock=some b) col r w j:=by
  refine⟨⟨u.1.trans y.os,u.2.1.trans y.tape,u.2.2.trans y.output,by omega,fun b d k=>?_⟩,fun b d _=>l b d,fun b _ hz=>f.low6 (by have:=C b hz;omega)⟩;rw[ab b (by omega) (fun e=>k (NN e)) (fun e=>k (NO (NN e))) (fun e=>k (NO (NO e)))];exact y.block b d
 have X:∀x,x≠1->x≠8->x≠9->∀b,b<w.1.size->(b=lb\/xv.ownBlock=some b\/yv.ownBlock=some b)->col b≠x:=fun x c1 aX aY b _ hz e=>by have:=C b hz;omega
 have aw:xv.ownBlock≠some lb:=fun e=>by have:=Z lb e;omega
 have ax:yv.ownBlock≠some lb:=fun e=>by have:=P lb e;omega
 -- the law's block
 have K:=(ak lb (by omega) aw).trans (y.block lb A);have L:w5.heap[lb]?=w3.heap[lb]?:=by
  rw[S lb (by omega) ax,<-e4];exact(belA1).block lb (by omega)
 have ar:∀i,i≠0->i≠1->j.cell? (U lb i)=w.cell? (U lb i):=fun i av n1=>by
  rw[<-n,FZ _ _ _ _ (by intro e;injection e with _ e;exact n1 e.symm),WA L,<-e3,FZ _ _ _ _ (by intro e;injection e with _ e;exact av e.symm)];exact WA K
 have ap:j.cell? (U lb 0)=some xv':=by
  rw[<-n,FZ _ _ _ _ (by intro e;injection e with _ e;cases e),WA L,<-e3];exact FW _ _ _ ((WA K).trans f.c0)
 have aq:j.cell? (U lb 1)=some yv':=by
  rw[<-n];refine FW _ _ _ (?_:_=some yv);rw[WA L,<-e3,FZ _ _ _ _ (by intro e;injection e with _ e;cases e),WA K];exact f.c1
 have au:∀i,j.frozen? (U lb i)=false:=fun i=>by
  rw[<-n,NA,NI (a:=U lb i) L,<-e3,NA,NI (a:=U lb i) K];exact f.fr i
 have Y:∀g,xv'.ownBlock=some g->g≠lb/\yv.ownBlock≠some g:=fun g c=>by
  have o:=ac g c;refine⟨fun e=>?_,fun e=>?_⟩
  .rw [e,l lb A]at o;omega
  have:=Q g e;have s:=P g e;rw[l g this]at o;omega
 have aV:∀g,yv'.ownBlock=some g->g≠lb:=fun g c e=>by
  have s:=ad g c;rw[e,l lb A]at s;omega
 have ai:=Ka ho1 (fun g c=>by
  have o:=(ho1.lt g c).2;rw[T g (Y g c).1,S g (by omega) (Y g c).2,al g o (Y g c).1])
 have aj:=Ka ho2 (fun g c=>T g (aV g c));obtain⟨R,ae⟩:=nm (upD D m ⟨w.1.size,yb,F,env0,0,env0,[]⟩);have s:R m=⟨w.1.size,yb,F,env0,0,env0,[]⟩:=by rw[<-ae];exact Yo _ _ _
 have t:∀i,i<m->R i=D i:=fun i o=>by rw[<-ae];exact Zu (by omega)
 have few:=f.few;have aW:yb≠lb:=by omega
 have N:j.heap[yb]?=w4.heap[yb]?:=by rw[T yb aW,S yb (by omega) (fun e=>by have:=Q yb e;omega)]
 have aa:∀i,w4.cell? (U yb i)=(#[M,M,G F])[i]?:=fun i=>by rw[<-e4,<-hyb];exact NH _ _ _ _ rfl
 rw[n];refine⟨rfl,r,xv',yv',m+1,R,H.zero (fun b d hz=>by have:=C b hz;omega) f.low,⟨⟨by omega,fun b d=>by rw[l b (by omega)];exact f.low b d,by rw[l lb A];exact clb,ap,aq,au,?_,ac,?_,ad,by omega⟩,h.book.move H (fun b d hz=>by have:=C b hz;omega) (fun i o=>ar i (by omega) (by omega)),fun i o=>?_,fun i o=>?_,fun i o=>?_⟩,fun i o=>?_,ZO _,fun _ _=>Nat.succ_pos _⟩
 .rw [Jgb,s,Qo (g:=fun i=>(D i).db) (fun i o=>by rw[t i o])];exact ai
 .rw [Jgb,s,Qo (g:=fun i=>(D i).yb) (fun i o=>by rw[t i o])];exact aj
 .rcases YS i m with hi'|hi'
  .rw [t i hi'];exact h.ok i hi'
  have:i=m:=by omega
  subst this;rw[s];exact⟨h0,h1,Jr8,fun _ _ e=>(by cases e),Jr8,fun _ _ e=>(by cases e),ZL _⟩
 .rcases YS i m with hi'|hi'
  .rw [t i hi'];exact DkF.pass (h.code i hi') H (X _ (by omega) (by omega) (by omega))
  have:i=m:=by omega
  subst this;rw[s];have hd:=(Jsh (F:=F) hE);rw[ew1]at hd;refine DkF.pass (κ:=10+2*i) (hd.less (S':=NotK (10+2*i) (colN col w.1.size (10+2*i)) w1) (fun b d=>⟨d.1,?_⟩)) ao (fun b d hz=>?_)
  .have B:=d.2.1;rcases YS b w.1.size with hbl|hbl
   .exact hbl
   exact absurd (Ku hbl) d.2.2
  rw[Kt (ah b hz)];exact X _ (by omega) (by omega) (by omega) b (ah b hz) hz
 .rcases YS i m with hi'|hi'
  .rw [t i hi'];exact RD.pass (h.doc i hi') H (X _ (by omega) (by omega) (by omega))
  have:i=m:=by omega
  subst this;rw[s];refine⟨M,M,[],[],⟨by show yb<j.1.size;omega,an,?_,?_,?_,fun B=>?_,NW _ _ _ _,(fun g c=>by cases c),NW _ _ _ _,(fun g c=>by cases c),rfl,rfl,fun B W=>absurd W (JR B)⟩,⟨PF,rfl,fun B W=>absurd W (JR B),fun _ _=>rfl⟩⟩
  .exact (WA N).trans (aa 0)
  .exact (WA N).trans (aa 1)
  .exact (WA N).trans (aa 2)
  rw[NI (a:=U yb B) N,<-e4,<-hyb];exact NL _ _ _ _ rfl
 rcases YS i m with hi'|hi'
 .rw [t i hi'];exact hs i hi'
 have:i=m:=by omega
 subst this;rw[s]
theorem Jky{lb:Nat}{xv yv:Value}{m:Nat}{D:Nat->DS}{p q:Nat}{col:Nat->Nat}{w:World}(h:LSt lb xv yv m D p q col w)(hs:∀i,i<m->(D i).ce=(D i).de)(hE:Evs w)(F):
 Calls prog 34 #[aJ lb 0,G F] w (Jte lb m p q col F w):=by
 by_cases hF:F<0\/1000<F
 .have j:=Jz2 F hF w;have b:Jte lb m p q col F w (aD (.bool true)) w:=⟨rfl,col,xv,yv,m,D,Pass.id col w h.law.low,h,hs,FP _,fun x y=>by omega⟩;rcases hF with hF|hF;rotate_left;have ag:¬ F<0:=by omega
  all_goals
   go_enter func34,ntmps34;go_wp2_with (go_at_call 32;refine aQ j ?_);go_ret;exact b
 have x:0<=F:=by omega
 have y:F<=1000:=by omega
 have ag:¬ F<0:=by omega
 have ba:¬ 1000<F:=by omega
 have j:=Jz3 F x y w;obtain⟨Y,X,a8,ap,-⟩:=Yf h.law.xrow;obtain⟨o,n,a9,aq,-⟩:=Yf h.law.yrow;subst ap aq;have r:=h.law.lt;have T:=h.law.c0;have W:=h.law.c1;have K:=h.law.fr 0;have L:=h.law.fr 1;by_cases an:m<3
 .obtain ⟨az,ai,ar,au,av⟩:=NY FK;obtain⟨aU,aj,aw,ax,ay⟩:=NY FL;have B:=h.law.xrow;have C:=h.law.yrow;have u:(Value.slice o m n).ownBlock≠some lb/\(Value.slice Y m X).ownBlock≠some lb/\∀b,(Value.slice Y m X).ownBlock=some b->(Value.slice o m n).ownBlock≠some b:=by
   have clb:=h.law.clb;exact⟨fun e=>by have:=h.law.ycol lb e;omega,fun e=>by have:=h.law.xcol lb e;omega,fun b c d=>by have:=h.law.xcol b c;have:=h.law.ycol b d;omega⟩
  have ao:(m:Int)<3:=by omega
  go_enter func34,ntmps34;go_upto_region 8 with(go_at_call 32;refine aQ j ?_);obtain⟨w1,s⟩:=nm (w.alloc (.cells #[G F,.map none] 91));have d:=s▸belA1;have aW:w1.1.size=w.1.size+1:=by rw[<-s];simp
  have aY:=V d r T;have aZ:=V d r W;have ae:=bF d r K;have af:=bF d r L;have aa:=Jf B d;have H:=Jf C d;rw[s];have ak:lb<w1.1.size:=by omega
  clear d T W K L B C j aW;go_wp2_with (at_builtin;refine JE _ rfl _ _ 62 rfl 0 25 az (.pointer none) 1 8 underlying62 ai ar au av rfl (by decide) _ _ _ rfl (aa.alloc _) ⟨w1.1.size,0,none⟩ 1 1 [aJ w.1.size 0] rfl rfl ?c1 ?c2 ?c3 ?c4 ?c5 ?_)
  case c1 =>
   intro z A f;match z,f with
   | 0,f=>simp_all[Addr.add]
  case c2=>intro A l;simp at l;subst l;rfl
  case c3=>grind[maxLen]
  case c4=>omega
  case c5=>simp
  intro be w2 R k _ P;obtain⟨a1,a2,a3,rfl⟩:=Vc R;have Q:J w1 (w1.alloc (.cells #[.pointer (some (adP0 w))] 25)):=belA1;have t:=(k.block lb (by simp;omega) (fun e=>u.2.1 e.symm)).trans (Q.block lb ak);have bg:=(WA t).trans aY;have Z:=(WA t).trans aZ;have a7:=(NI (a:=U lb 0) t).trans ae;have N:=(NI (a:=U lb 1) t).trans af;have bd:w1.1.size+1<=w2.1.size:=by have:=k.size;simp at this;omega
  have ab:=Ka H (fun b c=>by
   have f:=(H.lt b c).2;rw[k.block b (by simp;omega) (fun e=>u.2.2 b e.symm c)];exact Q.block b f)
  have al:lb<w2.1.size:=by omega
  go_upto_region 9 with fail;obtain⟨c,g⟩:=nm (w2.setCell (U lb 0) (E a1 a2 a3));have a4:c.cell? (U lb 1)=some (E o m n):=by rw[<-g];exact(FZ _ _ _ _ (by intro e;injection e with _ e;cases e)).trans Z
  have aV:c.frozen? (U lb 1)=false:=by rw[<-g,NA];exact N
  have ac:c.ownsRow 0 81 1 (E o m n) m (ptrs (fun i=>(D i).yb) m):=by rw[<-g];exact ZH ab (a:=U lb 0) u.1 _
  have am:lb<c.1.size:=by rw[<-g];simpa using al
  have ad:(c.alloc (.cells #[M,M,G F] 80)).ownsRow 0 81 1 (E o m n) m (ptrs (fun i=>(D i).yb) m):=Jf ac (belA1);rw[g];go_wp2_with (at_builtin;refine JE _ rfl _ _ 63 rfl 0 81 aU (.pointer none) 1 8 underlying63 aj aw ax ay rfl (by decide) _ _ _ rfl (ad.alloc _) (adQ0 c) 1 1 [.pointer (some (adP0 c))] rfl rfl ?c1 ?c2 ?c3 ?c4 ?c5 ?_)
  case c1 =>
   intro z A f;match z,f with
   | 0,f=>simp at f;subst f;exact(NH _ _ _ _ (by simp)).trans rfl
  case c2=>intro A l;simp at l;subst l;rfl
  case c3=>grind[maxLen]
  case c4=>omega
  case c5=>simp
  intro bf aX z f _ bb;obtain⟨d1,a5,a6,rfl⟩:=Vc z;have ah:J c ((c.alloc (.cells #[M,M,G F] 80)).alloc (.cells #[.pointer (some (adP0 c))] 81)):=belA2;have S:=(f.block lb (by simp;omega) (fun e=>u.1 e.symm)).trans (ah.block lb am);have Z:=(WA S).trans a4;have N:=(NI (a:=U lb 1) S).trans aV;have bc:lb<aX.1.size:=by have:=f.size;simp at this;omega
  go_wp2;go_ret;refine ?_;rw[<-s]at k P;exact Jvy h hs hE x y an k R (by simpa using P) g rfl f z (by omega)
 have b:Jte lb m p q col F w (aD (.bool true)) (w.alloc (.cells #[G F,.map none] 91)):=by
  have c:J w (w.alloc (.cells #[G F,.map none] 91)):=belA1;exact⟨rfl,_,_,_,m,D,(Pass.new c 0).zero (fun _ _ h=>h.elim) h.law.low,h.below c 0,hs,FP _,fun _ _=>by omega⟩
 have ao:¬ (m:Int)<3:=by omega
 go_enter func34,ntmps34;go_wp2_with (go_at_call 32;refine aQ j ?_);go_ret;exact b
theorem LSt.upp{lb:Nat}{xv yv:Value}{m:Nat}{D:Nat->DS}{p p' q q':Nat}{col:Nat->Nat}{w:World}(h:LSt lb xv yv m D p q col w)(hp:p<=p')(hq:q<=q'):LSt lb xv yv m D p' q' col w :=
 { h with book:=h.book.up hq,ok:=fun i hi=>{ h.ok i hi with few:=NE (h.ok i hi).few hp } }
def Jc3(lb m p q:Nat)(col:Nat->Nat)(w:World)(e:Ending)(w':World):Prop :=
 e=.returned (.bool true)/\∃col' xv' yv' m' D',Pass (fun b=>col b≠0) col col' w w'/\LSt lb xv' yv' m' D' p q col' w'/\(∀i,i<m'->(D' i).ce=(D' i).de)/\m<=m'
theorem LSt.evs{lb:Nat}{xv yv:Value}{m:Nat}{D:Nat->DS}{p q:Nat}{col:Nat->Nat}{w:World}(h:LSt lb xv yv m D p q col w)(hm:0<m):Evs w:=by
 obtain⟨b,c,a,-⟩:=h.code 0 hm;exact a.evs
section
variable {lb:Nat} {xv yv:Value} {m:Nat} {D:Nat->DS} {p q p' q':Nat} {col:Nat->Nat} {w w1:World}
theorem Jfr(h:LSt lb xv yv m D p q col w)(hs:∀i,i<m->(D i).ce=(D i).de)(hp:p<=p')(hq:q<=q')(hb:J w w1):Jc3 lb m p' q' col w (aD (.bool true)) w1 :=
 ⟨rfl,_,_,_,m,D,(Pass.new hb 0).zero (fun _ _ h=>h.elim) h.law.low,(h.below hb 0).upp hp hq,hs,FP _⟩
theorem Jol(h:LSt lb xv yv m D p q col w)(hp:p<=p')(hq:q<=q')(hb:J w w1)(hM:Jte lb m p q (colN col w.1.size 0) F w1 e w2):Jc3 lb m p' q' col w e w2:=by
 obtain⟨rfl,b,j,k,i,a,f,c,g,d,-⟩:=hM;exact⟨rfl,b,j,k,i,a,((Pass.new hb 0).zero (fun _ _ h=>h.elim) h.law.low).trans f,c.upp hp hq,g,d⟩
theorem Jkb(h:LSt lb xv yv m D p q col w)(hs:∀i,i<m->(D i).ce=(D i).de)(hb:J w w1)(hk:k<m){ls:List ByteArray}(hp:p+ls.length<=p')(hq:q+2*ls.length+1<=q')(hR:RanL lb xv yv m D k p q ls (colN col w.1.size 0) w1 e w2):Jc3 lb m p' q' col w e w2:=by
 obtain⟨rfl,b,a,g,c,j,f⟩:=hR;refine⟨rfl,b,xv,yv,m,a,((Pass.new hb 0).zero (fun _ _ h=>h.elim) h.law.low).trans g,c.upp hp hq,fun i d=>?_,FP _⟩;by_cases e:i=k
 .subst e;exact j
 rw[f i e];exact hs i d
end
theorem Jtz{lb:Nat}{xv yv:Value}{m:Nat}{D:Nat->DS}{p q:Nat}{col:Nat->Nat}{w:World}(h:LSt lb xv yv m D p q col w)(hs:∀i,i<m->(D i).ce=(D i).de)(hm:0<m)(kd a)(ha:Jk a)(s)(hsz:s.size<=9223372036854775807)(lo)(lc)(ls)(hls:∀s ∈ ls,s.size<=9223372036854775807)(hT:Txts (fun b=>col b=0) w lo ls)(hp:p+ls.length+1<4000000)(hq:q+2*ls.length+3<=9000000):
 Calls prog 35 #[aJ lb 0,.agg #[G kd,G a,aE s,E lo ls.length lc]] w (Jc3 lb m (p+ls.length+1) (q+2*ls.length+3) col w):=by
 have few:=h.law.few;obtain⟨ag,af,ab,Z,-⟩:=Yf h.law.xrow;subst Z;have Q:=h.law.lt;have S:=h.law.c0;obtain⟨w1,j⟩:=nm (w.alloc (.cells #[G kd,G a,aE s,E lo ls.length lc] 74));have d:=j▸aS.alloc aT _;have t:w1.cell? (U w.1.size 0)=some (G kd):=by rw[<-j];simp
 have L:w1.cell? (U w.1.size 1)=some (G a):=by rw[<-j];simp
 have u:w1.cell? (U w.1.size 2)=some (aE s):=by rw[<-j];simp
 have r:w1.cell? (U w.1.size 3)=some (E lo ls.length lc):=by rw[<-j];simp
 have o:w.1.size<w1.1.size:=by rw[<-j];simp
 have K:=V d Q S;have ac:lb<w1.1.size:=by omega
 have C:=h.below d 0;have P:Calls prog 43 #[aE s] w1 fun e w'=>e=aD (.bool true)/\Jc3 lb m (p+ls.length+1) (q+2*ls.length+3) col w (aD (.bool true)) w':=(Jmv s w1 (C.evs hm) hsz).mono (fun e w' ⟨f,g⟩=>⟨f,Jfr h hs (by omega) (by omega) (d.trans (g.mono d.size))⟩);have N:Calls prog 34 #[aJ lb 0,G a] w1 (Jc3 lb m (p+ls.length+1) (q+2*ls.length+3) col w):=(Jky C hs (C.evs hm) a).mono (fun e w' c=>Jol h (by omega) (by omega) d c);have F:∀w',J w1 w'->Jc3 lb m (p+ls.length+1) (q+2*ls.length+3) col w (aD (.bool true)) w':=fun w' g=>Jfr h hs (by omega) (by omega) (d.trans (g.mono d.size));have z:∀k w',k<m->J w1 w'->Calls prog 38 #[aJ lb 0,G ((k:Nat):Int),aI w'.1.size 0 1 1] (w'.alloc (.cells #[aE s] 9)) (Jc3 lb m (p+ls.length+1) (q+2*ls.length+3) col w):=fun k w' hk g=>by
  have c:J w (w'.alloc (.cells #[aE s] 9)):=(d.trans (g.mono d.size)).alloc (by have:=g.size;omega) _;have l:w.1.size<=w'.1.size:=by have:=g.size;omega
  refine(Jit (h.below c 0) hk (hs k hk) (some (U w'.1.size 0)) 1 [s] (by simp only[ZN,YT];omega) (by simp only[ZN,YT];omega) (fun x f=>by simp at f;subst f;exact hsz) (fun _=>⟨w'.1.size,0,rfl,Ku l,by simp,fun i f=>?_⟩)).mono (fun e w2 f=>Jkb h hs c hk (by simp only[ZN,YT];omega) (by simp only[ZN,YT];omega) f);have:i=0:=by simpa using f
  subst this;simp
 have A:∀k w',k<m->J w1 w'->Calls prog 38 #[aJ lb 0,G ((k:Nat):Int),E lo ls.length lc] w' (Jc3 lb m (p+ls.length+1) (q+2*ls.length+3) col w):=fun k w' hk g=>by
  have c:J w w':=d.trans (g.mono d.size);exact(Jit (h.below c 0) hk (hs k hk) lo lc ls (by omega) (by omega) hls (Zv hT (Pass.new c 0) (fun _ _ h=>h.elim))).mono (fun e w2 f=>Jkb h hs c hk (by omega) (by omega) f)
 have y:∀k w',k<m->J w1 w'->Calls prog 37 #[aJ lb 0,G ((k:Nat):Int)] w' (Jc3 lb m (p+ls.length+1) (q+2*ls.length+3) col w):=fun k w' hk g=>by
  have c:J w w':=d.trans (g.mono d.size);refine(Jgv (h.below c 0) hk (hs k hk) (by omega)).mono (fun e w2 ⟨f,l,B,x⟩=>⟨f,l,_,_,m,D,((Pass.new c 0).zero (fun _ _ h=>h.elim) h.law.low).trans B,x.upp (by omega) (by omega),hs,FP _⟩)
 have H:=fun Y=>Jqx a m ha hm (by omega) Y;have aa:=j;clear h hs hT hls hsz hp hq C d S Q;generalize ls.length=n at r P N F z A y j⊢;have ad:(m:Int)<=3:=by omega
 have ae:((m:Int)== 0)=false:=ZD (by omega);rcases(show kd=1\/kd=2\/(kd<3/\kd≠1/\kd≠2)\/5<kd\/kd=3\/kd=4\/kd=5 by omega)with hk|hk|hk|hk|hk|hk|hk
 .subst hk;go_enter func35,ntmps35;go_wp2_with (go_at_call 43;refine aR P fun w2 f=>?_);go_ret;exact f
 .subst hk;go_enter func35,ntmps35;go_wp2_with (go_at_call 34;refine N.mono ?_;rintro e w2 f;obtain⟨rfl,-⟩:=id f);go_ret;exact f
 .obtain ⟨B,l,x⟩:=hk;have f:=ZD l;have c:=ZD x;go_enter func35,ntmps35;go_wp2_with fail;go_ret;exact(F _ aS)
 .have f:(kd == 1)=false:=ZD (by omega);have c:(kd == 2)=false:=ZD (by omega);have l:¬ kd<3:=by omega
  go_enter func35,ntmps35;go_wp2_with fail;go_ret;exact(F _ aS)
 .subst hk;go_enter func35,ntmps35;go_upto_region 8 with fail;go_cut [5]from 35 to 42 (fun c l=>∃k:Nat,c=G k/\k<m/\J w1 l)
  .go_region_law (go_simp;go_at_call 44;refine(H _).mono ?_;rintro e w2 ⟨⟨k,rfl,hk⟩,rfl⟩)
   all_goals(try go_simp)
   all_goals go_wp2_with fail
   all_goals go_meet
   all_goals exact⟨_,rfl,hk,aS.drew⟩
  obtain⟨k,rfl,B,c⟩:=hcut;rename World=>l;have T:=V c o t;have W:=V c o u;have X:=V c o r;have x:=z k l B c;clear c t L u r K j z A y;go_wp2_with (go_at_call 38;refine x.mono ?_;rintro e R f;obtain⟨rfl,-⟩:=id f);go_ret;exact f
 .subst hk;go_enter func35,ntmps35;go_upto_region 8 with fail;go_cut [5]from 35 to 42 (fun c l=>∃k:Nat,c=G k/\k<m/\J w1 l)
  .go_region_law (go_simp;go_at_call 44;refine(H _).mono ?_;rintro e w2 ⟨⟨k,rfl,hk⟩,rfl⟩)
   all_goals(try go_simp)
   all_goals go_wp2_with fail
   all_goals go_meet
   all_goals exact⟨_,rfl,hk,aS.drew⟩
  obtain⟨k,rfl,B,c⟩:=hcut;rename World=>l;have T:=V c o t;have W:=V c o u;have X:=V c o r;have x:=y k l B c;clear c t L u r K j z A y;go_wp2_with (go_at_call 37;refine x.mono ?_;rintro e R f;obtain⟨rfl,-⟩:=id f);go_ret;exact f
 subst hk;go_enter func35,ntmps35;go_upto_region 8 with fail;go_cut [5]from 35 to 42 (fun c l=>∃k:Nat,c=G k/\k<m/\J w1 l)
 .go_region_law (go_simp;go_at_call 44;refine(H _).mono ?_;rintro e w2 ⟨⟨k,rfl,hk⟩,rfl⟩)
  all_goals(try go_simp)
  all_goals go_wp2_with fail
  all_goals go_meet
  all_goals exact⟨_,rfl,hk,aS.drew⟩
 obtain⟨k,rfl,B,c⟩:=hcut;rename World=>l;have T:=V c o t;have W:=V c o u;have X:=V c o r;have x:=A k l B c;clear c t L u r K j z A y;go_wp2_with (go_at_call 38;refine x.mono ?_;rintro e R f;obtain⟨rfl,-⟩:=id f);go_ret;exact f
structure OpD where
 kd:Int
 a:Int
 s:ByteArray
 lo:Option Addr
 lc:Nat
 ls:List ByteArray
structure OpOk (o:OpD):Prop where
 a:Jk o.a
 s:o.s.size<=9223372036854775807
 ls:∀ t ∈ o.ls,t.size<=9223372036854775807
def Scr(w:World)(so:Option Addr)(ops:List OpD):Prop :=
 (0<ops.length->∃b off,so=some (U b off)/\b<w.1.size/\∀i,(h:i<ops.length)->w.cell? (U b (off+i*4))=some (.int .i64 ops[i].kd)/\w.cell? (U b (off+i*4+1))=some (.int .i64 ops[i].a)/\w.cell? (U b (off+i*4+2))=some (.string ops[i].s)/\w.cell? (U b (off+i*4+3))=some (.slice ops[i].lo ops[i].ls.length ops[i].lc))/\∀o ∈ ops,Txts (fun _=>True) w o.lo o.ls
def cntP:List OpD->Nat
 | []=>0
 | o::r=>o.ls.length+1+cntP r
theorem Jho:∀(l:List OpD) (o:OpD),cntP (l++[o])=cntP l+(o.ls.length+1)
 | [],o=>by simp[cntP]
 | x::l,o=>by simp only[Mk,cntP,Jho l o];omega
theorem Jsw(l:List OpD)(i)(hi:i<l.length):cntP (l.take (i+1))=cntP (l.take i)+(l[i].ls.length+1):=by
 rw[NG hi,Jho]
theorem Jsx:∀(l:List OpD) (i:Nat),cntP (l.take i)<=cntP l
 | [],i=>by simp[cntP]
 | x::l,0=>ZL _
 | x::l,i+1=>by
  have:=Jsx l i;simp[cntP];omega
theorem Jvz{w:World}(hE:Evs w)(D):LSt w.1.size aH aH 0 D 0 0 (colN (fun _=>0) w.1.size 1) (w.alloc (.cells #[aH,aH,G 0,aH,aH,aH,aH] 71)):=by
 have:=hE.1;have row:∀{L:(Nat->Nat)->World->Value->Nat->Value->Prop} {e:TypeId} {κ:Nat} {col:Nat->Nat} {w':World},BRow L e κ col w' M 0 []:=⟨NW _ _ _ _,(fun c b=>by cases b),fun a b=>absurd b (JR a)⟩;refine⟨⟨by simp,fun d g=>Kt (by omega),Ku aT,by simp,by simp,fun a=>NL _ _ _ _ rfl,NW _ _ _ _,(fun c b=>by cases b),NW _ _ _ _,(fun c b=>by cases b),by decide⟩,⟨0,_,_,_,_,0,0,0,0,[],[],[],[],by simp,by simp,by simp,by simp,by simp,row,row,row,row,FP _,FP _,FP _,FP _,FP _⟩,(fun a b=>absurd b (JR a)),(fun a b=>absurd b (JR a)),fun a b=>absurd b (JR a)⟩
def PSt(lb:Nat)(col:Nat->Nat)(w:World)(p q:Nat)(w':World):Prop :=
 ∃col' xv yv m D,Pass (fun b=>col b≠0) col col' w w'/\LSt lb xv yv m D p q col' w'/\(∀i,i<m->(D i).ce=(D i).de)/\0<m
def PSm(lb:Nat)(xv yv:Value)(m:Nat)(col:Nat->Nat)(w:World)(p q:Nat)(w':World):Prop :=
 ∃col' D,Pass (fun b=>col b≠0) col col' w w'/\LSt lb xv yv m D p q col' w'/\(∀i,i<m->(D i).ce=(D i).de)
theorem PSt.upp{lb:Nat}{col:Nat->Nat}{w w':World}{p q p' q':Nat}(h:PSt lb col w p q w')(hp:p<=p')(hq:q<=q'):PSt lb col w p' q' w':=by
 obtain⟨a,xv,yv,m,D,b,c,d,e⟩:=h;exact⟨a,xv,yv,m,D,b,c.upp hp hq,d,e⟩
theorem PSt.below{lb:Nat}{col:Nat->Nat}{w w':World}{p q:Nat}(h:PSt lb col w p q w')(hb:J w' w2):PSt lb col w p q w2:=by
 obtain⟨e,xv,yv,m,D,b,a,c,d⟩:=h;exact⟨_,xv,yv,m,D,b.trans ((Pass.new hb 0).zero (fun _ _ h=>h.elim) a.law.low),a.below hb 0,c,d⟩
theorem PSm.upp{lb:Nat}{xv yv:Value}{m:Nat}{col:Nat->Nat}{w w':World}{p q p' q':Nat}(h:PSm lb xv yv m col w p q w')(hp:p<=p')(hq:q<=q'):PSm lb xv yv m col w p' q' w':=by
 obtain⟨a,D,b,c,d⟩:=h;exact⟨a,D,b,c.upp hp hq,d⟩
section
variable {lb:Nat} {col:Nat->Nat} {w w':World} {p q:Nat}
theorem Jzt(h:PSt lb col w p q w')(o)(ho:OpOk o)(hT:Txts (fun b=>col b=0) w o.lo o.ls)(hp:p+o.ls.length+1<4000000)(hq:q+2*o.ls.length+3<=9000000):
 Calls prog 35 #[aJ lb 0,.agg #[G o.kd,G o.a,aE o.s,E o.lo o.ls.length o.lc]] w' fun e w2=>e=aD (.bool true)/\PSt lb col w (p+o.ls.length+1) (q+2*o.ls.length+3) w2:=by
 obtain⟨x,xv,yv,m,D,c,k,l,n⟩:=h;refine aR (Jtz k l n o.kd o.a ho.a o.s ho.s o.lo o.lc o.ls ho.ls (Zv hT c (fun b _ d=>d)) hp hq) ?_;rintro w2 ⟨f,t,u,r,d,g,i,j,y⟩;exact⟨rfl,f,t,u,r,d,c.trans g,i,j,by omega⟩
theorem Ju9(h:PSt lb col w p q w')(hq:q<=9000000):
 Calls prog 36 #[aJ lb 2] w' fun e w2=>e=aD (.bool true)/\PSt lb col w p q w2:=by
 obtain⟨b,xv,yv,m,D,c,a,d,f⟩:=h;refine aR (Jxe a hq) fun w2 g=>?_;exact⟨rfl,PSt.below ⟨b,xv,yv,m,D,c,a,d,f⟩ g⟩
theorem Jvd{xv yv:Value}{m:Nat}(h:PSm lb xv yv m col w p q w')(hk:k<m)(hq:q<=9000000):
 Calls prog 37 #[aJ lb 0,G ((k:Nat):Int)] w' fun e w2=>e=aD (.bool true)/\PSm lb xv yv m col w p (q+1) w2:=by
 obtain⟨i,D,f,g,a⟩:=h;refine aR (Jgv g hk (a k hk) hq) ?_;rintro w2 ⟨b,c,d⟩;exact⟨rfl,b,D,f.trans c,d,a⟩
theorem Jxz{xv yv:Value}{m:Nat}(h:PSm lb xv yv m col w p q w')(hk:k<m)(s)(hs:s.size<=9223372036854775807)(hp:p+1<4000000)(hq:q+3<=9000000):
 Calls prog 38 #[aJ lb 0,G ((k:Nat):Int),aI w'.1.size 0 1 1] (w'.alloc (.cells #[aE s] 9)) fun e w2=>e=aD (.bool true)/\PSm lb xv yv m col w (p+1) (q+3) w2:=by
 obtain⟨o,D,l,a,n⟩:=h;have b:J w' (w'.alloc (.cells #[aE s] 9)):=belA1;refine(Jit (a.below b 0) hk (n k hk) (some (adP0 w')) 1 [s] (by omega) (by omega) (fun d c=>by simp_all) (fun _=>⟨w'.1.size,0,rfl,Ku aT,by simp,fun d c=>?_⟩)).mono ?_
 .have:d=0:=by simpa using c
  simp_all
 rintro e w2 ⟨rfl,g,f,i,j,r,t⟩;refine⟨rfl,g,f,(l.trans ((Pass.new b 0).zero (fun _ _ h=>h.elim) a.law.low)).trans i,j,fun d c=>?_⟩;grind
theorem Jvc{xv:Value}{gy yc m:Nat}(h:PSm lb xv (aI gy 0 m yc) m col w p q w')(hk:k<m):∃yb no n nc ns,w'.cell? (U lb 1)=some (aI gy 0 m yc)/\w'.cell? (U gy k)=some (aJ yb 0)/\w'.cell? (U yb 0)=some (E no n nc)/\n=List.length ns/\n<=531441/\(∀s ∈ ns,ByteArray.size s<=200)/\(0<n->∃g,no=some (U g 0)/\∀i,(hi:i<ns.length)->w'.cell? (U g i)=some (aE ns[i])):=by
 obtain⟨r,D,A,a,B⟩:=h;obtain⟨C,H,F,K,c,b⟩:=id (a.doc k hk);have l:=Fo b (a.ok k hk).dn;obtain⟨no,nc,y,o,-⟩:=Yf c.nown;subst o;refine⟨(D k).yb,no,_,nc,(D k).ns,a.law.c1,by rw[a.law.yrow.cellAt k (by omega),Jb2 hk],c.c0,rfl,l,fun s d=>?_,fun f=>?_⟩
 .obtain ⟨i,hi,rfl⟩:=Hc.1 d;exact((a.ok k hk).dn _ _ (b.at_ i hi (by rw[<-b.len];exact hi))).few
 have d:=c.nown;obtain⟨-,⟨e,z⟩| ⟨g,t,u,e,-⟩⟩:=id d
 .omega
 injection e with f x j;subst f;rw[j]at d;refine⟨g,rfl,fun i hi=>?_⟩;rw[d.cellAt i (by omega),MK,FX hi];rfl
end
theorem Jgc(so)(sc)(ops)(hi)(w)(hE:Evs w)(hS:Scr w so ops)(hOk:∀o ∈ ops,OpOk o)(hcnt:cntP ops<=1048576):
 Calls prog 14 #[E so ops.length sc,G hi] w fun e w'=>e=aD (.bool true)/\Below w.1.size w w':=by
 obtain⟨w1,ar⟩:=nm (w.alloc (.cells #[M,M,G 0,aH,aH,aH,aH] 71));have j:=ar▸aS.alloc aT _;have H:=Jvz hE (fun _=>⟨0,0,0,fun _=>none,0,fun _=>none,[]⟩);rw[ar]at H;have aV:=H.law.low;have ai:=hE.below j hE.1;have ac:Calls prog 34 #[aJ w.1.size 0,G 300] w1 fun e w2=>e=aD (.bool true)/\PSt w.1.size (colN (fun _=>0) w.1.size 1) w1 0 0 w2:=(Jky H (fun b hi=>absurd hi (JR b)) ai 300).mono (by
  rintro e w2 ⟨rfl,f,l,n,i,b,c,d,g,-,h⟩;exact⟨rfl,f,l,n,i,b,c,d,g,h (by decide) (by decide)⟩)
 have F:∀o ∈ ops,Txts (fun c=>colN (fun _=>0) w.1.size 1 c=0) w1 o.lo o.ls:=fun o aW ah=>by
  obtain⟨c,g,e,-,d,f⟩:=hS.2 o aW ah;exact⟨c,g,e,Kt d,FT d j.size,fun b hi=>V j d (f b hi)⟩
 have A:∀p q w',PSt w.1.size (colN (fun _=>0) w.1.size 1) w1 p q w'->Below w.1.size w w':=fun p q w' h=>by
  obtain⟨f,_,_,_,_,d,-⟩:=h;refine j.trans ⟨d.bs.os,d.bs.tape,d.bs.output,d.bs.size,fun c b=>d.bs.block c (FT b j.size) (fun t=>t (Kt b))⟩
 have N:∀xv yv m p q w',PSm w.1.size xv yv m (colN (fun _=>0) w.1.size 1) w1 p q w'->Below w.1.size w w':=fun xv yv m p q w' h=>by
  obtain⟨f,_,d,-⟩:=h;refine j.trans ⟨d.bs.os,d.bs.tape,d.bs.output,d.bs.size,fun c b=>d.bs.block c (FT b j.size) (fun t=>t (Kt b))⟩
 obtain⟨u,t⟩:=nm ops.length;have bf:u<=1048576:=by
  have:∀b:List OpD,b.length<=cntP b:=fun b=>by
   induction b with
   | nil=>exact ZL _
   | cons o r ih=>simp only[ZN,cntP];omega
  have:=this ops;omega
 rw[t];clear hE H aV ai j;go_enter func14,ntmps14;go_wp2_with (go_at_call 34;refine aR ac fun w2 aj=>?_;have B:=aj;clear aj);obtain⟨lb,R⟩:=nm w.1.size;have ab:=O R;rw[R]at B A N F⊢;clear R ac;generalize Q:(colN (fun _=>0) lb 1)=c0 at B A N F;clear Q;go_loopw [6,7] (fun z c wr=>∃b:Nat,c=G b/\b<=u/\z=.bool true/\PSt lb c0 w1 (cntP (ops.take b)) (3*cntP (ops.take b)) wr) (fun _ c _=>u-(intOf c).toNat)
 .exact ⟨0,rfl,ZL _,rfl,B⟩
 obtain⟨b,rfl,a8,rfl,c⟩:=hrel;by_cases am:b<u
 .have i:b<ops.length:=by rw[t];exact am
  obtain⟨Y,au⟩:=hS;obtain⟨ay,aY,aw,av,P⟩:=Y (by omega);obtain⟨aa,ad,af,ak⟩:=P b i;have g:=A _ _ _ c;have l:ay<lb:=by rw[<-ab];exact av
  subst aw;have ax:=V g l aa;have ae:=V g l ad;have ag:=V g l af;have al:=V g l ak;have S:=Jsw ops b i;have aq:=Jsx ops (b+1);generalize hC:cntP (ops.take b)=C at c S;have f:=Jzt c ops[b] (hOk _ (ND i)) (F _ (ND i)) (by omega) (by omega);have z:PSt lb c0 w1 (cntP (ops.take (b+1))) (3*cntP (ops.take (b+1))) wr:=c.upp (by omega) (by omega);have n:∀w',PSt lb c0 w1 (C+ops[b].ls.length+1) (3*C+2*ops[b].ls.length+3) w'->Calls prog 36 #[aJ lb 2] w' fun e x=>e=aD (.bool true)/\PSt lb c0 w1 (cntP (ops.take (b+1))) (3*cntP (ops.take (b+1))) x:=fun w' h=>(Ju9 h (by omega)).mono (fun e x ⟨y,d⟩=>⟨y,d.upp (by omega) (by omega)⟩);obtain⟨kd,T⟩:=nm (ops[b].kd);obtain⟨az,L⟩:=nm (ops[b].a);obtain⟨aZ,Z⟩:=nm (ops[b].s);obtain⟨lo,X⟩:=nm (ops[b].lo);obtain⟨lc,W⟩:=nm (ops[b].lc);obtain⟨aX,y⟩:=nm (ops[b].ls.length);rw[T]at ax f;rw[L]at ae f;rw[Z]at ag f;rw[X,W,y]at al f;rw[y]at n;have b0:(0:Int)<=(b:Int):=by omega
  have b1:(b:Int)<(u:Int):=by omega
  clear c S aq hcnt hC T L Z X W y Y au P aa ad af ak g i;by_cases aU:hi<kd
  .clear f n ae ag al;go_wp2_with fail;go_roundw
   .exact ⟨b+1,by go_num,by omega,rfl,z⟩
   simp[intOf];omega
  clear z;go_wp2_with (first
   | (go_at_call 35;refine aR f fun x K=>?_;have ao:=n x K;clear K)
   | (go_at_call 36;refine aR ao fun an d=>?_;have ap:=d;clear d))
  go_roundw
  .exact ⟨b+1,by go_num,by omega,rfl,ap⟩
  simp[intOf];omega
 have az:b=u:=by omega
 subst az;rename World=>x;have aq:ops.take b=ops:=by rw[<-t,JV]
 rw[aq]at c;obtain⟨ag,xv,yv,m,D,ao,y,ap,bc⟩:=c;obtain⟨n,l,a7,aY,-⟩:=Yf y.law.xrow;obtain⟨g,i,aZ⟩:∃g i,yv=aI g 0 m i:=by
  obtain⟨-,⟨_,ah⟩| ⟨f,d,z,e,-⟩⟩:=y.law.yrow
  .omega
  exact⟨f,d,e⟩
 subst aY aZ;have bd:=y.law.few;have ae:PSm lb (E n m l) (aI g 0 m i) m c0 w1 (cntP ops) (3*cntP ops) x:=⟨ag,D,ao,y,ap⟩;have ax:∀p q w',PSm lb (E n m l) (aI g 0 m i) m c0 w1 p q w'->w'.cell? (U lb 0)=some (E n m l):=fun p q w' h=>by
  obtain⟨_,_,_,d,_⟩:=h;exact d.law.c0
 obtain⟨f,P⟩:=nm (cntP ops);have X:=P▸hcnt;rw[P]at ae;clear aq ao y ap P am B F hS hOk hcnt A D ag;have be:(m:Int)<=3:=by omega
 go_wp2_with fail;go_loopw [6,9] (fun z d wr=>∃k:Nat,d=G k/\k<=m/\z=.bool true/\PSm lb (E n m l) (aI g 0 m i) m c0 w1 (f+k*531442) (3*f+k*1594330) wr) (fun _ d _=>m-(intOf d).toNat)
 .exact ⟨0,rfl,ZL _,rfl,by simpa using ae⟩
 obtain⟨k,rfl,bb,rfl,c⟩:=hrel;have a5:=ax _ _ _ c;by_cases K:k<m
 .have Q:=X;have ad:=Jvd c K (by omega);have Z:∀w',PSm lb (E n m l) (aI g 0 m i) m c0 w1 (f+k*531442) (3*f+k*1594330+1) w'->Calls prog 38 #[aJ lb 0,G ((k:Nat):Int),aI w'.1.size 0 1 1] (w'.alloc (.cells #[.string ⟨#[49,32,43,32,105,111,116,97,32,51]⟩] 9)) fun e w2=>e=aD (.bool true)/\PSm lb (E n m l) (aI g 0 m i) m c0 w1 (f+k*531442+1) (3*f+k*1594330+4) w2:=fun w' h=>Jxz h K ⟨#[49,32,43,32,105,111,116,97,32,51]⟩ (by decide) (by omega) (by omega);have ba:(0:Int)<=(k:Int):=by omega
  have aU:(k:Int)<(m:Int):=by omega
  clear c Q;go_wp2_with (first
   | (go_at_call 37;refine aR ad fun an d=>?_;have Y:=Z an d;clear d a5)
   | (go_at_call 38;refine aR Y fun S z=>?_;have L:=z;clear z))
  clear ad Z Y;go_loopw [6,11] (fun z L wr=>∃d:Nat,L=G d/\d<=531441/\z=.bool true/\PSm lb (E n m l) (aI g 0 m i) m c0 w1 (f+k*531442+1+d) (3*f+k*1594330+4+3*d) wr) (fun _ L _=>531441-(intOf L).toNat)
  .exact ⟨0,rfl,ZL _,rfl,L⟩
  obtain⟨d,rfl,an,rfl,c⟩:=hrel;obtain⟨bn,no,L,bh,S,bi,bj,bl,au,av,T,W⟩:=Jvc c K;by_cases a9:d<L
  .obtain ⟨a6,ay,al⟩:=W (by omega);subst ay;have z:d<S.length:=by omega
   have a4:=al d z;have aX:=T _ (ND z);have af:=Jxz c K S[d] (by omega) (by omega) (by omega);generalize hs:S[d]=s at a4 af;have b0:(0:Int)<=(d:Int):=by omega
   have b1:(d:Int)<(L:Int):=by omega
   have aa:d+1<=531441:=by omega
   have bg:(L:Int)<=531441:=by omega
   clear c au T W al z aX X hs an av;go_wp2_with (go_at_call 38;refine aR af fun bm ak=>?_;have aw:=ak;clear ak);go_roundw
   .exact ⟨d+1,by go_num,aa,rfl,by have:=aw;rw[show f+k*531442+1+(d+1)=f+k*531442+1+d+1 by omega,show 3*f+k*1594330+4+3*(d+1)=3*f+k*1594330+4+3*d+3 by omega];exact this⟩
   have:=aa;simp[intOf];omega
  have z:PSm lb (E n m l) (aI g 0 m i) m c0 w1 (f+(k+1)*531442) (3*f+(k+1)*1594330) wr:=c.upp (by omega) (by omega);have b0:¬ (d:Int)<(L:Int):=by omega
  clear c au av T W an;go_wp2_with fail;go_roundw
  .exact ⟨k+1,by go_num,by omega,rfl,z⟩
  simp[intOf];omega
 have d:=N _ _ _ _ _ _ c;have aU:¬ (k:Int)<(m:Int):=by omega
 clear c;go_wp2_with fail;go_ret;refine⟨rfl,?_⟩;have:=d;rw[ab];exact this
theorem Jq2(so)(sc)(ops)(w)(hE:Evs w)(hS:Scr w so ops)(hOk:∀o ∈ ops,OpOk o)(hcnt:cntP ops<=1048576):
 Calls prog 3 #[E so ops.length sc] w fun e w'=>e=aD (.bool true)/\J w w':=by
 have a:=O (Jgc so sc ops 4 w hE hS hOk hcnt);go_enter func3,ntmps3;go_wp2_with (go_at_call 14;refine aR a fun w1 b=>?_);go_ret;simp;omega
end Go.Proofs.YtjobgpahajhbnaaGreatDoor
