import Derived.Test.YtjobgpahajhbnaaGreatDoorAs
namespace Go.Proofs.YtjobgpahajhbnaaGreatDoor
open Go.RowKit Go.Proofs Go.Maps Go.Proofs.Tryz
attribute [local go_sem ↓] Go.wp_at_zero Go.wp_at_succ
set_option linter.all false
set_option maxHeartbeats 2000000
set_option maxRecDepth 20000
variable {F:Int} {PD:Nat->Prop} {a:Arr} {env:ByteArray->Option Arr}
structure Wok (wb yb:Nat) (ao:Option Addr) (n cap:Nat) (i c er at_:Int) (w:World):Prop where
 lt:wb<w.1.size
 c0:w.cell? (U wb 0)=some (aJ yb 0)
 c1:w.cell? (U wb 1)=some (.slice ao n cap)
 c2:w.cell? (U wb 2)=some (.int .i64 i)
 c3:w.cell? (U wb 3)=some (.int .i64 c)
 c4:w.cell? (U wb 4)=some (.int .i64 er)
 c5:w.cell? (U wb 5)=some (.int .i64 at_)
 fr:∀ j,w.frozen? (U wb j)=false
section
variable {wb yb:Nat} {ao:Option Addr} {n cap:Nat} {i c er at_:Int} {w w':World}
theorem Wok.stay(h:Wok wb yb ao n cap i c er at_ w)(hs:w.1.size<=w'.1.size)(hk:w'.heap[wb]?=w.heap[wb]?):Wok wb yb ao n cap i c er at_ w' :=
 ⟨FT h.lt hs,(WA hk).trans h.c0,(WA hk).trans h.c1,(WA hk).trans h.c2,(WA hk).trans h.c3,(WA hk).trans h.c4,(WA hk).trans h.c5,fun j=>(NI (a:=U wb j) hk).trans (h.fr j)⟩
theorem Wok.below(h:Wok wb yb ao n cap i c er at_ w)(hb:J w w'):Wok wb yb ao n cap i c er at_ w':=h.stay hb.size (hb.block wb h.lt)
theorem Wok.other(h:Wok wb yb ao n cap i c er at_ w){b:Nat}(hb:b≠wb)(k)(u):Wok wb yb ao n cap i c er at_ (w.setCell (U b k) u):=h.stay (by simp) (FV _ _ _ _ (JC hb))
theorem Wok.set2(h:Wok wb yb ao n cap i c er at_ w)(i'):Wok wb yb ao n cap i' c er at_ (w.setCell (U wb 2) (G i')):=
 ⟨by simpa using h.lt,celN (by omega) h.c0,celN (by omega) h.c1,FW _ _ _ h.c2,celN (by omega) h.c3,celN (by omega) h.c4,celN (by omega) h.c5,fun j=>by rw[NA];exact h.fr j⟩
theorem Wok.set3(h:Wok wb yb ao n cap i c er at_ w)(c'):Wok wb yb ao n cap i c' er at_ (w.setCell (U wb 3) (G c')):=
 ⟨by simpa using h.lt,celN (by omega) h.c0,celN (by omega) h.c1,celN (by omega) h.c2,FW _ _ _ h.c3,celN (by omega) h.c4,celN (by omega) h.c5,fun j=>by rw[NA];exact h.fr j⟩
theorem Wok.set45(h:Wok wb yb ao n cap i c er at_ w)(e' a'):Wok wb yb ao n cap i c e' a' ((w.setCell (U wb 4) (G e')).setCell (U wb 5) (G a')):=by
 have a:(w.setCell (U wb 4) (G e')).cell? (U wb 5)=some (G at_):=celN (by omega) h.c5;refine⟨by simpa using h.lt,?_,?_,?_,?_,?_,FW _ _ _ a,fun b=>by rw[NA,NA];exact h.fr b⟩
 .rw [celO (by omega),celO (by omega)];exact h.c0
 .rw [celO (by omega),celO (by omega)];exact h.c1
 .rw [celO (by omega),celO (by omega)];exact h.c2
 .rw [celO (by omega),celO (by omega)];exact h.c3
 rw[celO (by omega)];exact FW _ _ _ h.c4
end
def TokM(w:World)(ao:Option Addr)(T:List Tok):Prop:=0<T.length->∃g o,ao=some (U g o)/\g<w.1.size/\(∀i,(h:i<T.length)->w.cell? (U g (o+i*2))=some (.string T[i].t))/\∀i,(h:i<T.length)->w.cell? (U g (o+i*2+1))=some (.int .i64 T[i].p)
def REnv(env:ByteArray->Option Arr)(ns:List ByteArray)(zs:List Arr):Prop:=∀t,(Xe ns t=-1/\env t=none)\/∃i,∃h:i<zs.length,Xe ns t=(i:Int)/\env t=some zs[i]
structure Ctx (W0:World) (yb:Nat) (F:Int) (env:ByteArray->Option Arr) (T:List Tok) (ao:Option Addr) (PD:Nat->Prop):Prop where
 desk:∃ Y nv vv ns qs zs,RDk Y yb F nv vv ns qs zs W0/\REnv env ns zs/\(∀ b,Y b/\b≠yb/\vv.ownBlock≠some b->b<W0.1.size->PD b)/\ns.length<=1000000
 tok:TokM W0 ao T
 few:T.length<=200
 tk:∀ q ∈ T,Tk q
 pd:∀ b,PD b->b<W0.1.size
 f0:0<=F
 f1:F<=1000
 ok:EnvOk env
def PW(w:World)(PD:Nat->Prop)(b:Nat):Prop:=PD b\/w.1.size<=b
def WRes(W0:World)(yb:Nat)(ao:Option Addr)(n cap:Nat)(PD:Nat->Prop)(j:Nat)(w:World)(r:Sum (Int × Nat) (Arr × Nat))(e:Ending)(w':World):Prop :=
 Bs (fun b=>b=W0.1.size) w w'/\∃s1 s2 s3 c1 c2 c3,e=.returned (aK s1 s2 s3 c1 c2 c3)/\match r with
 | .inl x=>∃i c:Int,Wok W0.1.size yb ao n cap i c x.1 x.2 w'
 | .inr x=>IsArr (PW w PD) w' (aK s1 s2 s3 c1 c2 c3) x.1/\Wok W0.1.size yb ao n cap ((j:Int)-1) x.2 0 0 w'
theorem Nd{W0 w w':World}(h:J W0 w)(hb:Bs (fun b=>b=W0.1.size) w w'):J W0 w' :=
 ⟨hb.os.trans h.os,hb.tape.trans h.tape,hb.output.trans h.output,NE h.size hb.size,fun k hk=>(hb.block k (FT hk h.size) (by omega)).trans (h.block k hk)⟩
theorem J2y{w0 w1 w:World}{v:Value}(h:IsArr (PW w1 PD) w v a)(hs:w0.1.size<=w1.1.size):IsArr (PW w0 PD) w v a:=by
 obtain⟨k,j,sc,f,e,d,rfl,g,i⟩:=h;have c:∀b,PW w1 PD b->b<w.1.size->PW w0 PD b:=fun b h _=>h.imp id (fun h=>NE hs h);exact⟨k,j,sc,f,e,d,rfl,g.imp c,i.imp c⟩
theorem Ctx.tokAt{W0:World}{yb:Nat}{T:List Tok}{ao:Option Addr}(h:Ctx W0 yb F env T ao PD){i:Nat}(hi:i<T.length):∃g o,ao=some (U g o)/\∀w,J W0 w->g<W0.1.size/\w.cell? (U g (o+i*2))=some (aE T[i].t)/\w.cell? (U g (o+i*2+1))=some (G T[i].p):=by
 obtain⟨g,o,c,a,d,e⟩:=h.tok (by omega);exact⟨g,o,c,fun w b=>⟨a,V b a (d i hi),V b a (e i hi)⟩⟩
def Jvt(env:ByteArray->Option Arr)(t:ByteArray)(p c:Nat):Sum (Int × Nat) (Arr × Nat):=match env t with
 | none=>.inl (4,p)
 | some a=>.inr (a,c)
theorem box2(w)(t)(p:Nat):∀wx,wx=((w.alloc (.cells aF 133)).alloc (.cells #[aE t,G p] 166)).drew->J w wx/\w.1.size+2<=wx.1.size/\wx.cell? (U w.1.size 0)=some aH/\wx.cell? (U w.1.size 1)=some aH/\wx.frozen? (U w.1.size 0)=false/\wx.frozen? (U w.1.size 1)=false/\wx.cell? (U (w.1.size+1) 0)=some (aE t)/\wx.cell? (U (w.1.size+1) 1)=some (G p):=by
 rintro wx rfl;have b:J w (w.alloc (.cells #[M,M] 133)):=belA1;refine⟨(b.alloc (by simp) _).drew,by simp,by simp,by simp,?_,?_,by simp,by simp⟩
 .have a:Below (w.1.size+1) (w.alloc (.cells #[M,M] 133)) ((w.alloc (.cells #[M,M] 133)).alloc (.cells #[aE t,G p] 166)).drew:=(aS.alloc (by simp) _).drew;exact bF a (by omega) (NL _ _ _ _ rfl)
 have a:Below (w.1.size+1) (w.alloc (.cells #[M,M] 133)) ((w.alloc (.cells #[M,M] 133)).alloc (.cells #[aE t,G p] 166)).drew:=(aS.alloc (by simp) _).drew;exact bF a (by omega) (NL _ _ _ _ rfl)
theorem Jar{w w':World}{wb a:Nat}{u0 u1:Value}(h:Bs (fun b=>b=wb) w w')(ha:w.1.size<=a):Bs (fun b=>b=wb) w ((w'.setCell (U a 0) u0).setCell (U a 1) u1):=
 ⟨h.os,h.tape,h.output,by simpa using h.size,fun k hk hn=>by rw[FV _ _ _ _ (show k≠a by omega),FV _ _ _ _ (show k≠a by omega)];exact h.block k hk hn⟩
theorem Y7{w w':World}{wb i:Nat}{u:Value}(h:Bs (fun b=>b=wb) w w'):Bs (fun b=>b=wb) w (w'.setCell (U wb i) u):=
 ⟨h.os,h.tape,h.output,by simpa using h.size,fun k hk hn=>by rw[FV _ _ _ _ hn];exact h.block k hk hn⟩
theorem Jim{W0:World}{yb:Nat}{T:List Tok}{ao:Option Addr}(hC:Ctx W0 yb F env T ao PD)(cap)(j)(hj:j<T.length)(hk:T[j].k=1)(c:Nat)(w)(hb:J W0 w)(hW:Wok W0.1.size yb ao T.length cap j c 0 0 w):
 Calls prog 84 #[aJ W0.1.size 0] w (WRes W0 yb ao T.length cap PD j w (Jvt env T[j].t T[j].p c)):=by
 obtain⟨bX,b5,rfl,bI⟩:=hC.tokAt hj;obtain⟨n1,n2,n3,n4,bN⟩:=Joc (hC.tk _ (ND hj)) hk;have ba:=(hC.tk _ (ND hj)).vt.pos;obtain⟨bw,aX,aW⟩:=bI w hb;obtain⟨t,bH⟩:=nm (T[j].t);obtain⟨p,bD⟩:=nm (T[j].p);rw[bH]at n1 n2 n3 n4 bN ba aX⊢;rw[bD]at aW⊢;have:j<200:=by have:=hC.few;omega
 have X:=hb;have c0:=hW.c0;have c1:=hW.c1;have c2:=hW.c2;have c4:=hW.c4;have c5:=hW.c5;have:=hW.lt;have aY:=hW.fr 2;have z:=hW.fr 4;have A:=hW.fr 5;obtain⟨bp,bv⟩:=nm T.length;rw[bv]at hj c1;have:(0:Int)<=j:=by omega
 have az:(j:Int)<bp:=by omega
 have bz:=FT bw hb.size;obtain⟨bj,ak⟩:=nm (Jvt env t p c);rw[ak];go_enter func84,ntmps84;go_upto_region 1 with fail;go_cut [3]from 10 to 19 (fun b wx=>b=.pointer (some (adQ0 w))/\wx=((w.alloc (.cells #[M,M] 133)).alloc (.cells #[aE t,G p] 166)).drew)
 .go_region
  all_goals
   go_wp2_with fail;go_meet;exact⟨rfl,rfl⟩
 obtain⟨rfl,be⟩:=hcut;obtain⟨s,bE,aq,ar,ad,ae,b0,b1⟩:=box2 w t p wc be;clear be aX aW c0 c1 c2 c4 c5 aY z A az bz;go_wp2_with fail;refine aR (K5 t _ ba) fun h l=>?_;rw[n1];have C:=(hW.below s).below l;have bt:=X.trans ((s.mono X.size).trans (l.mono (NE X.size s.size)));have aq:=V l (by omega) aq;have ar:=V l (by omega) ar;have ad:=bF l (by omega) ad;have ae:=bF l (by omega) ae;have b0:=V l (by omega) b0;have b1:=V l (by omega) b1;have bm:=s.trans (l.mono s.size);have bG:=NE bE l.size;have c2:=C.c2;have aY:=C.fr 2;have:=C.lt;have bK:wrap64 ((j:Int)-1)=(j:Int)-1:=by unfold wrap64;omega
 have n:=C.set2 ((j:Int)-1);have B:J W0 (h.setCell (U W0.1.size 2) (G ((j:Int)-1))):=bt.setCell (p:=U W0.1.size 2) aT _;have Y:Bs (fun g=>g=W0.1.size) w (h.setCell (U W0.1.size 2) (G ((j:Int)-1))):=Y7 (Bs.of bm);have L:W0.1.size≠w.1.size:=by omega
 have:W0.1.size≠w.1.size+1:=by omega
 have N:=(FZ h ⟨W0.1.size,2,none⟩ (adP0 w) (G ((j:Int)-1)) (by intro e;injection e;omega)).trans aq;have P:=(FZ h ⟨W0.1.size,2,none⟩ (adP1 w) (G ((j:Int)-1)) (by intro e;injection e;omega)).trans ar;have bg:=(FZ h ⟨W0.1.size,2,none⟩ (adQ0 w) (G ((j:Int)-1)) (by intro e;injection e;omega)).trans b0;have ap:=(FZ h ⟨W0.1.size,2,none⟩ (adQ1 w) (G ((j:Int)-1)) (by intro e;injection e;omega)).trans b1;have Q:(h.setCell (U W0.1.size 2) (G ((j:Int)-1))).frozen? (adP0 w)=false:=by rw[NA];exact ad
 have R:(h.setCell (U W0.1.size 2) (G ((j:Int)-1))).frozen? (adP1 w)=false:=by rw[NA];exact ae
 have c0:=n.c0;have c4:=n.c4;have c5:=n.c5;have z:=n.fr 4;have A:=n.fr 5;have aU:h.1.size=(h.setCell (U W0.1.size 2) (G ((j:Int)-1))).1.size:=by simp
 go_upto_region 10 with fail;try rw[bK]
 obtain⟨f,bL⟩:=nm (h.setCell (U W0.1.size 2) (G ((j:Int)-1)));rw[bL]at n B Y N P bg ap Q R c0 c4 c5 z A aU⊢;have bb:w.1.size+2<=f.1.size:=by rw[<-aU];exact bG
 obtain⟨bV,b4,b9,bf,o,u,q,bu,a7,bA⟩:=hC.desk;have r:=q.below B;obtain⟨no,bO,bB,bJ⟩:=r.txts;have x:=fun k=>by
  have hk:=r.below (Below.drewN (FQ _ f) k);refine Fh _ yb t no bf.length bO bf hk.lt (by rw[<-bB];exact hk.c0) rfl (fun d=>?_) bA;obtain⟨g,y,e,b,m⟩:=bJ d;exact⟨g,y,e,b,fun i hi=>V (Below.drewN (FQ _ f) k) b (m i hi)⟩
 have bM:=r.lt;have bn:∀i,(aZ:i<o.length)->(a4:i<u.length)->IsArr PD f (.agg #[o[i].1,o[i].2]) u[i]:=fun i aZ a4=>by
  obtain⟨H,D,sc,y,m,d,e,a1,a2⟩:=q.arr i aZ a4;exact⟨H,D,sc,y,m,d,e,(a1.imp (fun g hb b=>a7 g hb b)).below B,(a2.imp (fun g hb b=>a7 g hb b)).below B⟩
 have bo:o.length=u.length:=by rw[<-q.len,q.len2]
 have:=q.lt;rcases bu t with⟨H,D⟩| ⟨i,hi,H,D⟩
 .rw [H]at x;have y:bj=.inl (4,p):=by rw[<-ak];unfold Jvt;rw[D]
  go_quiet ((go_at_call 89;exact JL (x _)));obtain⟨d,b⟩:=nm (f.drewN nq);have W:=by
   have e:=b▸n.below (Below.drewN (FQ _ f) nq);exact Qt d W0.1.size 4 p 0 e.lt e.c4 e.c5 (e.fr 4) (e.fr 5) (by decide)
  have aa:=b▸n.below (Below.drewN (FQ _ f) nq);have Z:=b▸Y.trans (Bs.of (Below.drewN (FQ _ f) nq)) (fun k _ m=>m);have am:d.cell? (adP0 w)=some M:=b▸N;have an:d.cell? (adP1 w)=some M:=b▸P;have ag:d.cell? (adQ1 w)=some (G p):=b▸ap;have bh:d.frozen? (adP0 w)=false:=b▸Q;have bi:d.frozen? (adP1 w)=false:=b▸R;have af:w.1.size+2<=d.1.size:=b▸bb;rw[b];go_wp2_with fail;refine aQ W ?_;have K:((d.setCell (U W0.1.size 4) (G 4)).setCell (U W0.1.size 5) (G p)).cell? (adP0 w)=some M:=by
   rw[celO (by omega),celO (by omega)];exact am
  have S:((d.setCell (U W0.1.size 4) (G 4)).setCell (U W0.1.size 5) (G p)).cell? (adP1 w)=some M:=by
   rw[celO (by omega),celO (by omega)];exact an
  have ab:((d.setCell (U W0.1.size 4) (G 4)).setCell (U W0.1.size 5) (G p)).frozen? (adP0 w)=false:=by
   rw[NA,NA];exact bh
  have ac:((d.setCell (U W0.1.size 4) (G 4)).setCell (U W0.1.size 5) (G p)).frozen? (adP1 w)=false:=by
   rw[NA,NA];exact bi
  have m:=aa.set45 4 p;have e:Bs (fun g=>g=W0.1.size) w ((d.setCell (U W0.1.size 4) (G 4)).setCell (U W0.1.size 5) (G p)):=Y7 (Y7 Z);obtain⟨ah,g⟩:=nm ((d.setCell (U W0.1.size 4) (G 4)).setCell (U W0.1.size 5) (G p));rw[g]at K S ab ac m e⊢;go_wp2_with fail;refine FR (v:=.agg aF) (by simp[results,results84,go_sem,K,S]) rfl ?_;rw[y];refine⟨Jar e aT,_,_,_,_,_,_,rfl,(j:Int)-1,c,?_⟩;exact(m.other (JC L) _ _).other (JC L) _ _
 rw[H]at x;have y:bj=.inr (u[i],c):=by rw[<-ak];unfold Jvt;rw[D]
 have K:i<o.length:=by rw[bo];exact hi
 obtain⟨b8,bP,bd,bc⟩:=r.vals;obtain⟨af,rfl,bx,-,-,-,al⟩:=bc (by omega);have a5:=bn i K hi;have W:=a5;obtain⟨au,av,aw,d1,ab,ac,ag,-,-⟩:=a5;rw[ag]at W;have ah:=NM (fun v=>match v with|Value.agg b=>b|_=>#[]) ag;have ai:=NM (fun b=>b[0]?) ah;have aj:=NM (fun b=>b[1]?) ah;simp at ai aj;have ax:=(al i K).1;have ay:=(al i K).2;rw[ai,ZF]at ax;rw[aj,ZF]at ay;have S:=r.c1;rw[bd]at S;obtain⟨aV,a6⟩:=nm o.length;rw[a6]at S;have:(0:Int)<=(i:Int):=by omega
 have:(i:Int)<(aV:Int):=by omega
 obtain⟨a,a8⟩:∃a,a=u[i]'hi:=⟨_,rfl⟩;rw[<-a8]at W y;clear H D bc al ag ah ai aj a6 bd a8 hi K;go_quiet ((go_at_call 89;exact JL (x _)));obtain⟨d,b⟩:=nm (f.drewN nq);have aa:=b▸n.below (Below.drewN (FQ _ f) nq);have Z:=b▸Y.trans (Bs.of (Below.drewN (FQ _ f) nq)) (fun k _ m=>m);have bl:=b▸J9 W (Below.drewN (FQ _ f) nq);have am:aB d w.1.size 0 aH:=b▸N;have an:aB d w.1.size 1 aH:=b▸P;have bh:d.frozen? (U w.1.size 0)=false:=b▸Q;have bi:d.frozen? (U w.1.size 1)=false:=b▸R;have:aB d af (i*2) (E au av aw):=b▸ax;have:aB d af (i*2+1) (E d1 ab ac):=b▸ay;have:aB d yb 1 (aI af 0 aV bP):=b▸S;have:aB d W0.1.size 0 (aJ yb 0):=b▸c0;rw[b];clear b N P bg ap Q R c0 c4 c5 z A bb ax ay S bx bM;go_wp2_with fail;refine FR (v:=aK au av aw d1 ab ac) (by simp[results,results84,go_sem,am,an]) rfl ?_;rw[y];have a9:¬ PD w.1.size:=fun m=>by have:=hC.pd _ m;omega
 refine⟨Jar Z aT,_,_,_,_,_,_,rfl,?_,(aa.other (JC L) _ _).other (JC L) _ _⟩;obtain⟨az,bQ,bR,bS,bT,bU,e,bq,br⟩:=J5 (J5 bl a9 0 (E au av aw)) a9 1 (E d1 ab ac);exact⟨az,bQ,bR,bS,bT,bU,e,bq.imp (fun g m _=>NN m),br.imp (fun g m _=>NN m)⟩
theorem Jhh{w:World}{a:Nat}{x0 x1:Value}(p q)(o)(ha:a<w.1.size)(m0:w.cell? (U a 0)=some x0)(m1:w.cell? (U a 1)=some x1):(((w.setCell (U a 0) p).setCell (U a 1) q).alloc o).cell? (U a 0)=some p/\(((w.setCell (U a 0) p).setCell (U a 1) q).alloc o).cell? (U a 1)=some q:=by
 have b:Below ((w.setCell (U a 0) p).setCell (U a 1) q).1.size ((w.setCell (U a 0) p).setCell (U a 1) q) (((w.setCell (U a 0) p).setCell (U a 1) q).alloc o):=belA1;have c:a<((w.setCell (U a 0) p).setCell (U a 1) q).1.size:=by simpa using ha
 have n1:(w.setCell (U a 0) p).cell? (U a 1)=some x1:=celN (by omega) m1;refine⟨(b.cell (p:=U a 0) c).trans ?_,V b c (FW _ _ _ n1)⟩;simp_all[FZ,FW]
theorem Jf1{W0:World}{yb:Nat}{T:List Tok}{ao:Option Addr}(hC:Ctx W0 yb F env T ao PD)(cap)(j)(hj:j<T.length)(hk:T[j].k=5)(c:Nat)(j0)(r)(hX:∀w',J W0 w'->Wok W0.1.size yb ao T.length cap ((j:Int)-1) c 0 0 w'->Calls prog 66 #[aJ W0.1.size 0] w' (WRes W0 yb ao T.length cap PD (j0+1) w' r))(hj0:j0<200)(w)(hb:J W0 w)(hW:Wok W0.1.size yb ao T.length cap j c 0 0 w):
 Calls prog 84 #[aJ W0.1.size 0] w (WRes W0 yb ao T.length cap PD j0 w r):=by
 obtain⟨bh,o,rfl,a6⟩:=hC.tokAt hj;obtain⟨n4,n2,n3,bb⟩:=Jj7 (hC.tk _ (ND hj)) hk;have an:=(hC.tk _ (ND hj)).vt.pos;obtain⟨az,ai,ah⟩:=a6 w hb;obtain⟨t,a5⟩:=nm (T[j].t);obtain⟨p,aX⟩:=nm (T[j].p);rw[a5]at n2 n3 n4 bb an ai;rw[aX]at ah;have:j<200:=by have:=hC.few;omega
 have c0:=hW.c0;have c1:=hW.c1;have c2:=hW.c2;have c4:=hW.c4;have c5:=hW.c5;have:=hW.lt;have aj:=hW.fr 2;have P:=hW.fr 4;have Q:=hW.fr 5;obtain⟨au,ay⟩:=nm T.length;rw[ay]at hj c1;have:(0:Int)<=j:=by omega
 have bf:(j:Int)<au:=by omega
 have aU:=FT az hb.size;go_enter func84,ntmps84;go_upto_region 1 with fail;go_cut [3]from 10 to 19 (fun b wx=>b=.pointer (some (adQ0 w))/\wx=((w.alloc (.cells #[M,aH] 133)).alloc (.cells #[aE t,G p] 166)).drew)
 .go_region
  all_goals
   go_wp2;go_meet;simp
 obtain⟨rfl,ap⟩:=hcut;obtain⟨A,aY,ad,ae,L,N,b0,b1⟩:=box2 w t p wc ap;clear ap ai ah c0 c1 c2 c4 c5 aj P Q bf aU;go_wp2_with fail;refine aR (K5 t _ an) fun f i=>?_;obtain⟨bn,am⟩:=nm (namB t);rw[am];clear am;have C:=(hW.below A).below i;have ax:=hb.trans ((A.mono hb.size).trans (i.mono (NE hb.size A.size)));have ad:=V i (by omega) ad;have ae:=V i (by omega) ae;have L:=bF i (by omega) L;have N:=bF i (by omega) N;have b0:=V i (by omega) b0;have b1:=V i (by omega) b1;have ar:=A.trans (i.mono A.size);have aZ:=NE aY i.size;have c2:=C.c2;have aj:=C.fr 2;have:=C.lt;have a7:wrap64 ((j:Int)-1)=(j:Int)-1:=by unfold wrap64;omega
 have n:=C.set2 ((j:Int)-1);have ak:J W0 (f.setCell (U W0.1.size 2) (G ((j:Int)-1))):=ax.setCell (p:=U W0.1.size 2) aT _;have D:Bs (fun b=>b=W0.1.size) w (f.setCell (U W0.1.size 2) (G ((j:Int)-1))):=Y7 (Bs.of ar);have d:W0.1.size≠w.1.size:=by omega
 have:W0.1.size≠w.1.size+1:=by omega
 have Z:=(FZ f ⟨W0.1.size,2,none⟩ (adP0 w) (G ((j:Int)-1)) (by simp)).trans ad;have aa:=(FZ f ⟨W0.1.size,2,none⟩ (adP1 w) (G ((j:Int)-1)) (by simp)).trans ae;have bc:=(FZ f ⟨W0.1.size,2,none⟩ (adQ0 w) (G ((j:Int)-1)) (by intro y;injection y;omega)).trans b0;have bd:=(FZ f ⟨W0.1.size,2,none⟩ (adQ1 w) (G ((j:Int)-1)) (by intro y;injection y;omega)).trans b1;have ab:(f.setCell (U W0.1.size 2) (G ((j:Int)-1))).frozen? (adP0 w)=false:=by rw[NA];exact L
 have ac:(f.setCell (U W0.1.size 2) (G ((j:Int)-1))).frozen? (adP1 w)=false:=by rw[NA];exact N
 have c0:=n.c0;have c4:=n.c4;have c5:=n.c5;have P:=n.fr 4;have Q:=n.fr 5;have af:f.1.size=(f.setCell (U W0.1.size 2) (G ((j:Int)-1))).1.size:=by simp
 go_upto_region 5 with fail;try rw[a7]
 obtain⟨e,a8⟩:=nm (f.setCell (U W0.1.size 2) (G ((j:Int)-1)));rw[a8]at n ak D Z aa bc bd ab ac c0 c4 c5 P Q af⊢;have S:w.1.size+2<=e.1.size:=by rw[<-af];exact aZ
 have ag:=hX e ak n;have:=S;cases r with
 | inl x =>
  go_wp2_with (go_at_call 66;refine ag.mono ?_;rintro y B ⟨b,q,s,u,d1,l,m,rfl,R⟩;obtain⟨al,aq,g⟩:=R;have be:=g.c2;have u2:=g.fr 2;have aV:=g.lt;have X:=(b.cell (o:=0) (show w.1.size<e.1.size by omega) (JC d)).trans Z;have Y:=(b.cell (o:=1) (show w.1.size<e.1.size by omega) (JC d)).trans aa;have a9:=(b.frozen (o:=0) (show w.1.size<e.1.size by omega) (JC d)).trans ab;have ba:=(b.frozen (o:=1) (show w.1.size<e.1.size by omega) (JC d)).trans ac;have a4:=NE S b.size;have W:w.1.size<B.1.size:=(by omega);have K:=g;have H:=b);have z:=Jhh (w:=B.setCell (U W0.1.size 2) (G (wrap64 (al-1)))) (a:=w.1.size) (E q s u) (E d1 l m) (.cells (aL q s u d1 l m) 133) (by simpa using W) ((celO (by omega)).trans X) ((celO (by omega)).trans Y);refine FR (v:=(agV q s u d1 l m)) (by simp[results,results84,go_sem,z.1,z.2]) rfl ?_;refine⟨(Jar (Y7 (D.trans H (fun k _ h=>h))) aT).trans (Bs.of (belA1)) (fun k _ h=>h),_,_,_,_,_,_,rfl,_,_,(((K.set2 _).other (JC d) _ _).other (JC d) _ _).below (belA1)⟩
 | inr x =>
  have av:((j0+1:Nat):Int)-1=(j0:Int):=by omega
  have:wrap64 ((j0:Int)-1)=(j0:Int)-1:=by unfold wrap64;omega
  go_wp2_with (go_at_call 66;refine ag.mono ?_;rintro y B ⟨b,q,s,u,d1,l,m,rfl,R⟩;obtain⟨aw,g⟩:=R;rw[av]at g;have aq:=aw;have be:=g.c2;have u2:=g.fr 2;have aV:=g.lt;have X:=(b.cell (o:=0) (show w.1.size<e.1.size by omega) (JC d)).trans Z;have Y:=(b.cell (o:=1) (show w.1.size<e.1.size by omega) (JC d)).trans aa;have a9:=(b.frozen (o:=0) (show w.1.size<e.1.size by omega) (JC d)).trans ab;have ba:=(b.frozen (o:=1) (show w.1.size<e.1.size by omega) (JC d)).trans ac;have a4:=NE S b.size;have W:w.1.size<B.1.size:=(by omega);have K:=g;have H:=b);have z:=Jhh (w:=B.setCell (U W0.1.size 2) (G ((j0:Int)-1))) (a:=w.1.size) (E q s u) (E d1 l m) (.cells (aL q s u d1 l m) 133) (by simpa using W) ((celO (by omega)).trans X) ((celO (by omega)).trans Y);refine FR (v:=(agV q s u d1 l m)) (by simp[results,results84,go_sem,z.1,z.2]) rfl ?_;have aW:¬ PW e PD W0.1.size:=fun h=>by
   rcases h with h|h
   .have:=hC.pd _ h;omega
   omega
  have al:¬ PW e PD w.1.size:=fun h=>by
   rcases h with h|h
   .have:=hC.pd _ h;omega
   omega
  refine⟨(Jar (Y7 (D.trans H (fun k _ h=>h))) aT).trans (Bs.of (belA1)) (fun k _ h=>h),_,_,_,_,_,_,rfl,?_,(((K.set2 _).other (JC d) _ _).other (JC d) _ _).below (belA1)⟩;exact J2y (J9 (J5 (J5 (J5 aq aW _ _) al _ _) al _ _) (belA1)) (by omega)
structure NSt (W0:World) (yb:Nat) (ao:Option Addr) (n cap:Nat) (T:List Tok) (m c:Nat) (w:World) (q:Nat) (wr:World) (v:Value):Prop where
 bs:Bs (fun b=>b=W0.1.size) w wr
 wok:Wok W0.1.size yb ao n cap ((q:Int)-1) c 0 0 wr
 bel:J W0 wr
 nums:Nums (fun b=>w.1.size+2<=b) wr v (Yu T q m)
 sz:w.1.size+2<=wr.1.size
 r0:wr.cell? (U w.1.size 0)=some aH
 r1:wr.cell? (U w.1.size 1)=some aH
 e0:wr.frozen? (U w.1.size 0)=false
 e1:wr.frozen? (U w.1.size 1)=false
section
variable {W0:World} {yb:Nat} {ao:Option Addr} {n cap:Nat} {T:List Tok} {m c:Nat} {w:World} {q:Nat} {wr wx:World} {v:Value}
theorem NSt.below(h:NSt W0 yb ao n cap T m c w q wr v)(hb:J wr wx):NSt W0 yb ao n cap T m c w q wx v:=by
 have a:=h.sz;exact⟨h.bs.trans (Bs.of hb) (fun _ _ h=>h),h.wok.below hb,h.bel.trans (hb.mono h.bel.size),h.nums.below hb,NE a hb.size,V hb (by omega) h.r0,V hb (by omega) h.r1,bF hb (by omega) h.e0,bF hb (by omega) h.e1⟩
theorem NSt.dec(h:NSt W0 yb ao n cap T m c w (q+1) wr v)(hlt:W0.1.size<w.1.size){v':Value}(hv:Nums (fun b=>w.1.size+2<=b) wr v' (Yu T q m)):NSt W0 yb ao n cap T m c w q (wr.setCell (U W0.1.size 2) (G ((q:Int)-1))) v':=by
 refine⟨Y7 h.bs,h.wok.set2 _,h.bel.setCell (p:=U W0.1.size 2) aT _,hv.set (b:=W0.1.size) (by omega) 2 _,by simpa using h.sz,?_,?_,?_,?_⟩
 .exact celN (by omega) h.r0
 .exact celN (by omega) h.r1
 .rw [NA];exact h.e0
 rw[NA];exact h.e1
theorem NSt.fin(h:NSt W0 yb ao n cap T m c w q wr v)(hlt:W0.1.size<w.1.size){wy:World}(hb:J wr wy){s1:Option Addr}{s2 s3:Nat}{d1:Option Addr}{d2 d3:Nat}(hA:IsArr (fun b=>w.1.size+2<=b) wy (aK s1 s2 s3 d1 d2 d3) a):
 WRes W0 yb ao n cap PD q w (.inr (a,c)) (aD (aK s1 s2 s3 d1 d2 d3)) ((wy.setCell (U w.1.size 0) (E s1 s2 s3)).setCell (U w.1.size 1) (E d1 d2 d3)):=by
 have d:=h.below hb;have e:w.1.size≠W0.1.size:=by omega
 refine⟨Jar d.bs aT,s1,s2,s3,d1,d2,d3,rfl,?_,(d.wok.other e _ _).other e _ _⟩;obtain⟨j,k,l,o,p,r,f,g,i⟩:=J5 (J5 hA (b:=w.1.size) (by omega) 0 (E s1 s2 s3)) (b:=w.1.size) (by omega) 1 (E d1 d2 d3);exact⟨j,k,l,o,p,r,f,g.imp (fun b h _=>NO (by omega)),i.imp (fun b h _=>NO (by omega))⟩
end
theorem Jl7{W0:World}{yb:Nat}{T:List Tok}{ao:Option Addr}(hC:Ctx W0 yb F env T ao PD)(cap)(j0 m)(hjm:j0<m)(hm:m<=T.length)(hall:∀i,(h:i<T.length)->j0<=i->i<m->T[i].k=0)(hpre:j0=0\/∃h:j0-1<T.length,0<j0/\numB T[j0-1].t=false)(c:Nat)(w)(hb:J W0 w)(hW:Wok W0.1.size yb ao T.length cap ((m:Int)-1) c 0 0 w):
 Calls prog 84 #[aJ W0.1.size 0] w (WRes W0 yb ao T.length cap PD j0 w (.inr (Jc2 (Yu T j0 m),c))):=by
 obtain⟨b,s⟩:∃b,m=b+1:=⟨m-1,by omega⟩;have A:b<T.length:=by omega
 have bH:=hall b A (by omega) (by omega);have aU:(m:Int)-1=(b:Int):=by omega
 rw[aU]at hW;clear aU;obtain⟨ae,an,rfl,u⟩:=hC.tokAt A;obtain⟨bl,n2,n3,n4,n1⟩:=Jfp (hC.tk _ (ND A)) bH;have bz:=O ((hC.tk _ (ND A)).num bl);have bv:=(hC.tk _ (ND A)).vt.few;have bb:=O (hC.tk _ (ND A)).x;have bK:=(hC.tk _ (ND A)).vt.pos;obtain⟨R,y,bB⟩:=u w hb;obtain⟨t,bS⟩:=nm (T[b].t);obtain⟨p,bJ⟩:=nm (T[b].p);rw[bS]at n1 n2 n3 n4 bl bK y bz bv bb;rw[bJ]at bB;have cu:b<200:=by have:=hC.few;omega
 have aY:=hb;have ce:=O hW;have c0:=hW.c0;have c1:=hW.c1;have c2:=hW.c2;have c4:=hW.c4;have c5:=hW.c5;have D:=hW.lt;have ad:=hW.fr 2;have av:=hW.fr 4;have aw:=hW.fr 5;obtain⟨P,C⟩:=nm T.length;rw[C]at A c1;have co:(0:Int)<=(b:Int):=by omega
 have cp:(b:Int)<(P:Int):=by omega
 have bd:=FT R hb.size;clear hb hW u bH bS bJ A R;change Hid _ at s hpre C;go_enter func84,ntmps84;go_upto_region 1 with fail;go_cut [3]from 10 to 19 (fun d wx=>d=aJ (w.1.size+1) 0/\wx=((w.alloc (.cells aF 133)).alloc (.cells #[aE t,G p] 166)).drew)
 .go_region
  all_goals
   go_wp2_with fail;go_meet;exact⟨rfl,rfl⟩
 obtain⟨rfl,am⟩:=hcut;obtain⟨Z,bN,r0,r1,e0,e1,b0,b1⟩:=box2 w t p wc am;clear am y bB c0 c1 c2 c4 c5 ad av aw cp bd;go_wp2_with fail;refine aR (K5 t _ bK) fun g r=>?_;rw[n1];have af:=(ce.below Z).below r;have bE:=aY.trans ((Z.mono aY.size).trans (r.mono (NE aY.size Z.size)));have bR:=I bN;have r0:=V r (by omega) r0;have r1:=V r (by omega) r1;have e0:=bF r (by omega) e0;have e1:=bF r (by omega) e1;have b0:=V r (by omega) b0;have b1:=V r (by omega) b1;have bt:=Z.trans (r.mono Z.size);have bO:=NE bR r.size;have c2:=af.c2;have ad:=af.fr 2;have cg:=af.lt;have bV:wrap64 ((b:Int)-1)=(b:Int)-1:=by unfold wrap64;omega
 have Q:=af.set2 ((b:Int)-1);have a9:=O Q;have ax:J W0 (g.setCell (U W0.1.size 2) (G ((b:Int)-1))):=bE.setCell (p:=U W0.1.size 2) aT _;have aZ:Bs (fun l=>l=W0.1.size) w (g.setCell (U W0.1.size 2) (G ((b:Int)-1))):=Y7 (Bs.of bt);have cx:W0.1.size≠w.1.size:=by omega
 have ne1:W0.1.size≠w.1.size+1:=by omega
 have bm:=(FZ g ⟨W0.1.size,2,none⟩ ⟨w.1.size,0,none⟩ (G ((b:Int)-1)) (by intro l;injection l;omega)).trans r0;have bn:=(FZ g ⟨W0.1.size,2,none⟩ ⟨w.1.size,1,none⟩ (G ((b:Int)-1)) (by intro l;injection l;omega)).trans r1;have b5:=(FZ g ⟨W0.1.size,2,none⟩ ⟨w.1.size+1,0,none⟩ (G ((b:Int)-1)) (by intro l;injection l;omega)).trans b0;have b6:=(FZ g ⟨W0.1.size,2,none⟩ ⟨w.1.size+1,1,none⟩ (G ((b:Int)-1)) (by intro l;injection l;omega)).trans b1;have bo:(g.setCell (U W0.1.size 2) (G ((b:Int)-1))).frozen? (U w.1.size 0)=false:=by rw[NA];exact e0
 have bp:(g.setCell (U W0.1.size 2) (G ((b:Int)-1))).frozen? (U w.1.size 1)=false:=by rw[NA];exact e1
 have c0:=Q.c0;have c4:=Q.c4;have c5:=Q.c5;have av:=Q.fr 4;have aw:=Q.fr 5;have a8:Hid (g.1.size=(g.setCell (U W0.1.size 2) (G ((b:Int)-1))).1.size):=O (by simp);go_upto_region 15 with fail;try rw[bV]
 obtain⟨ap,bW⟩:=nm (g.setCell (U W0.1.size 2) (G ((b:Int)-1)));rw[bW]at a9 ax aZ bm bn b5 b6 bo bp c0 c4 c5 av aw a8⊢;have bh:w.1.size+2<=ap.1.size:=by rw[<-a8];exact bO
 clear bW af bE r Z bN Q r0 r1 e0 e1 b0 b1 bV c2 ad cg bO bR bt a8 g;have Y:=O (fun d=>Jdf t d bv bz);obtain⟨aX,b3⟩:=nm (Yq t);rw[b3]at Y bb;clear b3;have bU:Yu T b m=[aX]:=by
  have aU:=I s;rw[aU,Jc5 T b (by have:=hm;omega),Yz (by have:=hm;omega),bb]
 have f:Hid (NSt W0 yb (some (U ae an)) T.length cap T m c w b (ap.alloc (.cells #[G aX] 2)) (aI ap.1.size 0 1 1)):=O (by
  have d:J ap (ap.alloc (.cells #[G aX] 2)):=aS.alloc aT _;exact⟨aZ.trans (Bs.of d) (fun _ _ h=>h),a9.below d,ax.trans (d.mono ax.size),by rw[bU];exact Fk rfl bh,NE bh d.size,V d (by omega) bm,V d (by omega) bn,bF d (by omega) bo,bF d (by omega) bp⟩)
 have ar:Hid (j0<=b):=O (by have:=hjm;have:=I s;omega);have a7:Hid (b<m):=O (by have:=I s;omega);go_upto_region 16 with(go_at_call 119;refine aR (I Y _) fun bq ci=>?_;subst ci);obtain⟨X,bi⟩:=nm (bq.alloc (.cells #[G aX] 2));obtain⟨cf,bc⟩:=nm bq.1.size;rw[bi,bc]at f;rw[bi,bc];clear bi bc Y bm bn b5 b6 bo bp c0 c4 c5 av aw bh aZ ax a9 bU n1 n2 n3 n4 bl co;go_cut [8]from 10 to 97 (fun e wx=>e=.bool (decide (j0<b))/\∃k,wx=X.drewN k)
 .rcases ZB b with hq0|hq0
  .have d:decide (j0<b)=false:=by simp;omega
   have c2:X.cell? (U W0.1.size 2)=some (G (-1)):=by have:=f.wok.c2;rw[hq0]at this;exact this
   clear hq0;go_quiet (fail);go_wp2_with fail;go_meet;exact⟨by rw[d],_,rfl⟩
  obtain⟨d,ah⟩:∃d,b=d+1:=⟨b-1,by omega⟩;have z:d<T.length:=by have:=hm;have:=I a7;omega
  have c2:X.cell? (U W0.1.size 2)=some (G d):=by have:=f.wok.c2;rw[ah]at this;rw[this];congr 2;omega
  have c1:X.cell? (U W0.1.size 1)=some (aI ae an P cap):=by have:=f.wok.c1;rw[C]at this;exact this
  obtain⟨bD,b4,o,u⟩:=hC.tokAt z;injection o with o;injection o with ab ac _;subst ab ac;obtain⟨R,y,-⟩:=u X f.bel;have ai:numB T[d].t=decide (j0<b):=by
   by_cases D:j0<b
   .rw [(Jfp (hC.tk _ (ND z)) (hall d z (by omega) (by have:=I a7;omega))).1];simp[D]
   have L:j0=b:=by have:=I ar;omega
   rcases I hpre with h|⟨h,S,l⟩
   .omega
   have:j0-1=d:=by omega
   simp only[this]at l;rw[l];simp[D]
  have aj:=(hC.tk _ (ND z)).vt.pos;have L:Hid (∀k,Calls prog 117 #[aE T[d].t] (X.drewN k) fun l w'=>l=aD (.bool (decide (j0<b)))/\w'=X.drewN k):=O (fun k=>by
   rw[<-ai];exact Kc _ _ aj)
  obtain⟨aW,H⟩:=nm (T[d].t);rw[H]at y L;obtain⟨ck,S⟩:=nm (decide (j0<b));rw[S]at L;have ca:(0:Int)<=(d:Int):=by omega
  have cb:(d:Int)<(P:Int):=by have:=I C;omega
  clear ai aj H ah u hq0;change Hid _ at S;go_quiet ((go_at_call 117;exact JL (I L _)));go_wp2_with fail;go_meet;exact⟨by rw[S],_,rfl⟩
 obtain⟨rfl,cj,am⟩:=hcut;have j:=O (am▸f.below (Below.drewN aS cj));rename World=>wB;clear am f;by_cases ay:j0<b
 .have hd:decide (j0<b)=true:=by simp[ay]
  rw[hd];have bw:=D;have ct:Hid (∀i,(h:i<T.length)->(Yu T i m).length=m-i):=O (fun i _=>Zx T i m hm);clear hd;go_wp2_with fail;go_loopw [7,8] (fun d e wr=>∃q,j0<=q/\q<=b/\e=.bool (decide (j0<q))/\NSt W0 yb (some (U ae an)) T.length cap T m c w q wr d) (fun d _ _=>m-lenOf d)
  .exact ⟨b,ar,FP _,by simp[ay],j⟩
  obtain⟨q,bL,ak,rfl,e⟩:=hrel;have f:=O e;have bM:q<T.length:=by have:=I s;have:=hm;omega
  have aa:=Zx T q m hm;obtain⟨b8,b7,bT,-⟩:=e.nums;rw[aa]at bT;subst bT;by_cases az:j0<q
  .have hd:decide (j0<q)=true:=by simp[az]
   rw[hd];obtain⟨i,rfl⟩:∃i,q=i+1:=⟨q-1,by omega⟩;have be:i<T.length:=by omega
   have bI:=hall i be (by omega) (by have:=I s;omega);have al:=hC.tk _ (ND be);have bA:=O (al.num (Jfp al bI).1);have bu:=al.vt.few;have bZ:=al.x;obtain⟨bD,b4,o,u⟩:=hC.tokAt be;injection o with o;injection o with ab ac _;subst ab ac;obtain⟨R,y,-⟩:=u wr e.bel;have ba:Hid (Yu T i m=[Yq T[i].t]++Yu T (i+1) m):=O (by
    unfold Yu;have d:i<m:=by have:=I s;omega
    rw[ZC (by simp;omega),Mv,H7,bZ];rfl)
   obtain⟨aW,H⟩:=nm (T[i].t);rw[H]at y bA bu ba;have Y:=O (fun d=>Jdf aW d bu bA);obtain⟨b9,b2⟩:=nm (Yq aW);rw[b2]at Y ba;have c1:wr.cell? (U W0.1.size 1)=some (aI ae an P cap):=by have:=e.wok.c1;rw[C]at this;exact this
   have c2:wr.cell? (U W0.1.size 2)=some (G i):=by have:=e.wok.c2;rw[this];congr 2;omega
   have ca:(0:Int)<=(i:Int):=by omega
   have cb:(i:Int)<(P:Int):=by have:=I C;omega
   have bd:=FT R e.bel.size;have cv:=e.wok.lt;have aq:=O ak;clear e bM hd bI al bZ u R H b2 bL ak;go_upto_region 21 with fail;go_cut [9]from 102 to 146 (fun d wx=>∃vo n vc,d=E vo n vc/\OwnL wr.1.size wx (E vo n vc) [b9]/\J wr wx)
   .go_region_law (first|(refine Z3 (B:=wr.1.size) (w:=wr.drew) rfl _ _ rfl rfl (OwnL.nil _ _) (by simp) aT b9 rfl rfl ?_;intro W bq d l;obtain⟨S,n4,N,rfl⟩:=d.sl;have K:=O d;have z:=(FQ wr.1.size wr).drew.trans l.bel;clear d l)| (go_simp;go_at_call 119;refine aR (I Y _) fun ag L=>?_;subst L))
    all_goals
     go_wp2_with fail;go_meet;exact⟨S,n4,N,rfl,by simpa using I K,z⟩
   obtain⟨cA,cw,cz,rfl,bg,ag⟩:=hcut;rename World=>wD;have bQ:=f.below ag;have cd:=ag;have bx:=O ((I f).nums.below ag);have bP:=ag.size;clear ag y c1 c2 bd;change Hid _ at bg bQ;go_wp2_with (at_builtin;refine Jfj rfl _ _ rfl bg bx (by simp) (by rw[aa];have:=I s;omega) bP rfl rfl ?_);intro cy br bf bG;obtain⟨cm,bj,cl,rfl⟩:=bf.sl;have cc:=cd.trans bG;have aV:=f.below cc;have a5:Hid (Nums (fun l=>w.1.size+2<=l) br (E cm bj cl) (Yu T i m)):=O (by
    rw[ba];exact bf.nums.imp (fun l h _=>NE f.sz h.1))
   have N:=O (aV.dec bw a5);have c2:br.cell? (U W0.1.size 2)=some (G i):=by have:=aV.wok.c2;rw[this];congr 2;omega
   have ad:=aV.wok.fr 2;have bX:wrap64 ((i:Int)-1)=(i:Int)-1:=by have:=I aq;unfold wrap64;omega
   have a6:Hid (j0<=i):=O (by have:=az;omega);have au:Hid (i<m):=O (by have:=I aq;have:=I s;omega);clear bf bG aV bg bx bQ bP;go_upto_region 24 with fail;try rw[bX]
   obtain⟨K,bY⟩:=nm (br.setCell (U W0.1.size 2) (G ((i:Int)-1)));rw[bY]at N⊢;have cs:=f;clear bY c2 ad bX;have cq:=ar;have cr:=a7;rcases ZB i with hq0|hq0
   .have d:decide (j0<i)=false:=by simp;omega
    have c2:K.cell? (U W0.1.size 2)=some (G (-1)):=by have:=N.wok.c2;rw[hq0]at this;exact this
    clear hq0;go_quiet (fail);obtain⟨cn,W⟩:=nm (K.drewN nq);have j:=O (W▸N.below (Below.drewN aS nq));rw[W];have a4:bj=m-i:=by have:=Je a5;rw[this,Zx T i m hm]
    have ak:=I aq;have ch:=I au;clear W;go_wp2_with fail;go_roundw
    .exact ⟨i,a6,by omega,by rw[d],j⟩
    have:=a4;simp[lenOf];omega
   obtain⟨d,ah⟩:∃d,i=d+1:=⟨i-1,by omega⟩;have z:d<T.length:=by have:=hm;have:=I au;omega
   have c2:K.cell? (U W0.1.size 2)=some (G d):=by have:=N.wok.c2;rw[ah]at this;rw[this];congr 2;omega
   have c1:K.cell? (U W0.1.size 1)=some (aI ae an P cap):=by have:=N.wok.c1;rw[C]at this;exact this
   obtain⟨bD,b4,o,u⟩:=hC.tokAt z;injection o with o;injection o with ab ac _;subst ab ac;obtain⟨R,y,-⟩:=u K N.bel;have ai:numB T[d].t=decide (j0<i):=by
    by_cases D:j0<i
    .rw [(Jfp (hC.tk _ (ND z)) (hall d z (by omega) (by have:=I au;omega))).1];simp[D]
    have L:j0=i:=by have:=I a6;omega
    rcases I hpre with h|⟨h,S,l⟩
    .omega
    have:j0-1=d:=by omega
    simp only[this]at l;rw[l];simp[D]
   have aj:=(hC.tk _ (ND z)).vt.pos;have L:Hid (∀k,Calls prog 117 #[aE T[d].t] (K.drewN k) fun l w'=>l=aD (.bool (decide (j0<i)))/\w'=K.drewN k):=O (fun k=>by
    rw[<-ai];exact Kc _ _ aj)
   obtain⟨aW,H⟩:=nm (T[d].t);rw[H]at y L;obtain⟨ck,S⟩:=nm (decide (j0<i));rw[S]at L;have ca:(0:Int)<=(d:Int):=by omega
   have cb:(d:Int)<(P:Int):=by have:=I C;omega
   clear ai aj H ah u hq0;change Hid _ at S;go_quiet ((go_at_call 117;exact JL (I L _)));obtain⟨cn,W⟩:=nm (K.drewN nq);have j:=O (W▸N.below (Below.drewN aS nq));rw[W];have a4:bj=m-i:=by have:=Je a5;rw[this,Zx T i m hm]
   have ak:=I aq;have ch:=I au;clear W;go_wp2_with fail;go_roundw
   .exact ⟨i,a6,by omega,by rw[S],j⟩
   have:=a4;simp[lenOf];omega
  have hd:decide (j0<q)=false:=by simp[az]
  rw[hd];have H:q=j0:=by omega
  have r0:=e.r0;have r1:=e.r1;have e0:=e.e0;have e1:=e.e1;have S:=e.sz;have K:w.1.size<wr.1.size:=by omega
  have d:J wr (wr.alloc (.cells #[G ((m-q:Nat):Int)] 3)):=aS.alloc aT _;have L:IsArr (fun l=>w.1.size+2<=l) (wr.alloc (.cells #[G ((m-q:Nat):Int)] 3)) (.agg #[aI wr.1.size 0 1 1,E b8 (m-q) b7]) ⟨[m-q],Yu T q m⟩:=⟨_,_,_,_,_,_,rfl,Fk rfl S,e.nums.below d⟩;have o:=e.fin bw (PD:=PD) d L;have z:Jc2 (Yu T j0 m)=⟨[m-q],Yu T q m⟩:=by
   unfold Jc2;have l:=I s;rw[H]at aa;rw[H,FU (by rw[aa];omega),aa]
  obtain⟨N,l⟩:=nm (m-q);rw[l]at o z L⊢;clear e bM aa hd az d l bL ak;change Hid _ at H;go_wp2_with fail;refine FR (v:=.agg #[aI wr.1.size 0 1 1,E b8 N b7]) (by simp[results,results84,go_sem,r0,r1,K]) rfl ?_;rw[z,<-H];rw[World.setCell_alloc_past _ _ _ _ K,World.setCell_alloc_past _ _ _ _ (by simpa using K)]at o;exact o
 have hd:decide (j0<b)=false:=by simp[ay]
 rw[hd];have L:j0=b:=by have:=I ar;omega
 have r0:=j.r0;have r1:=j.r1;have e0:=j.e0;have e1:=j.e1;have o:=j.fin D (PD:=PD) aS (s1:=none) (s2:=0) (s3:=0) (a:=⟨[],Yu T b m⟩) ⟨_,_,_,_,_,_,rfl,Ym _ _,j.nums⟩;have z:Jc2 (Yu T j0 m)=⟨[],Yu T b m⟩:=by
  unfold Jc2;rw[L,FY (by rw[Zx T b m hm,s];omega)]
 clear hd ay;go_wp2_with fail;refine FR (v:=.agg #[aH,aI cf 0 1 1]) (by simp[results,results84,go_sem,r0,r1]) rfl ?_;rw[z,L];exact o
end Go.Proofs.YtjobgpahajhbnaaGreatDoor
