import Derived.Test.YtjobgpahajhbnaaGreatDoorYc
import Derived.RangeFuncNested
import Derived.RangeFuncBound
import Derived.RangeFuncCalls
import Derived.RangeFuncLeaves
import Derived.RangeFuncBox
import Derived.RangeFuncFrom
import Derived.Shelf.RegionOpen
import Derived.OwnWalkIn
import Derived.TacticsInMore
import Derived.LoopNIn
import Derived.LoopIn
import Derived.Shelf.SlicesE.Reverse
namespace Go.Proofs.YtjobgpahajhbnaaGreatDoor
open Go.RowKit Go.Proofs Go.Maps Go.Shelf Go.Proofs.Tryz
attribute [local go_sem ↓] Go.wp_at_zero Go.wp_at_succ
attribute [local go_sem] Oper.semAt_some
set_option linter.all false
set_option maxHeartbeats 4000000
set_option maxRecDepth 100000
variable {A B W W' w w':World} {L:List Int} {P:Nat->Prop} {a:Arr} {b0 b1 v:Value} {bn bs c cc cn g i k n sc sn:Nat} {co so:Option Addr} {p:Nat × Nat} {row:Option Nat}
def OffG(n g:Nat)(P:Nat->Prop)(b:Nat):Prop:=P b/\(b<n\/g<b)
structure CB (W w:World) (P:Nat->Prop) (b0 b1:Value) (g n i:Nat) (a:Arr):Prop where
 bx:Bx W w [[b0,b1]]
 gW:W.1.size<g
 glt:g<w.1.size
 done:∀ q,q<i->∃ so sn sc co cn cc,w.cell? (U g (q*2))=some (.slice so sn sc)/\w.cell? (U g (q*2+1))=some (.slice co cn cc)/\IsArr (OffG W.1.size g P) w (aK so sn sc co cn cc) (col a q)
 todo:∀ q,i<=q->q<n->w.cell? (U g (q*2))=some aH/\w.cell? (U g (q*2+1))=some aH
 fr:∀ j,w.frozen? (U g j)=false
theorem CB.next(h:CB W w P b0 b1 g n i a)(hb:J w w'):CB W w' P b0 b1 g n i a:=by
 have b:=h.glt;refine⟨h.bx.next hb,h.gW,FT b hb.size,fun e k=>?_,fun e f j=>?_,fun l=>bF hb b (h.fr l)⟩
 .obtain ⟨so,sn,sc,co,cn,cc,c,d,m⟩:=h.done e k;exact⟨so,sn,sc,co,cn,cc,V hb b c,V hb b d,m.below hb⟩
 obtain⟨c,d⟩:=h.todo e f j;exact⟨V hb b c,V hb b d⟩
structure CI (W w:World) (P:Nat->Prop) (b0 b1:Value) (g n i:Nat) (a:Arr) (Vz:Value):Prop where
 bx:Bx W w [[b0,b1]]
 gW:W.1.size<g
 glt:g<w.1.size
 done:∀ q,q<i->∃ so sn sc co cn cc,w.cell? (U g (q*2))=some (.slice so sn sc)/\w.cell? (U g (q*2+1))=some (.slice co cn cc)/\IsArr (OffG W.1.size g P) w (aK so sn sc co cn cc) (col a q)
 todo:∀ q,i<q->q<n->w.cell? (U g (q*2))=some aH/\w.cell? (U g (q*2+1))=some aH
 here0:w.cell? (U g (i*2))=some Vz
 here1:w.cell? (U g (i*2+1))=some aH
 fr:∀ j,w.frozen? (U g j)=false
theorem CB.begins(h:CB W w P b0 b1 g n i a)(hi:i<n)(Vz)(o):CI W ((w.setCell (U g (i*2)) Vz).alloc o).drew P b0 b1 g n i a Vz:=by
 have j:=h.gW;have:=h.glt;have f:Below (W.1.size+1) w ((w.setCell (U g (i*2)) Vz).alloc o).drew:=((aS.setCell (p:=U g (i*2)) (by simp;omega) _).alloc (by simp;omega) _).drew;have d:∀b,b≠i*2->((w.setCell (U g (i*2)) Vz).alloc o).drew.cell? (U g b)=w.cell? (U g b):=fun b r=>by
  have c:Below (w.setCell (U g (i*2)) Vz).1.size (w.setCell (U g (i*2)) Vz) ((w.setCell (U g (i*2)) Vz).alloc o).drew:=(aS.alloc aT _).drew;rw[c.cell (p:=U g b) (by simp;omega),celO (by omega)]
 have k:¬ OffG W.1.size g P g:=by rintro⟨_,h⟩;omega
 obtain⟨s,t⟩:=h.todo i aT hi;refine⟨h.bx.keep f,j,by simp;omega,fun c l=>?_,fun c m e=>?_,?_,?_,fun b=>?_⟩
 .obtain ⟨so,sn,sc,co,cn,cc,a1,a2,a3⟩:=h.done c l;exact⟨so,sn,sc,co,cn,cc,(d _ (by omega)).trans a1,(d _ (by omega)).trans a2,(a3.set k _ _).below (aS.alloc aT _).drew⟩
 .obtain ⟨a1,a2⟩:=h.todo c (by omega) e;grind
 .have c:Below (w.setCell (U g (i*2)) Vz).1.size (w.setCell (U g (i*2)) Vz) ((w.setCell (U g (i*2)) Vz).alloc o).drew:=(aS.alloc aT _).drew;rw[c.cell (p:=U g (i*2)) (by simp;omega)];simp_all[FW]
 .simp_all
 have c:Below (w.setCell (U g (i*2)) Vz).1.size (w.setCell (U g (i*2)) Vz) ((w.setCell (U g (i*2)) Vz).alloc o).drew:=(aS.alloc aT _).drew;rw[c.frozen (p:=U g b) (by simp;omega),NA];exact h.fr b
theorem CI.ends(h:CI W w P b0 b1 g n i a (E so sn sc))(hP:∀b,W.1.size<=b->P b)(hI:Into g (i*2+1) w w')(hs:Nums P W (E so sn sc) (a.shape.dropLast.map Int.ofNat))(hc:w'.cell? (U g (i*2+1))=some v)(ho:OwnL w.1.size w' v (col a i).cells):CB W w' P b0 b1 g n (i+1) a:=by
 have m:=h.gW;have o:=h.glt;have p:=h.bx.lt;simp at p;have c:Below (W.1.size+1) w w':=⟨hI.bs.os,hI.bs.tape,hI.bs.output,hI.bs.size,fun k d=>hI.bs.block k (by omega) (by omega)⟩;have f:=h.bx.keep c;have q:∀b,OffG W.1.size g P b->b<w.1.size->w'.heap[b]?=w.heap[b]?:=fun b c e=>hI.bs.block b e (fun d=>by subst d;rcases c.2 with h|h<;>omega);refine⟨f,m,FT o hI.bs.size,fun d s=>?_,fun d r l=>?_,fun j=>(hI.fr j).trans (h.fr j)⟩
 .by_cases r:d=i
  .subst r;obtain⟨l,vc,rfl⟩:=ho.shape;refine⟨so,sn,sc,l,_,vc,(hI.cell _ (by omega)).trans h.here0,hc,_,_,_,_,_,_,rfl,(hs.imp (fun b j e=>⟨j,NN e⟩)).below f.below,ho.nums.imp (fun b c _=>⟨hP b (by omega),NO (by omega)⟩)⟩
  obtain⟨s,t,u,c1,j,l,a1,a2,a3⟩:=h.done d (by omega);exact⟨s,t,u,c1,j,l,(hI.cell _ (by omega)).trans a1,(hI.cell _ (by omega)).trans a2,a3.keep hI.bs.size q⟩
 obtain⟨a1,a2⟩:=h.todo d (by omega) l;exact⟨(hI.cell _ (by omega)).trans a1,(hI.cell _ (by omega)).trans a2⟩
theorem Qj{B:Nat}{xs:List Int}(h:OwnL B w v xs)(hg:g<B)(u):OwnL B (w.setCell (U g c) u) v xs:=by
 have i:=Mj h;refine⟨h.1,?_⟩;rcases h.2 with j|⟨a,d,e,b,f,l,rest⟩
 .exact .inl j
 have:=i a (by rw[b];rfl);refine .inr ⟨a,d,e,b,f,?_,rest⟩;grind[RowKit.Below.heap_setCell]
theorem Jx9{r m:Nat}(hr:r<m)(hi:i<n):i+r*n<m*n:=by
 have:(r+1)*n<=m*n:=NR n hr;grind
theorem Jco(P)(W)(hP:∀b,W.1.size<=b->P b)(so)(sn sc)(co)(cn cc)(a)(ha:IsArr P W (aK so sn sc co cn cc) a)(hok:a.ok)(hr:a.shape.length≠0):
 Calls prog 223 #[aK so sn sc co cn cc] W fun e W'=>∃g,e=aD (aI g 0 (Jq a.shape) (Jq a.shape))/\W.1.size<=g/\g<W'.1.size/\Cols P W' g (cols a)/\J W W':=by
 obtain⟨bW,ap,ax,ay,az⟩:=NY KR;have ae:=(Jb ha).2;obtain⟨h,j,rfl,cl,bT⟩:=Ja5 ha (ZD (by omega));obtain⟨l,w⟩:∃l,sn=l+1:=⟨sn-1,by omega⟩;have be:J W (W.alloc (.cells #[aI h j sn sc,E co cn cc] 89)):=aS.alloc aT _;have aj:=O (Fw (W.alloc (.cells #[aI h j sn sc,E co cn cc] 89)) _ _ _ _ _ _ a (ha.below be) a.shape.dropLast (Jq a.shape) (Yi hr) (by have:=hok.rank;simp;omega));have am:=Bx.n1 W [aI h j sn sc,E co cn cc] 89;obtain⟨n,y⟩:=nm (Jq a.shape);have cg:n<=200:=by
  have d:=Yi hr;rw[y]at d;exact hok.lens n (by rw[d];simp)
 have af:=K7 hok hr;rw[y]at aj af;have an:=(Jb ha).1;have aX:=O ap;have ab:=O hok;clear ap hok be bT hr;change Hid _ at an ae af y hP ha am az ay ax w;rw[y];go_enter func223,ntmps223;go_wp2_with fail;refine aR aj fun N bf=>?_;have ak:=O ((I am).next bf);clear bf am aj;go_wp2_with (at_make;refine YV _ rfl _ _ 278 rfl N.1.size 89 bW (.agg aF) 2 underlying278 aX ax ay .i64 .i64 n n n rfl rfl rfl rfl ?c1 ?c2 aT ?_)
 case c1=>rw[az];omega
 case c2=>unfold maxLen;omega
 intro bv z bm;have z:bv.ownsRow N.1.size 89 2 (aI N.1.size 0 n n) n (List.replicate (n*2) aH):=by
  rw[<-Jvx];exact z
 have bg:=aS.grown bm aT (fun _ B=>by cases B);have bp:=z.lt N.1.size rfl |>.2;have aa:Hid (CB W bv P (aI h j sn sc) (E co cn cc) N.1.size n 0 a):=O ⟨ak.next bg,by have:=ak.lt;simp at this;omega,bp,fun H X=>absurd X (by omega),fun H _ X=>by
  have d:=z.cellAt (H*2) (by omega);have u:=z.cellAt (H*2+1) (by omega);rw[YK,FY (by omega)]at d u;exact⟨d,u⟩,fun Y=>z.frozenAt Y⟩
 generalize hgg:N.1.size=g at aa⊢;clear z bm bg bp ak hgg aX ax ay az;go_wp2_with fail;go_loopw [13] (fun aU wr=>∃i:Nat,aU=G i/\i<=n/\CB W wr P (aI h j sn sc) (E co cn cc) g n i a) (fun aU _=>n-(intOf aU).toNat)
 .exact ⟨0,rfl,by omega,aa⟩
 obtain⟨i,rfl,ap,o⟩:=hrel;have A:=O o;by_cases aq:i<n
 .have ah:=o.bx.a0;have Z:=o.bx.a1;have au:W.1.size+1<=wr.1.size:=o.bx.lt;have ac:Hid (∀w',Below (W.1.size+1) wr w'->w'.cell? (U W.1.size 0)=some (aI h j sn sc)/\w'.cell? (U W.1.size 1)=some (E co cn cc)):=O (fun w' bd=>⟨V bd (by omega) ah,V bd (by omega) Z⟩);obtain⟨b7,b8⟩:=o.todo i aT aq;have bH:=o.fr (i*2);have cf:=o.gW;have bM:=o.glt;have bJ:sn<=sc:=by
   obtain⟨_,_,_,_,_,_,f,d,_⟩:=I ha;injection f with f;simp at f;obtain⟨⟨rfl,rfl,rfl⟩,_⟩:=f;exact Zp d
  have cp:(0:Int)<=(i:Int):=by omega
  have cq:(i:Int)<(n:Int):=by omega
  have bQ:l<=3:=by have:=ab.rank;have:=I ae;have:=I w;omega
  have bV:IntKind.i64.wrap ((sn:Int)-1)=(l:Int):=by
   have e:((sn:Int)-1)=(l:Int):=by have:=I w;omega
   rw[e];exact Jg (by omega) (by omega)
  have b9:(0:Int)<=(l:Int):=by omega
  have ca:(l:Int)<=(sc:Int):=by have:=I w;omega
  have bN:g<wr.1.size+1:=by omega
  have ch:W.1.size≠g:=by omega
  clear o aa;go_wp2_with fail;go_region_held3 (fun w'=>w'.cell? (U W.1.size 0)=some (aI h j sn sc)/\w'.cell? (U W.1.size 1)=some (E co cn cc))
   (first
    | exact ac _ aS.drew
    | exact ac _ (aS.drew.alloc (by simpa using au) _)
    | exact ac _ ((aS.setCell (p:=U g (i*2)) (by show W.1.size+1<=g;omega) _).alloc (by simpa using au) _).drew
    | (trace_state;fail))
   ((go_at_call 221;refine aQ (Z7 _ _ _ _ _ _ _) ?_))
  go_wp2_with fail;have s:=O ((I A).begins aq (aI h j l sc) (.cells #[aI h j sn sc,E co cn cc] 89));generalize hwI:(((wr.setCell (U g (i*2)) (aI h j l sc)).alloc (.cells #[aI h j sn sc,E co cn cc] 89)).drew)=wI at s⊢;clear hwI A ac ah Z b7 b8 bH au bM bN bJ bV b9 ca bQ;obtain⟨t,Q,bj⟩:∃t Q,(0<a.cells.length->co=some (U t Q)/\t<W.1.size/\∀Y,(B:Y<a.cells.length)->W.cell? (U t (Q+Y))=some (G a.cells[Y])):=by
   by_cases bb:0<a.cells.length
   .obtain ⟨_,_,_,_,_,_,f,_,d⟩:=I ha;injection f with f;simp at f;obtain⟨_,⟨rfl,rfl,rfl⟩⟩:=f;obtain⟨_,_,u⟩:=Jiy d;obtain⟨b,b2,e,bP,R⟩:=u bb;exact⟨b,b2,fun _=>⟨e,bP,R⟩⟩
   exact⟨0,0,fun B=>absurd B bb⟩
  change Hid _ at bj;go_loopw [6] (fun ag m=>∃c p:Nat,ag=G p/\Hid (p=i+c*n)/\c<=Jd a.shape.dropLast/\p<=400/\∃aV vc,m.cell? (U g (i*2+1))=some (E aV c vc)/\OwnL wI.1.size m (E aV c vc) (colC a.cells n i c)/\Into g (i*2+1) wI m) (fun ag _=>1000-(intOf ag).toNat)
  .exact ⟨0,i,rfl,O (by simp),by omega,by omega,none,0,s.here1,OwnL.nil _ _,Into.refl _ _ _⟩
  obtain⟨c,p,rfl,D,bS,cj,aV,vc,R,ad,q⟩:=hrel;rename World=>m;have a5:=O ad;have a4:=O q;have bq:=s.bx.lt;have T:=s.glt;have bt:=q.bs.size;simp at bq;have C:=s.bx.keep ⟨q.bs.os,q.bs.tape,q.bs.output,q.bs.size,fun k bo=>by have bo:k<W.1.size+1:=bo;exact q.bs.block k (by omega) (fun(e:k=g)=>by omega)⟩;have ah:=C.a0;have Z:=C.a1;have bc:W.1.size<m.1.size:=by omega
  have ao:g<m.1.size:=by omega
  have bA:=O C;by_cases br:c<Jd a.shape.dropLast
  .have F:p<a.cells.length:=by rw[af,D];exact Jx9 br aq
   obtain⟨rfl,bK,bi⟩:=bj (by omega);have al:=V C.below bK (bi p F);generalize hx:a.cells[p]=x at al;have bB:Hid (colC a.cells n i (c+1)=colC a.cells n i c++[x]):=O (by rw[Jsu,<-D,NC,FX F,hx];rfl);have bE:Hid (p+n=i+(c+1)*n):=O (by rw[D,ZG];omega);have ci:p<200:=by have:=ab.few;omega
   have ce:p<cn:=by rw[an];exact F
   have ck:c<=200:=by
    have d:=Jk6 ab (by have:=I ae;have:=I w;omega) (by rw[y];omega);have:=ab.few;omega
   have cm:(0:Int)<=(p:Int):=by omega
   have b3:(p:Int)<(cn:Int):=by omega
   have bh:t<m.1.size:=by omega
   clear C ad q bi hx D F;go_wp2_with (go_at_call 156;refine aQ (Y0 _ _ _ _ _ _ _) ?_);have r:J m (m.alloc (.cells #[aI h j sn sc,aI t Q cn cc] 89)):=aS.alloc aT _;generalize hwA:(m.alloc (.cells #[aI h j sn sc,aI t Q cn cc] 89))=wA at r⊢;clear hwA;have a8:=O ((I a5).below r);have ai:=O ((I a4).below ao bt r);have cb:=V r bc Z;have cd:=V r bh al;have bz:=V r ao R;have bw:wA.frozen? (U g (i*2+1))=false:=(ai.fr _).trans (s.fr _);have bU:=r.size;have bu:wI.1.size<=wA.1.size:=by omega
   have bn:g<wA.1.size:=by omega
   clear ah Z al R r a5 a4 bc ao bh bt bU bq bA;change Hid _ at T;go_region_law (refine Z3 rfl _ _ rfl rfl (a8.below aS.drew) (by rw[F8];omega) bu x rfl rfl ?_;intro ag aW av S;obtain⟨L,K,rfl⟩:=av.shape;have a6:=O av;have aY:=O ((ai.below bn bu aS.drew).below T aT S.bel);have a9:=V S.bel T bz;have bI:=bF S.bel T bw;have bL:=FT bn S.bel.size;clear av S)
   all_goals
    have ar:(colC a.cells n i c).length+1=c+1:=by rw[F8]
    rw[ar];have a7:Hid (OwnL wI.1.size (aW.setCell (U g (i*2+1)) (E L (c+1) K)) (E L (c+1) K) (colC a.cells n i c++[x])):=O (by
     have d:=I a6;rw[JD,List.length_singleton,ar]at d;exact Qj d T _)
    have aZ:=O ((I aY).set (E L (c+1) K));have ba:=FW aW ⟨g,i*2+1,none⟩ (E L (c+1) K) a9;generalize hw7:(aW.setCell (U g (i*2+1)) (E L (c+1) K))=w7 at a7 aZ ba⊢;clear hw7 ar a6 aY a9 bI bL a8 ai cb cd bz bw;go_wp2_with fail;go_roundw
    .exact ⟨c+1,p+n,by go_num,bE,by omega,by omega,L,K,ba,by rw[bB];exact a7,aZ⟩
    simp[intOf];omega
  have aw:c=Jd a.shape.dropLast:=by omega
  have F:¬ p<cn:=by rw[an,af,D,aw];omega
  have b3:¬ (p:Int)<(cn:Int):=by omega
  have bl:=s.ends hP q (by
   obtain⟨_,_,_,_,_,_,f,d,_⟩:=ha;injection f with f;simp at f;obtain⟨⟨rfl,rfl,rfl⟩,_⟩:=f;have u:=J1 d (k:=l) (by have:=I w;omega);have e:(a.shape.map Int.ofNat).take l=a.shape.dropLast.map Int.ofNat:=by
    rw[<-Mh,JN];have:=I ae;have:=I w;rw[show a.shape.length-1=l by omega]
   rw[e]at u;exact u) R (by
   show OwnL wI.1.size m _ (colC a.cells (Jq a.shape) i (Jd a.shape.dropLast));rw[y,<-aw];exact ad)
  have bD:=O (bl.next (aS.alloc aT (.cells #[aI h j sn sc,E co cn cc] 89)));clear C ad q bl aw F D br bS;go_wp2_with (go_at_call 156;refine aQ (Y0 _ _ _ _ _ _ _) ?_);go_roundw
  .exact ⟨i+1,by go_num,by omega,bD⟩
  simp[intOf];omega
 have bO:i=n:=by omega
 subst bO;clear o aa;go_wp2_with fail;go_ret;refine⟨g,rfl,Nat.le_of_lt A.gW,A.glt,?_,A.bx.below⟩;intro H X;have bR:H<i:=by rw[Gf,y]at X;exact X
 obtain⟨b4,b5,b6,c1,c2,bG,bX,bY,bZ⟩:=A.done H bR;exact⟨b4,b5,b6,c1,c2,bG,bX,bY,by rw[J0t];exact bZ.imp (fun b B _=>B.1)⟩
def EnvOk(env:ByteArray->Option Arr):Prop:=∀t a,env t=some a->a.ok
theorem EnvOk.upd{env:ByteArray->Option Arr}(h:EnvOk env)(nm:ByteArray)(ha:a.ok):EnvOk (upd env nm a):=by
 intro d c b;unfold YtjobgpahajhbnaaGreatDoor.upd at b;split at b
 .simp_all
 exact h d c b
theorem J3{F:Int->Int->Int × Int}(hf:∀x y,Jk x->Jk y->Jk (F x y).1):Evens (Jh F) where
 ok:=fun a b ha hb h=>(Jep hf ha hb).2 h
 shape:=fun a b ha hb hs h0=>by
  unfold Jh at h0⊢;have:∀{sh:List Nat} {xs ys:List Int},(zipA F sh xs ys).2=0->(zipA F sh xs ys).1.shape=sh:=by
   intro sh xs ys h;unfold zipA at h⊢;cases hc:zipF F xs ys with
   | inl e=>grind[Jd7]
   | inr l=>rfl
  grind
def sgn(n:Nat):Int:=if n % 2=0 then 1 else -1
theorem KS:Enters prog 184:=NF func184 (by decide) rfl
def Zq(a:Arr):Arr × Int:=(⟨[(a.shape.map Int.ofNat).length],a.shape.map Int.ofNat⟩,0)
theorem Jmy(w):FnOne 184 #[] w Zq:=by
 intro W P v a _ n o u;have p:=o;obtain⟨so,sn,sc,co,cn,cc,rfl,r,_⟩:=o;have y:=(Jb p).2;show Calls prog 184 #[(agV so sn sc co cn cc)] W _;have e:=Bx.n2 W (aM so sn sc co cn cc) [M,M] 89 89;have f:=r.below e.below;have K:a.shape.length<=4:=by have:=u.rank;omega
 have g:(a.shape.map Int.ofNat).length=sn:=by rw[y];simp
 generalize hxs:a.shape.map Int.ofNat=xs at f g;have ao:sn<=4:=by omega
 have k:Zq a=(⟨[xs.length],xs⟩,0):=by unfold Zq;rw[hxs]
 clear p r u y K hxs;change Hid _ at g;go_enter func184,ntmps184;go_wp2_with fail;generalize hwS:((W.alloc (.cells (aL so sn sc co cn cc) 89)).alloc (.cells aF 89))=wS at e f⊢;clear hwS;go_loopw [4,10] (fun ad h wr=>∃i:Nat,h=G i/\i<=sn/\OwnL wS.1.size wr ad (xs.take i)/\J wS wr) (fun _ h _=>sn-(intOf h).toNat)
 .exact ⟨0,rfl,by omega,by simp[OwnL.nil],FQ _ _⟩
 obtain⟨i,rfl,ak,d,c⟩:=hrel;have j:=d;by_cases X:i<sn
 .have t:i<xs.length:=by rw[g];exact X
  obtain⟨-,-,L⟩:=Jiy f;obtain⟨aq,ar,rfl,Z,S⟩:=L (by omega);have c0:=V c Z (S i t);generalize hx:xs[i]=x at c0;have ag:xs.take (i+1)=xs.take i++[x]:=by rw[<-hx,NG t]
  have ap:(0:Int)<=i:=by omega
  have aa:(i:Int)<sn:=by omega
  have am:(xs.take i).length<=10:=by simp;omega
  go_wp2_with (at_builtin;refine Ju rfl _ _ rfl j (by omega) c.size x rfl rfl ?_);intro au aw an T;have af:=c.trans (T.bel.mono aT);go_wp2;go_roundw
  .grind
  simp[intOf];omega
 have al:i=sn:=by omega
 have Q:xs.take i=xs:=NJ (by grind[I]);rw[Q]at d j;have aa:¬ (i:Int)<sn:=by omega
 obtain⟨ae,vc,rfl⟩:=d.shape;rename World=>wr;have D:=e.next c;have Y:=e.lt;simp at Y;have C:=Vb (OffB W.1.size 2 P) wr (fun F H=>OffB.new n (by have:=c.size;omega)) (E ae xs.length vc) xs (d.nums.imp (fun F H _=>OffB.new n (by omega)));go_wp2_with fail;refine C.mono ?_;rintro ah av ⟨z,A,B,c1,l,m,rfl,N,R⟩;have b:=D.next R;have ab:=b.b0;have ac:=b.b1;have ai:=b.B0;have aj:=b.B1;go_wp2_with fail;have s:=Ze (q:=1) (u0:=E z A B) (u1:=E c1 l m) b.below (by decide) N;exact FR (v:=.tuple #[(agV z A B c1 l m),G 0]) (by simp[results,results184,go_sem,ab,ac]) rfl ⟨_,_,_,_,_,_,by rw[k],by rw[k];exact s.1,s.2⟩
theorem Jjb:OneC ⟨#[114,104,111]⟩ Zq:=⟨fun w=>(Kq (t:=⟨#[114,104,111]⟩) (k1:=.string [104,111]) (k2:=.string [114,104,111]) (f:=184) (by decide) (by kernel_rfl) (by kernel_rfl) (by kernel_rfl) (by kernel_rfl) w).mono (by rintro e w' ⟨rfl,hb⟩;exact⟨184,#[],rfl,KS,hb,Jmy w'⟩),fun a ha=>by
 have:=ha.rank;exact⟨by grind[Zq],fun _=>⟨by simp[Zq],by grind[Zq],by simp[Zq,Jd],by grind[Zq],fun c hc=>by
  simp only[Zq,NZ]at hc;obtain⟨n,hn,rfl⟩:=hc;have:=ha.lens n hn;simp[Jk];omega⟩⟩⟩
abbrev Part(n:Nat):={ p:Nat × Nat // p.1+p.2<=n/\0<p.2 }
def KpB(bs bn:Nat)(W W':World):Prop:=W'.heap[bs]?=W.heap[bs]?/\W'.heap[bn]?=W.heap[bn]?
theorem KpB.refl(W):KpB bs bn W W:=⟨rfl,rfl⟩
theorem KpB.trans{C:World}(h:KpB bs bn A B)(k:KpB bs bn B C):KpB bs bn A C:=⟨k.1.trans h.1,k.2.trans h.2⟩
def Xb(n c k:Nat)(hc:0<c)(h:k*c<n):Part n:=⟨(k*c,min c (n-k*c)),by omega,by simp;omega⟩
def Yl(n c:Nat)(hc:0<c):Nat->List (Part n)
 | 0=>[]
 | k+1=>if h:k*c<n then Yl n c hc k++[Xb n c k hc h]else Yl n c hc k
theorem Jmk(hc)(k):(Yl n c hc k).length<=k:=by
 induction k with
 | zero=>simp[Yl]
 | succ k ih =>
  grind[Yl]
theorem Nt{n c k:Nat}(hc)(h:n<=k*c):∀j,k<=j->Yl n c hc j=Yl n c hc k
 | 0,hj=>by simp_all
 | j+1,hj=>by
  by_cases e:k=j+1
  .rw [e]
  have:k*c<=j*c:=NR _ (by omega);rw[Yl,dif_neg (by omega)];exact Nt hc h j (by omega)
theorem Gx(hc)(h):Yl n c hc (k+1)=Yl n c hc k++[Xb n c k hc h]:=by
 simp_all[Yl]
theorem Js0(n)(hn:1<=n)(l bs bn b off len cap c:Nat)(hc)(hcl:c<=1000)(hlen:len<=1000)(hcap:len<=cap)(Jz Jx:List (Part len)->World->Prop)
 (hJ:∀pre W,Jz pre W->Jz pre W.drew)
 (hY:∀pre x W,Jz pre W->pre.length<len->YieldAt Fence.wide (n-1) prog l #[aI b (off+x.1.1) x.1.2 x.1.2] W fun e W' =>
  (e=aD (.bool true)/\Jz (pre++[x]) W'/\KpB bs bn W W')\/(e=aD (.bool false)/\Jx (pre++[x]) W'))
 (W) (h1:W.cell? (U bs 0)=some (aI b off len cap)) (h2:W.cell? (U bn 0)=some (G c)) (h0:Jz [] W):
 CallsIn Fence.wide n prog 274 #[.func (.yield l) #[] #[],aJ bs 0,aJ bn 0] W fun e W'=>(∃v,e=aD v) /\
  ((∃ys,ys=Yl len c hc len/\Jz ys W')\/(∃pre,Jx pre W')):=by
 have r:∀W':World,KpB bs bn W W'->W'.cell? (U bs 0)=some (aI b off len cap):=fun W' f=>(WA f.1).trans h1;have s:∀W':World,KpB bs bn W W'->W'.cell? (U bn 0)=some (G c):=fun W' f=>(WA f.2).trans h2;refine callsIn_of_wp func274 rfl trivial ?_ rfl;simp only[ntmps274,Md,ZN,YT,Nat.reduceAdd,Nat.reduceSub,M9,Ha,Hz,Hl,MZ,Mk];gi_wp2
 gi_loopw [4] (fun a wr=>∃k i:Nat,a=G i/\i=k*c/\k<=len/\i<len+c/\Jz (Yl len c hc k) wr/\KpB bs bn W wr) (fun a _=>len+c-(intOf a).toNat)
 .exact ⟨0,0,rfl,by simp,by omega,by omega,h0,KpB.refl W⟩
 obtain⟨k,i,rfl,g,w,T,A,m⟩:=hrel;have:=r _ m;have:=s _ m;by_cases C:i<len
 .have h:k*c<len:=by rw[<-g];exact C
  have:=Jmk (n:=len) hc k;have:k<len:=by
   have:k<=k*c:=JW _ hc;omega
  obtain⟨e,t⟩:=nm (min c (len-i));have j:=hY (Yl len c hc k) (Xb len c k hc h);have p:(Xb len c k hc h).1.1=i:=g.symm;have q:(Xb len c k hc h).1.2=e:=by show min c (len-k*c)=e;rw[<-g];exact t
  rw[p,q]at j;have y:=Gx hc h;rw[<-y]at j;obtain⟨a,ae⟩:=nm (i+e);have:(0:Int)<=i:=by omega
  have:(i:Int)<len:=by omega
  have:(i:Int)<=len:=by omega
  have:min (c:Int) ((len-i:Nat):Int)=(e:Int):=by omega
  have:min (c:Int) ((len:Int)-(i:Int))=(e:Int):=by omega
  have:a<=len:=by omega
  have:i<=a:=by omega
  have:(i:Int)<=a:=by omega
  have:(a:Int)<=cap:=by omega
  have:a-i=e:=by omega
  have:(if a=i then some (⟨b,off,none⟩:Addr)else some (U b (off+i)))=some (U b (off+i)):=FU (by omega);have:IntKind.i64.wrap ((i:Int)+(e:Int))=(a:Int):=by
   have e:(i:Int)+(e:Int)=a:=by omega
   rw[e];exact Jg (by omega) (by omega)
  obtain⟨L,ak,D,F,aj,B⟩:=j wr.drew (hJ _ _ A) (by omega);have:IntKind.i64.wrap ((i:Int)+(c:Int))=((i+c:Nat):Int):=by
   have e:(i:Int)+(c:Int)=((i+c:Nat):Int):=by omega
   rw[e];exact Jg (by omega) (by omega)
  have o:∀d,KpB bs bn wr.drew d->KpB bs bn W d:=fun d f=>m.trans f;clear h w t p q y hJ h0 h1 h2 r hY j;change Hid _ at g;gi_wp2
  gi_region
  gi_wp2
  refine B.mono ?_;rintro e d (⟨rfl,z,u⟩| ⟨rfl,N⟩)
  .have:=s d (o d u);gi_wp2;go_roundw
   .exact ⟨k+1,i+c,by simp,by rw[g,ZG,YA],by omega,by omega,z,o d u⟩
   simp[intOf];omega
  gi_wp2
  refine FR (results_none rfl _ _ _) rfl ?_;grind
 have d:¬ ((i:Int)<len):=by omega
 have a:=Nt hc (n:=len) (k:=k) (by omega) len w;gi_wp2;go_end0;simp_all
def KU:Go.Shelf.Ren:=⟨fun|35=>235|n=>n,fun|22=>32|23=>2|3=>3|4=>4|0=>0|n=>n,fun|n=>n⟩
theorem KV:Go.Proofs.SlLaysE.n35 prog KU:={
 mixed:=by kernel_rfl
 f35:=⟨f235.name,by decide,func235.trans (NM some (by kernel_rfl))⟩
 t0:=Ma
 a0:=isAgg0
 z0:=sizeOf0
 v0:=Mn
 t3:=MR
 a3:=isAgg3
 z3:=Ht
 v3:=Mf
 t4:=JZ
 a4:=isAgg4
 z4:=Hn
 v4:=ML
 t22:=ZP
 a22:=isAgg32
 z22:=sizeOf32
 v22:=zeroValue32
 a23:=isAgg2
 z23:=sizeOf2 }
def RowAt(W:World)(g:Nat)(L:List Int):Prop:=∀j,(h:j<L.length)->W.cell? (U g j)=some (.int .i64 L[j])/\W.frozen? (U g j)=false
def Q0(L:List Int)(p:Nat × Nat):List Int:=L.take p.1++(((L.drop p.1).take p.2).reverse++L.drop (p.1+p.2))
theorem Xi(h:p.1+p.2<=L.length):(Q0 L p).length=L.length:=by
 simp[Q0];omega
structure OnlyB (g:Nat) (W W':World):Prop where
 os:W'.os=W.os
 tape:W'.tape=W.tape
 output:W'.output=W.output
 size:W'.1.size=W.1.size
 block:∀ k,k≠g->W'.heap[k]?=W.heap[k]?
theorem OnlyB.below(h:OnlyB g W W')(hn:n<=g):Below n W W':=⟨h.os,h.tape,h.output,by rw[h.size];omega,fun k hk=>h.block k (by omega)⟩
theorem OnlyB.others(h:OnlyB g W W'){j:Nat}(hc:W.cell? (U g j)=some v):KeepsOthers W W':=⟨by rw[h.size];omega,fun k o hk ho=>by
 by_cases e:k=g
 .grind [cells_of_cell]
 rw[h.block k e];exact hk⟩
theorem Jgl(W)(n g off)(d):OnlyB g W (Go.Sort.putRow (Value.int .i64) (Go.Sort.ahead W n) g off d):=⟨rfl,rfl,rfl,by simp,fun k hk=>by
 show((W.heap.modify g _))[k]?=_;grind⟩
theorem Jiq(W)(g)(L)(h:RowAt W g L)(p)(hp:p.1+p.2<=L.length)(hl:L.length<=1000):
 Calls prog 235 #[aI g p.1 p.2 p.2] W fun e W'=>e=aD (.tuple #[])/\RowAt W' g (Q0 L p)/\OnlyB g W W':=by
 obtain⟨d,i⟩:=nm ((L.drop p.1).take p.2);have f:d.length=p.2:=by rw[<-i];simp;omega
 have k:Go.Sort.Holds (Value.int .i64) W g p.1 d.toArray:=by
  intro a c;have j:a<p.2:=by rw[<-f];simpa using c
  have b:(d.toArray[a]!)=L[p.1+a]'(by omega):=by
   rw[Pr _ a c];subst i;simp
  rw[b];exact h (p.1+a) (by omega)
 have:=AnyE.slices_Reverse KV (Value.int .i64) (fun _=>rfl) g p.1 p.2 d W k (by omega);rw[f]at this;refine aR this ?_;rintro W' ⟨n,rfl⟩;refine⟨rfl,?_,Jgl W n g p.1 _⟩;have m:Go.Sort.Holds (Value.int .i64) (Go.Sort.ahead W n) g p.1 d.toArray:=k;intro a c;rw[Xi hp]at c;refine⟨?_,by rw[Go.Sort.frozen?_putRow];exact(h a c).2⟩;have b:(Q0 L p)[a]?=some ((Q0 L p)[a]'(by omega)):=FX _;generalize hv:(Q0 L p)[a]'(by rw[Xi hp];exact c)=v at b⊢;unfold Q0 at b;rw[i]at b;by_cases j:a<p.1
 .rw [MY _ _ _ _ _ _ (NO (NN j))];rw[ZU (by simp;omega),Mp,FY j,FX c]at b;rw[<-NS b];exact(h a c).1
 rw[ZA (by simp;omega),YD,ME (by omega)]at b;by_cases o:a<p.1+p.2
 .rw [ZU (by simp;omega)]at b;have l:=Go.Sort.cell?_putRow (Value.int .i64) (Go.Sort.ahead W n) g p.1 d.toArray d.reverse.toArray m (by simp) (a-p.1) (by simp;omega);rw[show p.1+(a-p.1)=a by omega]at l;rw[l,Pr _ _ (by simp;omega)];obtain⟨q,b⟩:=YO.1 b;rw[<-b];simp
 rw[MY _ _ _ _ _ _ (NO (NO (by simp;omega)))];rw[ZA (by simp;omega),MU,Hm,f,show p.1+p.2+(a-p.1-p.2)=a by omega,FX c]at b;rw[<-NS b];exact(h a c).1
theorem Jd0(ao)(n cap c:Nat)(hc:0<c)(w):
 Calls prog 233 #[E ao n cap,G c] w fun e w'=>e=aD (.func (.func 274) #[] #[aJ w.1.size 0,aJ (w.1.size+1) 0])/\w'=(w.alloc (.cells #[E ao n cap] 32)).alloc (.cells #[G c] 3):=by
 have:¬ ((c:Int)<1):=by omega
 go_enter func233,ntmps233;go_wp2;go_ret;simp
theorem Js1(n)(l bs bn cap)(ao){α:Type}(Jz:List α->World->Prop)(W)(h1:W.cell? (U bs 0)=some (E ao 0 cap))(h0:Jz [] W):
 CallsIn Fence.wide n prog 274 #[.func (.yield l) #[] #[],aJ bs 0,aJ bn 0] W fun e W'=>(∃v,e=aD v)/\Jz [] W':=by
 refine callsIn_of_wp func274 rfl trivial ?_ rfl;simp only[ntmps274,Md,ZN,YT,Nat.reduceAdd,Nat.reduceSub,M9,Ha,Hz,Hl,MZ,Mk];gi_wp2
 gi_loopw [4] (fun i wr=>i=G 0/\Jz [] wr/\wr=W) (fun _ _=>0)
 .simp;omega
 obtain⟨rfl,c,a⟩:=hrel;have b:=a.symm;subst b;gi_wp2;go_end0;simp;omega
theorem Jcs(n:Nat)(hn:1<=n)(bs bn b off len cap c:Nat)(ao:Option Addr)(hao:0<len->ao=some (U b off))(hc:0<c)(hcl:c<=1000)(hlen:len<=1000)(hcap:len<=cap)(w:World)(hbs:bs<w.1.size)(hbn:bn<w.1.size)(h1:w.cell? (U bs 0)=some (E ao len cap))(h2:w.cell? (U bn 0)=some (G c)):
 SeqStopsK Fence.wide n prog 274 #[aJ bs 0,aJ bn 0] (fun x:Part len=>#[aI b (off+x.1.1) x.1.2 x.1.2]) (KpB bs bn) (fun ys=>ys=Yl len c hc len) (fun _=>True) len w:=fun l Jz Jx W hW hJ _ hY h0=>by
 have h1':=V hW hbs h1;have h2':=V hW hbn h2;by_cases hl:0<len
 .have hao':=hao hl;subst hao';refine(Js0 n hn l bs bn b off len cap c hc hcl hlen hcap Jz Jx (fun pre W1 h=>hJ pre W1 W1.drew none h ⟨rfl,rfl,rfl,FP _,fun _ _ _=>rfl⟩ (fun r e=>by cases e)) hY W h1' h2' h0).mono ?_;simp
 have hz:len=0:=by omega
 subst hz;refine(Js1 n l bs bn cap ao Jz W h1' h0).mono ?_;rintro e W' ⟨d,a⟩;exact⟨d,.inl ⟨[],rfl,a⟩⟩
theorem KW:Enters prog 186:=NF func186 (by decide) rfl
def revs{n:Nat}(pre:List (Part n))(L:List Int):List Int:=pre.foldl (fun L p=>Q0 L p.1) L
theorem X4{n:Nat}:∀(pre:List (Part n)) (L:List Int),L.length=n->(revs pre L).length=n
 | [],L,h=>h
 | p::pre,L,h=>X4 pre (Q0 L p.1) (by grind[Xi])
theorem Jf7(pre)(x:Part n)(L:List Int):revs (pre++[x]) L=Q0 (revs pre L) x.1:=by
 simp[revs]
theorem Xl(n):0<max n 1:=by omega
def revC(xs:List Int)(la:Nat):List Int:=revs (Yl xs.length (max la 1) (Xl la) xs.length) xs
def revP(a:Arr):Arr × Int:=if a.shape.length=0 then(a,0)else(⟨a.shape,revC a.cells (Jq a.shape)⟩,0)
theorem Jsy{Q:Nat->Prop}(w)(ao)(n cap)(xs)(h:Nums Q w (E ao n cap) xs)(hx:xs.length<=200):
 Calls prog 80 #[E ao n cap] w fun e w'=>∃ao' g c,e=aD (E ao' n c)/\n<=c/\(0<n->ao'=some (U g 0)/\w.1.size<=g/\g<w'.1.size/\RowAt w' g xs)/\(∀a,ao'=some a->a.spot=none)/\J w w':=by
 have t:=Je h;by_cases D:0<n
 .obtain ⟨ao',o,j,_,q,K⟩:=h;injection j with b C p;subst b p;obtain⟨m,A,rfl,_,_,F⟩:=q (by omega);obtain⟨z,r,u,x,y⟩:=NY VI;refine(VB z (G 0) 1 8 r u x y rfl (by decide) (fun w=>by kernel_rfl) m A n cap (xs.map (Value.int .i64)) w (by simp[t]) (by grind[maxLen]) (by omega) ?_ ?_).mono ?_
  .grind
  .intro f d;obtain⟨i,_,rfl⟩:=NZ.1 d;rfl
  rintro e w' ⟨N,rfl,i,_,f⟩;have d:=i;obtain⟨H,⟨rfl,L⟩| ⟨g,c,B,rfl,l⟩⟩:=i
  .omega
  refine⟨_,g,c,rfl,l.2.2.1,fun _=>⟨rfl,l.1,(d.lt g rfl).2,fun k s=>⟨?_,d.frozenAt k⟩⟩,fun a h=>by cases h;rfl,f⟩;rw[d.cellAt k (by omega)];simp[s]
 refine(Jsz (fun _=>True) w (fun _ _=>trivial) (E ao n cap) xs h hx).mono ?_;rintro e w' ⟨so,sn,sc,rfl,d,f⟩;have k:=Je d;have b:sn=n:=by omega
 subst b;have i:=Zp d;obtain⟨ao',o,j,_,_,l⟩:=d;simp_all
structure S1 (W w:World) (so:Option Addr) (sn sc:Nat) (co:Option Addr) (cn cc:Nat):Prop where
 below:J W w
 lt:W.1.size+1<w.1.size
 b0:w.cell? (U W.1.size 0)=some (.slice so sn sc)
 b1:w.cell? (U W.1.size 1)=some (.slice co cn cc)
 r0:w.cell? (U (W.1.size+1) 0)=some aH
 r1:w.cell? (U (W.1.size+1) 1)=some aH
 f0:w.frozen? (U (W.1.size+1) 0)=false
 f1:w.frozen? (U (W.1.size+1) 1)=false
theorem S1.start(W)(so)(sn sc)(co)(cn cc):S1 W ((W.alloc (.cells (aL so sn sc co cn cc) 89)).alloc (.cells aF 89)) so sn sc co cn cc:=by
 refine⟨belA2,by simp,?_,?_,?_,?_,?_,?_⟩
 .simp
 .simp
 .simp
 .simp
 .simp
 simp
theorem S1.keep(h:S1 W w so sn sc co cn cc)(hb:Below (W.1.size+1+1) w w'):S1 W w' so sn sc co cn cc:=by
 have:=h.lt;have:=hb.size;refine⟨h.below.trans (hb.mono (by omega)),by omega,?_,?_,?_,?_,?_,?_⟩
 .exact V hb (by omega) h.b0
 .exact V hb (by omega) h.b1
 .exact V hb (by simp) h.r0
 .exact V hb (by simp) h.r1
 .exact bF hb (by simp) h.f0
 exact bF hb (by simp) h.f1
theorem S1.next(h:S1 W w so sn sc co cn cc)(hb:J w w'):S1 W w' so sn sc co cn cc:=h.keep (hb.mono (by have:=h.lt;omega))
theorem S1.own(h:S1 W A so sn sc co cn cc)(hn:W.1.size<=n)(hg:A.grownBy B row)(hr:∀r,row=some r->n<=r/\∃o:Obj,A.heap[r]?=some o/\o.isCells=false):S1 W B so sn sc co cn cc:=by
 have a:=fun r b=>(hr r b).2;have:=h.lt;have:=hg.size;exact⟨h.below.grown hg (by omega) (fun k b=>NE hn (hr k b).1),by omega,cell_kept h.b0 hg a,cell_kept h.b1 hg a,cell_kept h.r0 hg a,cell_kept h.r1 hg a,(frozen_kept h.r0 hg a).trans h.f0,(frozen_kept h.r1 hg a).trans h.f1⟩
theorem RowAt.own(h:RowAt A g L)(hg:A.grownBy B row)(hr:∀r,row=some r->n<=r/\∃o:Obj,A.heap[r]?=some o/\o.isCells=false):RowAt B g L:=fun j hj =>
 ⟨cell_kept (h j hj).1 hg (fun r e=>(hr r e).2),(frozen_kept (h j hj).1 hg (fun r e=>(hr r e).2)).trans (h j hj).2⟩
theorem KpB.put(h1:bs<n)(h2:bn<n)(W)(l)(o o')(hl:n<=l)(ho:W.heap[l]?=some o):KpB bs bn W (W.putObj l o'):=by
 have:=(YE.1 ho).1;exact⟨(grownBy_putObj' W l o').block bs (by omega) (fun a=>by grind),(grownBy_putObj' W l o').block bn (by omega) (fun a=>by grind)⟩
theorem Jhr(n:Nat)(hn:1<=n)(bs bn b len cap c:Nat)(ao:Option Addr)(hao:0<len->ao=some (U b 0))(hc:0<c)(hcl:c<=1000)(hlen:len<=1000)(hcap:len<=cap)(w:World)(hbs:bs<w.1.size)(hbn:bn<w.1.size)(h1:w.cell? (U bs 0)=some (E ao len cap))(h2:w.cell? (U bn 0)=some (G c)):
 SeqStopsK Fence.wide n prog 274 #[aJ bs 0,aJ bn 0] (fun x:Part len=>#[aI b x.1.1 x.1.2 x.1.2]) (KpB bs bn) (fun ys=>ys=Yl len c hc len) (fun _=>True) len w:=by
 grind[Jcs]
section
theorem Jf6(W)(P)(so)(sc)(co)(cn cc)(a)(ha:IsArr P W (aK so 0 sc co cn cc) a):
 Calls prog 186 #[aK so 0 sc co cn cc] W fun e W'=>∃so sn sc co cn cc,e=aD (.tuple #[aK so sn sc co cn cc,G 0])/\IsArr P W' (aK so sn sc co cn cc) a/\J W W':=by
 have b:=fun W'=>Jo W' so 0 sc co cn cc;go_enter func186,ntmps186;go_wp2_with (go_at_call 220;refine aQ (b _) ?_);refine FR (by simp[results,results186,go_sem];try rfl) rfl ?_;refine⟨_,_,_,_,_,_,rfl,?_,?_⟩
 .exact ha.below ((Jnr).alloc (by simp;omega) _)
 exact(Jnr).alloc (by simp;omega) _
end
theorem Juo(w):FnOne 186 #[] w revP:=by
 intro W P v a _ bd aw Y;have L:=aw;obtain⟨so,sn,sc,co,cn,cc,rfl,bf,af⟩:=aw;have bu:=(Jb L).2;have N:=(Jb L).1;by_cases aq:sn=0
 .have z:revP a=(a,0):=by unfold revP;rw[FY (by omega)]
  rw[z];subst aq;exact Jf6 W P so sc co cn cc a L
 .have z:revP a=(⟨a.shape,revC a.cells (Jq a.shape)⟩,0):=by unfold revP;rw[FU (by omega)]
  rw[z];have ai:=Yi (l:=a.shape) (by omega);obtain⟨e,aV⟩:=nm (Jq a.shape);rw[aV]at ai⊢;have bS:=Y.lens e (by grind);have ay:a.shape.dropLast.length<=3:=by have:=Y.rank;simp;omega
  obtain⟨f,al⟩:=nm a.cells;rw[al]at af N⊢;have bl:f.length<=200:=by rw[<-al];exact Y.few
  have bP:((sn:Int)== 0)=false:=by rw[NT];omega
  have ba:∀w',Calls prog 220 #[(agV so sn sc co cn cc)] w' fun h aY=>h=aD (.bool ((sn:Int)== 0))/\J w' aY:=fun w'=>(Jo w' so sn sc co cn cc).mono (fun h aY d=>⟨d.1,by rw[d.2];exact belA2⟩);have a5:=fun w' ag=>Jsy w' co cn cc f (af.below ag) bl;have a6:=fun w' ag=>Fw w' so sn sc co cn cc a (L.below ag) a.shape.dropLast e ai ay;have a4:=fun w' bb n bc=>Jd0 bb n bc (max e 1) (Xl e) w';have bT:max (e:Int) 1=((max e 1:Nat):Int):=by omega
  refine(YF (n:=5)).1 ?_;refine callsIn_of_wp_marks func186 rfl trivial ?_ rfl;simp only[ntmps186,Md,ZN,YT,Nat.reduceAdd,Nat.reduceSub,M9,Ha,Hz,Hl,MZ,Mk];have b:=S1.start W so sn sc co cn cc;obtain⟨bL,av⟩:=nm ((W.alloc (.cells (aL so sn sc co cn cc) 89)).alloc (.cells #[M,M] 89));rw[av]at b;have a8:=b;have ac:=O N;have ao:=b.b0;have aZ:=b.b1;clear L af Y bu N z ai aV al ay aq b;gi_wp2_with fail
  try rw[av]
  refine⟨trivial,(YF.2 (ba _)).mono ?_⟩;rintro h bH ⟨rfl,bg⟩;have b:=a8.next bg;have ad:=b;have ao:=b.b0;have aZ:=b.b1;have n1:=b.lt;have bz:W.1.size<bH.1.size:=by omega
  gi_wp2_with fail
  refine⟨trivial,(YF.2 (a5 _ ad.below)).mono ?_⟩;rintro h an ⟨j,g,o,rfl,bt,A,aX,ax⟩;have b:=ad.next ax;have ap:=b;have bZ:=ax.size;have ao:=b.b0;have aZ:=b.b1;have n1:=b.lt;have bz:W.1.size<an.1.size:=by omega
  have a7:0<cn->j=some (U g 0)/\W.1.size+1+1<=g/\g<an.1.size/\RowAt an g f:=fun d=>⟨(A d).1,by have C:=ad.lt;omega,(A d).2.2⟩
  gi_wp2_with fail
  refine⟨trivial,(YF.2 (a6 _ ap.below)).mono ?_⟩;rintro h m ⟨rfl,X⟩;have b:=ap.next X;have a9:=b;have b2:=X.size;have T:0<cn->j=some (U g 0)/\W.1.size+1+1<=g/\g<m.1.size/\RowAt m g f:=fun d=>by
   obtain⟨C,H,t,x⟩:=a7 d;exact⟨C,H,by omega,fun S Q=>⟨V X t (x S Q).1,bF X t (x S Q).2⟩⟩
  have ao:=b.b0;have n1:=b.lt;gi_wp2_with fail;refine⟨trivial,(YF.2 (a4 _ j cn o)).mono ?_⟩;rintro h s ⟨rfl,R⟩;have ah:J m s:=by rw[R];exact belA2
  have bw:s.cell? (U m.1.size 0)=some (E j cn o):=by
   rw[R,WA (a:=U m.1.size 0) (NB _ _ _ (by simp))];exact alA
  have bx:s.cell? (U (m.1.size+1) 0)=some (G ((max e 1:Nat):Int)):=by
   rw[R];exact(NH _ _ _ _ (by simp)).trans rfl
  have bV:s.1.size=m.1.size+1+1:=by rw[R];simp
  clear R;gi_wp2_with fail;have b:=a9.next ah;have bq:max e 1<=1000:=by omega
  have bj:cn<=1000:=by rw[I ac];omega
  have bm:0<cn->RowAt s g f:=fun d S Q=>by
   obtain⟨C,H,t,x⟩:=T d;exact⟨V ah t (x S Q).1,bF ah t (x S Q).2⟩
  have bp:W.1.size<=s.1.size:=by omega
  refine wpIn_rangeFunc_ownF rfl (by omega) (gf:=274) (lb:=#[aJ m.1.size 0,aJ (m.1.size+1) 0]) rfl trivial (enters_of func274 (by kernel_rfl) rfl)
   (Jhr 4 (by omega) m.1.size (m.1.size+1) g cn o (max e 1) j (fun d=>(T d).1) (Xl e) bq bj bt s (by omega) (by omega) bw bx) KpB.trans (fun W' l ab bA aj br _ _=>KpB.put (n:=s.1.size) (by omega) (by omega) W' l ab bA aj br) aS (fun _=>rfl)
   (fun F W'=>(0<cn->RowAt W' g (revs F f))/\S1 W W' so sn sc co cn cc)
   (fun _ _ _=>False)
   (fun F bM bN row aa az z=>⟨fun d=>(aa.1 d).own az z,aa.2.own bp az z⟩)
   (fun _ _ _ _ _ aa _ _=>aa)
   ⟨bm,b⟩
   (fun p=>{ tmps:=#[(agV so sn sc co cn cc),.pointer (some (adP0 W)),.pointer (some (adQ0 W)),G 0,E j cn o,aI g p.1.1 p.1.2 p.1.2,(agV so sn sc co cn cc),.bool false,undef,.pointer (some (adP1 W)),E co cn cc,E j cn o,E j cn o,(agV so sn sc co cn cc),G e,G ((max e 1:Nat):Int),.func (.func 274) #[] #[.pointer (some (adP0 m)),.pointer (some (adQ0 m))],aI g p.1.1 p.1.2 p.1.2,undef,undef,undef,undef,undef,undef],defers:=[] }) ?assign ?body ?done ?stop
  case assign =>
   intro l p W' bK ae;gi_wp2;exact ae
  case body =>
   rintro l F p W' ⟨A,r⟩ _;have bW:=p.2;have D:0<cn:=by omega
   have bU:=X4 F f (I ac).symm;obtain⟨C,H,t,x⟩:=T D;gi_wp2_with fail;refine⟨trivial,(CallsIn.inRound l (YF.2 (Jiq W' g (revs F f) (A D) p.1 (by omega) (by omega)))).mono ?_⟩;rintro h q ⟨rfl,bR,y⟩;gi_wp2;exact⟨y.others ((A D) 0 (by omega)).1,⟨y.block _ (by omega),y.block _ (by omega)⟩,fun _=>by simp_all[Jf7],r.keep (y.below H)⟩
  case done =>
   rintro B b4 W' bQ rfl ⟨A,r⟩ ae;have b3:=r.b0;have bI:=r.r0;have bJ:=r.r1;have b5:=r.f0;have b6:=r.f1;have bY:=r.lt;have bX:W.1.size<W'.1.size:=by omega
   gi_wp2
   obtain⟨q,K⟩:=nm ((W'.setCell (adQ0 W) (E so sn sc)).setCell (adQ1 W) (E j cn o));have au:q.heap[B]?=some (.deferred (some [])):=by rw[<-K];exact((KeepsOthers.setCell _ _ _).trans (KeepsOthers.setCell _ _ _)).same B _ ae rfl
   have y:OnlyB (W.1.size+1) W' q:=by
    rw[<-K];exact⟨rfl,rfl,rfl,by simp,fun k aU=>(FV _ _ _ _ (fun h=>aU h)).trans (FV _ _ _ _ (fun h=>aU h))⟩
   have bB:q.cell? (adQ0 W)=some (E so sn sc):=by
    rw[<-K,celO (by omega)];exact FW _ _ _ bI
   have bE:q.cell? (adQ1 W)=some (E j cn o):=by
    rw[<-K];exact FW _ _ _ (u:=M) (celN (by omega) bJ)
   rw[K];refine⟨by simp,.inl ⟨_,_,rfl,run_takeDeferred au,?_⟩⟩;have Z:=grownBy_putObj' q B (.deferred none);have ak:∀am,some B=some am->∃ab:Obj,q.heap[am]?=some ab/\ab.isCells=false:=fun am h=>by cases h;exact⟨_,au,rfl⟩
   have bD:=cell_kept bB Z ak;have bG:=cell_kept bE Z ak;have aW:Below W.1.size q (q.putObj B (.deferred none)):=aS.grown Z (by grind) (fun k h=>by grind);have ar:=(r.below.trans (y.below (by omega))).trans aW;refine⟨.tuple #[(agV so sn sc j cn o),G 0],by simp[results,results186,go_sem,bD,bG],so,sn,sc,j,cn,o,rfl,⟨_,_,_,_,_,_,rfl,bf.below ar,?_⟩,ar⟩;have N:=I ac;subst N;have aj:(revC f e).length=f.length:=X4 _ _ rfl;by_cases D:0<f.length
   .obtain ⟨C,H,t,x⟩:=T D;have be:=A D;refine⟨j,o,by rw[aj],by simp;omega,fun _=>⟨g,0,C,bd g (by omega),?_,fun i bn=>?_⟩,aX⟩
    .have bO:=aW.size;grind
    .rw [ZY];have bo:i<(revs (Yl f.length (max e 1) (Xl e) f.length) f).length:=bn;have bh:=(be i bo).1;have bi:=(WA (a:=U g i) (y.block g (by omega))).trans bh;exact cell_kept bi Z ak
   .have bv:(revC f e)=[]:=NK (by omega);rw[bv];refine⟨j,o,by simp_all,by simp,fun d=>absurd d (by simp),aX⟩
  case stop =>
   rintro B c F W' _ _ d _;exact d.elim
theorem Jpj{c:Int}(h:c ∈ Q0 L p):c ∈ L:=by
 grind[Q0]
theorem Jkj{n:Nat}:∀(pre:List (Part n)) (L:List Int) (c:Int),c ∈ revs pre L->c ∈ L
 | [],_,_,h=>h
 | p::pre,L,c,h=>Jpj (Jkj pre (Q0 L p.1) c h)
theorem Jo7:OneC ⟨#[114,101,118]⟩ revP:=⟨fun w=>(Kq (t:=⟨#[114,101,118]⟩) (k1:=.string [101,118]) (k2:=.string [114,101,118]) (f:=186) (by decide) (by kernel_rfl) (by kernel_rfl) (by kernel_rfl) (by kernel_rfl) w).mono (by rintro e w' ⟨rfl,hb⟩;exact⟨186,#[],rfl,KW,hb,Juo w'⟩),fun a ha=>by
 unfold revP;split
 .exact ⟨ha.few,fun _=>ha⟩
 have hl:(revC a.cells (Jq a.shape)).length=a.cells.length:=X4 _ _ rfl;exact⟨by show(revC _ _).length<=200;rw[hl];exact ha.few,fun _=>⟨ha.rank,ha.lens,by show(revC _ _).length=_;rw[hl];exact ha.size,by show(revC _ _).length<=200;rw[hl];exact ha.few,fun c hc=>ha.fits c (Jkj _ _ c hc)⟩⟩⟩
end Go.Proofs.YtjobgpahajhbnaaGreatDoor
