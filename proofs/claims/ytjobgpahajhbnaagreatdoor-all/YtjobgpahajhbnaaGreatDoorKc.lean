import Derived.Test.YtjobgpahajhbnaaGreatDoorKd
import Derived.Test.YtjobgpahajhbnaaGreatDoorEg
import Derived.StringKeys
import Derived.Deep.CutRange
namespace Go.Proofs.YtjobgpahajhbnaaGreatDoor
open Go.RowKit Go.Proofs Go.Maps Go.Proofs.Tryz
attribute [local go_sem ↓] Go.wp_at_zero Go.wp_at_succ
set_option linter.all false
set_option maxHeartbeats 2000000
set_option maxRecDepth 20000
variable {Q:Nat->Prop} {W w:World} {b cc cn g k m n off:Nat} {co:Option Addr} {e:TypeId} {u u0 u1 v0 v1:Value} {x:Int} {xs:List Int}
theorem KM:Enters prog 202:=NF func202 (by decide) rfl
def Vy(x:Int)(xs:List Int):List Int:=if 0<=x then xs.take x.toNat++List.replicate (x.toNat-xs.length) 0 else List.replicate ((-x).toNat-xs.length) 0++xs.drop (xs.length-(-x).toNat)
def Jas(a b:Arr):Arr × Int:=if a.shape.length≠0\/(Zl b).shape.length≠1 then(eArr,5)else if 64<a.cells.headD 0\/a.cells.headD 0 < -64 then(eArr,9)else(⟨[(Vy (a.cells.headD 0) b.cells).length],Vy (a.cells.headD 0) b.cells⟩,0)
theorem Jeq{B:Nat}{xs:List Value}(h:w.ownsRow B e 1 (aI g 0 n n) n xs):w.heap[g]?=some (.cells xs.toArray e (0,0))/\xs.length=n:=by
 obtain⟨p,⟨h,_⟩| ⟨l,k,b,i,o,d,r,q,j,f⟩⟩:=h
 .cases h
 injection i with a m c;injection a with a;injection a with a;subst a c;have:b=xs.toArray:=by
  rw[<-f,NJ (by simp[j])]
 subst this;exact⟨d,by omega⟩
theorem Jdr{P:Nat->Prop}{L:List Int}(h:w.heap[g]?=some (.cells (L.map (Value.int .i64)).toArray e (0,0)))(hn:n=L.length)(hP:P g):Nums P w (aI g 0 n n) L:=by
 subst hn;refine⟨some (U g 0),L.length,rfl,FP _,fun _=>⟨g,0,rfl,hP,(YE.1 h).1,fun c b=>?_⟩,fun a h=>by cases h;rfl⟩;rw[ZY];exact Jeg h (by simp[b])
theorem Je9{w1:World}{dLen dCap:Nat}{cur:List Value}(hg:w1.heap[g]?=some (.cells cur.toArray 2 (0,0)))(hs:Nums Q w1 (E co cn cc) xs)(hm:Nat.min cn dLen=m)(hfit:off+m<=cur.length)(hb:J w w1)(hBg:w.1.size<=g):
 ∃w2,(Builtin.copy_ #[32,32] 3 #[aI g off dLen dCap,E co cn cc]).run prog w1=.ok (G (m:Int)) w2/\w2.heap[g]?=some (.cells (splice cur off ((xs.take m).map (Value.int .i64))).toArray 2 (0,0))/\J w w2:=by
 have t:=Je hs;by_cases i:m=0
 .subst i;refine⟨w1,run_copy_none (P:=prog) w1 32 32 3 2 _ _ dLen dCap cn cc ZP VL hm,?_,hb⟩;rw[hg];simp[splice]
 have u:m<=cn:=by rw[<-hm];exact Nat.min_le_left _ _
 obtain⟨n,o,d,s,j,_⟩:=hs;obtain⟨b,f,rfl,_,r,k⟩:=j (by omega);injection d with h p q;subst h;have c:((xs.take m).map (Value.int .i64)).length=m:=by simp;omega
 have:=Je8 (w:=w) (w1:=w1) (g:=g) (off:=off) (dLen:=dLen) (dCap:=dCap) (ad:=⟨b,f,none⟩) (sLen:=cn) (sCap:=cc) (cur:=cur) (cs:=(xs.take m).map (Value.int .i64)) hg (by rw[c,hm]) (by
  intro a v d;obtain⟨l,rfl⟩:=Jew d;simp at l;have e:(⟨b,f,none⟩:Addr).add a=⟨b,f+a,none⟩:=by cases a<;>simp[Addr.add]
  rw[e,k a (by omega)];simp) (by rw[c];exact hfit) X9 hb hBg
 rw[c]at this;exact this
theorem Jig(hm:Nat.min xs.length n=m):splice (List.replicate n (G 0)) 0 ((xs.take m).map (Value.int .i64))=(Vy (n:Int) xs).map (Value.int .i64):=by
 have b:m=min xs.length n:=hm.symm;unfold splice Vy;rw[FY (by omega)];have e:xs.take m=xs.take n:=by
  rw[b];by_cases a:xs.length<=n
  .rw [ME a,NJ aT,NJ a]
  rw[Pm (by omega)]
 rw[e];simp only[List.take_zero,MZ,NU,Mr,Hx,PU,JQ,YD];congr 2;omega
theorem Jbv(hm:Nat.min n xs.length=m)(ho:m≠0->off=n-m)(hon:off<=n)(hx:0<n):splice (List.replicate n (G 0)) off (((xs.drop (xs.length-m)).take m).map (Value.int .i64))=(Vy (-(n:Int)) xs).map (Value.int .i64):=by
 have:m=min n xs.length:=hm.symm;have:m<=xs.length:=by omega
 unfold Vy;rw[FU (by omega),Int.neg_neg,Hx];have e:(xs.drop (xs.length-m)).take m=xs.drop (xs.length-n):=by
  have a:xs.length-m=xs.length-n:=by omega
  rw[a,NJ (by simp;omega)]
 rw[e];by_cases a:m=0
 .have b:xs=[]:=NK (by omega);subst b;simp[splice];omega
 rw[ho a];unfold splice;have b:n-m=n-xs.length:=by omega
 simp only[List.take_replicate,NU,Mr,PU,JQ,Hf];rw[show min (n-m) n=n-xs.length by omega,show n-(n-m+(xs.length-(xs.length-n)))=0 by omega];simp
theorem Jy0(w):FnTwo 202 #[] w Jas:=by
 intro W P u v a b _ bj cB b6 ce cf;obtain⟨bE,L,sc,co,cn,cc,rfl,bl,b4⟩:=cB;obtain⟨bG,bD,bB,bf,be,bd,rfl,az,H⟩:=b6;have bv:=Je bl;simp at bv;have a8:=O bv;have F:=St.start (P:=P) (W:=W) (a:=a) (b:=b) ⟨bE,L,sc,co,cn,cc,rfl,bl,b4⟩ ⟨bG,bD,bB,bf,be,bd,rfl,az,H⟩;generalize hW1:(((W.alloc (.cells (aL bE L sc co cn cc) 89)).alloc (.cells (aL bG bD bB bf be bd) 89)).alloc (.cells aF 89))=W1 at F;have bO:=O F;have af:Hid (∀T:World,W.1.size+1+1<T.1.size->∀b,T.1.size<=b->Off3 W.1.size P b):=O (fun T c b b6=>⟨bj b (by omega),.inr (by omega)⟩);have bM:=O (Fv (Off3 W.1.size P) W1 (I af W1 F.lt) bG bD bB bf be bd b F.isB);have bS:=O (fun T=>(Jo T bE L sc co cn cc).mono (fun e d c=>(⟨c.1,by rw[c.2];exact(aS.alloc aT _).alloc (by simp) _⟩:e=aD (.bool ((L:Int)== 0))/\J T d)));have c5:=O bj;have aZ:=O ce;have bN:=O (X1 cf);have bK:=O (V3 b);obtain⟨bA,bt⟩:=nm (Jas a b);simp only[bt];have ax:=O bt;have cz:=F.b0;have cA:=F.b1;clear bj ce cf bl b4 az H bt bv F;go_enter func202,ntmps202;go_wp2_with fail;try rw[hW1]
 clear hW1 cz cA;refine(I bM).mono ?_;rintro e bH ⟨s1,B,aq,c1,c2,r,rfl,bi,H⟩;have s:=(I bO).keep H;have b3:=s.setB bi;have a7:=O b3;have a6:=O (Jb bi);have Y:=s.a0;have Z:=s.a1;have o:=s.b0;have q:=s.b1;have cZ:=s.fr (W.1.size+1) 0 (by omega) (by omega);have c3:=s.fr (W.1.size+1) 1 (by omega) (by omega);have n3:=s.lt;have n1:W.1.size<bH.1.size:=by omega
 have n2:W.1.size+1<bH.1.size:=by omega
 clear s b3 bi H bM bO;go_wp2_with fail;generalize ck:((bH.setCell (U (W.1.size+1) 0) (E s1 B aq)).setCell (U (W.1.size+1) 1) (E c1 c2 r))=w3 at a7⊢;clear ck Y Z o q cZ c3 n1 n2 n3;refine aR (I bS _) fun bI b7=>?_;have j:=(I a7).keep b7;have bP:=O j;have Y:=j.a0;have Z:=j.a1;have o:=j.b0;have q:=j.b1;have C:=j.r0;have D:=j.r1;have aU:=j.fr (W.1.size+1+1) 0 (by omega) (by omega);have aV:=j.fr (W.1.size+1+1) 1 (by omega) (by omega);have n3:=j.lt;have n1:W.1.size<bI.1.size:=by omega
 have n2:W.1.size+1<bI.1.size:=by omega
 have ad:=O j.below;clear j b7 a7 bS;by_cases ao:L=0
 .have cP:((L:Int)== 0)=true:=by rw[ao];rfl
  have bR:=O ao;clear ao;go_wp2_with fail;refine aR (Qu _ s1 B aq c1 c2 r) fun w5 cl=>?_;have b8:J bI w5:=by rw[cl];exact(aS.alloc aT _).alloc (by simp) _
  clear cl;have f:=(I bP).keep b8;have ah:=O f;clear Y Z o q C D aU aV n1 n2 n3;have Y:=f.a0;have Z:=f.a1;have o:=f.b0;have q:=f.b1;have C:=f.r0;have D:=f.r1;have aU:=f.fr (W.1.size+1+1) 0 (by omega) (by omega);have aV:=f.fr (W.1.size+1+1) 1 (by omega) (by omega);have n3:=f.lt;have n1:W.1.size<w5.1.size:=by omega
  have n2:W.1.size+1<w5.1.size:=by omega
  have ad:=O f.below;clear b8 bP;by_cases an:B=1
  .have cO:((B:Int)== 1)=true:=by rw[an];rfl
   have bm:=NK (by rw[<-I a8];exact I bR);obtain⟨x,c7,c8,bn,cD,cE,_,da,b5,c9⟩:=Yv (J8 f.isA) (I aZ) bm;subst cE;have S:=J8 f.isB;rw[I bK]at S;have bo:=Je S;generalize hxs:b.cells=xs at S bo;have b9:xs.length<=200:=by rw[<-hxs,<-V3 b];exact(I bN).few
   have k:bA=if 64<x\/x < -64 then(eArr,9)else(⟨[(Vy x xs).length],Vy x xs⟩,0):=by
    rw[<-I ax];unfold Jas;rw[FU (by rw[bm,<-(I a6).2,an];simp),bn,hxs];rfl
   have bx:=(I aZ).fits x (by rw[bn];simp);subst cD;have av:=O S;have dc:c2<=r:=by
    obtain⟨bZ,b2,h,bp,_,_⟩:=S;injection h with aa X c;omega
   clear f bm bn hxs bK bN aZ ax bR a6 a8 S an;have ae:=O bo;clear bo;have cW:=bx.1;have cX:=bx.2;obtain⟨cu,cb,cr,cs,ct⟩:=NY VI;have bL:=O cb;have bU:=O cr;have bV:=O cs;have bW:=O ct;clear bx cb cr cs ct;by_cases az:64<x
   .rw [FY (NN az)]at k;subst k;go_wp2_with fail;exact FR (by simp[results,results202,go_sem,C,D]) rfl ⟨_,_,_,_,_,_,rfl,Jt _ _,(Ke (P:=P) (I ad) (Jt _ _)).2⟩
   by_cases H:x < -64
   .rw [FY (NO H)]at k;subst k;go_wp2_with fail;exact FR (by simp[results,results202,go_sem,C,D]) rfl ⟨_,_,_,_,_,_,rfl,Jt _ _,(Ke (P:=P) (I ad) (Jt _ _)).2⟩
   rw[FU (by omega)]at k;generalize hys:Vy x xs=ys at k;subst k;have R:=O hys;clear hys;by_cases cU:0<=x
   .obtain ⟨n,rfl⟩:∃n:Nat,x=n:=⟨x.toNat,by omega⟩;have cH:n<=64:=by omega
    go_wp2_with (at_make;refine YV _ rfl _ _ 32 rfl w5.1.size 2 cu (G 0) 1 ZP (I bL) (I bU) (I bV) .i64 .i64 n n n rfl rfl rfl rfl ?c1 ?c2 aT ?_)
    case c1=>rw[I bW];omega
    case c2=>unfold maxLen;omega
    intro N al ak;have K:=YN (G 0) (n*1);rw[MA]at K;have am:N.ownsRow w5.1.size 2 1 (aI w5.1.size 0 n n) n (List.replicate n (G 0)):=by
     rw[<-K];simpa using al
    obtain⟨aj,-⟩:=Jeq am;have z:=aS.grown ak aT (fun _ c=>by cases c);obtain⟨m,i⟩:=nm (Nat.min c2 n);obtain⟨t,bu,d,A⟩:=Je9 (w:=w5) (w1:=N) (g:=w5.1.size) (off:=0) (dLen:=n) (dCap:=n) (m:=m) aj ((I av).below z) i (by have:Nat.min c2 n<=n:=Nat.min_le_right _ _;simp;omega) z aT;have l:=(I ah).keep z;have y:=(I ah).keep A;rw[Jig (by rw[<-I ae];exact i),I R]at d;have ap:n=ys.length:=by
     rw[<-I R];unfold Vy;rw[FY cU];simp;omega
    have Q:=O (Jdr d ap (I af w5 n3 _ aT));have ar:=A.size;have ag:=O (Vb (Off3 W.1.size P) t (I af t (by omega)) _ ys (I Q));have ab:=O y;clear Y Z o q C D aU aV;have o:=l.b0;have q:=l.b1;have cv:=l.lt;have cw:W.1.size+1<N.1.size:=by omega
    clear K al am aj z l y d A i ak ap R Q av ah b5;go_wp2_with fail;refine(I ag).mono ?_;rintro e X ⟨b2,cC,cK,u1,u2,u3,rfl,ai,c⟩;have h:=(I ab).keep c;have aa:=O ai;have bh:=h.r0;have bp:=h.r1;have cM:=h.fr (W.1.size+1+1) 0 (by omega) (by omega);have cQ:=h.fr (W.1.size+1+1) 1 (by omega) (by omega);have cx:=h.lt;have ac:=O h.below;clear h ai c ag ab o q;go_wp2_with fail;exact FR (by simp[results,results202,go_sem,bh,bp]) rfl ⟨_,_,_,_,_,_,rfl,(Ke (I ac) (I aa)).1,(Ke (I ac) (I aa)).2⟩
   obtain⟨n,cq⟩:∃n:Nat,-x=n:=⟨(-x).toNat,by omega⟩;have cH:n<=64:=by omega
   have cd:0<n:=by omega
   have cV:x<0:=by omega
   have cp:x=-(n:Int):=by omega
   have a9:=O cp;have dd:(0:Int)<=(n:Int):=by omega
   have cI:IntKind.i64.wrap (-x)=(n:Int):=by
    rw[cq];exact Jg (by omega) (by omega)
   clear cp cq;go_wp2_with (at_make;refine YV _ rfl _ _ 32 rfl w5.1.size 2 cu (G 0) 1 ZP (I bL) (I bU) (I bV) .i64 .i64 n n n rfl rfl rfl rfl ?c1 ?c2 aT ?_)
   case c1=>rw[I bW];omega
   case c2=>unfold maxLen;omega
   intro N al ak;have K:=YN (G 0) (n*1);rw[MA]at K;have am:N.ownsRow w5.1.size 2 1 (aI w5.1.size 0 n n) n (List.replicate n (G 0)):=by
    rw[<-K];simpa using al
   obtain⟨aj,-⟩:=Jeq am;have z:=aS.grown ak aT (fun _ c=>by cases c);have l:=(I ah).keep z;have bQ:=O l;have aW:=O aj;have ar:=O z;clear Y Z o q C D aU aV;have o:=l.b0;have q:=l.b1;have cv:=l.lt;have cw:W.1.size+1<N.1.size:=by omega
   obtain⟨d,bw⟩:=nm (Nat.min n c2);have cR:min n c2=d:=bw;have cG:min (n:Int) (c2:Int)=(d:Int):=by omega
   have di:d<=n:=by omega
   have dh:d<=c2:=by omega
   have bT:=O bw;clear K al am aj z l ak b5 bw cR;go_wp2_with (go_at_call 156;refine aR (Y0 _ s1 B aq c1 c2 r) fun t cm=>?_;have A:J N t:=(by rw[cm];exact aS.alloc aT _);clear cm;have y:=(I bQ).keep A;have ba:=y.b0;have bb:=y.b1;have c6:=y.lt);have ab:=O ((I ar).trans (A.mono (I ar).size));have dj:=(I ar).size;have aX:=O ((A.block _ (YE.1 (I aW)).1).trans (I aW));have ca:=(YE.1 (I aX)).1;have Q:=O ((I av).below (I ab));have ay:W.1.size+1<t.1.size:=by omega
   obtain⟨p,br⟩:=nm (n-d);obtain⟨i,cj⟩:=nm (c2-d);have db:c2<=200:=by rw[I ae];exact b9
   have ci:(0:Int)<=(p:Int):=by omega
   have de:(p:Int)<=(n:Int):=by omega
   have cL:(0:Int)<=(i:Int):=by omega
   have dg:(i:Int)<=(c2:Int):=by omega
   have df:p<=n:=by omega
   have cN:i<=c2:=by omega
   obtain⟨off,cJ,cg,ch⟩:∃off:Nat,(if n=p then some (⟨w5.1.size,0,none⟩:Addr)else some (U w5.1.size p))=some (U w5.1.size off)/\off+d<=n/\(d≠0->off=n-d):=by
    by_cases e:n=p
    .exact ⟨0,FY e,by omega,fun c=>by omega⟩
    exact⟨p,FU e,by omega,fun c=>br.symm⟩
   have a5:=O (Pa br cj);have a4:=O (Pa cg ch);have ap:n=ys.length:=by
    rw[<-I R,I a9];unfold Vy;rw[FU (by omega)];simp;omega
   have cy:=O ap;have cS:IntKind.i64.wrap ((n:Int)-(d:Int))=(p:Int):=by
    have e:(n:Int)-(d:Int)=(p:Int):=by omega
    rw[e];exact Jg ci (by omega)
   have cT:IntKind.i64.wrap ((c2:Int)-(d:Int))=(i:Int):=by
    have e:(c2:Int)-(d:Int)=(i:Int):=by omega
    rw[e];exact Jg cL (by omega)
   have c4:=O y;clear br cj cg ch ap A ar aW av bQ o q cv cw y cI cG cV cW cX b9;have cF:Hid (Nat.min (c2-i) (n-p)=d):=O (by
    have:=I a5;have c:=I bT;have h:min n c2=d:=c;show min (c2-i) (n-p)=d;omega)
   rcases c1 with _|⟨bc,bg,cY⟩
   case' none =>
    obtain⟨bZ,b2,h,bp,bh,_⟩:=I Q;have bz:xs.length=0:=by
     by_cases c:0<xs.length
     .obtain ⟨ac,ag,aa,_⟩:=bh c;injection h with X;rw[aa]at X;cases X
     omega
    have cC:c2=0:=by rw[I ae];exact bz
    subst cC;have cQ:d=0:=by omega
    subst cQ;have cM:i=0:=by omega
    subst cM;have cK:n=p:=by have:=(I a5).1;omega
    subst cK;have ck:=Jg ci (by omega);have aw:Hid (Nums (Off3 W.1.size P) t (E none 0 r) []):=O ⟨_,_,rfl,by simp,fun c=>absurd c (by simp),fun a c=>by cases c⟩;have bq:Hid (splice (List.replicate n (G 0)) 0 ((([]:List Int).take 0).map (Value.int .i64))=ys.map (Value.int .i64)):=O (by
     rw[<-I R,I a9,NK bz];have:=Jbv (n:=n) (m:=0) (off:=0) (xs:=[]) (by simp) (by simp) (by omega) cd;simpa using this)
    clear h bp bh bz cS cT cJ;go_region_with (go_at_call 156;refine aR (Y0 _ s1 B aq none 0 r) fun X ai=>?_;have c:J t X:=(by rw[ai];exact aS.drew.alloc (by simp) _);clear ai;have aa:=(I ab).trans (c.mono (I ab).size);obtain⟨bJ,bu,ag,ac⟩:=Je9 (w:=w5) (w1:=X) (g:=w5.1.size) (off:=0) (dLen:=0) (dCap:=0) (m:=0) ((c.block w5.1.size ca).trans (I aX)) ((I aw).below c) rfl (by simp) aa aT;have aY:=O ag;have au:=O ac;clear ag ac aa;have cx:=c.size;have bX:=(c.cell (p:=U (W.1.size+1) 0) ay).trans ba;have bY:=(c.cell (p:=U (W.1.size+1) 1) ay).trans bb;clear c)
   case' some =>
    have bz:cY=none:=by
     obtain⟨bZ,b2,h,bp,bh,c⟩:=I Q;injection h with X;exact c _ X.symm
    subst bz;obtain⟨h,bh⟩:=nm ((if r=i then some (U bc bg)else some (U bc (bg+i))):Option Addr);have aw:Hid (Nums (Off3 W.1.size P) t (E h (c2-i) (r-i)) (xs.drop i)):=O (by
     rw[<-bh];exact Kb (I Q) cN)
    have bq:Hid (splice (List.replicate n (G 0)) off (((xs.drop i).take d).map (Value.int .i64))=ys.map (Value.int .i64)):=O (by
     rw[<-I R,I a9];have e:i=xs.length-d:=by rw[<-I ae];exact(I a5).2.symm
     rw[e];exact Jbv (by rw[<-I ae];exact I bT) (I a4).2 (by have:=(I a4).1;omega) cd)
    go_region_with (go_at_call 156;refine aR (Y0 _ s1 B aq (some (U bc bg)) c2 r) fun X ai=>?_;have c:J t X:=(by rw[ai];exact aS.drew.alloc (by simp) _);clear ai;have aa:=(I ab).trans (c.mono (I ab).size);obtain⟨bJ,bu,ag,ac⟩:=Je9 (w:=w5) (w1:=X) (g:=w5.1.size) (off:=off) (dLen:=n-p) (dCap:=n-p) (m:=d) ((c.block w5.1.size ca).trans (I aX)) ((I aw).below c) (I cF) (by simpa using(I a4).1) aa aT;have aY:=O ag;have au:=O ac;clear ag ac aa;have cx:=c.size;have bX:=V c ay ba;have bY:=V c ay bb;clear c)
   all_goals
    all_goals
     have bZ:=(I ah).keep (I au);have X:=O (Jdr (by rw[<-I bq];exact I aY) (I cy) (I af w5 n3 _ aT));have cx:=(I au).size;have ag:=O (Vb (Off3 W.1.size P) bJ (I af bJ (by omega)) _ ys (I X));have bz:=O bZ;clear bZ X aY au bq aw ba bb bX bY bu;go_wp2_with fail;refine(I ag).mono ?_;rintro e dl ⟨b2,cC,cK,u1,u2,u3,rfl,ai,c⟩;have h:=(I bz).keep c;have aa:=O ai;have bh:=h.r0;have bp:=h.r1;have cM:=h.fr (W.1.size+1+1) 0 (by omega) (by omega);have cQ:=h.fr (W.1.size+1+1) 1 (by omega) (by omega);have dk:=h.lt;have ac:=O h.below;clear h ai c ag bz;go_wp2_with fail;exact FR (by simp[results,results202,go_sem,bh,bp]) rfl ⟨_,_,_,_,_,_,rfl,(Ke (I ac) (I aa)).1,(Ke (I ac) (I aa)).2⟩
  have cO:((B:Int)== 1)=false:=by rw[NT];omega
  have k:bA=(eArr,5):=by
   rw[<-I ax];unfold Jas;rw[FY (NO (by rw[<-(I a6).2];exact an))]
  subst k;clear f an;go_wp2_with fail;exact FR (by simp[results,results202,go_sem,C,D]) rfl ⟨_,_,_,_,_,_,rfl,Jt _ _,(Ke (P:=P) (I ad) (Jt _ _)).2⟩
 have cP:((L:Int)== 0)=false:=by rw[NT];omega
 have k:bA=(eArr,5):=by
  rw[<-I ax];unfold Jas;rw[FY (NN (by rw[<-I a8];exact ao))]
 subst k;clear ao;go_wp2_with fail;exact FR (by simp[results,results202,go_sem,C,D]) rfl ⟨_,_,_,_,_,_,rfl,Jt _ _,(Ke (P:=P) (I ad) (Jt _ _)).2⟩
theorem Joj(h:¬ (64<x\/x < -64))(xs):(Vy x xs).length<=64:=by
 unfold Vy;split
 .simp;omega
 simp;omega
theorem Joi(hf:∀c ∈ xs,Jk c):∀c ∈ Vy x xs,Jk c:=by
 intro c h;unfold Vy at h;split at h
 .rcases ZK.1 h with h|h
  .exact hf c (ZM h)
  rw[(YQ.1 h).2];unfold Jk;omega
 rcases ZK.1 h with h|h
 .rw [(YQ.1 h).2];unfold Jk;omega
 exact hf c (ZX h)
theorem Jtt:TwoC ⟨#[116,97,107,101]⟩ Jas:=⟨fun w=>(Q6 (t:=⟨#[116,97,107,101]⟩) (k1:=.string [97,107,101]) (k2:=.string [116,97,107,101]) (f:=202) (by decide) (by kernel_rfl) (by kernel_rfl) (by kernel_rfl) (by kernel_rfl) (by kernel_rfl) w).mono (by rintro e w' ⟨rfl,hb⟩;exact⟨202,#[],rfl,KM,hb,Jy0 w'⟩),fun a b ha hb=>by
 unfold Jas;split
 .exact ⟨by simp[eArr],fun h=>absurd h (by decide)⟩
 split
 .exact ⟨by simp[eArr],fun h=>absurd h (by decide)⟩
 rename_i h1 h2;have hl:=Joj h2 b.cells;exact⟨by show(Vy _ _).length<=200;omega,fun _=>⟨by simp,fun n hn=>by rw[Mo.1 hn];omega,by simp[Jd],by show(Vy _ _).length<=200;omega,Joi hb.fits⟩⟩⟩
theorem Jld(env)(fuel)(f1)(f2)(B)(W0)(mv)(hfl:fuel<=1000)(he:∀t a,env t=some a->a.ok):∀x:Ex,Good f1 f2 x->ExC env fuel f1 f2 B W0 mv x
 | .num ws,_=>J2m env fuel f1 f2 B W0 mv ws
 | .name t p,h=>J0l env fuel f1 f2 B W0 mv t h p
 | .one t p r,h=>J2l env fuel f1 f2 B W0 mv t p r hfl he h.1 h.2 (Jld env fuel f1 f2 B W0 mv hfl he r h.2)
 | .two t p l r,h=>J2k env fuel f1 f2 B W0 mv t p l r hfl he h.1 h.2.1 h.2.2 (Jld env fuel f1 f2 B W0 mv hfl he l h.2.1) (Jld env fuel f1 f2 B W0 mv hfl he r h.2.2)
def J38(P:Nat->Prop)(w:World)(r:Sum (Int × Nat) (Arr × Nat))(e:Ending)(w':World):Prop :=
 J w w'/\match r with
 | .inl x=>e=.returned (.tuple #[zArr,.int .i64 0,.agg #[.int .i64 x.1,.int .i64 x.2]])/\x.1≠0
 | .inr x=>∃so sn sc co cn cc,e=.returned (.tuple #[aK so sn sc co cn cc,.int .i64 x.2,.agg #[.int .i64 0,.int .i64 0]])/\IsArr P w' (aK so sn sc co cn cc) x.1
theorem Look.later{P:Nat->Prop}{W0:World}{mv:Value}{env:ByteArray->Option Arr}(h:Look P W mv env)(hb:J W W0)(hq:∀b,P b->b<W.1.size->Q b):Look Q W0 mv env:=by
 intro d f;obtain⟨v,e,c⟩:=h d f;refine⟨v,fun w g=>e w (hb.trans (g.mono hb.size)),?_⟩;cases he:env d with
 | none=>rw[he]at c;exact c
 | some a=>rw[he]at c;exact(IsArr.imp c hq).below hb
theorem Jtj(W0)(mv)(fuel):Wk W0 mv fuel 0 (W0.alloc (.cells #[mv,G fuel,G 0] 157)):=
 ⟨belA1,by simp,by simp,by simp,by simp,by simp⟩
theorem Je4(env)(fuel)(f1)(f2)(B)(W)(mv)(hmv:∃r,mv=.map r)(h0:0<=fuel)(hfl:fuel<=1000)(he:∀t a,env t=some a->a.ok)(x)(hg:Good f1 f2 x)(q)(hx:IsEx B W q x)(P)(hP:∀b,W.1.size<=b->P b)(hL:Look P W mv env):
 Calls prog 60 #[.pointer q,mv,G fuel] W (J38 P W (Js env fuel f1 f2 x 0)):=by
 obtain⟨L,rfl⟩:=hmv;have F:J W ((W.alloc (.cells #[M,M] 89)).alloc (.cells #[G 0,G 0] 117)):=belA2;have H:=Jld env fuel f1 f2 B ((W.alloc (.cells #[M,M] 89)).alloc (.cells #[G 0,G 0] 117)) (.map L) hfl he x hg (fun b=>But P W.1.size b/\b≠W.1.size+2) _ 0 q (Jtj _ _ _) h0 (fun b d=>by simp at d;exact⟨⟨hP b (by omega),by omega,by omega⟩,by omega⟩) (fun d=>d.2 (by simp)) (hL.later F (fun b c m=>⟨⟨c,by omega,by omega⟩,by omega⟩)) (hx.keep (Behind.of_below F));simp only[MT]at H;go_enter func60,ntmps60;go_wp2_with fail;refine H.mono ?_;intro e f m;have K:∀f,Kp ((W.alloc (.cells #[M,M] 89)).alloc (.cells #[G 0,G 0] 117)) (((W.alloc (.cells #[M,M] 89)).alloc (.cells #[G 0,G 0] 117)).alloc (.cells #[.map L,G fuel,G 0] 157)) f->Below (W.1.size+2) (((W.alloc (.cells #[M,M] 89)).alloc (.cells #[G 0,G 0] 117))) f:=by
  intro f g;refine⟨g.os,g.tape,g.output,?_,fun k c=>?_⟩
  .have:=g.size;simp at this⊢;omega
  rw[g.block k (by simp;omega) (fun e=>by have:=NS e;simp at this;omega)];exact NB _ _ _ (by simp;omega)
 cases hev:Js env fuel f1 f2 x 0 with
 | inl er =>
  rw[hev]at m;obtain⟨d,N⟩:=er;obtain⟨g,rfl,D,Q,C⟩:=m;have c:=K f g;have R:(d != 0)=true:=by simpa using D
  have h:=c.cell (p:=adP0 W) (by show W.1.size<W.1.size+2;omega);have i:=c.cell (p:=adP1 W) (by show W.1.size<W.1.size+2;omega);have j:=c.cell (p:=adQ0 W) (by show W.1.size+1<W.1.size+2;omega);have l:=c.cell (p:=adQ1 W) (by show W.1.size+1<W.1.size+2;omega);have o:=c.frozen (p:=adP0 W) (by show W.1.size<W.1.size+2;omega);have s:=c.frozen (p:=adP1 W) (by show W.1.size<W.1.size+2;omega);have u:=c.frozen (p:=adQ0 W) (by show W.1.size+1<W.1.size+2;omega);have w:=c.frozen (p:=adQ1 W) (by show W.1.size+1<W.1.size+2;omega);simp at h i j l o s u w;have z:W.1.size+1<f.1.size:=by have:=c.size;simp at this;omega
  have A:W.1.size<f.1.size:=by omega
  have n:=(belA2).trans (c.mono (by omega));unfold zArr;go_wp2_with fail;go_region
  all_goals
   go_wp2_with fail;refine FR (v:=.tuple #[zArr,G 0,.agg #[G d,G N]]) (by simp[results,results60,go_sem,zArr,h,i,j,l,z,A]) rfl ?_;rw[hev];refine⟨?_,rfl,D⟩;exact((((((n.setCell (p:=adP0 W) aT _).setCell (p:=adP1 W) aT _).setCell (p:=adQ0 W) (ZO _) _).setCell (p:=adQ1 W) (ZO _) _).alloc (by simp;omega) _).alloc (by simp;omega) _).drew
 | inr y =>
  rw[hev]at m;obtain⟨a,Q⟩:=y;obtain⟨g,v,rfl,D,C,Y⟩:=m;have R:=C.cost;have S:=C.lt;simp at R S;have Z:W.1.size+1+1<f.1.size+1:=by omega
  have N:=D;obtain⟨X,T,sc,co,cn,cc,rfl,_,_⟩:=D;have c:=K f g;have h:=c.cell (p:=adP0 W) (by show W.1.size<W.1.size+2;omega);have i:=c.cell (p:=adP1 W) (by show W.1.size<W.1.size+2;omega);have j:=c.cell (p:=adQ0 W) (by show W.1.size+1<W.1.size+2;omega);have l:=c.cell (p:=adQ1 W) (by show W.1.size+1<W.1.size+2;omega);have o:=c.frozen (p:=adP0 W) (by show W.1.size<W.1.size+2;omega);have s:=c.frozen (p:=adP1 W) (by show W.1.size<W.1.size+2;omega);have u:=c.frozen (p:=adQ0 W) (by show W.1.size+1<W.1.size+2;omega);have w:=c.frozen (p:=adQ1 W) (by show W.1.size+1<W.1.size+2;omega);simp at h i j l o s u w;have z:W.1.size+1<f.1.size:=by have:=c.size;simp at this;omega
  have A:W.1.size<f.1.size:=by omega
  have n:=(belA2).trans (c.mono (by omega));go_wp2_with fail;go_region
  all_goals
   go_wp2_with fail;refine FR (v:=.tuple #[(agV X T sc co cn cc),G Q,.agg #[G 0,G 0]]) (by simp[results,results60,go_sem,h,i,j,l,z,A]) rfl ?_;rw[hev];refine⟨?_,_,_,_,_,_,_,rfl,?_⟩;rotate_left
   .exact ((((((N.imp (fun _ d _=>d.1)).set (fun d=>d.2.1 rfl) 0 _).set (fun d=>d.2.1 rfl) 1 _).set (fun d=>d.2.2 rfl) 0 _).set (fun d=>d.2.2 rfl) 1 _).imp (fun _ d _=>d.1)).below ((belA2).drew)
   exact((((((n.setCell (p:=adP0 W) aT _).setCell (p:=adP1 W) aT _).setCell (p:=adQ0 W) (ZO _) _).setCell (p:=adQ1 W) (ZO _) _).alloc (by simp;omega) _).alloc (by simp;omega) _).drew
theorem KN(w):(zeroValue 89).run prog w=.ok zArr w:=by kernel_rfl
theorem Jqy(P)(W):Look P W (.map none) (fun _=>none):=by
 intro b a;refine⟨zArr,fun w _=>?_,rfl⟩;exact Maps.look_nil true VM Hy (KN w) (Go.WideMaps.keyOf_string_mk YY (by grind[maxLen]))
def Not2(p q b:Nat):Prop:=b≠p/\b≠q
structure AftX (W3 wx:World) (p q:Nat) (s0 s1:Value) (e0 e1:Int):Prop where
 bel:J W3 wx
 lp:W3.1.size<=p
 lq:W3.1.size<=q
 hp:p<wx.1.size
 hq:q<wx.1.size
 a0:wx.cell? (U p 0)=some s0
 a1:wx.cell? (U p 1)=some s1
 f0:wx.cell? (U q 0)=some (.int .i64 e0)
 f1:wx.cell? (U q 1)=some (.int .i64 e1)
structure Dsk (db:Nat) (fuel:Int) (mr:Option Nat) (w:World):Prop where
 lt:db<w.1.size
 evs:Evs w
 c0:w.cell? (U db 0)=some (.int .i64 fuel)
 c1:w.cell? (U db 1)=some (.map mr)
theorem Dsk.keep{db:Nat}{fuel:Int}{mr:Option Nat}{w':World}(h:Dsk db fuel mr w)(hb:J w w'):Dsk db fuel mr w' :=
 ⟨FT h.lt hb.size,h.evs.below hb h.evs.1,V hb h.lt h.c0,V hb h.lt h.c1⟩
theorem Y9(h:W.cell? (U b 0)=some u):((W.setCell (U b 0) v0).setCell (U b 1) v1).cell? (U b 0)=some v0:=by
 simp_all[FZ,FW]
theorem Y8(h:W.cell? (U b 1)=some u):((W.setCell (U b 0) v0).setCell (U b 1) v1).cell? (U b 1)=some v1 :=
 FW _ _ _ (celN (by omega) h)
theorem Jds{P:Nat->Prop}{so:Option Addr}{sn sc:Nat}{a:Arr}(h:IsArr P w (aK so sn sc co cn cc) a):Nums P w (E so sn sc) (a.shape.map Int.ofNat)/\Nums P w (E co cn cc) a.cells:=by
 obtain⟨k,j,i,d,c,b,g,e,f⟩:=h;simp_all
section
variable {W3 w5:World} {s0 s1:Value} {a:Arr} {P:Nat->Prop}
theorem J31(hb:J W3 w5)(hA:IsArr P w5 (.agg #[s0,s1]) a):
 AftX W3 ((w5.alloc (.cells #[s0,s1] 89)).alloc (.cells #[G 0,G 0] 117)) w5.1.size (w5.1.size+1) s0 s1 0 0/\IsArr (Not2 w5.1.size (w5.1.size+1)) ((w5.alloc (.cells #[s0,s1] 89)).alloc (.cells #[G 0,G 0] 117)) (.agg #[s0,s1]) a:=by
 have c:=hb.size;exact⟨⟨(hb.alloc hb.size _).alloc (by simp;omega) _,c,by omega,by simp;omega,by simp,by simp,by simp,by simp,by simp⟩,(hA.imp (fun b _ d=>⟨by omega,by omega⟩)).below ((aS.alloc aT _).alloc (by simp) _)⟩
theorem J30(hb:J W3 w5)(hA:IsArr P w5 (.agg #[s0,s1]) a):
 AftX W3 ((w5.alloc (.cells #[G 0,G 0] 117)).alloc (.cells #[s0,s1] 89)) (w5.1.size+1) w5.1.size s0 s1 0 0/\IsArr (Not2 (w5.1.size+1) w5.1.size) ((w5.alloc (.cells #[G 0,G 0] 117)).alloc (.cells #[s0,s1] 89)) (.agg #[s0,s1]) a:=by
 have c:=hb.size;exact⟨⟨(hb.alloc hb.size _).alloc (by simp;omega) _,by omega,c,by simp,by simp;omega,by simp,by simp,by simp,by simp⟩,(hA.imp (fun b _ d=>⟨by omega,by omega⟩)).below ((aS.alloc aT _).alloc (by simp) _)⟩
theorem J3z(hb:J W3 w5)(hA:IsArr (fun b=>b<W3.1.size\/k<=b) w5 (.agg #[s0,s1]) a)(hk:W3.1.size<k)(hl:W3.1.size<w5.1.size)(c0:w5.cell? (U W3.1.size 0)=some u0)(c1:w5.cell? (U W3.1.size 1)=some u1):
 AftX W3 (((w5.setCell (U W3.1.size 0) s0).setCell (U W3.1.size 1) s1).alloc (.cells #[G 0,G 0] 117)) W3.1.size w5.1.size s0 s1 0 0/\IsArr (Not2 W3.1.size w5.1.size) (((w5.setCell (U W3.1.size 0) s0).setCell (U W3.1.size 1) s1).alloc (.cells #[G 0,G 0] 117)) (.agg #[s0,s1]) a:=by
 have h:=hb.size;have d:¬ (fun b=>b<W3.1.size\/k<=b) W3.1.size:=by intro h;rcases h with h|h<;>omega
 have c:((w5.setCell (U W3.1.size 0) s0).setCell (U W3.1.size 1) s1).1.size=w5.1.size:=by simp
 refine⟨⟨((hb.setCell aT _).setCell aT _).alloc (by omega) _,FP _,h,by simp;omega,by simp,?_,?_,?_,?_⟩,?_⟩
 .simp_all [NV,Y9]
 .simp_all [NV,Y8]
 .exact (NH _ _ _ _ c.symm).trans rfl
 .exact (NH _ _ _ _ c.symm).trans rfl
 refine IsArr.below ?_ (aS.alloc aT _);refine IsArr.imp ((hA.set d 0 _).set d 1 _) (fun b hb hl=>?_);rw[c]at hl;exact⟨by omega,by omega⟩
theorem J3y(hb:J W3 w5)(hA:IsArr (fun b=>b<W3.1.size\/k<=b) w5 (.agg #[s0,s1]) a)(hk:W3.1.size<k)(hl:W3.1.size<w5.1.size)(c0:w5.cell? (U W3.1.size 0)=some u0)(c1:w5.cell? (U W3.1.size 1)=some u1):
 AftX W3 (((w5.setCell (U W3.1.size 0) (G 0)).setCell (U W3.1.size 1) (G 0)).alloc (.cells #[s0,s1] 89)) w5.1.size W3.1.size s0 s1 0 0/\IsArr (Not2 w5.1.size W3.1.size) (((w5.setCell (U W3.1.size 0) (G 0)).setCell (U W3.1.size 1) (G 0)).alloc (.cells #[s0,s1] 89)) (.agg #[s0,s1]) a:=by
 have h:=hb.size;have d:¬ (fun b=>b<W3.1.size\/k<=b) W3.1.size:=by intro h;rcases h with h|h<;>omega
 have c:((w5.setCell (U W3.1.size 0) (G 0)).setCell (U W3.1.size 1) (G 0)).1.size=w5.1.size:=by simp
 refine⟨⟨((hb.setCell aT _).setCell aT _).alloc (by omega) _,h,FP _,by simp,by simp;omega,?_,?_,?_,?_⟩,?_⟩
 .exact (NH _ _ _ _ c.symm).trans rfl
 .exact (NH _ _ _ _ c.symm).trans rfl
 .simp_all [NV,Y9]
 .simp_all [NV,Y8]
 .refine IsArr.below ?_ (aS.alloc aT _);refine IsArr.imp ((hA.set d 0 _).set d 1 _) (fun b hb hl=>?_);rw[c]at hl;exact⟨by omega,by omega⟩
theorem J24{p q:Nat}{u2 u3:Value}(hb:J W3 w5)(hA:IsArr (fun b=>b<W3.1.size\/k<=b) w5 (.agg #[s0,s1]) a)(hp:W3.1.size<=p/\p<k/\p<w5.1.size)(hq:W3.1.size<=q/\q<k/\q<w5.1.size)(hpq:p≠q)(c0:w5.cell? (U p 0)=some u0)(c1:w5.cell? (U p 1)=some u1)(c2:w5.cell? (U q 0)=some u2)(c3:w5.cell? (U q 1)=some u3):
 AftX W3 ((((w5.setCell (U p 0) s0).setCell (U p 1) s1).setCell (U q 0) (G 0)).setCell (U q 1) (G 0)) p q s0 s1 0 0/\IsArr (Not2 p q) ((((w5.setCell (U p 0) s0).setCell (U p 1) s1).setCell (U q 0) (G 0)).setCell (U q 1) (G 0)) (.agg #[s0,s1]) a:=by
 have c:¬ (fun b=>b<W3.1.size\/k<=b) p:=by intro h;rcases h with h|h<;>omega
 have nq:¬ (fun b=>b<W3.1.size\/k<=b) q:=by intro h;rcases h with h|h<;>omega
 refine⟨⟨(((hb.setCell hp.1 _).setCell hp.1 _).setCell hq.1 _).setCell hq.1 _,hp.1,hq.1,by simp;omega,by simp;omega,?_,?_,?_,?_⟩,?_⟩
 .simp_all [Yt,Y9]
 .simp_all [Yt,Y8]
 .exact Y9 (u:=u2) (by simp_all[Yt,JC])
 .exact Y8 (u:=u3) (by simp_all[Yt,JC])
 exact IsArr.imp ((((hA.set c 0 _).set c 1 _).set nq 0 _).set nq 1 _) (fun b hb d=>⟨by omega,by omega⟩)
end
end Go.Proofs.YtjobgpahajhbnaaGreatDoor
