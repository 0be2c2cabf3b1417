import Derived.Test.YtjobgpahajhbnaaGreatDoorTq
namespace Go.Proofs.YtjobgpahajhbnaaGreatDoor
open Go.RowKit Go.Proofs Go.Maps Go.Proofs.Tryz
attribute [local go_sem ↓] Go.wp_at_zero Go.wp_at_succ
set_option linter.all false
set_option maxHeartbeats 2000000
set_option maxRecDepth 20000
variable {L bs ts xs:List Int} {P:Nat->Prop} {cc cn k n:Nat} {co:Option Addr} {w:World} {x:Int}
theorem KH:Enters prog 207:=NF func207 (by decide) rfl
theorem KI:Enters prog 252:=NF func252 (by decide) rfl
def Qe:List Int->List Int->List Int->Option (List Int)
 | t::ts,b::bs,acc=>if 64-(acc.length:Int)<t then none else Qe ts bs (acc++List.replicate t.toNat b)
 | _,_,acc=>some acc
def Ny(ts bs:List Int):Arr × Int:=match Qe ts bs []with
 | none=>(eArr,9)
 | some cs=>(⟨[cs.length],cs⟩,0)
def negB(x:Int):Bool:=decide (x<0)
def Gk(a b:Arr):Arr × Int:=if b.shape.length≠1\/1<a.shape.length then(eArr,5)else if a.shape.length=1/\a.cells.length≠b.cells.length then(eArr,6)else if a.cells.any negB=true then(eArr,7)else Ny (if a.shape.length=0 then List.replicate b.cells.length (a.cells.headD 0)else a.cells) b.cells
theorem Jkw(W0):PredC 252 #[] W0 negB where
 enters:=KI
 call:=by
  intro x w _;unfold negB;go_enter func252,ntmps252;go_wp2;go_ret;exact⟨rfl,rfl⟩
theorem Jm0(h:k<ts.length)(h2:k<bs.length):Qe (ts.drop k) (bs.drop k) L=if 64-(L.length:Int)<ts[k]then none else Qe (ts.drop (k+1)) (bs.drop (k+1)) (L++List.replicate ts[k].toNat bs[k]):=by
 rw[ZC h,ZC h2];rfl
theorem Jri(h:ts.length<=k):Qe (ts.drop k) (bs.drop k) L=some L:=by
 rw[MP h];rfl
theorem Juw{g:Nat}(h:Nums P w (aI g 0 n n) (List.replicate n x)):∀j u,(List.replicate n (G x))[j]?=some u->w.cell? ((⟨g,0,none⟩:Addr).add j)=some u:=by
 intro j u b;rw[YK]at b;split at b
 .rename_i hj;obtain⟨o,q,l,_,i,_⟩:=h;obtain⟨p,t,f,_,_,k⟩:=i (by simp;omega);injection l with a r s;rw[f]at a;injection a with a;injection a with d e;subst d;subst e;have m:=k j (by simpa using hj);have c:(⟨g,0,none⟩:Addr).add j=⟨g,0+j,none⟩:=by cases j<;>simp[Addr.add]
  rw[c,m,<-NS b];simp
 cases b
theorem Jux:∀u ∈ List.replicate n (G x),u.oneCell'=true:=by
 intro u a;rw[(YQ.1 a).2];rfl
structure TailF (W wr:World) (P:Nat->Prop) (co2:Option Addr) (cn2 cc2:Nat) (co':Option Addr) (cn' cc':Nat) (ts bs:List Int):Prop where
 below:J W wr
 lt:W.1.size+1+1<wr.1.size
 a1:wr.cell? (U W.1.size 1)=some (.slice co' cn' cc')
 b1:wr.cell? (U (W.1.size+1) 1)=some (.slice co2 cn2 cc2)
 r0:wr.cell? (U (W.1.size+1+1) 0)=some aH
 r1:wr.cell? (U (W.1.size+1+1) 1)=some aH
 q0:wr.frozen? (U (W.1.size+1+1) 0)=false
 q1:wr.frozen? (U (W.1.size+1+1) 1)=false
 nums:∃ Q,Nums Q wr (.slice co' cn' cc') ts
 len:ts.length=bs.length
 pos:∀ t ∈ ts,0<=t
theorem Jtu{W w7:World}{co2:Option Addr}{cn2 cc2:Nat}{co':Option Addr}{cn' cc':Nat}(v0){u1:Value}(hb:J W w7)(lt:W.1.size+1+1<w7.1.size)(a1:w7.cell? (U W.1.size 1)=some u1)
 (b1:w7.cell? (U (W.1.size+1) 1)=some (E co2 cn2 cc2)) (r0:w7.cell? (U (W.1.size+1+1) 0)=some aH) (r1:w7.cell? (U (W.1.size+1+1) 1)=some aH) (q0:w7.frozen? (U (W.1.size+1+1) 0)=false) (q1:w7.frozen? (U (W.1.size+1+1) 1)=false)
 (hn:Nums (fun b=>P b/\b≠W.1.size) w7 (E co' cn' cc') ts) (hl:ts.length=bs.length) (hp:∀t ∈ ts,0<=t):TailF W ((w7.setCell (U W.1.size 0) v0).setCell (U W.1.size 1) (E co' cn' cc')) P co2 cn2 cc2 co' cn' cc' ts bs:=by
 have c:∀b,b≠W.1.size->((w7.setCell (U W.1.size 0) v0).setCell (U W.1.size 1) (E co' cn' cc')).heap[b]?=w7.heap[b]?:=fun b e=>(FV _ _ _ _ (fun d=>e d)).trans (FV _ _ _ _ (fun d=>e d));refine⟨(hb.setCell (p:=U W.1.size 0) aT _).setCell (p:=U W.1.size 1) aT _,by simpa using lt,?_,?_,?_,?_,?_,?_,⟨_,(hn.set (fun d=>d.2 rfl) 0 _).set (fun d=>d.2 rfl) 1 _⟩,hl,hp⟩
 .exact FW _ _ _ (u:=u1) (celN (by omega) a1)
 .rw [WA (a:=U (W.1.size+1) 1) (c _ (by show W.1.size+1≠W.1.size;omega))];exact b1
 .rw [WA (a:=U (W.1.size+1+1) 0) (c _ (by show W.1.size+1+1≠W.1.size;omega))];exact r0
 .rw [WA (a:=U (W.1.size+1+1) 1) (c _ (by show W.1.size+1+1≠W.1.size;omega))];exact r1
 .rw [NI (a:=U (W.1.size+1+1) 0) (c _ (by show W.1.size+1+1≠W.1.size;omega))];exact q0
 rw[NI (a:=U (W.1.size+1+1) 1) (c _ (by show W.1.size+1+1≠W.1.size;omega))];exact q1
theorem J8{so:Option Addr}{sn sc:Nat}{a:Arr}(h:IsArr P w (aK so sn sc co cn cc) a):Nums P w (E co cn cc) a.cells:=by
 obtain⟨j,i,g,f,e,d,b,_,c⟩:=h;injection b with b;simp at b;obtain⟨_,rfl,rfl,rfl⟩:=b;exact c
theorem negs(h:xs.any negB=false):∀t ∈ xs,0<=t:=by
 intro t a;have:=Pd.1 h t a;simp[negB]at this;exact this
theorem Nums.at(h:Nums P w (E co cn cc) xs)(hk:k<xs.length):∃b off,co=some (U b off)/\b<w.1.size/\w.cell? (U b (off+k))=some (G xs[k])/\xs.length<=cc:=by
 obtain⟨l,m,j,g,d,_⟩:=h;injection j with a n c;obtain⟨b,off,e,_,i,f⟩:=d (by omega);subst c;exact⟨b,off,a.trans e,i,f k hk,g⟩
theorem J0b(w):FnTwo 207 #[] w Gk:=by
 intro b P fd v a d _ bM ef h bQ bR;obtain⟨C,j,sc,co,cn,cc,rfl,cd,bt⟩:=ef;obtain⟨N,u,K,B,g,r,rfl,bN,f⟩:=h;have ad:=Je f;have aq:=Je bN;have bm:=Je bt;have bS:=Je cd;simp at aq bS;obtain⟨eu,cr,cy,cz,bo⟩:=NY VI;have dZ:=O bo;have b3:=O bM;have bW:Hid (∀wr,J b wr->Nums P wr (E B g r) d.cells):=O (fun wr e=>f.below e);have dO:Hid (IsArr P b (aK N u K B g r) d):=O ⟨_,_,_,_,_,_,rfl,bN,f⟩;have bV:Hid (∀wr,J b wr->Nums P wr (E co cn cc) a.cells):=O (fun wr e=>bt.below e);have dM:=O bQ;obtain⟨bs,ap⟩:=nm d.cells;have cp:=bR.few;rw[ap]at bW ad cp;have aU:=O bS;have eN:g<=200:=by omega
 obtain⟨W,af⟩:=nm (Gk a d);simp only[af];obtain⟨A,H⟩:=nm (((b.alloc (.cells (aL C j sc co cn cc) 89)).alloc (.cells (aL N u K B g r) 89)).alloc (.cells aF 89));have cg:J b A:=by rw[<-H];exact((aS.alloc aT _).alloc (by simp) _).alloc (by simp;omega) _
 have e2:A.1.size=b.1.size+1+1+1:=by rw[<-H];simp
 have cA:A.cell? (U (b.1.size+1) 0)=some (E N u K):=by
  rw[<-H,WA (a:=U (b.1.size+1) 0) (NB _ _ _ (by simp))];exact(NH _ _ _ _ (by simp)).trans rfl
 have cB:A.cell? (U (b.1.size+1) 1)=some (E B g r):=by
  rw[<-H,WA (a:=U (b.1.size+1) 1) (NB _ _ _ (by simp))];exact(NH _ _ _ _ (by simp)).trans rfl
 have b0:A.cell? (U b.1.size 0)=some (E C j sc):=by
  rw[<-H,WA (a:=U b.1.size 0) (NB _ _ _ (by simp;omega)),WA (a:=U b.1.size 0) (NB _ _ _ (by simp))];exact alA
 have b1:A.cell? (U b.1.size 1)=some (E co cn cc):=by
  rw[<-H,WA (a:=U b.1.size 1) (NB _ _ _ (by simp;omega)),WA (a:=U b.1.size 1) (NB _ _ _ (by simp))];exact alA
 have r0:A.cell? (U (b.1.size+1+1) 0)=some aH:=by rw[<-H];exact(NH _ _ _ _ (by simp)).trans rfl
 have r1:A.cell? (U (b.1.size+1+1) 1)=some aH:=by rw[<-H];exact(NH _ _ _ _ (by simp)).trans rfl
 have bh:∀d bp,b.1.size<=d->d<A.1.size->A.frozen? (U d bp)=false:=fun d bp eK eL=>by
  rw[<-H];by_cases t:d=b.1.size+1+1
  .subst t;exact NL _ _ _ _ (by simp)
  by_cases d6:d=b.1.size+1
  .subst d6;rw[NI (a:=U (b.1.size+1) bp) (NB _ _ _ (by simp))];exact NL _ _ _ _ (by simp)
  have bI:d=b.1.size:=by omega
  subst bI;rw[NI (a:=U b.1.size bp) (NB _ _ _ (by simp;omega)),NI (a:=U b.1.size bp) (NB _ _ _ (by simp))];exact NL _ _ _ _ rfl
 have dS:Hid (∀c,J A c->c.frozen? (U b.1.size 0)=false/\c.frozen? (U b.1.size 1)=false):=O (fun c h=>⟨bF h (by omega) (bh _ 0 (by omega) (by omega)),bF h (by omega) (bh _ 1 (by omega) (by omega))⟩);have Z:Hid (∀c,J A c->(c.cell? (U b.1.size 0)=some (E C j sc)/\c.cell? (U b.1.size 1)=some (E co cn cc)/\c.cell? (U (b.1.size+1) 0)=some (E N u K)/\c.cell? (U (b.1.size+1) 1)=some (E B g r)/\c.cell? (U (b.1.size+1+1) 0)=some aH/\c.cell? (U (b.1.size+1+1) 1)=some aH)/\c.frozen? (U (b.1.size+1+1) 0)=false/\c.frozen? (U (b.1.size+1+1) 1)=false):=O (fun c h=>⟨⟨V h (by omega) b0,V h (by omega) b1,V h (by omega) cA,V h (by omega) cB,V h (by omega) r0,V h (by omega) r1⟩,bF h (by omega) (bh _ 0 (by omega) (by omega)),bF h (by omega) (bh _ 1 (by omega) (by omega))⟩);have bE:=O (fun c=>(Qu c N u K B g r).mono (fun t Q e=>(⟨e.1,by rw[e.2];exact(aS.alloc aT _).alloc (by simp) _⟩:t=aD (.bool ((u:Int)== 1))/\J c Q)));have dW:=O (fun c=>(Z7 c C j sc co cn cc).mono (fun t Q e=>(⟨e.1,by rw[e.2];exact aS.alloc aT _⟩:t=aD (G j)/\J c Q)));have b5:=O (fun c=>(Jo c C j sc co cn cc).mono (fun t Q e=>(⟨e.1,by rw[e.2];exact(aS.alloc aT _).alloc (by simp) _⟩:t=aD (.bool ((j:Int)== 0))/\J c Q)));have bZ:Hid (∀c,J b c->Calls prog 251 #[aK C j sc co cn cc,aC 252] c fun t Q=>t=aD (.bool (a.cells.any negB))/\J c Q):=O (fun c h=>(Jjf P c c aS 252 #[] negB (Jkw c) C j sc co cn cc a.cells (bt.below h) bQ.few).mono (fun t Q e=>⟨e.1,by rw[e.2];exact aS.alloc aT _⟩));have dR:Hid (∀c x,J b c->b.1.size+1+1<c.1.size->Calls prog 263 #[aK N u K B g r,G x] c fun t Q=>∃bg D bf,t=aD (aK N u K bg D bf)/\IsArr (fun d=>P d/\d≠b.1.size) Q (aK N u K bg D bf) ⟨d.shape,List.replicate d.cells.length x⟩/\J c Q):=O (fun c x h bn=>N8 (fun d=>P d/\d≠b.1.size) c (fun d e=>⟨bM d (by omega),by omega⟩) N u K B g r d ((dO.imp (fun d en eX=>⟨en,by omega⟩)).below h) bR.few x);have o:=O cg;clear cA cB b0 b1 r0 r1 bh cg bo bM f bN cd bt bQ bR cp bS;change Hid _ at af aq bm ad ap cz cy cr;obtain⟨⟨d2,d3,ev,ew,eB,eC⟩,ez,eA⟩:=Z A aS;go_enter func207,ntmps207;go_wp2_with fail;clear d2 d3 ev ew eB eC ez eA;rename_i Q' KT hKT K1 hK1 K0 hK0;have b6:∀{R F z dw dH dI dJ cC cD cE cF cG cH cI cJ cK cL cM cN cO cP cQ cR cS cT cU cV cW cX cY cZ c2 c6 c7 c8 c9 da db dc dd de df dg dh di dj dk dl dm dn dp dq dr ds dt du dv dx dy dz dA dB dC dD dE dF dG:Value} {X:World} (bg:Option Addr) (D bf:Nat) (ts:List Int),Hid (TailF b X P B g r bg D bf ts bs)->Hid (W=Ny ts bs)->KT ⟨#[R,F,aJ b.1.size 0,aJ (b.1.size+1) 0,aJ (b.1.size+1+1) 0,z,dw,dH,dI,dJ,cC,cD,cE,cF,cG,cH,cI,cJ,cK,cL,cM,cN,cO,cP,cQ,cR,cS,cT,cU,cV,cW,cX,cY,cZ,c2,c6,c7,c8,c9,da,db,dc,dd,de,df,dg,dh,di,dj,dk,dl,dm,dn,dp,dq,dr,ds,dt,du,dv,dx,dy,dz,dA,dB,dC,dD,dE,dF,dG],[]⟩ X:=by
  clear hK1 hK0;intro R F z dw dH dI dJ cC cD cE cF cG cH cI cJ cK cL cM cN cO cP cQ cR cS cT cU cV cW cX cY cZ c2 c6 c7 c8 c9 da db dc dd de df dg dh di dj dk dl dm dn dp dq dr ds dt du dv dx dy dz dA dB dC dD dE dF dG X bg D bf ts q b4;refine hKT _ _ ?_;clear hKT;have c1:=q.a1;have bn:=q.lt;have eY:b.1.size<X.1.size:=by omega
  have el:b.1.size+1<X.1.size:=by omega
  obtain⟨eJ,bP⟩:=q.nums;have bv:=Je bP;have ac:D=g:=by rw[bv,q.len,ad]
  have dT:=O bP;have eO:D<=200:=by omega
  clear bP ac;change Hid _ at bv;go_wp2_with fail;go_loopw [6,46] (fun eE bU wr=>∃(k:Nat) (L:List Int),bU=G k/\k<=D/\L.length<=64/\Qe (ts.drop k) (bs.drop k) L=Qe ts bs []/\wr.ownsRow X.1.size 2 1 eE L.length (L.map (Value.int .i64))/\J X wr) (fun _ bU _=>D-(intOf bU).toNat)
  .exact ⟨0,[],rfl,ZL _,by simp,rfl,NW _ _ _ _,FQ _ _⟩
  obtain⟨k,L,rfl,eS,eM,br,bz,ao⟩:=hrel;have aY:=O ao;obtain⟨fe,vc,rfl,e3,-⟩:=Zm bz;have b1:=V ao el q.b1;have r0:=V ao bn q.r0;have r1:=V ao bn q.r1;have q0:=bF ao bn q.q0;have q1:=bF ao bn q.q1;have e9:=ao.size;clear ao;change Hid _ at bz br;by_cases ek:k<D
  .have bw:k<ts.length:=by rw[<-bv];exact ek
   have bO:k<bs.length:=by rw[<-q.len];exact bw
   obtain⟨fb,fc,rfl,cv,cw,-⟩:=dT.at bw;obtain⟨b7,d4,eg,ch,ci,cj⟩:=(I bW X q.below).at bO;have d5:=V aY cv cw;have b8:=V aY ch ci;have ar:=Jm0 (L:=L) bw bO;have cu:=q.pos _ (ND bw);obtain⟨bB,bA⟩:=nm (ts[k]);obtain⟨bq,cx⟩:=nm (bs[k]);rw[bA]at d5 ar cu;rw[cx]at b8 ar;have eU:(k:Int)<(D:Int):=by omega
   have eT:(0:Int)<=(k:Int):=by omega
   have eV:k<g:=by rw[ad];exact bO
   have eR:g<=r:=by rw[ad];exact cj
   subst eg;have e5:IntKind.i64.wrap (64-(L.length:Int))=64-(L.length:Int):=Jg (by omega) (by omega);have eh:b7<wr.1.size:=by omega
   clear cw ci bA cx cj cv ch;by_cases ck:64-(L.length:Int)<bB
   .rw [FY ck]at ar;have i:W=(eArr,9):=by
     rw[b4];unfold Ny;rw[<-br,ar]
    clear ar;subst i;have an:=O ((I q).below.trans (aY.mono q.below.size));go_wp2_with fail;refine FR (by simp[results,PH,go_sem,r0,r1]) rfl ⟨_,_,_,_,_,_,rfl,Jt _ _,?_⟩;exact(an.setCell (p:=U (b.1.size+1+1) 0) (by show b.1.size<=b.1.size+1+1;omega) _).setCell (p:=U (b.1.size+1+1) 1) (by show b.1.size<=b.1.size+1+1;omega) _
   rw[FU ck]at ar;obtain⟨n,rfl⟩:∃n:Nat,bB=n:=⟨bB.toNat,by omega⟩;have eZ:L.length+n<=64:=by omega
   have dY:=O ar;have dX:=O (Nq (fun _=>True) wr (fun _ _=>trivial) b7 (d4+k) (r-k) bq n (by omega) b8 eh);have eW:((k:Int)+1<=(r:Int)):=by omega
   clear ar cu;go_wp2_with fail;refine dX.mono ?_;rintro t aW ⟨d9,rfl,cs,f⟩;have ax:=O ((I aY).trans (f.mono aY.size));have b2:=O (Jf bz f);have bo:=f.size;clear f;change Hid _ at cs;go_wp2_with (at_builtin;refine JA _ rfl _ _ 32 rfl X.1.size 2 eu (G 0) 1 8 ZP cr cy cz dZ rfl (by decide) _ _ _ rfl b2 ⟨d9,0,none⟩ n n (List.replicate n (G bq)) rfl (by simp) (Juw cs) Jux ?c3 ?c4 ?c5 ?_)
   case c3=>unfold maxLen;omega
   case c4=>omega
   case c5=>omega
   intro eD y ct cq _;have Y:=O ((I ax).grown cq (by omega) (fun ey eo=>(b2.lt ey eo).1));have dV:Hid (y.ownsRow X.1.size 2 1 eD (L++List.replicate n bq).length ((L++List.replicate n bq).map (Value.int .i64))):=O (by
    rw[NU,Mr,JD,YI];exact ct)
   clear ct cq;go_wp2_with fail;go_roundw
   .exact ⟨k+1,L++List.replicate n bq,by go_num,by omega,by simp;omega,by rw[<-br];exact dY.symm,dV,Y⟩
   simp[intOf];omega
  have ej:k=D:=by omega
  have cm:=Jri (ts:=ts) (bs:=bs) (L:=L) (k:=k) (by rw[ej,bv];exact FP _);have i:W=(⟨[L.length],L⟩,0):=by
   rw[b4];unfold Ny;rw[<-br,cm]
  subst i;clear cm;have an:=O ((I q).below.trans (aY.mono q.below.size));have bE:=O (Vb (fun d=>P d/\d≠b.1.size+1+1) wr (fun d e=>⟨b3 d (by omega),by omega⟩) _ L (Jv bz (fun d e=>⟨b3 d (by omega),by omega⟩)));go_wp2_with fail;refine bE.mono ?_;rintro t aW ⟨au,av,aw,bc,bd,be,rfl,ca,f⟩;have dK:=O ca;have b9:=V f (by omega) r0;have bH:=V f (by omega) r1;have ea:=bF f (by omega) q0;have bJ:=bF f (by omega) q1;have ax:=O ((I an).trans (f.mono an.size));have bo:=f.size;have e4:b.1.size+1+1<aW.1.size:=by omega
  clear ca f r0 r1 q0 q1;go_wp2_with fail;refine FR (v:=.tuple #[aK au av aw bc bd be,G 0]) (by simp[results,PH,go_sem,b9,bH]) rfl ⟨_,_,_,_,_,_,rfl,?_,?_⟩
  .exact ((dK.set (fun e=>e.2 rfl) 0 _).set (fun e=>e.2 rfl) 1 _).imp (fun d e _=>e.1)
  exact(ax.setCell (p:=U (b.1.size+1+1) 0) (by show b.1.size<=b.1.size+1+1;omega) _).setCell (p:=U (b.1.size+1+1) 1) (by show b.1.size<=b.1.size+1+1;omega) _
 clear hKT
 (try rw[H])
 clear H;refine aR (I bE _) fun aW f=>?_;obtain⟨⟨R,F,aX,ak,S,z⟩,al,am⟩:=Z aW f;have ax:=O f;have bo:=f.size;have n1:b.1.size<aW.1.size:=by omega
 have n2:b.1.size+1<aW.1.size:=by omega
 have n3:b.1.size+1+1<aW.1.size:=by omega
 clear f;by_cases ag:u=1
 .have ep:((u:Int)== 1)=true:=by rw[ag];rfl
  change Hid _ at ag;go_wp2_with fail;refine aR (I dW _) fun l ce=>?_;have bu:=ax.trans (ce.mono ax.size);obtain⟨⟨a7,au,av,aw,ah,ai⟩,a8,a9⟩:=Z l bu;have ba:=O bu;have e8:=bu.size;have a4:b.1.size<l.1.size:=by omega
  have a5:b.1.size+1<l.1.size:=by omega
  have a6:b.1.size+1+1<l.1.size:=by omega
  have an:=O ((I o).trans (ba.mono o.size));clear R F aX ak S z al am ce bu n1 n2 n3;by_cases bx:1<j
  .have i:W=(eArr,5):=by
    rw[<-af];unfold Gk;rw[FY (NO (by rw[<-aU];exact bx))]
   subst i;have em:(1:Int)<(j:Int):=by omega
   clear bx;go_wp2_with fail;refine FR (by simp[results,PH,go_sem,ah,ai]) rfl ⟨_,_,_,_,_,_,rfl,Jt _ _,?_⟩;exact(an.setCell (p:=U (b.1.size+1+1) 0) (by show b.1.size<=b.1.size+1+1;omega) _).setCell (p:=U (b.1.size+1+1) 1) (by show b.1.size<=b.1.size+1+1;omega) _
  have em:¬ (1:Int)<(j:Int):=by omega
  by_cases ae:j=1
  .have e0:((j:Int)== 1)=true:=by rw[ae];rfl
   have e1:((j:Int)== 0)=false:=by rw[ae];rfl
   have bJ:b.1.size<l.1.size+1:=by omega
   have bK:b.1.size<l.1.size+1+1:=by omega
   have bL:b.1.size<l.1.size+1+1+1:=by omega
   have eb:b.1.size+1<l.1.size+1:=by omega
   have ec:b.1.size+1<l.1.size+1+1:=by omega
   have ed:b.1.size+1<l.1.size+1+1+1:=by omega
   clear bx;change Hid _ at ae;go_wp2_with fail;go_region_with (first|(go_at_call 255;refine aQ (Qu _ _ _ _ _ _ _) ?_)| (go_at_call 156;refine aQ (Y0 _ _ _ _ _ _ _) ?_))
   all_goals
    clear bJ bK bL eb ec ed;obtain⟨y,aV⟩:=nm (((((l.alloc (.cells (aL C j sc co cn cc) 89)).alloc (.cells (aL C j sc co cn cc) 89)).alloc (.cells (aL C j sc co cn cc) 89)).alloc (.cells (aL N u K B g r) 89)).drew);have bi:J l y:=by rw[<-aV];exact(((((FQ l.1.size l).alloc aT _).alloc (by simp) _).alloc (by simp;omega) _).alloc (by simp;omega) _).drew
    rw[aV];clear aV;have aa:=ba.trans (bi.mono ba.size);obtain⟨⟨R,F,aX,ak,S,z⟩,al,am⟩:=Z y aa;have Y:=O aa;have er:=aa.size;have n1:b.1.size<y.1.size:=by omega
    have n2:b.1.size+1<y.1.size:=by omega
    have n3:b.1.size+1+1<y.1.size:=by omega
    have bX:=O ((I o).trans (Y.mono o.size));have bb:=O (I bZ y bX);clear bi aa a7 au av aw ah ai a8 a9 a4 a5 a6;by_cases ac:cn=g
    .have ei:((cn:Int) != (g:Int))=false:=by rw[ac];simp
     change Hid _ at ac;go_wp2_with fail;refine aR bb fun aj bj=>?_;have ab:=Y.trans (bj.mono Y.size);obtain⟨⟨a7,au,av,aw,ah,ai⟩,a8,a9⟩:=Z aj ab;have ay:=O ab;have es:=ab.size;have a4:b.1.size<aj.1.size:=by omega
     have a5:b.1.size+1<aj.1.size:=by omega
     have a6:b.1.size+1+1<aj.1.size:=by omega
     have bD:=O ((I o).trans (ay.mono o.size));clear bj ab R F aX ak S z al am n1 n2 n3 bb;cases hany:a.cells.any negB
     .have i:W=Ny a.cells bs:=by
       rw[<-af];unfold Gk;rw[FU (by rw[<-aq,ag,<-aU,ae];omega),FU (by rw[<-bm,ac,ad,ap];simp),FU (by rw[hany];decide),FU (by rw[<-aU,ae];decide),ap]
      change Hid _ at hany i;go_wp2_with fail;refine aR (I b5 _) fun s bl=>?_;have T:=ay.trans (bl.mono ay.size);obtain⟨⟨R,F,aX,ak,S,z⟩,al,am⟩:=Z s T;have et:=T.size;have az:=O ((I o).trans (T.mono o.size));have bG:Hid (TailF b s P B g r co cn cc a.cells bs):=O ⟨az,by omega,F,ak,S,z,al,am,⟨_,bV s az⟩,by rw[<-bm,ac,ad],negs hany⟩;clear bl T a7 au av aw ah ai a8 a9 a4 a5 a6;go_wp2_with fail;exact b6 co cn cc a.cells bG i
     have i:W=(eArr,7):=by
      rw[<-af];unfold Gk;rw[FU (by rw[<-aq,ag,<-aU,ae];omega),FU (by rw[<-bm,ac,ad,ap];simp),FY hany]
     subst i;clear hany;go_wp2_with fail;refine FR (by simp[results,PH,go_sem,ah,ai]) rfl ⟨_,_,_,_,_,_,rfl,Jt _ _,?_⟩;exact(bD.setCell (p:=U (b.1.size+1+1) 0) (by show b.1.size<=b.1.size+1+1;omega) _).setCell (p:=U (b.1.size+1+1) 1) (by show b.1.size<=b.1.size+1+1;omega) _
    have ei:((cn:Int) != (g:Int))=true:=by simp;omega
    have i:W=(eArr,6):=by
     rw[<-af];unfold Gk;rw[FU (by rw[<-aq,ag,<-aU,ae];omega),FY ⟨by rw[<-aU,ae],by rw[<-bm,ap,<-ad];exact ac⟩]
    subst i;clear ac;go_wp2_with fail;refine FR (by simp[results,PH,go_sem,S,z]) rfl ⟨_,_,_,_,_,_,rfl,Jt _ _,?_⟩;exact(bX.setCell (p:=U (b.1.size+1+1) 0) (by show b.1.size<=b.1.size+1+1;omega) _).setCell (p:=U (b.1.size+1+1) 1) (by show b.1.size<=b.1.size+1+1;omega) _
  have ee:j=0:=by omega
  subst ee;clear bx ae;have aZ:=aU.symm;go_wp2_with fail;go_region_with (first|(go_at_call 255;refine aQ (Qu _ _ _ _ _ _ _) ?_)| (go_at_call 156;refine aQ (Y0 _ _ _ _ _ _ _) ?_))
  all_goals
   obtain⟨y,aV⟩:=nm (((l.alloc (.cells (aL C 0 sc co cn cc) 89)).alloc (.cells (aL C 0 sc co cn cc) 89)).drew);have bi:J l y:=by rw[<-aV];exact(((FQ l.1.size l).alloc aT _).alloc (by simp) _).drew
   rw[aV];clear aV;have aa:=ba.trans (bi.mono ba.size);obtain⟨⟨R,F,aX,ak,S,z⟩,al,am⟩:=Z y aa;have Y:=O aa;have er:=aa.size;have n1:b.1.size<y.1.size:=by omega
   have n2:b.1.size+1<y.1.size:=by omega
   have n3:b.1.size+1+1<y.1.size:=by omega
   have bb:=O (I bZ y (o.trans (Y.mono o.size)));clear bi aa a7 au av aw ah ai a8 a9 a4 a5 a6;go_wp2_with fail;refine aR bb fun aj bj=>?_;have ab:=Y.trans (bj.mono Y.size);obtain⟨⟨a7,au,av,aw,ah,ai⟩,a8,a9⟩:=Z aj ab;have ay:=O ab;have es:=ab.size;have a4:b.1.size<aj.1.size:=by omega
   have a5:b.1.size+1<aj.1.size:=by omega
   have a6:b.1.size+1+1<aj.1.size:=by omega
   have bD:=O ((I o).trans (ay.mono o.size));clear bj ab R F aX ak S z al am n1 n2 n3 bb;cases hany:a.cells.any negB
   .change Hid _ at hany;go_wp2_with fail;refine aR (I b5 _) fun s bl=>?_;have T:=ay.trans (bl.mono ay.size);obtain⟨⟨R,F,aX,ak,S,z⟩,al,am⟩:=Z s T;obtain⟨eH,eI⟩:=dS s T;have dN:=O T;have et:=T.size;have n1:b.1.size<s.1.size:=by omega
    have n2:b.1.size+1<s.1.size:=by omega
    have n3:b.1.size+1+1<s.1.size:=by omega
    have az:=O ((I o).trans (dN.mono o.size));obtain⟨x,eF,eG,bT,rfl,rfl,-,e7,e6,eQ⟩:=Yv (I bV s az) dM (NK aZ);have bY:=O (I dR s.drew x az.drew n3);have eP:(0:Int)<((1:Nat):Int):=by decide
    clear bl T a7 au av aw ah ai a8 a9 a4 a5 a6;change Hid _ at bT;have i:W=Ny (List.replicate bs.length x) bs:=by
     rw[<-af];unfold Gk;rw[FU (by rw[<-aq,ag,aZ];omega),FU (by rw[aZ];omega),FU (by rw[hany];decide),FY aZ,ap,bT];rfl
    have eq:=negs hany x (by rw[bT];simp);rw[ap]at bY;change Hid _ at i;go_wp2_with fail;have dQ:Hid (∀m,Below s.drew.1.size s.drew m->(m.cell? (U b.1.size 0)=some (E C 0 sc)/\m.cell? (U b.1.size 1)=some (aI eF eG 1 cc)/\m.cell? (U (b.1.size+1) 1)=some (E B g r)/\m.cell? (U (b.1.size+1+1) 0)=some aH/\m.cell? (U (b.1.size+1+1) 1)=some aH)/\(m.frozen? (U b.1.size 0)=false/\m.frozen? (U b.1.size 1)=false/\m.frozen? (U (b.1.size+1+1) 0)=false/\m.frozen? (U (b.1.size+1+1) 1)=false)/\J b m/\b.1.size<m.1.size/\b.1.size+1+1<m.1.size):=O (fun m h=>by
     have hd:J s m:=(FQ s.1.size s).drew.trans h;have:=hd.size;exact⟨⟨V hd n1 R,V hd n1 F,V hd n2 ak,V hd n3 S,V hd n3 z⟩,⟨bF hd n1 eH,bF hd n1 eI,bF hd n3 al,bF hd n3 am⟩,az.trans (hd.mono az.size),by omega,by omega⟩)
    go_region_with (go_at_call 263;(refine bY.mono ?_;rintro t m ⟨bc,bd,be,rfl,cb,cf⟩;have dL:=O cb;obtain⟨⟨b9,bH,bI,d7,d8⟩,⟨ea,bJ,bK,bL⟩,cl,fa,ex⟩:=dQ m cf;have dP:=O cl;clear cb cf cl))
    all_goals
     have bG:Hid (TailF b ((m.setCell (U b.1.size 0) (E N u K)).setCell (U b.1.size 1) (E bc bd be)) P B g r bc bd be (List.replicate bs.length x) bs):=O (Jtu _ dP ex bH bI d7 d8 bK bL (J8 dL) (by simp) (by intro bB bA;rw[(YQ.1 bA).2];exact eq));exact b6 bc bd be _ bG i
   have i:W=(eArr,7):=by
    rw[<-af];unfold Gk;rw[FU (by rw[<-aq,ag,aZ];omega),FU (by rw[aZ];omega),FY hany]
   subst i;clear hany;go_wp2_with fail;refine FR (by simp[results,PH,go_sem,ah,ai]) rfl ⟨_,_,_,_,_,_,rfl,Jt _ _,?_⟩;exact(bD.setCell (p:=U (b.1.size+1+1) 0) (by show b.1.size<=b.1.size+1+1;omega) _).setCell (p:=U (b.1.size+1+1) 1) (by show b.1.size<=b.1.size+1+1;omega) _
 have ep:((u:Int)== 1)=false:=by
  rw[NT];omega
 have i:W=(eArr,5):=by
  rw[<-af];unfold Gk;rw[FY (NN (by rw[<-aq];exact ag))]
 subst i;clear ag;have an:=O ((I o).trans (ax.mono o.size));go_wp2_with fail;refine FR (by simp[results,PH,go_sem,S,z]) rfl ⟨_,_,_,_,_,_,rfl,Jt _ _,?_⟩;exact(an.setCell (p:=U (b.1.size+1+1) 0) (by show b.1.size<=b.1.size+1+1;omega) _).setCell (p:=U (b.1.size+1+1) 1) (by show b.1.size<=b.1.size+1+1;omega) _
theorem Jg3:∀(ts bs acc cs:List Int),Qe ts bs acc=some cs->acc.length<=64->(∀t ∈ ts,0<=t)->cs.length<=64
 | [],_,acc,cs,h,ha,_=>by simp only[Qe]at h;injection h with h;rw[<-h];exact ha
 | _::_,[],acc,cs,h,ha,_=>by simp only[Qe]at h;injection h with h;rw[<-h];exact ha
 | t::ts,b::bs,acc,cs,h,ha,hp=>by
  simp only[Qe]at h;split at h
  .cases h
  have:=hp t (List.mem_cons_self ..);exact Jg3 ts bs _ cs h (by simp;omega) (fun t ht=>hp t (M7 _ ht))
theorem Jg2:∀(ts bs acc cs:List Int),Qe ts bs acc=some cs->∀c ∈ cs,c ∈ acc\/c ∈ bs
 | [],_,acc,cs,h=>by simp only[Qe]at h;injection h with h;rw[<-h];exact fun c hc=>NN hc
 | _::_,[],acc,cs,h=>by simp only[Qe]at h;injection h with h;rw[<-h];exact fun c hc=>NN hc
 | t::ts,b::bs,acc,cs,h=>by
  simp only[Qe]at h;split at h
  .cases h
  intro c hc;rcases Jg2 ts bs _ cs h c hc with h1|h1
  .rcases ZK.1 h1 with h2|h2
   .exact NN h2
   exact NO (by rw[(YQ.1 h2).2];exact List.mem_cons_self ..)
  exact NO (M7 _ h1)
theorem Jwe(hb:∀c ∈ bs,Jk c)(hp:∀t ∈ ts,0<=t):(Ny ts bs).1.cells.length<=200/\((Ny ts bs).2=0->(Ny ts bs).1.ok):=by
 unfold Ny;cases a:Qe ts bs []with
 | none=>exact⟨by simp[eArr],fun a=>absurd a (by decide)⟩
 | some cs =>
  have:=Jg3 ts bs [] cs a (by simp) hp;have d:=Jg2 ts bs [] cs a;exact⟨by simp;omega,fun _=>⟨by simp,by simp;omega,by simp[Jd],by simp;omega,fun c b=>by
   rcases d c b with h1|h1
   .cases h1
   exact hb c h1⟩⟩
theorem Jwa:TwoC ⟨#[107,101,101,112]⟩ Gk:=⟨fun w=>(Q6 (t:=⟨#[107,101,101,112]⟩) (k1:=.string [101,101,112]) (k2:=.string [107,101,101,112]) (f:=207) (by decide) (by kernel_rfl) (by kernel_rfl) (by kernel_rfl) (by kernel_rfl) (by kernel_rfl) w).mono (by rintro e w' ⟨rfl,hb⟩;exact⟨207,#[],rfl,KH,hb,J0b w'⟩),fun a b ha hb=>by
 unfold Gk;split
 .exact ⟨by simp[eArr],fun h=>absurd h (by decide)⟩
 split
 .exact ⟨by simp[eArr],fun h=>absurd h (by decide)⟩
 split
 .exact ⟨by simp[eArr],fun h=>absurd h (by decide)⟩
 rename_i h1 h2 h3;have h4:a.cells.any negB=false:=by simpa using h3
 have c:=negs h4;refine Jwe hb.fits ?_;split
 .rename_i h6;intro t g;rw[(YQ.1 g).2];have:=ha.size;rw[NK h6]at this;simp[Jd]at this;obtain⟨x,d⟩:=Mq.1 this;rw[d];exact c x (by rw[d];simp)
 exact c⟩
end Go.Proofs.YtjobgpahajhbnaaGreatDoor
