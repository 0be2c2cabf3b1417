import Derived.Test.YtjobgpahajhbnaaGreatDoorKc
namespace Go.Proofs.YtjobgpahajhbnaaGreatDoor
open Go.RowKit Go.Proofs Go.Maps Go.Proofs.Tryz
attribute [local go_sem ↓] Go.wp_at_zero Go.wp_at_succ
set_option linter.all false
set_option maxHeartbeats 4000000
set_option maxRecDepth 20000
variable {P Q:Nat->Prop} {c2 cc cn gb i k la sc sn:Nat} {co so:Option Addr} {cs:List Arr} {f:Arr->Arr->Arr × Int} {w':World} {xs:List Int}
theorem KO:Enters prog 204:=NF func204 (by decide) rfl
def Jq:List Nat->Nat
 | []=>0
 | [x]=>x
 | _::y::l=>Jq (y::l)
theorem Yi:∀{l:List Nat},l.length≠0->l=l.dropLast++[Jq l]
 | [],h=>absurd rfl h
 | [x],_=>rfl
 | x::y::l,_=>by
  have:=Yi (l:=y::l) (by simp);show x::y::l=x::((y::l).dropLast++[Jq (y::l)]);rw[<-this]
def catC(xs ys:List Int)(la lb n:Nat):List Int:=((List.range n).map (fun i=>Vq xs la i++Vq ys lb i)).flatten
def Jhu(A B:Arr):List Nat:=A.shape.dropLast++[Jq A.shape+Jq B.shape]
def catR(A B:Arr):Arr × Int:=if A.shape.length≠B.shape.length then(eArr,5)else if A.shape.dropLast≠B.shape.dropLast then(eArr,6)else if Yb (Jhu A B)=false then(eArr,9)else(⟨Jhu A B,catC A.cells B.cells (Jq A.shape) (Jq B.shape) (Jd A.shape.dropLast)⟩,0)
def catP(a b:Arr):Arr × Int:=catR (Zl a) (Zl b)
theorem Xz(a):(Zl a).shape.length≠0:=by
 unfold Zl;split
 .simp [Kk]
 assumption
theorem Jhv(xs ys)(la lb n):catC xs ys la lb (n+1)=catC xs ys la lb n++(Vq xs la n++Vq ys lb n):=by
 unfold catC;rw[ZZ,NU,JY];simp
theorem Jgy(h:(i+1)*la<=xs.length):(Vq xs la i).length=la:=by
 unfold Vq;rw[ZG,YA]at h;simp;omega
theorem Jfc{xs ys:List Int}{la lb:Nat}:∀{n:Nat},n*la<=xs.length->n*lb<=ys.length->(catC xs ys la lb n).length=n*(la+lb)
 | 0,_,_=>by simp[catC]
 | n+1,h1,h2=>by
  have a1:=NE (NR _ (ZO _)) h1;have a2:=NE (NR _ (ZO _)) h2;rw[Jhv,JD,JD,Jfc a1 a2,Jgy h1,Jgy h2,ZG n 1,YA]
theorem St.setAB{W w:World}{so2:Option Addr}{sn2 sc2:Nat}{co2:Option Addr}{cn2 cc2:Nat}{a b:Arr}(h:St W P w so sn sc co cn cc so2 sn2 sc2 co2 cn2 cc2 a b){s1:Option Addr}{s2 s3:Nat}{c1:Option Addr}{c3:Nat}{t1:Option Addr}{t2 t3:Nat}{d1:Option Addr}{d2 d3:Nat}{A B:Arr}(hA:IsArr (Off3 W.1.size P) w (aK s1 s2 s3 c1 c2 c3) A)(hB:IsArr (Off3 W.1.size P) w (aK t1 t2 t3 d1 d2 d3) B):St W P ((((w.setCell (U W.1.size 0) (E s1 s2 s3)).setCell (U W.1.size 1) (E c1 c2 c3)).setCell (U (W.1.size+1) 0) (E t1 t2 t3)).setCell (U (W.1.size+1) 1) (E d1 d2 d3)) s1 s2 s3 c1 c2 c3 t1 t2 t3 d1 d2 d3 A B:=by
 have c:¬ Off3 W.1.size P W.1.size:=by
  rintro⟨_,h|h⟩<;>omega
 exact(h.setA hA).setB ((hB.set c 0 _).set c 1 _)
theorem V8{w:World}{a:Arr}(h:IsArr P w (aK so sn sc co cn cc) a):Nums P w (E so sn sc) (a.shape.map Int.ofNat):=by
 obtain⟨k,j,i,f,e,d,b,c,g⟩:=h;injection b with b;simp at b;obtain⟨⟨rfl,rfl,rfl⟩,rfl,rfl,rfl⟩:=b;exact c
theorem Nn{w:World}(h:Nums P w (E so sn sc) xs)(h0:sn≠0):∃b off,so=some (U b off):=by
 have:=Je h;obtain⟨f,g,e,_,c,_⟩:=h;obtain⟨b,off,d,_⟩:=c (by omega);injection e with a i j;exact⟨b,off,a.trans d⟩
theorem Jua(l)(x y:Nat):((l++[x]).map Int.ofNat).set l.length (y:Int)=(l++[y]).map Int.ofNat:=by
 rw[NU,NU,MG _ _ (by simp)];simp
theorem Jx5{w:World}{o0 o1 o2:Option Addr}{n0 c0 n1 c1 n2:Nat}{x0 x1 x2:List Int}{e:TypeId}(h0:Nums Q w (E o0 n0 c0) x0)(h1:Nums Q w (E o1 n1 c1) x1)(h2:Nums Q w (E o2 n2 c2) x2):Jj0 Q (w.alloc (.cells #[E o0 n0 c0,E o1 n1 c1,E o2 n2 c2] e)) w.1.size [x0,x1,x2]:=by
 have a:J w (w.alloc (.cells #[E o0 n0 c0,E o1 n1 c1,E o2 n2 c2] e)):=aS.alloc aT _;intro i b;match i,b with
 | 0,_=>exact⟨o0,n0,c0,alA,h0.below a⟩
 | 1,_=>exact⟨o1,n1,c1,alA,h1.below a⟩
 | 2,_=>exact⟨o2,n2,c2,alA,h2.below a⟩
 | i+3,b=>exact absurd b (by simp)
theorem Jhf{d:List Nat}{l:Nat}(h:Yb (d++[l])=true):Jd d*l<=64:=by
 unfold Yb at h;rw[ZJ]at h;have:=h.2;rw[Ji,J7]at this;simpa using this
theorem J2t(w):FnTwo 204 #[] w catP:=by
 intro W P ea v a b _ bD dd u cJ cK;obtain⟨so,sn,sc,co,cn,cc,rfl,cu,cv⟩:=dd;obtain⟨b2,bZ,bY,bx,bw,bv,rfl,cw,ax⟩:=u;have q:=St.start (P:=P) (W:=W) (a:=a) (b:=b) ⟨so,sn,sc,co,cn,cc,rfl,cu,cv⟩ ⟨b2,bZ,bY,bx,bw,bv,rfl,cw,ax⟩;obtain⟨aw,bE⟩:=nm (((W.alloc (.cells (aL so sn sc co cn cc) 89)).alloc (.cells (aL b2 bZ bY bx bw bv) 89)).alloc (.cells aF 89));rw[bE]at q;have bu:=O q;have a6:Hid (∀w':World,W.1.size+1+1<w'.1.size->∀b,w'.1.size<=b->Off3 W.1.size P b):=O (fun w' h b u=>⟨bD b (by omega),.inr (by omega)⟩);have ak:=O (Fv (Off3 W.1.size P) aw.drew (I a6 aw.drew (q.keep aS.drew).lt) so sn sc co cn cc a (q.keep aS.drew).isA);have al:=O (fun w' (u:J aw w')=>Fv (Off3 W.1.size P) w' (I a6 w' (q.keep u).lt) b2 bZ bY bx bw bv b (q.keep u).isB);have dy:=O bD;have ac:=O (X1 cJ);have au:=O (X1 cK);have bp:=O (Xz a);have bq:=O (Xz b);unfold catP;obtain⟨f,ck⟩:=nm (Zl a);obtain⟨m,cm⟩:=nm (Zl b);simp only[ck]at ak ac bp⊢;simp only[cm]at al au bq⊢;obtain⟨bX,bT⟩:=nm (catR f m);simp only[bT];have a7:=O bT;have A:=q.a0;have B:=q.a1;have s:=q.b0;have t:=q.b1;have du:=q.fr W.1.size 0 (by omega) (by omega);have dv:=q.fr W.1.size 1 (by omega) (by omega);have dw:=q.fr (W.1.size+1) 0 (by omega) (by omega);have dx:=q.fr (W.1.size+1) 1 (by omega) (by omega);have n3:=q.lt;have n1:W.1.size<aw.1.size:=by omega
 have n2:W.1.size+1<aw.1.size:=by omega
 clear bD cJ cK cu cv cw ax bT q ck cm;go_enter func204,ntmps204;go_upto_region 1 with fail;try rw[bE]
 clear bE;go_cut [5]from 10 to 13 (fun C i=>C=G 0/\∃ap e x c1 c2 ad aq y z d1 X Y,St W P i ap e x c1 c2 ad aq y z d1 X Y f m)
 case first =>
  go_region_with (first|(go_at_call 254;with_reducible refine(I ak).mono ?_;rintro j bg ⟨ap,e,x,c1,c2,ad,rfl,D,L⟩;have r:=(Jw L);have d:=(I bu).keep r;have S:=d.a0;have T:=d.a1;have cO:=d.b0;have cP:=d.b1;have ay:=d.fr W.1.size 0 (by omega) (by omega);have az:=d.fr W.1.size 1 (by omega) (by omega);have aU:=d.fr (W.1.size+1) 0 (by omega) (by omega);have aV:=d.fr (W.1.size+1) 1 (by omega) (by omega);have aj:=d.lt;have ah:W.1.size<bg.1.size:=(by omega);have ai:W.1.size+1<bg.1.size:=(by omega);have av:=O d;have i:=O r;have ag:=O L;have H:=O D;clear d r L D)| (go_at_call 254;with_reducible refine(I al _ (I i)).mono ?_;rintro j a5 ⟨aq,y,z,d1,X,Y,rfl,F,N⟩;have C:=((I i).trans (N.mono (I i).size));have g:=(I bu).keep C;have Z:=g.a0;have aa:=g.a1;have ab:=g.b0;have ae:=g.b1;have aW:=g.fr W.1.size 0 (by omega) (by omega);have aX:=g.fr W.1.size 1 (by omega) (by omega);have aY:=g.fr (W.1.size+1) 0 (by omega) (by omega);have aZ:=g.fr (W.1.size+1) 1 (by omega) (by omega);have ar:=g.lt;have an:W.1.size<a5.1.size:=(by omega);have ao:W.1.size+1<a5.1.size:=(by omega);have am:=O g;have af:=O C;have R:=O N;have K:=O F;clear g C N F))
  all_goals go_wp2_with fail
  all_goals go_meet
  all_goals
   refine⟨rfl,ap,e,x,c1,c2,ad,aq,y,z,d1,X,Y,?_⟩;exact(I am).setAB ((I H).below (I R)) (I K)
 case rest =>
  obtain⟨rfl,ap,e,x,c1,c2,ad,aq,y,z,d1,X,Y,d⟩:=hcut;clear A B s t du dv dw dx n1 n2 n3 ak al bu;have bc:=(Jb d.isA).2;have bd:=(Jb d.isB).2;have dY:e<=3:=by rw[bc];exact(I ac).rank
  have dZ:y<=3:=by rw[bd];exact(I au).rank
  have cL:e≠0:=by rw[bc];exact I bp
  have d2:y≠0:=by rw[bd];exact I bq
  have av:=O bc;have am:=O bd;have cg:=O d;have A:=d.a0;have B:=d.a1;have n3:=d.lt;have n1:W.1.size<wc.1.size:=by omega
  have n2:W.1.size+1<wc.1.size:=by omega
  obtain⟨k,cF⟩:=nm (e-1);have dO:k<=2:=by omega
  have d3:IntKind.i64.wrap ((e:Int)-1)=(k:Int):=by
   have j:(e:Int)-1=(k:Int):=by omega
   rw[j];exact Jg (by omega) (by omega)
  have bt:Hid (∀w',Calls prog 221 #[aK ap e x c1 c2 ad] w' fun j af=>j=aD (G e)/\J w' af):=O (fun w'=>(Z7 w' ap e x c1 c2 ad).mono (fun j af h=>⟨h.1,by rw[h.2];exact aS.alloc aT _⟩));have cf:Hid (∀w',Calls prog 221 #[aK aq y z d1 X Y] w' fun j af=>j=aD (G y)/\J w' af):=O (fun w'=>(Z7 w' aq y z d1 X Y).mono (fun j af h=>⟨h.1,by rw[h.2];exact aS.alloc aT _⟩));have bo:=O cF;clear d bc bd cF;go_wp2_with fail;refine aR (I bt _) fun b3 ax=>?_;have d:=(I cg).keep ax;clear A B n1 n2 n3;have A:=d.a0;have B:=d.a1;have s:=d.b0;have t:=d.b1;have n3:=d.lt;have n1:W.1.size<b3.1.size:=by omega
  have n2:W.1.size+1<b3.1.size:=by omega
  have c7:=O d;clear d ax cg;go_upto_region 3 with fail;go_cut [21]from 17 to 20 (fun g i=>g=.bool ((e:Int) != (y:Int))/\J b3 i)
  case first =>
   go_region_with (first|(go_at_call 221;with_reducible refine aR (I bt _) fun bg L=>?_;have C:=(Jw L);have R:=O C;have S:=V C n1 A;have T:=V C n1 B;have cO:=V C n2 s;have cP:=V C n2 t;clear L C)| (go_at_call 221;with_reducible refine aR (I cf _) fun a5 N=>?_;have g:=((I R).trans (N.mono (I R).size));have ai:=O g;have Z:=V g n1 A;have aa:=V g n1 B;have ab:=V g n2 s;have ae:=V g n2 t;clear N g))
   all_goals go_wp2_with fail
   all_goals go_meet
   all_goals first|exact⟨rfl,I ai⟩| exact⟨rfl,I R⟩| trace_state
  case rest =>
   obtain⟨rfl,de⟩:=hcut;have d:=(I c7).keep de;clear A B s t n1 n2 n3 bt cf;have A:=d.a0;have B:=d.a1;have s:=d.b0;have t:=d.b1;have ag:=d.r0;have ah:=d.r1;have bh:=d.fr (W.1.size+1+1) 0 (by omega) (by omega);have bi:=d.fr (W.1.size+1+1) 1 (by omega) (by omega);have n3:=d.lt;rename World=>w3;have ch:=O d;have aj:=O d.below;by_cases ae:e=y
   .subst ae;have dj:((e:Int) != (e:Int))=false:=by simp
    have n1:W.1.size<w3.1.size:=by omega
    have n2:W.1.size+1<w3.1.size:=by omega
    have aY:=V8 d.isA;have be:=V8 d.isB;obtain⟨cQ,cR,dk⟩:=Nn aY cL;subst dk;obtain⟨ds,dt,dl⟩:=Nn be cL;subst dl;have dD:=Zp aY;have dE:=Zp be;have aV:=Yi (l:=f.shape) (I bp);have aW:=Yi (l:=m.shape) (I bq);obtain⟨g,bJ⟩:=nm f.shape.dropLast;obtain⟨la,bO⟩:=nm (Jq f.shape);obtain⟨K,bK⟩:=nm m.shape.dropLast;obtain⟨lb,bP⟩:=nm (Jq m.shape);rw[bJ,bO]at aV;rw[bK,bP]at aW;have cG:k=g.length:=by have an:=I bo;have ao:=I av;rw[aV]at ao;simp at ao;omega
    have cH:k=K.length:=by have an:=I bo;have ao:=I am;rw[aW]at ao;simp at ao;omega
    have dT:k+1=e:=by have an:=I bo;omega
    have dL:(0:Int)<=(k:Int):=by omega
    have dM:(k:Int)<=(x:Int):=by omega
    have dN:(k:Int)<=(z:Int):=by omega
    have dP:k<=x:=by omega
    have dQ:k<=z:=by omega
    have cb:Hid (∀w',J w3 w'->Calls prog 256 #[aI cQ cR k x,aI ds dt k z] w' fun j af=>j=aD (.bool (g == K))/\J w' af):=O (fun w' u=>by
     refine J2n (Q:=Off3 W.1.size P) (Q':=Off3 W.1.size P) w' _ k x _ z g K ?_ ?_ (by omega)
     .have:=J1 (aY.below u) (k:=k) (by omega);rw[aV,NU,Mm (by simp;omega),NJ (by simp;omega)]at this;exact this
     .have:=J1 (be.below u) (k:=k) (by omega);rw[aW,NU,Mm (by simp;omega),NJ (by simp;omega)]at this;exact this)
    have F:=O (Pa aV (Pa bJ bO));have ab:=O (Pa aW (Pa bK bP));have H:=O (Pa cG cH);have dA:=O aY;clear aV aW bJ bK bO bP cG cH aY be d;obtain⟨b7,cp⟩:=nm (!(g == K));have bm:=O cp;clear cp;go_upto_region 5 with fail;go_cut [32]from 21 to 31 (fun r i=>r=.bool b7/\J w3 i)
    case first =>
     go_region_with (go_at_call 256;refine aR (I cb _ aS.drew) fun C i=>?_;have r:=O (Jw i);clear i)
     all_goals go_wp2_with fail
     all_goals go_meet
     all_goals exact⟨by rw[<-I bm],I r⟩
    case rest =>
     obtain⟨rfl,cx⟩:=hcut;have d:=(I ch).keep cx;clear A B s t ag ah bh bi n1 n2 n3 cb aj ch;have A:=d.a0;have B:=d.a1;have s:=d.b0;have t:=d.b1;have ag:=d.r0;have ah:=d.r1;have bh:=d.fr (W.1.size+1+1) 0 (by omega) (by omega);have bi:=d.fr (W.1.size+1+1) 1 (by omega) (by omega);have n3:=d.lt;rename World=>w4;have n1:W.1.size<w4.1.size:=by omega
     have n2:W.1.size+1<w4.1.size:=by omega
     have a8:=O d;have aj:=O d.below;have bB:=V8 d.isA;clear d cx;cases b7
     .have aX:g=K:=by simpa using I bm
      have ca:=O aX;have cl:(f.shape.map Int.ofNat).length<=200:=by have:=(I ac).rank;simp;omega
      have b8:=O (Jhp w4 (some (U cQ cR)) e x (f.shape.map Int.ofNat) bB cl (by omega));clear aX bB cl;go_wp2_with fail;refine(I b8).mono ?_;rintro j cS ⟨Z,T,rfl,D,bG⟩;have d:=(I a8).keep bG;clear A B s t ag ah bh bi n1 n2 n3 b8;have dX:k<e:=by omega
      have cE:=(D.lt Z rfl).1;have bM:=(D.lt Z rfl).2;have cz:cS.cell? (U Z k)=some (G la):=by
       rw[D.cellAt k (by omega),(I F).1,(I H).1];simp
      have cC:=D.frozenAt k;have ae:=(fun(w':World) (h:w'.ownsRow w4.1.size 3 1 (aI Z 0 e T) e ((f.shape.map Int.ofNat).map (Value.int .i64)))=>(h.stored k (G ((la+lb:Nat):Int))).1);have cd:=O (fun w' u=>Fw w' _ e z d1 X Y m (d.isB.below u) K lb (I ab).1 (by have:=(I H).2;omega));have dV:=(I ac).lens la (by rw[(I F).1];simp);have dW:=(I au).lens lb (by rw[(I ab).1];simp);have dG:(0:Int)<=(k:Int):=by omega
      have dH:(k:Int)<(e:Int):=by omega
      obtain⟨r,bN⟩:=nm (la+lb);rw[bN]at ae;have d4:IntKind.i64.wrap ((la:Int)+(lb:Int))=(r:Int):=by
       have j:(la:Int)+(lb:Int)=(r:Int):=by omega
       rw[j];exact Jg (by omega) (by omega)
      have s:=d.b0;have t:=d.b1;have n3:=d.lt;have n2:W.1.size+1<cS.1.size:=by omega
      have c8:=O d;have ce:=O D;have ci:=O ae;have bl:=O bG;have br:=O bN;have dh:=O cE;clear d D ae bG bN cE;go_upto_region 8 with fail;go_cut [5]from 37 to 44 (fun C i=>C=G 0/\i.ownsRow w4.1.size 3 1 (aI Z 0 e T) e (((f.shape.map Int.ofNat).map (Value.int .i64)).set k (G (r:Int)))/\J w4 i)
      case first =>
       go_region_with (go_at_call 234;refine aR (I cd _ aS.drew) fun ar ay=>?_;have i:=Jw ay;have C:=O i;have L:=V i bM cz;have N:=bF i bM cC;have R:=i.size;clear ay i)
       all_goals go_wp2_with fail
       all_goals go_meet
       all_goals exact⟨rfl,I ci _ (Jf (I ce) (I C)),((I bl).trans ((I C).mono (I bl).size)).setCell (p:=U Z k) (I dh) _⟩
      case rest =>
       obtain⟨rfl,D,ay⟩:=hcut;rename World=>ar;have d:=(I a8).keep ay;clear s t n2 n3 cC cz bM ci bl c8 ce cd;have cI:((f.shape.map Int.ofNat).map (Value.int .i64)).set k (G (r:Int))=((g++[r]).map Int.ofNat).map (Value.int .i64):=by
        rw[(I F).1,(I H).1,<-Jua g la r,Pq]
       rw[cI]at D;have n3:=d.lt;have dp:=(I a8).lt;have aZ:=Jv (P:=Off3 W.1.size P) D (I a6 w4 dp);have bz:Lens (g++[r]):=⟨by have an:=(I H).1;simp;omega,fun n i=>by
        rcases ZK.1 i with h|h
        .have:=(I ac).lens n (by rw[(I F).1];exact List.mem_append_left _ h);omega
        .have an:=I br;simp at h;omega⟩
       have bA:Lens g:=⟨by have an:=(I H).1;omega,fun n i=>bz.lens n (List.mem_append_left _ i)⟩;have bn:=O (Jbh ar _ e T (g++[r]) aZ bz);have dF:=Zp aZ;have dR:(k:Int)<=(T:Int):=by omega
       have dS:k<=T:=by omega
       have b9:Hid (Calls prog 225 #[aI Z 0 k T] ar fun j w'=>j=aD (G (Jd g))/\w'=ar):=O (by
        refine F3 (Q:=Off3 W.1.size P) ar _ k T g ?_ bA;have:=J1 aZ (k:=k) (by omega);rw[NU,Mm (by simp;have:=(I H).1;omega),NJ (by simp;have:=(I H).1;omega)]at this;exact this)
       have dc:=bA.prod;have bH:f.cells.length=Jd g*la:=by rw[(I ac).size,(I F).1,Ji,J7]
       have bI:m.cells.length=Jd g*lb:=by rw[(I au).size,(I ab).1,Ji,J7,I ca]
       obtain⟨bj,a9⟩:=nm (Yb (g++[r]));rw[a9]at bn;obtain⟨S,ba⟩:=nm (Jd g);have bb:bX=if bj=false then(eArr,9)else(⟨g++[r],catC f.cells m.cells la lb S⟩,0):=by
        rw[<-I a7];unfold catR Jhu;rw[FU (by rw[<-I av,<-I am];simp),(I F).2.1,(I ab).2.1,FU (by simpa using I ca),(I F).2.2,(I ab).2.2,I br,a9,ba]
       have cM:bj=true->S*r<=64:=fun h=>by rw[<-ba];exact Jhf (a9.trans h)
       rw[ba]at b9 dc bH bI;have ag:=d.r0;have ah:=d.r1;have bh:=d.fr (W.1.size+1+1) 0 (by omega) (by omega);have bi:=d.fr (W.1.size+1+1) 1 (by omega) (by omega);have aj:=O d.below;have c9:=O d;have da:=O aZ;have cj:=O cM;have cV:=O bH;have cW:=O bI;clear D cI aZ bz bA a9 ba cM bH bI d a8 ay a7;cases bj
       .rw [FY rfl]at bb;subst bb;go_wp2_with (go_at_call 222;refine aR (I bn) fun w' aa=>?_;have a4:=aa.symm;subst a4;clear aa);exact FR (by simp[results,results204,go_sem,ag,ah]) rfl ⟨_,_,_,_,_,_,rfl,Jt _ _,(Ke (P:=P) (I aj) (Jt _ _)).2⟩
       .rw [FU (by decide)]at bb;subst bb;have ct:=I cj rfl;have c6:=O ct;clear ct cj;go_wp2_with (first|(go_at_call 222;refine aR (I bn) fun w' aa=>?_;have a4:=aa.symm;subst a4;clear aa)| (go_at_call 225;refine aR (I b9) fun w' aa=>?_;have a4:=aa.symm;subst a4;clear aa));go_loopw [8,53] (fun L C wr=>∃(i:Nat) (o:Option Addr) (n c:Nat),C=G i/\i<=S/\L=E o n c/\Nums (Off3 W.1.size P) wr (E o n c) (catC f.cells m.cells la lb i)/\J ar wr) (fun _ C _=>S-(intOf C).toNat)
        case atStart=>exact⟨0,none,0,0,rfl,by omega,rfl,Ym _ _,FQ _ _⟩
        case round =>
         obtain⟨i,o,n,c,rfl,dI,rfl,aU,az⟩:=hrel;have d:=(I c9).keep az;by_cases bQ:i<S
         .have bR:(i+1)*la<=f.cells.length:=by rw[I cV];exact NR _ bQ
          have bS:(i+1)*lb<=m.cells.length:=by rw[I cW];exact NR _ bQ
          have cD:=Jfc (xs:=f.cells) (ys:=m.cells) (la:=la) (lb:=lb) (n:=i+1) bR bS;have di:(i+1)*(la+lb)<=S*r:=by rw[I br];exact NR _ bQ
          have db:=I c6;have cA:g.length<=3:=by have:=(I H).1;omega
          have cB:K.length<=3:=by have:=(I H).2;omega
          have df:=(I ac).few;have dg:=(I au).few;have ak:=O (Jh2 wr.drew _ e x c1 c2 ad f (d.isA.below aS.drew) g la (I F).1 cA i bR (by omega) (by omega) (by omega));have al:=O (fun w' u=>Jh2 w' _ e z d1 X Y m (d.isB.below u) K lb (I ab).1 cB i bS (by omega) (by omega) (by omega));obtain⟨b4,bU⟩:=nm (Vq f.cells la i);obtain⟨b5,bV⟩:=nm (Vq m.cells lb i);obtain⟨b6,bW⟩:=nm (catC f.cells m.cells la lb i);have bf:=Jhv f.cells m.cells la lb i;rw[bU,bV,bW]at bf;rw[bW]at aU;rw[bU]at ak;rw[bV]at al;have dz:=O bf;have bL:[b6,b4,b5].flatten=catC f.cells m.cells la lb (i+1):=by rw[bf];simp
          have cY:=O bL;have cZ:Hid ([b6,b4,b5].flatten.length<=1000):=O (by rw[bL,cD];omega);have A:=d.a0;have B:=d.a1;have s:=d.b0;have t:=d.b1;have dn:=d.lt;have d5:W.1.size<wr.1.size:=by omega
          have cN:W.1.size+1<wr.1.size:=by omega
          have cX:=O aU;have cU:=O az;have dJ:(0:Int)<=(i:Int):=by omega
          have dK:(i:Int)<(S:Int):=by omega
          clear bR bS cD di db bU bV bW bf bL d aU az cA cB df dg;go_wp2_with fail;go_region_with (first|(go_at_call 257;with_reducible refine(I ak).mono ?_;rintro j bg ⟨d8,d6,dB,rfl,cq,L⟩;have C:=Jw L;have R:=O C;have c3:=O cq;have cO:=V C cN s;have cP:=V C cN t;clear L C cq)| (go_at_call 257;with_reducible refine(I al _ (I R)).mono ?_;rintro j a5 ⟨d9,d7,dC,rfl,cr,N⟩;have ai:=O N;have c4:=O cr;clear N cr)| (go_at_call 253;refine(Jni (Off3 W.1.size P) (Q:=Off3 W.1.size P) _ (I a6 _ (by have an:=(I ai).size;have ao:=(I R).size;simp;omega)) a5.1.size 3 3 [b6,b4,b5] rfl (by decide) (by simp) (Jx5 (((I cX).below (I R)).below (I ai)) ((I c3).below (I ai)) (I c4)) (I cZ)).mono ?_;rintro j eb ⟨dr,dq,dm,rfl,cs,cy⟩;have c5:=O cs;have cT:=O (Kw (Kw (Kw (I cU) (I R)) (I ai)) (Kw (aS.alloc aT _) cy));clear cs cy))
          all_goals
           go_wp2_with fail;go_roundw
           case rel=>exact⟨i+1,dr,dq,dm,by go_num,by omega,rfl,by rw[<-I cY];exact I c5,I cT⟩
           case measure=>simp[intOf];omega
         .have R:i=S:=by omega
          subst R;have N:=(I da).below az;have C:Hid (IsArr (Off3 W.1.size P) wr (.agg #[aI Z 0 e T,E o n c]) ⟨g++[r],catC f.cells m.cells la lb i⟩):=O ⟨_,_,_,_,_,_,rfl,N,aU⟩;have ai:=d.r0;have a5:=d.r1;have bf:=d.fr (W.1.size+1+1) 0 (by omega) (by omega);have bg:=d.fr (W.1.size+1+1) 1 (by omega) (by omega);have dn:=d.lt;have L:=O d.below;clear d N aU az;go_wp2_with fail;exact FR (by simp[results,results204,go_sem,ai,a5]) rfl ⟨_,_,_,_,_,_,rfl,(Ke (I L) (I C)).1,(Ke (I L) (I C)).2⟩
     .have aX:¬ g=K:=by simpa using I bm
      have i:bX=(eArr,6):=by
       rw[<-I a7];unfold catR;rw[FU (by rw[<-I av,<-I am];simp),FY (by rw[(I F).2.1,(I ab).2.1];exact aX)]
      subst i;clear aX bB;go_wp2_with fail;exact FR (by simp[results,results204,go_sem,ag,ah]) rfl ⟨_,_,_,_,_,_,rfl,Jt _ _,(Ke (P:=P) (I aj) (Jt _ _)).2⟩
   .have dj:((e:Int) != (y:Int))=true:=by simp;omega
    have i:bX=(eArr,5):=by
     rw[<-I a7];unfold catR;rw[FY (by rw[<-I av,<-I am];exact ae)]
    subst i;clear ae d;go_wp2_with fail;exact FR (by simp[results,results204,go_sem,ag,ah]) rfl ⟨_,_,_,_,_,_,rfl,Jt _ _,(Ke (P:=P) (I aj) (Jt _ _)).2⟩
theorem J0y:TwoC ⟨#[99,97,116]⟩ catP:=⟨fun w=>(Q6 (t:=⟨#[99,97,116]⟩) (k1:=.string [97,116]) (k2:=.string [99,97,116]) (f:=204) (by decide) (by kernel_rfl) (by kernel_rfl) (by kernel_rfl) (by kernel_rfl) (by kernel_rfl) w).mono (by rintro e w' ⟨rfl,hb⟩;exact⟨204,#[],rfl,KO,hb,J2t w'⟩),fun a b ha hb=>by
 have hA:=X1 ha;have hB:=X1 hb;have kA:=Xz a;have kB:=Xz b;unfold catP;generalize Zl a=A at hA kA⊢;generalize Zl b=B at hB kB⊢;unfold catR;split
 .exact ⟨by simp[eArr],fun h=>absurd h (by decide)⟩
 split
 .exact ⟨by simp[eArr],fun h=>absurd h (by decide)⟩
 split
 .exact ⟨by simp[eArr],fun h=>absurd h (by decide)⟩
 rename_i h1 h2 h3;have h3':Yb (Jhu A B)=true:=by simpa using h3
 have g:A.shape.dropLast=B.shape.dropLast:=by simpa using h2
 have q:=Jhf h3';have o:A.cells.length=Jd A.shape.dropLast*Jq A.shape:=by
  rw[hA.size];have:=NM Jd (Yi kA);rw[Ji,J7]at this;exact this
 have p:B.cells.length=Jd A.shape.dropLast*Jq B.shape:=by
  rw[hB.size,g];have:=NM Jd (Yi kB);rw[Ji,J7]at this;exact this
 have j:=Jfc (xs:=A.cells) (ys:=B.cells) (la:=Jq A.shape) (lb:=Jq B.shape) (n:=Jd A.shape.dropLast) (by omega) (by omega);refine⟨by show(catC _ _ _ _ _).length<=200;omega,fun _=>⟨?_,?_,?_,by show(catC _ _ _ _ _).length<=200;omega,?_⟩⟩
 .have:=hA.rank;simp[Jhu];omega
 .intro n d;unfold Yb at h3';rw[ZJ]at h3';have:=YL.1 h3'.1 n d;have:n<=64:=by simpa using this
  omega
 .show (catC _ _ _ _ _).length=Jd (Jhu A B);rw[j];unfold Jhu;rw[Ji,J7]
 intro c d;unfold catC at d;obtain⟨l,k,m⟩:=Pn.1 d;obtain⟨i,_,rfl⟩:=NZ.1 k;rcases ZK.1 m with h|h
 .exact hA.fits c (ZX (ZM h))
 exact hB.fits c (ZX (ZM h))⟩
def colC(xs:List Int)(n i r:Nat):List Int:=(List.range r).map fun j=>xs.getD (i+j*n) 0
def col(b:Arr)(i:Nat):Arr:=⟨b.shape.dropLast,colC b.cells (Jq b.shape) i (Jd b.shape.dropLast)⟩
def cols(b:Arr):List Arr:=(List.range (Jq b.shape)).map (col b)
theorem F8(xs)(n i r):(colC xs n i r).length=r:=by simp[colC]
theorem Jsu(xs)(n i r):colC xs n i (r+1)=colC xs n i r++[xs.getD (i+r*n) 0]:=by
 simp[colC,ZZ]
theorem Gf(b):(cols b).length=Jq b.shape:=by simp[cols]
theorem J0t{b:Arr}(h:i<(cols b).length):(cols b)[i]=col b i:=by simp[cols]
theorem K7{b:Arr}(h:b.ok)(hr:b.shape.length≠0):b.cells.length=Jd b.shape.dropLast*Jq b.shape:=by
 rw[h.size];grind[Yi,Ji,J7]
theorem Jk6{b:Arr}(h:b.ok)(hr:b.shape.length≠0)(hn:0<Jq b.shape):Jd b.shape.dropLast<=b.cells.length:=by
 simp_all[K7,JW]
theorem J2r{b:Arr}(h:b.ok)(hr:b.shape.length≠0)(hn:0<Jq b.shape)(i):(col b i).ok:=by
 refine⟨by have:=h.rank;grind[col],fun n hn=>h.lens n (PM _ hn),by simp[col,F8],?_,?_⟩
 .have:=Jk6 h hr hn;have:=h.few;simp[col,F8];omega
 intro c a;simp only[col,colC,NZ]at a;obtain⟨d,_,rfl⟩:=a;rw[NC];cases hg:b.cells[i+d*Jq b.shape]? with
 | none=>simp[Jk]
 | some v=>exact h.fits v (M8 hg)
def Jn(f:Arr->Arr->Arr × Int):List Arr->Arr × Int
 | []=>(eArr,0)
 | c::r=>if r=[]then(c,0)else if(Jn f r).2≠0 then(eArr,(Jn f r).2)else if(f c (Jn f r).1).2≠0 then(eArr,(f c (Jn f r).1).2)else f c (Jn f r).1
theorem F9(f)(c):Jn f [c]=(c,0):=by simp[Jn]
theorem Jae{c:Arr}{r:List Arr}(hr:r≠[])(h0:(Jn f r).2=0):Jn f (c::r)=if(f c (Jn f r).1).2≠0 then(eArr,(f c (Jn f r).1).2)else f c (Jn f r).1:=by
 simp_all[Jn]
theorem Jht{f:Arr->Arr->Arr × Int}{e:Int}(he:e≠0):∀{p r:List Arr},r≠[]->Jn f r=(eArr,e)->Jn f (p++r)=(eArr,e)
 | [],r,_,h=>h
 | c::p,r,hr,h=>by
  have:=Jht (p:=p) he hr h;simp_all[Jn]
structure Evens (f:Arr->Arr->Arr × Int):Prop where
 ok:∀ a b,a.ok->b.ok->(f a b).2=0->(f a b).1.ok
 shape:∀ a b,a.ok->b.ok->a.shape=b.shape->(f a b).2=0->(f a b).1.shape=a.shape
theorem Jbk{f:Arr->Arr->Arr × Int}(hf:Evens f){sh:List Nat}:∀{l:List Arr},l≠[]->(∀c ∈ l,c.ok/\c.shape=sh)->(Jn f l).2=0->(Jn f l).1.ok/\(Jn f l).1.shape=sh
 | [],h,_,_=>absurd rfl h
 | c::r,_,hl,h0=>by
  by_cases hr:r=[]
  .simp_all [F9]
  have hc:=hl c (by simp);by_cases h1:(Jn f r).2=0
  .have ih:=Jbk hf hr (fun d hd=>hl d (by simp[hd])) h1;rw[Jae hr h1]at h0⊢;by_cases h2:(f c (Jn f r).1).2=0
   .rw [FU (by simp[h2])];exact⟨hf.ok _ _ hc.1 ih.1 h2,(hf.shape _ _ hc.1 ih.1 (hc.2.trans ih.2.symm) h2).trans hc.2⟩
   simp_all
  simp_all[Jn]
theorem Jjq{l:List Arr}(h:(Jn f l).2≠0):(Jn f l).1=eArr:=by
 cases l with
 | nil=>rfl
 | cons c r =>
  rw[Jn]at h⊢;grind
def Zw(f:Arr->Arr->Arr × Int)(z:Int)(b:Arr):Arr × Int :=
 if b.shape.length=0 then(b,0)else if Yb b.shape.dropLast=false then(eArr,9)
 else if Jq b.shape=0 then(⟨b.shape.dropLast,List.replicate (Jd b.shape.dropLast) z⟩,0)else Jn f (cols b)
def Vk(f:Arr->Arr->Arr × Int)(cs:List Arr):Nat->Int
 | 0=>0
 | k+1=>if Vk f cs k≠0 then Vk f cs k else(Jn f (cs.take (k+1))).2
def V1(f:Arr->Arr->Arr × Int)(cs:List Arr)(m n k:Nat):List Int:=(List.range (m*n)).map fun p=>if p % n<k then(Jn f (cs.take (p % n+1))).1.cells.getD (p / n) 0 else 0
def Z1(f:Arr->Arr->Arr × Int)(b:Arr):Arr × Int :=
 if b.shape.length=0 then(b,0)else if Vk f (cols b) (Jq b.shape)≠0 then(eArr,Vk f (cols b) (Jq b.shape))
 else(⟨b.shape,V1 f (cols b) (Jd b.shape.dropLast) (Jq b.shape) (Jq b.shape)⟩,0)
theorem Jfb{b:Arr}(h:b.ok)(hr:b.shape.length≠0):∀c ∈ cols b,c.ok/\c.shape=b.shape.dropLast:=by
 intro c a;simp only[cols,NZ,MX]at a;obtain⟨i,d,rfl⟩:=a;exact⟨J2r h hr (by omega) i,rfl⟩
theorem J0g(hf:Evens f){z:Int}(hz:Jk z){b:Arr}(h:b.ok):(Zw f z b).1.cells.length<=200/\((Zw f z b).2=0->(Zw f z b).1.ok):=by
 unfold Zw;by_cases a:b.shape.length=0
 .rw [FY a];exact⟨h.few,fun _=>h⟩
 rw[FU a];by_cases i:Yb b.shape.dropLast=false
 .simp_all [eArr]
 rw[FU i];have g:Yb b.shape.dropLast=true:=by simpa using i
 unfold Yb at g;simp only[ZJ,JM,YL]at g;by_cases d:Jq b.shape=0
 .rw [FY d];refine⟨by simp;omega,fun _=>⟨by have:=h.rank;simp;omega,fun n e=>by have:=g.1 n e;omega,by simp,by simp;omega,?_⟩⟩;intro c e;rw[List.eq_of_mem_replicate e];exact hz
 rw[FU d];have j:cols b≠[]:=by
  intro e;have:=Gf b;rw[e]at this;exact d this.symm
 by_cases e:(Jn f (cols b)).2=0
 .have:=(Jbk hf j (Jfb h a) e).1;exact⟨this.few,fun _=>this⟩
 rw[Jjq e];exact⟨by simp[eArr],fun h=>absurd h e⟩
theorem Jdd{f:Arr->Arr->Arr × Int}{cs:List Arr}:∀{k:Nat},Vk f cs k=0->∀i,i<k->(Jn f (cs.take (i+1))).2=0
 | 0,_,i,hi=>absurd hi (by omega)
 | k+1,h,i,hi=>by
  unfold Vk at h;by_cases h0:Vk f cs k=0
  .rw [FU (by simp[h0])]at h;by_cases hk:i=k
   .simp_all
   exact Jdd h0 i (by omega)
  omega
theorem Jbx{f:Arr->Arr->Arr × Int}{cs:List Arr}{k:Nat}(h:Vk f cs k≠0):∀{n:Nat},k<=n->Vk f cs n=Vk f cs k
 | 0,hn=>by
  simp_all
 | n+1,hn=>by
  by_cases hk:k=n+1
  .subst hk;rfl
  have:=Jbx h (n:=n) (by omega);simp[Vk];omega
theorem Gs{b:Arr}(h:b.ok)(hr:b.shape.length≠0):∀c ∈ (cols b).take k,c.ok/\c.shape=b.shape.dropLast:=fun c hc=>Jfb h hr c (ZM hc)
theorem Jy7(hf:Evens f){b:Arr}(h:b.ok):(Z1 f b).1.cells.length<=200/\((Z1 f b).2=0->(Z1 f b).1.ok):=by
 unfold Z1;by_cases a:b.shape.length=0
 .rw [FY a];exact⟨h.few,fun _=>h⟩
 rw[FU a];by_cases i:Vk f (cols b) (Jq b.shape)=0
 .rw [FU (by simp[i])];have p:=K7 h a;have g:(V1 f (cols b) (Jd b.shape.dropLast) (Jq b.shape) (Jq b.shape)).length=b.cells.length:=by simp[V1,p]
  refine⟨by rw[g];exact h.few,fun _=>⟨h.rank,h.lens,by rw[g];exact h.size,by rw[g];exact h.few,?_⟩⟩;intro c j;simp only[V1,NZ,MX]at j;obtain⟨d,q,rfl⟩:=j;have n:0<Jq b.shape:=by
   rcases ZB (Jq b.shape)with e|e
   .simp_all
   exact e
  have k:=YR d n;rw[FY k];have l:=Jdd i _ k;have o:(cols b).take (d % Jq b.shape+1)≠[]:=by
   intro e;have:=NM List.length e;rw[YD,Gf]at this;simp at this;omega
  have m:=(Jbk hf o (Gs h a) l).1;rw[NC];cases hg:(Jn f ((cols b).take (d % Jq b.shape+1))).1.cells[d / Jq b.shape]? with
  | none=>simp[Jk]
  | some v=>exact m.fits v (M8 hg)
 simp_all[eArr]
structure Bx (W w:World) (l:List (List Value)):Prop where
 below:J W w
 lt:W.1.size+l.length<=w.1.size
 cell:∀ q j v,(l[q]?.bind (·[j]?))=some v->w.cell? (U (W.1.size+q) j)=some v/\w.frozen? (U (W.1.size+q) j)=false
theorem Bx.nil(W):Bx W W []:=⟨FQ _ _,by simp,fun q j v h=>by simp at h⟩
theorem Bx.next{W w:World}{l:List (List Value)}(h:Bx W w l)(hb:J w w'):Bx W w' l:=by
 have f:=h.lt;have g:=hb.size;refine⟨h.below.trans (hb.mono h.below.size),by omega,fun c e v d=>?_⟩;have i:c<l.length:=by
  rcases YS c l.length with h|h
  .exact h
  simp_all
 obtain⟨a,b⟩:=h.cell c e v d;exact⟨V hb (by omega) a,bF hb (by omega) b⟩
theorem Bx.keep{W w:World}{l:List (List Value)}(h:Bx W w l)(hb:Below (W.1.size+l.length) w w'):Bx W w' l:=by
 have:=h.lt;have:=hb.size;refine⟨h.below.trans (hb.mono (by omega)),by omega,fun c e v d=>?_⟩;have:c<l.length:=by
  rcases YS c l.length with h|h
  .exact h
  simp_all
 obtain⟨a,b⟩:=h.cell c e v d;exact⟨V hb (by omega) a,bF hb (by omega) b⟩
theorem Bx.alloc{W w:World}{l:List (List Value)}(h:Bx W w l)(hs:w.1.size=W.1.size+l.length)(vs)(e):Bx W (w.alloc (.cells vs.toArray e)) (l++[vs]):=by
 refine⟨h.below.alloc h.below.size _,by simp;omega,fun d g v c=>?_⟩;by_cases i:d<l.length
 .rw [ZU i]at c;obtain⟨a,b⟩:=h.cell d g v c;have f:J w (w.alloc (.cells vs.toArray e)):=belA1;exact⟨V f (by omega) a,bF f (by omega) b⟩
 rw[ZA (by omega)]at c;have:d-l.length=0:=by
  rcases ZB (d-l.length)with e|e
  .exact e
  grind
 rw[this]at c;have c:vs[g]?=some v:=by simpa using c
 have f:W.1.size+d=w.1.size:=by omega
 rw[f];simp;omega
theorem Bx.set{W w:World}{l:List (List Value)}(h:Bx W w l)(q j)(u v)(hu:(l[q]?.bind (·[j]?))=some u):Bx W (w.setCell (U (W.1.size+q) j) v) (l.modify q (·.set j v)):=by
 have f:=(h.cell q j u hu).1;refine⟨h.below.setCell (by simp) _,by have:=h.lt;simp;omega,fun c a e b=>?_⟩;rw[NA];by_cases d:c=q/\a=j
 .obtain ⟨rfl,rfl⟩:=d;rw[List.getElem?_modify]at b;simp only[FY]at b;cases hl:l[c]? with
  | none=>simp_all
  | some x =>
   rw[hl]at b hu;have hu:x[a]?=some u:=by simpa using hu
   have g:a<x.length:=by
    rcases YS a x.length with h|h
    .exact h
    simp_all
   have b:v=e:=by simpa[g]using b
   subst b;exact⟨FW _ _ _ f,(h.cell c a u (by simp_all)).2⟩
 have g:(⟨W.1.size+c,a,none⟩:Addr)≠⟨W.1.size+q,j,none⟩:=fun b=>d (by injection b;omega);rw[FZ _ _ _ _ g.symm];refine h.cell c a e ?_;grind
def OffB(n k:Nat)(P:Nat->Prop)(b:Nat):Prop:=P b/\(b<n\/n+k<=b)
theorem OffB.new{n:Nat}(hP:∀b,n<=b->P b){b:Nat}(h:n+k<=b):OffB n k P b:=⟨hP b (by omega),NO h⟩
def Cols(Q:Nat->Prop)(w:World)(gb:Nat)(cs:List Arr):Prop:=∀i,(h:i<cs.length)->∃so sn sc co cn cc,w.cell? (U gb (i*2))=some (.slice so sn sc)/\w.cell? (U gb (i*2+1))=some (.slice co cn cc)/\IsArr Q w (aK so sn sc co cn cc) cs[i]
theorem Cols.below{w:World}(h:Cols Q w gb cs)(hg:gb<w.1.size)(hb:J w w'):Cols Q w' gb cs:=fun i hi=>by
 obtain⟨so,sn,sc,co,cn,cc,a,b,c⟩:=h i hi;exact⟨so,sn,sc,co,cn,cc,V hb hg a,V hb hg b,c.below hb⟩
theorem Cols.imp{w:World}(h:Cols P w gb cs)(hq:∀b,P b->b<w.1.size->Q b):Cols Q w gb cs:=fun i hi=>by
 obtain⟨so,sn,sc,co,cn,cc,a,b,c⟩:=h i hi;exact⟨so,sn,sc,co,cn,cc,a,b,c.imp hq⟩
theorem Cols.take{w:World}(h:Cols P w gb cs)(k):Cols P w gb (cs.take k):=fun i hi=>by
 have hi':i<cs.length:=by simp at hi;omega
 obtain⟨so,sn,sc,co,cn,cc,a,b,c⟩:=h i hi';grind
section
variable {W w:World} {a b c d:Value} {l m n o:List Value} {L:List (List Value)}
theorem Bx.a0(h:Bx W w ((a::l)::L)):w.cell? (U W.1.size 0)=some a:=(h.cell 0 0 _ rfl).1
theorem Bx.a1(h:Bx W w ((b::a::l)::L)):w.cell? (U W.1.size 1)=some a:=(h.cell 0 1 _ rfl).1
theorem Bx.a2(h:Bx W w ((c::b::a::l)::L)):w.cell? (U W.1.size 2)=some a:=(h.cell 0 2 _ rfl).1
theorem Bx.a3(h:Bx W w ((d::c::b::a::l)::L)):w.cell? (U W.1.size 3)=some a:=(h.cell 0 3 _ rfl).1
theorem Bx.A0(h:Bx W w ((a::l)::L)):w.frozen? (U W.1.size 0)=false:=(h.cell 0 0 _ rfl).2
theorem Bx.A1(h:Bx W w ((b::a::l)::L)):w.frozen? (U W.1.size 1)=false:=(h.cell 0 1 _ rfl).2
theorem Bx.b0(h:Bx W w (m::(a::l)::L)):w.cell? (U (W.1.size+1) 0)=some a:=(h.cell 1 0 _ rfl).1
theorem Bx.b1(h:Bx W w (m::(b::a::l)::L)):w.cell? (U (W.1.size+1) 1)=some a:=(h.cell 1 1 _ rfl).1
theorem Bx.B0(h:Bx W w (m::(a::l)::L)):w.frozen? (U (W.1.size+1) 0)=false:=(h.cell 1 0 _ rfl).2
theorem Bx.B1(h:Bx W w (m::(b::a::l)::L)):w.frozen? (U (W.1.size+1) 1)=false:=(h.cell 1 1 _ rfl).2
theorem Bx.c0(h:Bx W w (m::n::(a::l)::L)):w.cell? (U (W.1.size+1+1) 0)=some a:=(h.cell 2 0 _ rfl).1
theorem Bx.c1(h:Bx W w (m::n::(b::a::l)::L)):w.cell? (U (W.1.size+1+1) 1)=some a:=(h.cell 2 1 _ rfl).1
theorem Bx.C0(h:Bx W w (m::n::(a::l)::L)):w.frozen? (U (W.1.size+1+1) 0)=false:=(h.cell 2 0 _ rfl).2
theorem Bx.C1(h:Bx W w (m::n::(b::a::l)::L)):w.frozen? (U (W.1.size+1+1) 1)=false:=(h.cell 2 1 _ rfl).2
theorem Bx.d0(h:Bx W w (m::n::o::(a::l)::L)):w.cell? (U (W.1.size+1+1+1) 0)=some a:=(h.cell 3 0 _ rfl).1
theorem Bx.d1(h:Bx W w (m::n::o::(b::a::l)::L)):w.cell? (U (W.1.size+1+1+1) 1)=some a:=(h.cell 3 1 _ rfl).1
theorem Bx.D0(h:Bx W w (m::n::o::(a::l)::L)):w.frozen? (U (W.1.size+1+1+1) 0)=false:=(h.cell 3 0 _ rfl).2
theorem Bx.D1(h:Bx W w (m::n::o::(b::a::l)::L)):w.frozen? (U (W.1.size+1+1+1) 1)=false:=(h.cell 3 1 _ rfl).2
theorem Bx.n1(W)(l)(t):Bx W (W.alloc (.cells l.toArray t)) [l]:=(Bx.nil W).alloc (by simp) l t
theorem Bx.n2(W)(l m)(t s):Bx W ((W.alloc (.cells l.toArray t)).alloc (.cells m.toArray s)) [l,m]:=(Bx.n1 W l t).alloc (by simp) m s
theorem Bx.n3(W)(l m n)(t s r):Bx W (((W.alloc (.cells l.toArray t)).alloc (.cells m.toArray s)).alloc (.cells n.toArray r)) [l,m,n]:=(Bx.n2 W l m t s).alloc (by simp) n r
theorem Bx.n4(W)(l m n o)(t s r q):Bx W ((((W.alloc (.cells l.toArray t)).alloc (.cells m.toArray s)).alloc (.cells n.toArray r)).alloc (.cells o.toArray q)) [l,m,n,o]:=(Bx.n3 W l m n t s r).alloc (by simp) o q
end
theorem Jhs{f:Arr->Arr->Arr × Int}(hf:∀a b,a.ok->b.ok->(f a b).2=0->(f a b).1.ok):∀{l:List Arr},l≠[]->(∀c ∈ l,c.ok)->(Jn f l).2=0->(Jn f l).1.ok
 | [],h,_,_=>absurd rfl h
 | c::r,_,hl,h0=>by
  by_cases hr:r=[]
  .subst hr;rw[F9];exact hl c (by simp)
  by_cases h1:(Jn f r).2=0
  .have ih:=Jhs hf hr (fun d hd=>hl d (by simp[hd])) h1;rw[Jae hr h1]at h0⊢;by_cases h2:(f c (Jn f r).1).2=0
   .rw [FU (by simp[h2])];exact hf _ _ (hl c (by simp)) ih h2
   rw[FY h2]at h0;exact absurd h0 h2
  rw[Jn,FU hr,FY h1]at h0;exact absurd h0 h1
theorem Ze{W w:World}{q:Nat}{v u0 u1:Value}{a:Arr}(hb:J W w)(hq:q<k)(hA:IsArr (OffB W.1.size k P) w v a):IsArr P ((w.setCell (U (W.1.size+q) 0) u0).setCell (U (W.1.size+q) 1) u1) v a/\J W ((w.setCell (U (W.1.size+q) 0) u0).setCell (U (W.1.size+q) 1) u1):=by
 have d:¬ OffB W.1.size k P (W.1.size+q):=by
  rintro⟨_,c⟩;omega
 exact⟨((hA.set d 0 _).set d 1 _).imp (fun b c _=>c.1),(hb.setCell (p:=U (W.1.size+q) 0) (by show W.1.size<=W.1.size+q;omega) _).setCell (p:=U (W.1.size+q) 1) (by show W.1.size<=W.1.size+q;omega) _⟩
theorem Jct{g:Nat}(z)(hen:Enters prog g){w0:World}(hfn:FnTwo g #[] w0 f)(P)(W)(hW:J w0 W)(hP:∀b,W.1.size<=b->P b)(gb k cap)(cs)(hk:cs.length=k)(hk0:0<k)(hk2:k<=200)(hgb:gb<W.1.size)(hC:Cols P W gb cs)(hok:∀c ∈ cs,c.ok)(hev:∀a b,a.ok->b.ok->(f a b).2=0->(f a b).1.ok):
 Calls prog 226 #[.agg #[aC g,G z],aI gb 0 k cap] W fun e W'=>∃so sn sc co cn cc,e=aD (.tuple #[aK so sn sc co cn cc,G (Jn f cs).2])/\IsArr P W' (aK so sn sc co cn cc) (Jn f cs).1/\J W W':=by
 obtain⟨q,rfl⟩:∃q,k=q+1:=⟨k-1,by omega⟩;have az:=hC.imp (Q:=OffB W.1.size 3 P) (fun b aa bl=>⟨aa,NN bl⟩);obtain⟨so,sn,sc,co,cn,cc,bn,bo,a6⟩:=az q (by omega);have bx:∀args w,(callFunc g args).run prog w=.ok (.enter g args) w:=hen;have bH:(0:Int)<=(q:Int):=by omega
 have bI:(q:Int)<((q:Int)+1):=by omega
 clear hC hen;go_enter func226,ntmps226;go_wp2_with fail;have Y:=((Bx.nil W).alloc (by simp) [aC g,G z] 241).alloc (by simp) aG 89 |>.alloc (by simp) (aM so sn sc co cn cc) 89;have ac:=Y.below;obtain⟨br,ah⟩:=nm (((W.alloc (.cells #[aC g,G z] 241)).alloc (.cells aF 89)).alloc (.cells (aL so sn sc co cn cc) 89));have Y:Bx W br [[aC g,G z],aG,(aM so sn sc co cn cc)]:=by rw[<-ah];exact Y
 rw[ah]at ac⊢;have bd:=a6.below ac;clear ah ac a6 bn bo;go_loopw [8] (fun ak wr=>∃l:Nat,ak=G ((l:Int)-1)/\l<=q/\∃so sn sc co cn cc,Bx W wr [[aC g,G z],aG,(aM so sn sc co cn cc)]/\IsArr (OffB W.1.size 3 P) wr (aK so sn sc co cn cc) (Jn f (cs.drop l)).1/\(Jn f (cs.drop l)).2=0) (fun ak _=>(intOf ak+1).toNat)
 .have e:cs.drop q=[cs[q]'(by omega)]:=by
   rw[ZC (by omega),YP (by omega)]
  refine⟨q,rfl,by omega,so,sn,sc,co,cn,cc,Y,?_,?_⟩<;>rw[e,F9]
  exact bd
 obtain⟨l,rfl,bA,R,S,T,c1,c2,H,d,K,L⟩:=hrel;have n:=d;have be:=K;have ao:=L;have a7:=d.c0;have a8:=d.c1;have bB:W.1.size+1+1+1<=wr.1.size:=d.lt;by_cases aW:l=0
 .subst aW;have ai:=d.b0;have aj:=d.b1;have bh:=d.B0;have bi:=d.B1;have bm:¬ (0:Int)<=((0:Nat):Int)-1:=by omega
  clear d K L;go_wp2_with fail;have y:=Ze (q:=1) (u0:=E R S T) (u1:=E c1 c2 H) n.below (by decide) be;rw[Mi]at y ao;refine FR (v:=.tuple #[aK R S T c1 c2 H,G 0]) (by simp[results,results226,go_sem,ai,aj]) rfl ⟨R,S,T,c1,c2,H,by rw[ao],y.1,y.2⟩
 obtain⟨i,rfl⟩:∃i,l=i+1:=⟨l-1,by omega⟩;have aX:((i+1:Nat):Int)-1=(i:Int):=by omega
 rw[aX];obtain⟨a9,ba,bb,d1,aq,ar,a4,a5,ae⟩:=az i (by omega);have aY:cs[i]'(by omega) ∈ cs:=ND _;have ad:=hok _ aY;have af:=Jhs hev (by intro e;have:=NM List.length e;simp at this;omega) (fun c bj=>hok c (ZX bj)) L;have aV:cs.drop i=cs[i]'(by omega)::cs.drop (i+1):=ZC (by omega);have aZ:cs.drop (i+1)≠[]:=by intro e;have:=NM List.length e;simp at this;omega
 have h:=Jae (f:=f) (c:=cs[i]'(by omega)) aZ L;rw[<-aV]at h;have ap:∀w',J wr w'->w'.cell? (U W.1.size 0)=some (aC g)/\w'.cell? (U gb (i*2))=some (E a9 ba bb)/\w'.cell? (U gb (i*2+1))=some (E d1 aq ar)/\w'.cell? (U (W.1.size+1+1) 0)=some (E R S T)/\w'.cell? (U (W.1.size+1+1) 1)=some (E c1 c2 H):=fun w' x=>by
  have N:J W w':=n.below.trans (x.mono (by omega));have ab:=n.next x;exact⟨(ab.cell 0 0 _ rfl).1,V N hgb a4,V N hgb a5,(ab.cell 2 0 _ rfl).1,(ab.cell 2 1 _ rfl).1⟩
 obtain⟨D,aw⟩:=nm (cs[i]'(by omega));obtain⟨F,ay⟩:=nm ((Jn f (cs.drop (i+1))).1);rw[aw]at ae ad h;rw[ay]at K af h;have an:∀w',J wr w'->Calls prog g #[aK a9 ba bb d1 aq ar,aK R S T c1 c2 H] w' fun e W'=>∃so sn sc co cn cc,e=aD (.tuple #[aK so sn sc co cn cc,G (f D F).2])/\IsArr (OffB W.1.size 3 P) W' (aK so sn sc co cn cc) (f D F).1/\J w' W':=fun w' x=>by
  have N:J W w':=n.below.trans (x.mono n.below.size);have bD:=x.size;exact hfn w' (OffB W.1.size 3 P) _ _ D F (hW.trans (N.mono hW.size)) (fun b aa=>OffB.new hP (by omega)) (ae.below N) (K.below x) ad af
 have au:=d.C0;have av:=d.C1;have bm:(0:Int)<=(i:Int):=by omega
 have bG:(i:Int)<(q:Int)+1:=by omega
 have bz:gb<wr.1.size:=by omega
 have bE:W.1.size<wr.1.size:=by omega
 clear d K L ae ad af aY aV a4 a5 aw ay aZ aX aW;go_wp2_with fail;obtain⟨bt,bu,bv,-,-⟩:=ap wr aS;go_region_with ((go_at_fn g;refine(an _ aS.drew).mono ?_;rintro e al ⟨A,B,C,s,t,u,rfl,ax,aU⟩;have am:=ax;have m:=(FQ wr.1.size wr).drew.trans aU;have bc:Below (W.1.size+1+1) wr al:=m.mono (by omega);have bp:=V m (by omega) a7;have bq:=V m (by omega) a8;have bf:=bF m (by omega) au;have bg:=bF m (by omega) av;clear ax aU))
 all_goals
  have o:Bx W ((al.setCell (U (W.1.size+1+1) 0) (E A B C)).setCell (U (W.1.size+1+1) 1) (E s t u)) [[aC g,G z],aG,(aM A B C s t u)]:=((n.next m).set 2 0 _ (E A B C) rfl).set 2 1 _ (E s t u) rfl;have ag:¬ OffB W.1.size 3 P (W.1.size+1+1):=by rintro⟨_,aa⟩;omega
  have Z:=(am.set ag 0 (E A B C)).set ag 1 (E s t u);generalize hw6:((al.setCell (U (W.1.size+1+1) 0) (E A B C)).setCell (U (W.1.size+1+1) 1) (E s t u))=w6 at o Z⊢;clear hw6 ag a7 a8 au av bp bq bf bg am bc m ap an n bt bu bv;by_cases j:(f D F).2=0
  .rw [j];rw[FU (by simp[j])]at h;go_wp2_with fail;go_roundw
   .exact ⟨i,by go_num,by omega,A,B,C,s,t,u,o,by rw[h];exact Z,by rw[h];exact j⟩
   simp[intOf]
  rw[FY j]at h;have X:=Jht (f:=f) j (p:=cs.take i) (r:=cs.drop i) (by intro e;have:=NM List.length e;simp at this;omega) h;rw[Mw]at X;generalize her:(f D F).2=er at j X⊢;have bw:(er != 0)=true:=by simpa using j
  have ai:=o.b0;have aj:=o.b1;have bh:=o.B0;have bi:=o.B1;clear h j her Z;go_wp2_with fail;have y:=Ze (q:=1) (P:=P) (k:=3) (a:=eArr) (u0:=aH) (u1:=aH) o.below (by decide) (Jt _ _);refine FR (v:=.tuple #[.agg aF,G er]) (by simp[results,results226,go_sem,ai,aj]) rfl ⟨none,0,0,none,0,0,by rw[X],by rw[X];exact y.1,y.2⟩
end Go.Proofs.YtjobgpahajhbnaaGreatDoor
