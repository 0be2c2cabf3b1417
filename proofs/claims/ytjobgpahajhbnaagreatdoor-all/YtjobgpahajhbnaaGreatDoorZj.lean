import Derived.Test.YtjobgpahajhbnaaGreatDoorBq
namespace Go.Proofs.YtjobgpahajhbnaaGreatDoor
open Go.RowKit Go.Proofs Go.Maps Go.Proofs.Tryz
attribute [local go_sem ↓] Go.wp_at_zero Go.wp_at_succ
set_option linter.all false
set_option maxHeartbeats 40000000
set_option maxRecDepth 20000
theorem Js3{A B:Arr}(h:A.shape.length≠B.shape.length):catR A B=(eArr,5):=by unfold catR;rw[FY h]
theorem Jpb(P)(W)(hP:∀b,W.1.size<=b->P b)(va vb)(a b)(ha:IsArr P W va a)(hb:IsArr P W vb b)(hoa:a.ok)(hob:b.ok):
 Calls prog 126 #[va,vb] W (RRes P W (catP a b)):=by
 have bL:=ha;have bM:=hb;obtain⟨av,N,sc,ak,aj,ai,rfl,fR,fS⟩:=ha;obtain⟨bW,au,bV,bl,bj,bi,rfl,L,ca⟩:=hb;obtain⟨fU,f9⟩:=Jb bL;obtain⟨fV,ga⟩:=Jb bM;have bc:=Bx.n3 W (aM av N sc ak aj ai) (aM bW au bV bl bj bi) aG 133 133 133;obtain⟨ao,de⟩:∃ao,((W.alloc (.cells (aL av N sc ak aj ai) 133)).alloc (.cells (aL bW au bV bl bj bi) 133)).alloc (.cells aF 133)=ao:=⟨_,rfl⟩;have cd:ao.1.size=W.1.size+3:=by rw[<-de];simp
 rw[de]at bc;have H:Hid (JS W P ao av N sc ak aj ai bW au bV bl bj bi a b):=O ⟨bc,Js8 bL bc.below,Js8 bM bc.below⟩;have dv:=O hP;have bA:=O (Jrl hoa);have bB:=O (Jrl hob);have ez:=O (Jg4 a);have eA:=O (Jg4 b);have eJ:Hid (∀em,ao.1.size<=em->OffB W.1.size 3 P em):=O (fun em h=>OffB.new hP (by omega));have dy:Hid (N=0->Zl a=⟨[a.cells.length],a.cells⟩):=O (fun h=>by unfold Zl;rw[FY (by omega)];rfl);have dz:Hid (N≠0->Zl a=a):=O (fun h=>by unfold Zl;rw[FU (by omega)]);have dA:Hid (au=0->Zl b=⟨[b.cells.length],b.cells⟩):=O (fun h=>by unfold Zl;rw[FY (by omega)];rfl);have dB:Hid (au≠0->Zl b=b):=O (fun h=>by unfold Zl;rw[FU (by omega)]);unfold catP;obtain⟨m,eR⟩:∃m,Zl a=m:=⟨_,rfl⟩;obtain⟨w,bn⟩:∃w,Zl b=w:=⟨_,rfl⟩;rw[eR]at bA ez dy dz⊢;rw[bn]at bB eA dA dB⊢;have ar:aB ao W.1.size 0 (E av N sc):=(bc.cell 0 0 _ rfl).1;have cL:aB ao W.1.size 1 (E ak aj ai):=(bc.cell 0 1 _ rfl).1;have cu:ao.frozen? (U W.1.size 0)=false:=(bc.cell 0 0 _ rfl).2;have cv:ao.frozen? (U W.1.size 1)=false:=(bc.cell 0 1 _ rfl).2;have cp:Hid (Calls prog 131 #[E ak aj ai] ao fun j g=>∃av N sc ak aj ai,j=aD (aK av N sc ak aj ai)/\IsArr (OffB W.1.size 3 P) g (aK av N sc ak aj ai) ⟨[a.cells.length],a.cells⟩/\J ao g):=O (by
  obtain⟨b4,b5,cQ,cR,en,eo,j,fM,dN⟩:=H.2.1;injection j with j;have al:=NM (fun l=>l[1]?) j;simp at al;obtain⟨rfl,rfl,rfl⟩:=al;exact Kj (OffB W.1.size 3 P) ao eJ _ _ dN)
 have aV:W.1.size<ao.1.size:=by omega
 have a6:=O cd;clear bL bM fR fS L ca fU f9 fV ga bc hP hoa hob eR bn cd;go_enter func126,ntmps126;go_upto_if 15 with fail
 try rw[de]
 clear de;go_cut [5]from 12 to 18 (fun bX r=>bX=G 0/\∃aY F K c1 bh b8,JS W P r aY F K c1 bh b8 bW au bV bl bj bi m b/\W.1.size+3<=r.1.size)
 .by_cases am:N=0
  .have b0:((N:Int)== 0)=true:=by simp[am]
   have ah:=O (I dy am);clear am;go_wp2_with fail;refine cp.mono ?_;rintro j Y ⟨aY,F,K,c1,bh,b8,rfl,bm,L⟩;have bG:aB Y W.1.size 0 (E av N sc):=V L aV ar;have cw:aB Y W.1.size 1 (E ak aj ai):=V L aV cL;have gc:Y.frozen? (U W.1.size 0)=false:=bF L aV cu;have gd:Y.frozen? (U W.1.size 1)=false:=bF L aV cv;have dn:=O ((I H).row1 L bm);have dD:Hid (W.1.size+3<=Y.1.size):=O (by have:=L.size;have:=I a6;omega);clear bm L;go_wp2_with fail;go_meet;exact⟨rfl,aY,F,K,c1,bh,b8,by rw[ah];exact dn,by have:=I dD;simpa using this⟩
  have b0:((N:Int)== 0)=false:=by simp[am]
  have ah:=O (I dz am);clear am;go_wp2_with fail;go_meet;exact⟨rfl,av,N,sc,ak,aj,ai,by rw[ah];exact H,by have:=I a6;omega⟩
 obtain⟨rfl,aY,F,K,c1,bh,b8,t,cJ⟩:=hcut;clear ar cL cu cv cp eJ dy dz aV a6 H;have ar:aB wc (W.1.size+1) 0 (E bW au bV):=(t.1.cell 1 0 _ rfl).1;have cL:aB wc (W.1.size+1) 1 (E bl bj bi):=(t.1.cell 1 1 _ rfl).1;have cu:wc.frozen? (U (W.1.size+1) 0)=false:=(t.1.cell 1 0 _ rfl).2;have cv:wc.frozen? (U (W.1.size+1) 1)=false:=(t.1.cell 1 1 _ rfl).2;have cp:Hid (Calls prog 131 #[E bl bj bi] wc fun j g=>∃av N sc ak aj ai,j=aD (aK av N sc ak aj ai)/\IsArr (OffB W.1.size 3 P) g (aK av N sc ak aj ai) ⟨[b.cells.length],b.cells⟩/\J wc g):=O (by
  obtain⟨b4,b5,cQ,cR,en,eo,j,fM,dN⟩:=t.2.2;injection j with j;have al:=NM (fun l=>l[1]?) j;simp at al;obtain⟨rfl,rfl,rfl⟩:=al;exact Kj (OffB W.1.size 3 P) wc (fun b hb=>OffB.new dv (by omega)) _ _ dN)
 have H:=O t;have aV:W.1.size+1<wc.1.size:=by omega
 have aZ:=O cJ;clear t cJ;go_upto_if 22 with fail;go_cut [5]from 12 to 25 (fun bX r=>bX=G 0/\∃bt af an d1 bD ct,JS W P r aY F K c1 bh b8 bt af an d1 bD ct m w/\W.1.size+3<=r.1.size)
 .by_cases am:au=0
  .have b0:((au:Int)== 0)=true:=by simp[am]
   have ah:=O (I dA am);clear am;go_wp2_with fail;refine cp.mono ?_;rintro j Y ⟨bt,af,an,d1,bD,ct,rfl,bm,L⟩;have bG:aB Y (W.1.size+1) 0 (E bW au bV):=V L aV ar;have cw:aB Y (W.1.size+1) 1 (E bl bj bi):=V L aV cL;have gc:Y.frozen? (U (W.1.size+1) 0)=false:=bF L aV cu;have gd:Y.frozen? (U (W.1.size+1) 1)=false:=bF L aV cv;have dn:=O ((I H).row2 L bm);have dD:Hid (W.1.size+3<=Y.1.size):=O (by have:=L.size;have:=I aZ;omega);clear bm L;go_wp2_with fail;go_meet;exact⟨rfl,bt,af,an,d1,bD,ct,by rw[ah];exact dn,by have:=I dD;simpa using this⟩
  have b0:((au:Int)== 0)=false:=by simp[am]
  have ah:=O (I dB am);clear am;go_wp2_with fail;go_meet;exact⟨rfl,bW,au,bV,bl,bj,bi,by rw[ah];exact H,aZ⟩
 obtain⟨rfl,bt,af,an,d1,bD,ct,t,cJ⟩:=hcut;clear ar cL cu cv cp dA dB aV aZ H;rename World=>wJ;obtain⟨eZ,e8⟩:=Jb t.2.1;obtain⟨cb,fb⟩:=Jb t.2.2;have cc:=I bA;have cG:=I bB;have fX:=I ez;have fY:=I eA;have f7:=cc.rank;have f8:=cG.rank;obtain⟨k,db⟩:∃k,F=k+1:=⟨F-1,by omega⟩;have gH:k<=2:=by omega
 have Y:wrap64 ((F:Int)-1)=(k:Int):=by unfold wrap64;omega
 obtain⟨b4,b5,cQ,cR,en,eo,j,bm,eS⟩:=t.2.1;have bE:=NM (fun v=>match v with|Value.agg l=>l|_=>#[]) j;have a9:=NM (fun l=>l[0]?) bE;have al:=NM (fun l=>l[1]?) bE;simp at a9 al;obtain⟨rfl,rfl,rfl⟩:=a9;obtain⟨rfl,rfl,rfl⟩:=al;clear j bE;obtain⟨b4,b5,cQ,cR,en,eo,j,cx,eU⟩:=t.2.2;have bE:=NM (fun v=>match v with|Value.agg l=>l|_=>#[]) j;have a9:=NM (fun l=>l[0]?) bE;have al:=NM (fun l=>l[1]?) bE;simp at a9 al;obtain⟨rfl,rfl,rfl⟩:=a9;obtain⟨rfl,rfl,rfl⟩:=al;clear j bE;have ar:aB wJ W.1.size 0 (E aY F K):=(t.1.cell 0 0 _ rfl).1;have cM:aB wJ (W.1.size+1) 0 (E bt af an):=(t.1.cell 1 0 _ rfl).1;have cf:aB wJ (W.1.size+1+1) 0 aH:=(t.1.cell 2 0 _ rfl).1;have cg:aB wJ (W.1.size+1+1) 1 aH:=(t.1.cell 2 1 _ rfl).1;have c3:wJ.frozen? (U (W.1.size+1+1) 0)=false:=(t.1.cell 2 0 _ rfl).2;have c4:wJ.frozen? (U (W.1.size+1+1) 1)=false:=(t.1.cell 2 1 _ rfl).2;have H:=O t;have cZ:=O cJ;have dE:=O e8;have dG:=O fb;have fr:=O eZ;have ft:=O cb;have bx:=O db;have bu:=O bm;have dh:=O eS;have b6:=O cx;have di:=O eU;clear t cJ e8 fb eZ cb cc cG fX fY f7 f8 bm eS cx eU;by_cases d8:af=F
 .have b1:((af:Int) != (k:Int)+1)=false:=by simp;omega
  have fC:k<=K:=by have:=Zp bu;omega
  have fE:k<=an:=by have:=Zp b6;omega
  have fj:(0:Int)<=(k:Int):=by omega
  have b4:(k:Int)<=(K:Int):=by omega
  have b5:(k:Int)<=(an:Int):=by omega
  have cQ:(k:Int)<=(F:Int):=by omega
  have cR:(k:Int)<=(af:Int):=by omega
  have f4:W.1.size<wJ.1.size:=by have:=I cZ;omega
  have f5:W.1.size+1<wJ.1.size:=by have:=I cZ;omega
  obtain⟨ax,dS⟩:∃ax,decide ((m.shape.map Int.ofNat).take k=(w.shape.map Int.ofNat).take k)=ax:=⟨_,rfl⟩;have ep:=O dS;have eO:Hid (∀g,J wJ g->Calls prog 163 (aL aY k K bt k an) g fun j cr=>j=aD (.bool ax)/\J g cr):=O (fun g T=>by
   rw[<-dS];refine Jbz g aY k K bt k an _ _ (J1 (bu.below T) (by omega)) (J1 (b6.below T) (by omega)) (by simp;omega) (by simp;omega))
  have dC:=O d8;clear d8 dS db;go_upto_region 8 with fail;rw[Y];go_cut [7]from 12 to 45 (fun gs r=>gs=.bool ax/\J wJ r)
  .go_region_law (go_simp;go_at_call 163;refine aR (I eO _ aS.drew) fun Z bp=>?_;have D:=O ((FQ wJ.1.size wJ).drew.trans bp);clear bp)
   all_goals
    go_wp2_with fail;go_meet;exact⟨rfl,D⟩
  obtain⟨rfl,az⟩:=hcut;rename World=>wK;have t:=H.next az;have a7:Hid (W.1.size+3<=wK.1.size):=O (NE cZ az.size);have bu:=O ((bu.below az).imp (Q:=fun b=>OffB W.1.size 3 P b/\b<wK.1.size) (fun b hb bb=>⟨hb,bb⟩));have dh:=O ((dh.below az).imp (Q:=fun b=>OffB W.1.size 3 P b/\b<wK.1.size) (fun b hb bb=>⟨hb,bb⟩));have b6:=O ((b6.below az).imp (Q:=fun b=>OffB W.1.size 3 P b/\b<wK.1.size) (fun b hb bb=>⟨hb,bb⟩));have di:=O ((di.below az).imp (Q:=fun b=>OffB W.1.size 3 P b/\b<wK.1.size) (fun b hb bb=>⟨hb,bb⟩));clear ar cM cf cg c3 c4 H cZ eO f4 f5 az b1 Y;have ar:aB wK W.1.size 0 (E aY F K):=(t.1.cell 0 0 _ rfl).1;have cM:aB wK (W.1.size+1) 0 (E bt af an):=(t.1.cell 1 0 _ rfl).1;have cf:aB wK (W.1.size+1+1) 0 aH:=(t.1.cell 2 0 _ rfl).1;have cg:aB wK (W.1.size+1+1) 1 aH:=(t.1.cell 2 1 _ rfl).1;have c3:wK.frozen? (U (W.1.size+1+1) 0)=false:=(t.1.cell 2 0 _ rfl).2;have c4:wK.frozen? (U (W.1.size+1+1) 1)=false:=(t.1.cell 2 1 _ rfl).2;have H:=O t.1;clear t;cases ax
  .have ah:Hid (catR m w=(eArr,6)):=O (by
    have S:=I dE;have bH:=I dG;have eQ:=I dC;unfold catR;rw[FU (by omega),FY];have:=Hq ep;intro j;apply this;have db:=I bx;rw[<-Mh,<-Mh];rw[JN,JN]at j;have a9:m.shape.length-1=k:=by omega
    have al:w.shape.length-1=k:=by omega
    rw[a9,al]at j;rw[j])
   go_wp2_with fail;have aU:=Jl (q:=2) (k:=3) (u0:=aH) (u1:=aH) H.below (by decide) (Jt (OffB W.1.size 3 P) _);refine FR (v:=.tuple #[.agg aF,G 6]) (by simp[results,results126,go_sem,cf,cg]) rfl ?_;rw[ah];exact⟨_,_,_,_,_,_,rfl,aU.1,aU.2⟩
  have eY:=Bx.n1 wK aG 133;have bd:=O eY;have dO:W.1.size<wK.1.size:=by have:=I a7;omega
  obtain⟨y,aW⟩:∃y,wK.alloc (.cells aF 133)=y:=⟨_,rfl⟩;rw[aW]at bd;have br:=bd.lt;simp at br;have ce:aB y wK.1.size 0 aH:=(bd.cell 0 0 _ rfl).1;have bG:y.frozen? (U wK.1.size 0)=false:=(bd.cell 0 0 _ rfl).2;have eh:aB y W.1.size 0 (E aY F K):=V bd.below dO ar;have bg:Hid (OwnJ (wK.1.size+1) y aH []):=O (OwnJ.nil _ _);have eE:Hid (Nums (fun b=>OffB W.1.size 3 P b/\b<wK.1.size) y (E aY k K) ((m.shape.map Int.ofNat).take k)):=O (J1 (bu.below bd.below) (by have:=I bx;omega));have ad:wK.1.size<wK.1.size+1:=by omega
  have bn:wK.1.size+1<=y.1.size:=by omega
  have cn:Hid (((m.shape.map Int.ofNat).take k).length<=1000):=O (by simp;omega);clear eY;go_upto_region 12 with fail;try rw[aW]
  clear aW br;go_cut [5]from 12 to 56 (fun bX r=>bX=G 0/\∃x e vc,Bx wK r [[E x e vc,aH]]/\OwnJ (wK.1.size+1) r (E x e vc) ((m.shape.map Int.ofNat).take k))
  .go_region_law (refine Jly rfl _ _ rfl rfl (bg.below aS.drew) (eE.below aS.drew) (by simp) cn bn rfl rfl ?_;intro gq cO bN ba;obtain⟨b2,n4,bY,rfl⟩:=bN.sl;have aZ:=O (Ja6 (v':=E b2 n4 bY) 0 0 (bd.next aS.drew) rfl ba);have ds:=O (bN.set ad (c:=0) (E b2 n4 bY));have fD:aB cO wK.1.size 0 aH:=V ba ad ce;have fN:cO.frozen? (U wK.1.size 0)=false:=bF ba ad bG;clear bN ba)
   all_goals
    go_wp2_with fail;go_meet;exact⟨rfl,b2,n4,bY,aZ,by simpa using I ds⟩
  obtain⟨rfl,x,e,vc,o,ae⟩:=hcut;rename World=>wL;clear ce bG eh bg eE bn cn bd;have e9:m.shape.length=k+1:=by rw[<-dE,bx]
  have fa:w.shape.length=k+1:=by rw[<-dG,dC,bx]
  have bS:=Yi (l:=m.shape) (by omega);have cI:=Yi (l:=w.shape) (by omega);obtain⟨d,b9⟩:∃d,m.shape.dropLast=d:=⟨_,rfl⟩;obtain⟨la,bL⟩:∃la,Jq m.shape=la:=⟨_,rfl⟩;obtain⟨lb,bM⟩:∃lb,Jq w.shape=lb:=⟨_,rfl⟩;have cy:d.length=k:=by rw[<-b9];simp;omega
  have dP:w.shape.dropLast=d:=by
   have S:=YB ep;rw[<-Mh,<-Mh]at S;have bH:m.shape.take k=w.shape.take k:=by
    have:=NM (List.map Int.toNat) S;simpa[PZ,Function.comp_def]using this
   rw[<-b9,JN,JN,e9,fa];exact bH.symm
  rw[b9,bL]at bS;rw[dP,bM]at cI;have eW:(m.shape.map Int.ofNat).take k=d.map Int.ofNat:=by rw[<-Mh,bS,List.take_left' cy]
  rw[eW]at ae;have cX:=O bS;have cY:=O cI;have bz:=O cy;have dj:Hid (catR m w=if Yb (d++[la+lb])=false then(eArr,9)else(⟨d++[la+lb],catC m.cells w.cells la lb (Jd d)⟩,0)):=O (by
   unfold catR Jhu;rw[FU (by omega),FU (by rw[b9,dP];simp),b9,bL,bM])
  have cc:=I bA;have cG:=I bB;have e4:la<=200:=cc.lens la (by rw[bS];simp);have e5:lb<=200:=cG.lens lb (by rw[cI];simp);have eB:Hid (∀f ∈ d,f<=200):=O (fun f A=>cc.lens f (by rw[bS];simp[A]));obtain⟨aw,a8,rfl,dQ,c6,-⟩:=bu.at (k:=k) (by simp;omega);obtain⟨ax,c2,rfl,eX,az,-⟩:=b6.at (k:=k) (by simp;omega);have e0:(m.shape.map Int.ofNat)[k]'(by simp;omega)=(la:Int):=by simp[bS,cy]
  have e1:(w.shape.map Int.ofNat)[k]'(by simp;omega)=(lb:Int):=by simp[cI,cy]
  rw[e0]at c6;rw[e1]at az;have fe:IntKind.i64.wrap ((la:Int)+(lb:Int))=((la+lb:Nat):Int):=by
   rw[ZW];unfold wrap64;omega
  obtain⟨B,d3⟩:∃B,la+lb=B:=⟨_,rfl⟩;rw[d3]at fe dj;have co:=O d3;have ch:=O o;have bg:=O ae;have eh:aB wL W.1.size 0 (aI aw a8 F K):=V o.below dO ar;have fP:W.1.size+1<wK.1.size:=by have:=I a7;omega
  have gg:aB wL (W.1.size+1) 0 (aI ax c2 af an):=V o.below fP cM;have gh:aB wL aw (a8+k) (G la):=V o.below dQ c6;have gi:aB wL ax (c2+k) (G lb):=V o.below eX az;have ce:aB wL wK.1.size 0 (E x e vc):=(o.cell 0 0 _ rfl).1;have bG:wL.frozen? (U wK.1.size 0)=false:=(o.cell 0 0 _ rfl).2;have br:=o.lt;simp at br;have bn:wK.1.size+1<=wL.1.size:=by omega
  have cn:Hid ((d.map Int.ofNat).length<=1000):=O (by simp;omega);have gu:(k:Int)<(F:Int):=by have:=I bx;omega
  have gv:(k:Int)<(af:Int):=by have:=I bx;have:=I dC;omega
  have gw:aw<wL.1.size:=by omega
  have gx:ax<wL.1.size:=by omega
  have gy:wK.1.size<wL.1.size:=by omega
  have gz:W.1.size<wL.1.size:=by omega
  have gA:W.1.size+1<wL.1.size:=by omega
  have cl:Hid (la<=200/\lb<=200):=O ⟨e4,e5⟩;have fn:Hid (aw<wK.1.size/\wK.cell? (U aw (a8+k))=some (G la)):=O ⟨dQ,c6⟩;have eK:=O ar;have fz:=O cM;clear o ae e9 fa bS cI b9 bL bM dP eW cy cc cG e4 e5 dQ c6 eX az e0 e1 d3 br ar cM b4 b5 cQ cR fC fE;go_upto_region 13 with fail;go_cut [5]from 12 to 72 (fun bX r=>bX=G 0/\∃x e vc,Bx wK r [[E x e vc,aH]]/\OwnJ (wK.1.size+1) r (E x e vc) ((d++[B]).map Int.ofNat))
  .go_region_law (refine Nm rfl _ _ rfl rfl (bg.below aS.drew) cn bn (B:Int) rfl rfl ?_;intro gq cO bN ba;obtain⟨b2,n4,bY,rfl⟩:=bN.sl;have aZ:=O (Ja6 (v':=E b2 n4 bY) 0 0 (ch.next aS.drew) rfl ba);have ds:=O (bN.set ad (c:=0) (E b2 n4 bY));have fD:aB cO wK.1.size 0 (E x e vc):=V ba ad ce;have fN:cO.frozen? (U wK.1.size 0)=false:=bF ba ad bG;clear bN ba)
   all_goals
    go_wp2_with fail;go_meet;exact⟨rfl,b2,n4,bY,aZ,by rw[NU];exact ds⟩
  obtain⟨rfl,x,e,vc,o,ae⟩:=hcut;rename World=>wM;clear eh gg gh gi ce bG bn cn gu gv gw gx gy gz gA fe ch bg;have aa:=o;have a6:Hid (e=k+1):=O (by have S:=Je ae.nums;rw[S];simp[I bz]);have br:=o.lt;simp at br;obtain⟨fZ,f0⟩:=I cl;have eC:Hid (Lens (d++[B])):=O ⟨by simp[I bz];omega,fun f A=>by
   rcases ZK.1 A with h|h
   .have:=eB f h;omega
   have:=I co;simp at h;omega⟩
  obtain⟨cN,cd⟩:∃cN:Int,(if Yb (d++[B])=true then(Jd (d++[B]):Int)else -1)=cN:=⟨_,rfl⟩;have eN:Hid (Calls prog 161 #[E x e vc] wM fun j g=>j=aD (G cN)/\g=wM):=O (by
   rw[<-cd];exact Fe wM x e vc (d++[B]) ae.nums eC)
  have ce:aB wM wK.1.size 0 (E x e vc):=(o.cell 0 0 _ rfl).1;have bo:W.1.size+1+1<wK.1.size:=by have:=I a7;omega
  have fg:aB wM (W.1.size+1+1) 0 aH:=V o.below bo cf;have fh:aB wM (W.1.size+1+1) 1 aH:=V o.below bo cg;have fI:wM.frozen? (U (W.1.size+1+1) 0)=false:=bF o.below bo c3;have fJ:wM.frozen? (U (W.1.size+1+1) 1)=false:=bF o.below bo c4;have ch:=O o;have bg:=O ae;have eM:=O cd;have eD:Hid (wK.1.size+1<=wM.1.size):=O (by omega);have fp:Hid (J W wM):=O ((I H).below.trans (o.below.mono (by have:=I a7;omega)));clear o ae cd br fZ f0 aa;cases hf:Yb (d++[B])
  .have ah:Hid (catR m w=(eArr,9)):=O (by rw[dj,FY hf]);have ea:cN=-1:=by rw[<-eM,hf];rfl
   subst ea;clear hf;go_wp2_with (go_at_call 161;refine aR eN fun Y ec=>?_;subst ec);have aU:=Jl (q:=2) (k:=3) (u0:=aH) (u1:=aH) fp (by decide) (Jt (OffB W.1.size 3 P) _);refine FR (v:=.tuple #[.agg aF,G 9]) (by simp[results,results126,go_sem,fg,fh]) rfl ?_;rw[ah];exact⟨_,_,_,_,_,_,rfl,aU.1,aU.2⟩
  obtain⟨ap,cz⟩:∃ap,Jd (d++[B])=ap:=⟨_,rfl⟩;have ea:cN=(ap:Int):=by rw[<-eM,hf,<-cz];rfl
  subst ea;have dp:Hid (ap<=64):=O (by
   unfold Yb at hf;simp only[ZJ,JM]at hf;omega)
  obtain⟨C,dT⟩:∃C,Jwg m.cells w.cells la lb=C:=⟨_,rfl⟩;have fs:Hid (catR m w=(⟨d++[B],(List.range ap).map C⟩,0)):=O (by
   rw[dj,FU (by simp[hf])];have gF:m.cells.length=Jd d*la:=by rw[bA.size,cX,Ji,J7]
   have gG:w.cells.length=Jd d*lb:=by rw[bB.size,cY,Ji,J7]
   have fT:=Jlj (xs:=m.cells) (ys:=w.cells) (la:=la) (lb:=lb) (Jd d) (by omega) (by omega);rw[fT,dT,co,<-cz,Ji,J7])
  have aZ:=O cz;have fu:=O dT;have gJ:=I dp;obtain⟨B1,cx⟩:∃B1,wM.1.size=B1:=⟨_,rfl⟩;have fx:Hid (Nums (fun b=>wK.1.size+1<=b/\b<B1) wM (E x e vc) ((d++[B]).map Int.ofNat)):=O (cx▸bg.nums);have bf:Hid (wK.1.size+1<=B1):=O (by have:=I eD;omega);have fy:Hid (OwnL B1 wM aH []):=O (OwnL.nil _ _);have fo:Hid (B1<=wM.1.size):=O (by omega);have gB:=O cz;clear hf cz dT cx fg fh fI fJ eD bg;go_wp2_with (go_at_call 161;refine aR eN fun Y ec=>?_;subst ec);go_loopw [10] (fun ej r=>∃i:Nat,ej=G i/\i<=ap/\B1<=r.1.size/\∃v,Bx wK r [[E x e vc,v]]/\OwnL B1 r v ((List.range i).map C)/\Nums (fun b=>wK.1.size+1<=b/\b<B1) r (E x e vc) ((d++[B]).map Int.ofNat)) (fun ej _=>ap-(intOf ej).toNat)
  .exact ⟨0,rfl,by omega,fo,_,ch,fy,fx⟩
  rename World=>r;obtain⟨i,rfl,c8,eV,v,o,ae,cF⟩:=hrel;by_cases cD:i<ap
  .have dd:i<Jd d*B:=by
    have S:=I aZ;rw[Ji,J7]at S;rw[S];exact cD
   have e6:0<B:=by
    rcases ZB B with h|h
    .rw [h,Nat.mul_zero]at dd;omega
    exact h
   have dX:=YR i e6;have dc:=I co;obtain⟨ed,df⟩:=Jm1 (s:=d) (la:=la) (lb:=lb) (i:=i) (by rw[dc];exact dd);rw[dc]at ed df;have d7:i / B<Jd d:=JF (by rw[ZF];exact dd);have d4:∀f ∈ d++[B],0<f:=X5 (by rw[aZ];omega);have cj:=O (Jdi r x e vc (d++[B]) i cF eC d4 (by omega));rw[ed]at cj;obtain⟨z,dV⟩:∃z,i % B=z:=⟨_,rfl⟩;rw[dV]at cj dX;obtain⟨u,d6⟩:∃u,i / B=u:=⟨_,rfl⟩;rw[d6]at cj df d7;have ex:Hid (∀f ∈ J6 d u,f<=400):=O (fun f A=>by
    obtain⟨dg,gb,rfl⟩:=ZS A;have ff:dg<d.length:=by rwa [Qq]at gb
    have S:=d4 d[dg] (by simp[ND]);have bH:=eB d[dg] (ND ff);simp only[J6,YJ,JT,NC,FX ff,JI];have:=YR (u / Jd (d.drop (dg+1))) S;omega)
   have eP:=O df;have eL:=O d7;have et:Hid (C i=if z<la then m.cells.getD (u*la+z) 0 else w.cells.getD (u*lb+(z-la)) 0):=O (by
    rw[<-fu];unfold Jwg;rw[dc,dV,d6])
   have gf:aB r wK.1.size 0 (E x e vc):=(o.cell 0 0 _ rfl).1;have be:=O o;have a5:=O ae;have b7:=O cF;have cU:=O c8;have ev:=O cD;have eq:=O eV;have ey:=O dX;have fj:(i:Int)<(ap:Int):=by omega
   have gI:e<=3:=by have:=I a6;omega
   clear o ae cF c8 cD eV dd e6 dX dc ed df d7 d4 dV d6 ch;go_wp2_with (go_at_call 165;refine aR cj ?_;rintro a4 ⟨bP,ca⟩);clear cj gf;have eH:Hid (∀c5,v.ownBlock=some c5->c5<r.1.size):=O (fun c5 fW=>(Mj a5 c5 fW).2);obtain⟨n,bq⟩:∃n,r.1.size=n:=⟨_,rfl⟩;rw[bq]at bP eH⊢;have dk:Hid (B1<=n):=O (by have:=I eq;omega);have e2:n<a4.1.size:=(bP.lt n rfl).2;have c7:=be.next ca;have cT:=O c7;have cW:=O ((I a5).below ca);have cV:=O ((I b7).below ca);have du:=O bP;have cS:Hid (B1<=a4.1.size):=O (by have:=I dk;omega);have c9:(J6 d u).length=k:=by rw[Qq];exact bz
   have dK:a4.cell? (U n k)=some (G z):=by
    rw[bP.cellAt k (by have:=I a6;omega)];simp[c9]
   have dL:a4.frozen? (U n k)=false:=bP.frozenAt k;have dR:=I fn;have dJ:aB a4 aw (a8+k) (G la):=V c7.below dR.1 dR.2;have dI:aB a4 W.1.size 0 (aI aw a8 F K):=V c7.below dO eK;have gM:(0:Int)<=(k:Int):=by omega
   have fk:(k:Int)<(e:Int):=by have:=I a6;omega
   have fl:(k:Int)<(F:Int):=by have:=I bx;omega
   have eu:=O c9;have e7:((J6 d u++[z]).map Int.ofNat).length=e:=by rw[a6];simp[c9]
   have fw:Hid (Nums (fun b=>n<=b) a4 (aI n 0 e e) ((J6 d u++[z]).map Int.ofNat)):=O (Jv (P:=fun b=>n<=b) (xs:=(J6 d u++[z]).map Int.ofNat) (show a4.ownsRow n 3 1 (aI n 0 e e) ((J6 d u++[z]).map Int.ofNat).length _ by rw[e7];exact bP) (fun _ h=>h));clear bP ca bq be a5 b7 c7 dR c9 eq e7;by_cases da:z<la
   .have hd:decide ((z:Int)<(la:Int))=true:=by simp;omega
    have cb:(z:Int)<(la:Int):=by omega
    have ck:=O da;clear da dL;go_wp2_with fail;go_quiet (fail);obtain⟨R,bT⟩:∃R,a4.drewN nq=R:=⟨_,rfl⟩;have be:Hid (Bx wK R [[E x e vc,v]]):=O (bT▸cT.drewN nq);have a5:Hid (OwnL B1 R v ((List.range i).map C)):=O (bT▸cW.drewN nq);have b7:Hid (Nums (fun b=>wK.1.size+1<=b/\b<B1) R (E x e vc) ((d++[B]).map Int.ofNat)):=O (bT▸cV.below (Below.drewN aS nq));have dr:Hid (Nums (fun b=>n<=b) R (aI n 0 e e) ((J6 d u++[z]).map Int.ofNat)):=O (bT▸fw.below (Below.drewN aS nq));have bv:Hid (B1<=R.1.size):=O (bT▸I cS);rw[bT];have aa:=I be;obtain⟨q,bQ⟩:∃q,Zd m.shape (J6 d u++[z]) 0=q:=⟨_,rfl⟩;have cH:q=u*la+z:=by rw[<-bQ,cX];exact eP la z
    have eb:u*la+la<=Jd d*la:=by
     have:=NR la (show u+1<=Jd d from I eL);rwa [ZG,YA]at this
    have dx:Hid (q<Jd d*la):=O (by have:=I ck;omega);have dl:Hid (∀ac:q<m.cells.length,m.cells[q]=C i):=O (fun ac=>by
     rw[et,FY (I ck),<-cH,NC,FX ac];rfl)
    have dm:Hid (∀f ∈ J6 d u++[z],f<=400):=O (fun f A=>by
     rcases ZK.1 A with h|h
     .exact ex f h
     have S:=I ck;have bH:=cl.1;simp at h;omega)
    clear bT dK dJ dI fk fl hd cb cT cW cV du cS cH eb e2;have dw:Hid (∀g,J R g->Calls prog 166 #[aI aw a8 F K,aI n 0 e e] g fun j cr=>j=aD (G q)/\J g cr):=O (fun g T=>by
     rw[<-bQ];have d9:=I cX;have d2:m.shape.length=k+1:=by rw[d9];simp[I bz]
     refine Np g _ _ _ _ _ _ m.shape _ ((bu.below aa.below).below T) (dr.below T) ⟨bA.rank,fun f A=>by have:=bA.lens f A;omega⟩ (fun f A=>?_) (by rw[d2];simp[Qq,I bz]);exact dm f A)
    have ac:q<m.cells.length:=by
     rw[bA.size,cX,Ji,J7];exact dx
    have d5:q<bh:=by rw[fr];exact ac
    obtain⟨ay,cs,rfl,cA,bJ,-⟩:=dh.at (k:=q) ac;have bq:m.cells[q]=C i:=dl ac;obtain⟨f,A⟩:∃f,C i=f:=⟨_,rfl⟩;rw[bq,A]at bJ;have cq:Hid ((List.range (i+1)).map C=(List.range i).map C++[f]):=O (by rw[ZZ,NU,<-A];rfl);have aq:=aa.below;have cE:=aa.lt;simp at cE;have bI:W.1.size<wK.1.size:=by have:=I a7;omega
    have cB:ay<wK.1.size:=cA;have bw:Hid (∀g,Below B1 R g->g.cell? (U W.1.size 0)=some (aI aw a8 F K)/\g.cell? (U W.1.size 1)=some (aI ay cs bh b8)/\g.cell? (U ay (cs+q))=some (G f)):=O (fun g T=>by
     have fQ:=I bf;exact⟨V T (by omega) (V aq bI eK),V T (by omega) (V aq bI (H.cell 0 1 _ rfl).1),V T (by omega) (V aq cB bJ)⟩)
    have ef:aB R wK.1.size 1 v:=(aa.cell 0 1 _ rfl).1;have cw:R.frozen? (U wK.1.size 1)=false:=(aa.cell 0 1 _ rfl).2;obtain⟨u0,u1,ei⟩:=bw R aS;have b4:(0:Int)<=(q:Int):=by omega
    have b5:(q:Int)<(bh:Int):=by omega
    have ad:wK.1.size<B1:=by have:=I bf;omega
    have bK:wK.1.size<R.1.size:=by omega
    have dY:W.1.size<R.1.size:=by omega
    have dZ:ay<R.1.size:=by omega
    have cm:Hid (((List.range i).map C).length<=1000):=O (by have:=I cU;have:=I dp;simp;omega);obtain⟨ys,cK⟩:∃ys,(List.range i).map C=ys:=⟨_,rfl⟩;rw[cK]at a5 cm cq;clear aa bQ ac d5 cA bJ bq A cK aq cE bI cB;go_wp2_with fail;go_region_law
     (first
     | (refine Z3 rfl _ _ rfl rfl (a5.below D) cm (NE bv D.size) f rfl rfl ?_;intro gr cP bO ab;obtain⟨b3,bU,bZ,rfl⟩:=bO.sl;have dt:=O (Qj (c:=1) bO ad (E b3 bU bZ));have dH:=O (((be.next D).keep (ab.bel.mono bf)).set 0 1 v (E b3 bU bZ) rfl);have dq:=O (((b7.below D).keep ab.bel.size (fun b hb bb=>ab.bel.block b hb.2)).set (b:=wK.1.size) (fun cC=>by have:=cC.1;omega) 1 (E b3 bU bZ));have fF:aB cP wK.1.size 1 v:=V ab.bel ad eg;have fK:cP.frozen? (U wK.1.size 1)=false:=bF ab.bel ad dM;have dF:=O (NE (NE bv D.size) ab.bel.size);clear bO ab)
     | (go_simp;go_at_call 166;refine(I dw _ aS.drew).mono ?_; rintro j Z ⟨rfl,bp⟩;have D:=O ((FQ R.1.size R).drew.trans bp);have ci:=O ((I D).mono bv);have eg:aB Z wK.1.size 1 v:=V D bK ef;have dM:Z.frozen? (U wK.1.size 1)=false:=bF D bK cw;have gm:=((I bw Z ci)).2.1;have gn:=((I bw Z ci)).2.2;have bR:=D.size;have f1:wK.1.size<Z.1.size:=FT bK bR;have f2:W.1.size<Z.1.size:=FT dY bR;have f3:ay<Z.1.size:=FT dZ bR;clear bp))
    all_goals
     have c8:=I cU;have cD:=I ev;clear u0 u1 ei;go_wp2_with fail;go_roundw
     .exact ⟨i+1,by go_num,by omega,by have:=I dF;simpa using this,_,I dH,by rw[I cq];exact dt,dq⟩
     simp[intOf];omega
   have hd:decide ((z:Int)<(la:Int))=false:=by simp;omega
   have cb:¬ (z:Int)<(la:Int):=by omega
   have ck:=O da;have fc:IntKind.i64.wrap ((z:Int)-(la:Int))=((z-la:Nat):Int):=by
    have bH:=cl.1;have eQ:=I ey;have gE:=cl.2;have fO:=I co;rw[ZW];unfold wrap64;omega
   obtain⟨X,dW⟩:∃X,z-la=X:=⟨_,rfl⟩;rw[dW]at fc;have fv:=O dW;have ew:Hid (X<lb):=O (by
    have eQ:=I ey;have fO:=I co;omega)
   clear da dW;go_wp2_with fail;go_quiet (fail);obtain⟨ag,aX⟩:∃ag,a4.drewN nq=ag:=⟨_,rfl⟩;have es:Hid (Bx wK ag [[E x e vc,v]]):=O (aX▸cT.drewN nq);have eG:Hid (OwnL B1 ag v ((List.range i).map C)):=O (aX▸cW.drewN nq);have eF:Hid (Nums (fun b=>wK.1.size+1<=b/\b<B1) ag (E x e vc) ((d++[B]).map Int.ofNat)):=O (aX▸cV.below (Below.drewN aS nq));have eI:Hid (ag.ownsRow n 3 1 (aI n 0 e e) e (((J6 d u++[z]).map Int.ofNat).map (Value.int .i64))):=O (aX▸Jf du (Below.drewN aS nq));have er:Hid (B1<=ag.1.size):=O (aX▸I cS);have fH:aB ag n k (G z):=aX▸dK;have fL:ag.frozen? (U n k)=false:=aX▸dL;have fG:aB ag aw (a8+k) (G la):=aX▸dJ;have fA:aB ag W.1.size 0 (aI aw a8 F K):=aX▸dI;rw[aX];clear aX dK dJ dI dL hd cb cT cW cV du cS e2;go_upto_region 23 with fail;go_cut [11]from 79 to 136 (fun gp fi=>gp=aI n 0 e e/\fi=(ag.setCell (U n k) (G X)).drew)
   .go_region_law (fail)
    all_goals
     go_wp2_with fail;go_meet;exact⟨rfl,rfl⟩
   obtain⟨rfl,fd⟩:=hcut;rename World=>fi;obtain⟨y,aW⟩:∃y,(ag.setCell (U n k) (G X)).drew=y:=⟨_,rfl⟩;have eT:Below (wK.1.size+1) ag y:=by
    rw[<-aW];exact(aS.setCell (p:=U n k) (show wK.1.size+1<=n by have:=I dk;have:=I bf;omega) _).drew
   have be:Hid (Bx wK y [[E x e vc,v]]):=O ((I es).keep eT);have a5:Hid (OwnL B1 y v ((List.range i).map C)):=O (by
    rw[<-aW];exact Jf (ZH eG (a:=U n k) (fun j=>by have:=eH n j;omega) _) aS.drew)
   have b7:Hid (Nums (fun b=>wK.1.size+1<=b/\b<B1) y (E x e vc) ((d++[B]).map Int.ofNat)):=O (by
    rw[<-aW];exact(eF.set (b:=n) (fun cC=>by have:=I dk;have:=cC.2;omega) k _).below aS.drew)
   have dr:Hid (Nums (fun b=>n<=b) y (aI n 0 e e) ((J6 d u++[X]).map Int.ofNat)):=O (by
    rw[<-aW];have S:=(eI.stored k (G X)).1;have a9:(((J6 d u++[z]).map Int.ofNat).map (Value.int .i64)).set k (G X)=((J6 d u++[X]).map Int.ofNat).map (Value.int .i64):=by
     have:=I eu;simp[this]
    have f6:((J6 d u++[X]).map Int.ofNat).length=e:=by rw[a6];simp[I eu]
    rw[a9]at S;exact(Jv (P:=fun b=>n<=b) (xs:=(J6 d u++[X]).map Int.ofNat) (show World.ownsRow _ n 3 1 (aI n 0 e e) ((J6 d u++[X]).map Int.ofNat).length _ by rw[f6];exact S) (fun _ h=>h)).below aS.drew)
   have bv:Hid (B1<=y.1.size):=O (by rw[<-aW];simpa using I er);rw[fd,aW];clear fd;have aa:=I be;obtain⟨q,bQ⟩:∃q,Zd w.shape (J6 d u++[X]) 0=q:=⟨_,rfl⟩;have cH:q=u*lb+X:=by rw[<-bQ,cY];exact eP lb X
   have eb:u*lb+lb<=Jd d*lb:=by
    have:=NR lb (show u+1<=Jd d from I eL);rwa [ZG,YA]at this
   have dx:Hid (q<Jd d*lb):=O (by have:=I ew;omega);have dl:Hid (∀ac:q<w.cells.length,w.cells[q]=C i):=O (fun ac=>by
    rw[et,FU (I ck),fv,<-cH,NC,FX ac];rfl)
   have dm:Hid (∀f ∈ J6 d u++[X],f<=400):=O (fun f A=>by
    rcases ZK.1 A with h|h
    .exact ex f h
    have S:=I ew;have bH:=cl.2;simp at h;omega)
   clear aW fH fL fG fA fk fl fc es eG eF eI er cH eb eT;have dw:Hid (∀g,J y g->Calls prog 166 #[aI ax c2 af an,aI n 0 e e] g fun j cr=>j=aD (G q)/\J g cr):=O (fun g T=>by
    rw[<-bQ];have d9:=I cY;have d2:w.shape.length=k+1:=by rw[d9];simp[I bz]
    refine Np g _ _ _ _ _ _ w.shape _ ((b6.below aa.below).below T) (dr.below T) ⟨bB.rank,fun f A=>by have:=bB.lens f A;omega⟩ (fun f A=>?_) (by rw[d2];simp[Qq,I bz]);exact dm f A)
   have ac:q<w.cells.length:=by
    rw[bB.size,cY,Ji,J7];exact dx
   have d5:q<bD:=by rw[ft];exact ac
   obtain⟨ay,cs,rfl,cA,bJ,-⟩:=di.at (k:=q) ac;have bq:w.cells[q]=C i:=dl ac;obtain⟨f,A⟩:∃f,C i=f:=⟨_,rfl⟩;rw[bq,A]at bJ;have cq:Hid ((List.range (i+1)).map C=(List.range i).map C++[f]):=O (by rw[ZZ,NU,<-A];rfl);have aq:=aa.below;have cE:=aa.lt;simp at cE;have bI:W.1.size+1<wK.1.size:=by have:=I a7;omega
   have cB:ay<wK.1.size:=cA;have bw:Hid (∀g,Below B1 y g->g.cell? (U (W.1.size+1) 0)=some (aI ax c2 af an)/\g.cell? (U (W.1.size+1) 1)=some (aI ay cs bD ct)/\g.cell? (U ay (cs+q))=some (G f)):=O (fun g T=>by
    have fQ:=I bf;exact⟨V T (by omega) (V aq bI fz),V T (by omega) (V aq bI (H.cell 1 1 _ rfl).1),V T (by omega) (V aq cB bJ)⟩)
   have ef:aB y wK.1.size 1 v:=(aa.cell 0 1 _ rfl).1;have cw:y.frozen? (U wK.1.size 1)=false:=(aa.cell 0 1 _ rfl).2;obtain⟨u0,u1,ei⟩:=bw y aS;have b4:(0:Int)<=(q:Int):=by omega
   have b5:(q:Int)<(bD:Int):=by omega
   have ad:wK.1.size<B1:=by have:=I bf;omega
   have bK:wK.1.size<y.1.size:=by omega
   have dY:W.1.size+1<y.1.size:=by omega
   have dZ:ay<y.1.size:=by omega
   have cm:Hid (((List.range i).map C).length<=1000):=O (by have:=I cU;have:=I dp;simp;omega);obtain⟨ys,cK⟩:∃ys,(List.range i).map C=ys:=⟨_,rfl⟩;rw[cK]at a5 cm cq;clear aa bQ ac d5 cA bJ bq A cK aq cE bI cB;go_wp2_with fail;go_region_law
    (first
    | (refine Z3 rfl _ _ rfl rfl (a5.below D) cm (NE bv D.size) f rfl rfl ?_;intro gr cP bO ab;obtain⟨b3,bU,bZ,rfl⟩:=bO.sl;have dt:=O (Qj (c:=1) bO ad (E b3 bU bZ));have dH:=O (((be.next D).keep (ab.bel.mono bf)).set 0 1 v (E b3 bU bZ) rfl);have dq:=O (((b7.below D).keep ab.bel.size (fun b hb bb=>ab.bel.block b hb.2)).set (b:=wK.1.size) (fun cC=>by have:=cC.1;omega) 1 (E b3 bU bZ));have fF:aB cP wK.1.size 1 v:=V ab.bel ad eg;have fK:cP.frozen? (U wK.1.size 1)=false:=bF ab.bel ad dM;have dF:=O (NE (NE bv D.size) ab.bel.size);clear bO ab)
    | (go_simp;go_at_call 166;refine(I dw _ aS.drew).mono ?_; rintro j Z ⟨rfl,bp⟩;have D:=O ((FQ y.1.size y).drew.trans bp);have ci:=O ((I D).mono bv);have eg:aB Z wK.1.size 1 v:=V D bK ef;have dM:Z.frozen? (U wK.1.size 1)=false:=bF D bK cw;have gm:=((I bw Z ci)).2.1;have gn:=((I bw Z ci)).2.2;have bR:=D.size;have f1:wK.1.size<Z.1.size:=FT bK bR;have f2:W.1.size+1<Z.1.size:=FT dY bR;have f3:ay<Z.1.size:=FT dZ bR;clear bp))
   all_goals
    have c8:=I cU;have cD:=I ev;clear u0 u1 ei;go_wp2_with fail;go_roundw
    .exact ⟨i+1,by go_num,by omega,by have:=I dF;simpa using this,_,I dH,by rw[I cq];exact dt,dq⟩
    simp[intOf];omega
  have e3:i=ap:=by omega
  have fj:¬ (i:Int)<(ap:Int):=by omega
  have aq:J W r:=H.below.trans (o.below.mono (by have:=I a7;omega));have gj:aB r (W.1.size+1+1) 0 aH:=V o.below bo cf;have gl:aB r (W.1.size+1+1) 1 aH:=V o.below bo cg;have gC:r.frozen? (U (W.1.size+1+1) 0)=false:=bF o.below bo c3;have gD:r.frozen? (U (W.1.size+1+1) 1)=false:=bF o.below bo c4;have gK:aB r wK.1.size 0 (E x e vc):=(o.cell 0 0 _ rfl).1;have gL:aB r wK.1.size 1 v:=(o.cell 0 1 _ rfl).1;obtain⟨el,ee,ek,rfl⟩:=ae.sl;have fm:Hid (IsArr (OffB W.1.size 3 P) r (aK x e vc el ee ek) ⟨d++[B],(List.range ap).map C⟩):=O ⟨_,_,_,_,_,_,rfl,cF.imp (fun b h _=>OffB.new dv (by have:=I a7;have:=h.1;omega)),by rw[<-e3];exact ae.nums.imp (fun b h _=>OffB.new dv (by have S:=I a7;have bH:=I bf;have:=h.1;omega))⟩;have fq:=O aq;clear o ae cF e3 aq;go_wp2_with fail;have aU:=Jl (q:=2) (k:=3) (u0:=E x e vc) (u1:=E el ee ek) fq (by decide) fm;refine FR (v:=.tuple #[aK x e vc el ee ek,G 0]) (by simp[results,results126,go_sem,gj,gl]) rfl ?_;rw[fs];exact⟨_,_,_,_,_,_,rfl,aU.1,aU.2⟩
 have b1:((af:Int) != (k:Int)+1)=true:=by simp;omega
 have ah:Hid (catR m w=(eArr,5)):=O (Js3 (by have:=I dE;have:=I dG;omega));clear d8 db;go_wp2_with fail;have aU:=Jl (q:=2) (k:=3) (u0:=aH) (u1:=aH) H.1.below (by decide) (Jt (OffB W.1.size 3 P) _);refine FR (v:=.tuple #[.agg aF,G 5]) (by simp[results,results126,go_sem,cf,cg]) rfl ?_;rw[ah];exact⟨_,_,_,_,_,_,rfl,aU.1,aU.2⟩
end Go.Proofs.YtjobgpahajhbnaaGreatDoor
