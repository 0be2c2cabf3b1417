import Derived.Test.YtjobgpahajhbnaaGreatDoorAo
namespace Go.Proofs.YtjobgpahajhbnaaGreatDoor
open Go.RowKit Go.Proofs Go.Maps Go.Proofs.Tryz
attribute [local go_sem ↓] Go.wp_at_zero Go.wp_at_succ
set_option linter.all false
set_option maxHeartbeats 4000000
set_option maxRecDepth 20000
variable {l:List Int}
theorem Jfv(h:∀c ∈ l,0<=c)(hb:¬ l.any (fun c=>decide (64<c))=true):(Jp l).map Int.ofNat=l:=by
 unfold Jp;rw[PZ];conv=>rhs;rw[<-List.map_id l]
 apply YZ;intro c a;have:=h c a;have:¬ 64<c:=fun h=>hb (YX.2 ⟨c,a,by simpa using h⟩);show((min c 65).toNat:Int)=c;omega
theorem Jne(h:l.any (fun c=>decide (64<c))=true):Yb (Jp l)=false:=by
 unfold Yb;rw[Mx];left;rw[List.all_eq_false];obtain⟨c,b,a⟩:=YX.1 h;refine⟨(min c 65).toNat,NZ.2 ⟨c,b,rfl⟩,?_⟩;simp at a⊢;omega
theorem Jin(P)(W)(hP:∀b,W.1.size<=b->P b)(va vb)(a b)(ha:IsArr P W va a)(hb:IsArr P W vb b)(hob:b.ok):
 Calls prog 123 #[va,vb] W (RRes P W (Yd a b)):=by
 have bK:=ha;have bL:=hb;obtain⟨aW,N,sc,Y,j,X,rfl,bV,bA⟩:=ha;obtain⟨aX,aV,aU,C,i,B,rfl,bW,bB⟩:=hb;obtain⟨af,b4⟩:=Jb bK;obtain⟨Z,b5⟩:=Jb bL;have bp:=Bx.n3 W (aM aW N sc Y j X) (aM aX aV aU C i B) aG 133 133 133;have bo:=bp.alloc (by simp) aG 133;obtain⟨ab,aa⟩:∃ab,Yd a b=ab:=⟨_,rfl⟩;rw[aa];unfold Yd at aa;by_cases be:1<a.shape.length\/3<a.cells.length
 .rw [FY be]at aa;subst aa;have ce:=O bp.below;by_cases bz:1<a.shape.length
  .have b9:(1:Int)<(N:Int):=by omega
   clear bo bp bK bL bV bA bW bB af Z b4 b5 hP hob be bz;go_enter func123,ntmps123;go_wp2_with fail;exact FR (v:=.tuple #[.agg aF,G 5]) (by simp[results,Hr,go_sem]) rfl ⟨_,_,_,_,_,_,rfl,Jt _ _,ce⟩
  have b9:¬ (1:Int)<(N:Int):=by omega
  have cB:(3:Int)<(j:Int):=by omega
  clear bo bp bK bL bV bA bW bB af Z b4 b5 hP hob be bz;go_enter func123,ntmps123;go_wp2_with fail;exact FR (v:=.tuple #[.agg aF,G 5]) (by simp[results,Hr,go_sem]) rfl ⟨_,_,_,_,_,_,rfl,Jt _ _,ce⟩
 rw[FU be]at aa;have b9:¬ (1:Int)<(N:Int):=by omega
 have cB:¬ (3:Int)<(j:Int):=by omega
 have cU:j<=3:=by omega
 have cd:=O bA;have cf:=O bB;clear bp bK bL bV bA bW bB b4 b5 hob be;change Hid _ at hP aa Z af bo;go_enter func123,ntmps123;go_wp2_with fail;obtain⟨cc,b6⟩:∃cc,((((W.alloc (.cells (aL aW N sc Y j X) 133)).alloc (.cells (aL aX aV aU C i B) 133)).alloc (.cells aF 133)).alloc (.cells aF 133))=cc:=⟨_,rfl⟩;have cJ:Hid (Bx W cc [(aM aW N sc Y j X),(aM aX aV aU C i B),aG,aG]):=O (b6▸I bo);rw[b6];clear b6 bo b9 cB;go_loopw [7,8] (fun cR ca wr=>∃d:Nat,ca=G d/\d<=j/\cR=.bool ((a.cells.take d).any (fun c=>decide (64<c)))/\(∀c ∈ a.cells.take d,0<=c)/\Bx W wr [(aM aW N sc Y j X),(aM aX aV aU C i B),aG,aG]) (fun _ ca _=>j-(intOf ca).toNat)
 .exact ⟨0,rfl,by omega,rfl,by simp,cJ⟩
 obtain⟨d,rfl,u,rfl,ae,f⟩:=hrel;have m:=O f;have bO:aB wr W.1.size 1 (E Y j X):=(f.cell 0 1 _ rfl).1;have az:aB wr (W.1.size+1) 1 (E C i B):=(f.cell 1 1 _ rfl).1;have H:aB wr (W.1.size+1+1) 0 aH:=(f.cell 2 0 _ rfl).1;have K:aB wr (W.1.size+1+1) 1 aH:=(f.cell 2 1 _ rfl).1;have bb:wr.frozen? (U (W.1.size+1+1) 0)=false:=(f.cell 2 0 _ rfl).2;have bc:wr.frozen? (U (W.1.size+1+1) 1)=false:=(f.cell 2 1 _ rfl).2;by_cases w:d<j
 .have bH:d<a.cells.length:=by have:=I af;omega
  obtain⟨cl,cP,rfl,bi,ap,-⟩:=cd.at (k:=d) bH;obtain⟨s,ah⟩:∃s,a.cells[d]=s:=⟨_,rfl⟩;rw[ah]at ap;have cA:=V f.below bi ap;have T:Hid (a.cells.take (d+1)=a.cells.take d++[s]):=O (by rw[NG bH,ah]);have cG:Hid (s ∈ a.cells):=O (by rw[<-ah];exact ND bH);obtain⟨q,o⟩:∃q,(a.cells.take d).any (fun c=>decide (64<c))=q:=⟨_,rfl⟩;rw[o];have cW:(0:Int)<=(d:Int):=by omega
  have cX:(d:Int)<(j:Int):=by omega
  have al:=O u;have am:=O w;clear f bH bi ap ah u w;change Hid _ at o ae;by_cases cx:s<0
  .have ak:Hid (ab=(eArr,7)):=O (by
    rw[<-aa,FY];rw[YX];exact⟨s,cG,by simpa[negB]using cx⟩)
   go_wp2_with fail;have n:=Jl (q:=2) (k:=4) (u0:=aH) (u1:=aH) m.below (by decide) (Jt (OffB W.1.size 4 P) _);refine FR (v:=.tuple #[.agg aF,G 7]) (by simp[results,Hr,go_sem,H,K]) rfl ?_;rw[ak];exact⟨_,_,_,_,_,_,rfl,n.1,n.2⟩
  have cV:¬ s<0:=cx;cases q
  .by_cases bE:64<s
   .have d1:decide ((64:Int)<s)=true:=by simpa using bE
    have u:=I al;have w:=I am;go_wp2_with fail;go_roundw
    .exact ⟨d+1,by go_num,by omega,by rw[T,List.any_append,o];simp[I bE],(by rw[T];intro c ao;rcases ZK.1 ao with h|h;exact ae c h;simp at h;omega),m⟩
    simp[intOf];omega
   have d1:decide ((64:Int)<s)=false:=by simpa using bE
   have u:=I al;have w:=I am;go_wp2_with fail;go_roundw
   .exact ⟨d+1,by go_num,by omega,by rw[T,List.any_append,o];simp;have:=I bE;omega,(by rw[T];intro c ao;rcases ZK.1 ao with h|h;exact ae c h;simp at h;omega),m⟩
   simp[intOf];omega
  have u:=I al;have w:=I am;go_wp2_with fail;go_roundw
  .exact ⟨d+1,by go_num,by omega,by rw[T,List.any_append,o];simp,(by rw[T];intro c ao;rcases ZK.1 ao with h|h;exact ae c h;simp at h;omega),m⟩
  simp[intOf];omega
 have ar:d=j:=by omega
 have bh:a.cells.take d=a.cells:=NJ (by have:=I af;omega);rw[bh]at ae⊢;have bu:¬ (d:Int)<(j:Int):=by omega
 obtain⟨q,o⟩:∃q,a.cells.any (fun c=>decide (64<c))=q:=⟨_,rfl⟩;rw[o];have ci:=O o;have cH:Hid (¬ a.cells.any negB=true):=O (by
  rw[YX];rintro⟨c,ao,h⟩;have:=ae c ao;simp[negB]at h;omega)
 have bv:Hid ((if Yb (Jp a.cells)=false then(eArr,9)else if b.cells.length=0/\0<Jd (Jp a.cells)then(eArr,6)else(⟨Jp a.cells,reC (Jd (Jp a.cells)) b.cells (Jd (Jp a.cells))⟩,0))=ab):=O (by rw[<-aa,FU (I cH)]);clear bh o f ar u w;change Hid _ at ae;cases q
 .go_wp2_with fail;have bX:=Jfv ae (by rw[ci];decide);obtain⟨cD,cO⟩:∃cD,cD=wr:=⟨_,rfl⟩;subst cO;change Hid _ at bX;go_loopw [9] (fun cb wr=>∃l:Nat,cb=G l/\l<=j/\∃vs,Bx W wr [(aM aW N sc Y j X),(aM aX aV aU C i B),aG,[vs,aH]]/\OwnJ (W.1.size+4) wr vs (a.cells.take l)) (fun cb _=>j-(intOf cb).toNat)
  .exact ⟨0,rfl,by omega,_,m,by simpa using OwnJ.nil _ _⟩
  obtain⟨l,rfl,bI,vs,f,x⟩:=hrel;have m:=O f;have A:=O x;have bO:aB wr W.1.size 1 (E Y j X):=(f.cell 0 1 _ rfl).1;have a6:aB wr (W.1.size+1+1+1) 0 vs:=(f.cell 3 0 _ rfl).1;have bx:wr.frozen? (U (W.1.size+1+1+1) 0)=false:=(f.cell 3 0 _ rfl).2;have cv:W.1.size+4<=wr.1.size:=f.lt;by_cases bJ:l<j
  .have bZ:l<a.cells.length:=by have:=I af;omega
   obtain⟨cl,cP,rfl,bi,ap,-⟩:=cd.at (k:=l) bZ;obtain⟨s,ah⟩:∃s,a.cells[l]=s:=⟨_,rfl⟩;rw[ah]at ap;have cA:=V f.below bi ap;have T:Hid (a.cells.take (l+1)=a.cells.take l++[s]):=O (by rw[NG bZ,ah]);have ac:Hid ((a.cells.take l).length<=1000):=O (by simp;omega);obtain⟨aj,ai⟩:∃aj,a.cells.take l=aj:=⟨_,rfl⟩;rw[ai]at A ac T;have cY:(0:Int)<=(l:Int):=by omega
   have cZ:(l:Int)<(j:Int):=by omega
   have D:W.1.size+1+1+1<W.1.size+4:=by omega
   have cq:W.1.size+1+1+1<wr.1.size:=by omega
   have cr:W.1.size<wr.1.size:=by omega
   have cs:cl<wr.1.size:=by omega
   have cE:=O bI;have cF:=O bJ;clear f x bZ ap ah ai bi bI bJ;go_wp2_with fail;go_region_law (refine Nm rfl _ _ rfl rfl (A.below aS.drew) ac cv s rfl rfl ?_;intro cC S F bD;obtain⟨R,n4,Q,rfl⟩:=F.sl;have cI:=O (Ja6 (v':=E R n4 Q) 3 0 (m.next aS.drew) rfl bD);have a8:=O (F.set D (c:=0) (E R n4 Q));have cm:aB S (W.1.size+1+1+1) 0 vs:=V bD D a6;have cn:S.frozen? (U (W.1.size+1+1+1) 0)=false:=bF bD D bx;clear F bD)
   all_goals
    clear a6 bx bO cA;have bI:=I cE;have bJ:=I cF;go_wp2_with fail;go_roundw
    .exact ⟨l+1,by go_num,by omega,_,cI,by rw[T];exact a8⟩
    simp[intOf];omega
  have cK:l=j:=by omega
  have bh:a.cells.take l=a.cells:=NJ (by have:=I af;omega);rw[bh]at A;obtain⟨z,y,vc,rfl⟩:=x.sl;have bu:¬ (l:Int)<(j:Int):=by omega
  have bn:=A.nums;rw[<-bX]at bn;have ct:(Jp a.cells).length<=3:=by have bz:=NM List.length bX;simp at bz;have:=I af;omega
  have cu:∀cz ∈ Jp a.cells,cz<=400:=by
   intro cz cw;simp only[Jp,NZ]at cw;obtain⟨c,_,rfl⟩:=cw;omega
  have ad:=O (Fe wr z y vc (Jp a.cells) bn ⟨ct,cu⟩);obtain⟨kr,bm⟩:∃kr,(if Yb (Jp a.cells)=true then(Jd (Jp a.cells):Int)else -1)=kr:=⟨_,rfl⟩;simp only[bm]at ad;have H:aB wr (W.1.size+1+1) 0 aH:=(f.cell 2 0 _ rfl).1;have K:aB wr (W.1.size+1+1) 1 aH:=(f.cell 2 1 _ rfl).1;have bb:wr.frozen? (U (W.1.size+1+1) 0)=false:=(f.cell 2 0 _ rfl).2;have bc:wr.frozen? (U (W.1.size+1+1) 1)=false:=(f.cell 2 1 _ rfl).2;have az:aB wr (W.1.size+1) 1 (E C i B):=(f.cell 1 1 _ rfl).1;clear x f bh cK ct cu bI bJ;change Hid _ at bn bm;by_cases ag:Yb (Jp a.cells)=true
  .have b2:kr=(Jd (Jp a.cells):Int):=by rw[<-bm,FY ag]
   subst b2;have an:Jd (Jp a.cells)<=64:=by
    unfold Yb at ag;rw[ZJ]at ag;simpa using ag.2
   have bw:Hid ((if b.cells.length=0/\0<Jd (Jp a.cells)then(eArr,6)else(⟨Jp a.cells,reC (Jd (Jp a.cells)) b.cells (Jd (Jp a.cells))⟩,0))=ab):=O (by have h:=I bv;rw[FU (by rw[ag];decide)]at h;exact h);obtain⟨g,cp⟩:∃g,Jd (Jp a.cells)=g:=⟨_,rfl⟩;rw[cp]at ad bw an;clear cp ag bv aa bm;by_cases br:b.cells.length=0/\0<g
   .have ak:Hid (ab=(eArr,6)):=O (by rw[<-bw,FY br]);have bM:(0:Int)<(g:Int):=by omega
    have cy:((i:Int)== 0)=true:=by have:=I Z;simp;omega
    clear br;go_wp2_with (go_at_call 161;refine aQ ad ?_);have n:=Jl (q:=2) (k:=4) (u0:=aH) (u1:=aH) m.below (by decide) (Jt (OffB W.1.size 4 P) _);refine FR (v:=.tuple #[.agg aF,G 6]) (by simp[results,Hr,go_sem,H,K]) rfl ?_;rw[ak];exact⟨_,_,_,_,_,_,rfl,n.1,n.2⟩
   have cj:Hid (ab=(⟨Jp a.cells,reC g b.cells g⟩,0)):=O (by rw[<-bw,FU br]);have bT:Hid (0<g->0<i):=O (fun h=>by have:=I Z;rcases ZB i with e|e;exact absurd ⟨by omega,h⟩ br;exact e);have bP:Hid ((List.range g).map (fun bN=>b.cells.getD (bN % b.cells.length) 0)=reC g b.cells g):=O (by
    unfold reC;apply YZ;intro bN cN;rw[FY (by simpa using cN)])
   obtain⟨t,bG⟩:∃t:Nat->Int,(fun bN=>b.cells.getD (bN % b.cells.length) 0)=t:=⟨_,rfl⟩;rw[bG]at bP;obtain⟨B1,co⟩:∃B1,wr.1.size=B1:=⟨_,rfl⟩;have ch:Hid (Nums (fun b=>W.1.size+4<=b/\b<B1) wr (E z y vc) ((Jp a.cells).map Int.ofNat)):=O (co▸I bn);have ck:Hid (B1<=wr.1.size):=O (by omega);have a5:Hid (W.1.size+4<=B1):=O (by omega);have cg:=m;clear br co bw bn cv A;change Hid _ at bG;by_cases bg:0<g
   .have bM:(0:Int)<(g:Int):=Int.ofNat_lt.2 bg;have cy:((i:Int)== 0)=false:=ZD (fun e=>Nat.ne_of_gt (I bT bg) (Int.ofNat.inj e));go_wp2_with (go_at_call 161;refine aQ ad ?_);clear bM cy ad a6 bx bO H K bb bc az bg;go_loopw [11] (fun aY wr=>∃d:Nat,aY=G d/\d<=g/\B1<=wr.1.size/\∃v,Bx W wr [(aM aW N sc Y j X),(aM aX aV aU C i B),aG,[E z y vc,v]]/\OwnL B1 wr v ((List.range d).map t)/\Nums (fun b=>W.1.size+4<=b/\b<B1) wr (E z y vc) ((Jp a.cells).map Int.ofNat)) (fun aY _=>g-(intOf aY).toNat)
    .exact ⟨0,rfl,by omega,ck,_,cg,OwnL.nil _ _,ch⟩
    rename World=>wx;obtain⟨d,rfl,u,bf,v,f,x,av⟩:=hrel;have m:=O f;have A:=O x;have a7:=O av;have az:aB wx (W.1.size+1) 1 (E C i B):=(f.cell 1 1 _ rfl).1;have bt:aB wx (W.1.size+1+1+1) 1 v:=(f.cell 3 1 _ rfl).1;have bd:wx.frozen? (U (W.1.size+1+1+1) 1)=false:=(f.cell 3 1 _ rfl).2;have au:=f.lt;simp at au;by_cases w:d<g
    .have bl:0<i:=bT (by omega);have aw:d % i<i:=YR _ bl;have r:b.cells.getD (d % b.cells.length) 0=t d:=by rw[<-bG]
     rw[<-Z]at r;obtain⟨q,ax⟩:∃q,d % i=q:=⟨_,rfl⟩;rw[ax]at r aw;have o:q<b.cells.length:=by rw[<-Z];exact aw
     obtain⟨ba,b7,rfl,bj,aq,-⟩:=cf.at (k:=q) o;rw[NC,FX o]at r;simp only[JI]at r;obtain⟨L,bq⟩:∃L,b.cells[q]=L:=⟨_,rfl⟩;rw[bq]at aq r;have b8:aB wx ba (b7+q) (G L):=V f.below bj aq;have cQ:(d:Int).tmod (i:Int)=(q:Int):=by rw[ZE (by omega),<-ax];rfl
     have cM:¬ i=0:=by omega
     have a9:Hid ((List.range (d+1)).map t=(List.range d).map t++[L]):=O (by rw[ZZ,NU,r];rfl);have ac:Hid (((List.range d).map t).length<=1000):=O (by simp;omega);obtain⟨aj,ai⟩:∃aj,(List.range d).map t=aj:=⟨_,rfl⟩;rw[ai]at A ac a9;have bu:(d:Int)<(g:Int):=by omega
     have cS:(0:Int)<=(q:Int):=by omega
     have cT:(q:Int)<(i:Int):=by omega
     have D:W.1.size+1+1+1<B1:=by have:=I a5;omega
     have cq:W.1.size+1+1+1<wx.1.size:=by omega
     have cr:W.1.size+1<wx.1.size:=by omega
     have cs:ba<wx.1.size:=by omega
     have al:=O u;have am:=O w;have bQ:=O an;clear f x av o ax bj aq bq r bl u w aw ai au an;go_wp2_with fail;go_region_law (refine Z3 rfl _ _ rfl rfl (A.below aS.drew) ac bf L rfl rfl ?_;intro cC S F p;obtain⟨R,n4,Q,rfl⟩:=F.sl;have bS:=O (((m.next aS.drew).keep (p.bel.mono a5)).set 3 1 v (E R n4 Q) rfl);have a8:=O (Qj (c:=1) F D (E R n4 Q));have bR:=O (((a7.below aS.drew).keep p.bel.size (fun b hb cL=>p.bel.block b hb.2)).set (b:=W.1.size+1+1+1) (fun bY=>by have:=bY.1;omega) 1 (E R n4 Q));have b3:B1<=S.1.size:=NE bf p.bel.size;have cm:aB S (W.1.size+1+1+1) 1 v:=V p.bel D bt;have cn:S.frozen? (U (W.1.size+1+1+1) 1)=false:=bF p.bel D bd;clear F p)
     all_goals
      clear az bt bd b8;have u:=I al;have w:=I am;have an:=I bQ;go_wp2_with fail;go_roundw
      .exact ⟨d+1,by go_num,by omega,by simpa using b3,_,I bS,by rw[I a9];exact a8,bR⟩
      simp[intOf];omega
    have ar:d=g:=by omega
    have bu:¬ (d:Int)<(g:Int):=by omega
    have H:aB wx (W.1.size+1+1) 0 aH:=(f.cell 2 0 _ rfl).1;have K:aB wx (W.1.size+1+1) 1 aH:=(f.cell 2 1 _ rfl).1;have bb:wx.frozen? (U (W.1.size+1+1) 0)=false:=(f.cell 2 0 _ rfl).2;have bc:wx.frozen? (U (W.1.size+1+1) 1)=false:=(f.cell 2 1 _ rfl).2;have a6:aB wx (W.1.size+1+1+1) 0 (E z y vc):=(f.cell 3 0 _ rfl).1;obtain⟨a4,ay,aZ,rfl⟩:=x.sl;clear f x av au;change Hid _ at ar;go_wp2_with fail;have bU:IsArr (OffB W.1.size 4 P) wx (aK z y vc a4 ay aZ) ⟨Jp a.cells,reC g b.cells g⟩:=⟨_,_,_,_,_,_,rfl,a7.imp (fun b h _=>OffB.new hP h.1),by rw[<-bP,<-ar];exact A.nums.imp (fun b h _=>OffB.new hP (NE a5 h.1))⟩;have n:=Jl (q:=2) (k:=4) (u0:=E z y vc) (u1:=E a4 ay aZ) m.below (by decide) bU;refine FR (v:=.tuple #[aK z y vc a4 ay aZ,G 0]) (by simp[results,Hr,go_sem,H,K]) rfl ?_;rw[cj];exact⟨_,_,_,_,_,_,rfl,n.1,n.2⟩
   have bM:¬ (0:Int)<(g:Int):=fun h=>bg (Int.ofNat_lt.1 h);go_wp2_with (go_at_call 161;refine aQ ad ?_);clear bM ad a6 bx bO H K bb bc az bg;go_loopw [11] (fun aY wr=>∃d:Nat,aY=G d/\d<=g/\B1<=wr.1.size/\∃v,Bx W wr [(aM aW N sc Y j X),(aM aX aV aU C i B),aG,[E z y vc,v]]/\OwnL B1 wr v ((List.range d).map t)/\Nums (fun b=>W.1.size+4<=b/\b<B1) wr (E z y vc) ((Jp a.cells).map Int.ofNat)) (fun aY _=>g-(intOf aY).toNat)
   .exact ⟨0,rfl,by omega,ck,_,cg,OwnL.nil _ _,ch⟩
   rename World=>wx;obtain⟨d,rfl,u,bf,v,f,x,av⟩:=hrel;have m:=O f;have A:=O x;have a7:=O av;have az:aB wx (W.1.size+1) 1 (E C i B):=(f.cell 1 1 _ rfl).1;have bt:aB wx (W.1.size+1+1+1) 1 v:=(f.cell 3 1 _ rfl).1;have bd:wx.frozen? (U (W.1.size+1+1+1) 1)=false:=(f.cell 3 1 _ rfl).2;have au:=f.lt;simp at au;by_cases w:d<g
   .have bl:0<i:=bT (by omega);have aw:d % i<i:=YR _ bl;have r:b.cells.getD (d % b.cells.length) 0=t d:=by rw[<-bG]
    rw[<-Z]at r;obtain⟨q,ax⟩:∃q,d % i=q:=⟨_,rfl⟩;rw[ax]at r aw;have o:q<b.cells.length:=by rw[<-Z];exact aw
    obtain⟨ba,b7,rfl,bj,aq,-⟩:=cf.at (k:=q) o;rw[NC,FX o]at r;simp only[JI]at r;obtain⟨L,bq⟩:∃L,b.cells[q]=L:=⟨_,rfl⟩;rw[bq]at aq r;have b8:aB wx ba (b7+q) (G L):=V f.below bj aq;have cQ:(d:Int).tmod (i:Int)=(q:Int):=by rw[ZE (by omega),<-ax];rfl
    have cM:¬ i=0:=by omega
    have a9:Hid ((List.range (d+1)).map t=(List.range d).map t++[L]):=O (by rw[ZZ,NU,r];rfl);have ac:Hid (((List.range d).map t).length<=1000):=O (by simp;omega);obtain⟨aj,ai⟩:∃aj,(List.range d).map t=aj:=⟨_,rfl⟩;rw[ai]at A ac a9;have bu:(d:Int)<(g:Int):=by omega
    have cS:(0:Int)<=(q:Int):=by omega
    have cT:(q:Int)<(i:Int):=by omega
    have D:W.1.size+1+1+1<B1:=by have:=I a5;omega
    have cq:W.1.size+1+1+1<wx.1.size:=by omega
    have cr:W.1.size+1<wx.1.size:=by omega
    have cs:ba<wx.1.size:=by omega
    have al:=O u;have am:=O w;have bQ:=O an;clear f x av o ax bj aq bq r bl u w aw ai au an;go_wp2_with fail;go_region_law (refine Z3 rfl _ _ rfl rfl (A.below aS.drew) ac bf L rfl rfl ?_;intro cC S F p;obtain⟨R,n4,Q,rfl⟩:=F.sl;have bS:=O (((m.next aS.drew).keep (p.bel.mono a5)).set 3 1 v (E R n4 Q) rfl);have a8:=O (Qj (c:=1) F D (E R n4 Q));have bR:=O (((a7.below aS.drew).keep p.bel.size (fun b hb cL=>p.bel.block b hb.2)).set (b:=W.1.size+1+1+1) (fun bY=>by have:=bY.1;omega) 1 (E R n4 Q));have b3:B1<=S.1.size:=NE bf p.bel.size;have cm:aB S (W.1.size+1+1+1) 1 v:=V p.bel D bt;have cn:S.frozen? (U (W.1.size+1+1+1) 1)=false:=bF p.bel D bd;clear F p)
    all_goals
     clear az bt bd b8;have u:=I al;have w:=I am;have an:=I bQ;go_wp2_with fail;go_roundw
     .exact ⟨d+1,by go_num,by omega,by simpa using b3,_,I bS,by rw[I a9];exact a8,bR⟩
     simp[intOf];omega
   have ar:d=g:=by omega
   have bu:¬ (d:Int)<(g:Int):=by omega
   have H:aB wx (W.1.size+1+1) 0 aH:=(f.cell 2 0 _ rfl).1;have K:aB wx (W.1.size+1+1) 1 aH:=(f.cell 2 1 _ rfl).1;have bb:wx.frozen? (U (W.1.size+1+1) 0)=false:=(f.cell 2 0 _ rfl).2;have bc:wx.frozen? (U (W.1.size+1+1) 1)=false:=(f.cell 2 1 _ rfl).2;have a6:aB wx (W.1.size+1+1+1) 0 (E z y vc):=(f.cell 3 0 _ rfl).1;obtain⟨a4,ay,aZ,rfl⟩:=x.sl;clear f x av au;change Hid _ at ar;go_wp2_with fail;have bU:IsArr (OffB W.1.size 4 P) wx (aK z y vc a4 ay aZ) ⟨Jp a.cells,reC g b.cells g⟩:=⟨_,_,_,_,_,_,rfl,a7.imp (fun b h _=>OffB.new hP h.1),by rw[<-bP,<-ar];exact A.nums.imp (fun b h _=>OffB.new hP (NE a5 h.1))⟩;have n:=Jl (q:=2) (k:=4) (u0:=E z y vc) (u1:=E a4 ay aZ) m.below (by decide) bU;refine FR (v:=.tuple #[aK z y vc a4 ay aZ,G 0]) (by simp[results,Hr,go_sem,H,K]) rfl ?_;rw[cj];exact⟨_,_,_,_,_,_,rfl,n.1,n.2⟩
  have b2:kr=-1:=by rw[<-bm,FU ag]
  subst b2;have ak:Hid (ab=(eArr,9)):=O (by rw[<-bv,FY (by simpa using ag)]);go_wp2_with (go_at_call 161;refine aQ ad ?_);have n:=Jl (q:=2) (k:=4) (u0:=aH) (u1:=aH) m.below (by decide) (Jt (OffB W.1.size 4 P) _);refine FR (v:=.tuple #[.agg aF,G 9]) (by simp[results,Hr,go_sem,H,K]) rfl ?_;rw[ak];exact⟨_,_,_,_,_,_,rfl,n.1,n.2⟩
 have ak:Hid (ab=(eArr,9)):=O (by rw[<-bv,FY (Jne ci)]);go_wp2_with fail;have n:=Jl (q:=2) (k:=4) (u0:=aH) (u1:=aH) m.below (by decide) (Jt (OffB W.1.size 4 P) _);refine FR (v:=.tuple #[.agg aF,G 9]) (by simp[results,Hr,go_sem,H,K]) rfl ?_;rw[ak];exact⟨_,_,_,_,_,_,rfl,n.1,n.2⟩
theorem Jmn{j:Nat}{x y:Int}(hj:j<l.length)(hy:l[j]=y):Kx (l.take (j+1)) x=if y=x then 1 else Kx (l.take j) x:=by
 unfold Kx;rw[NG hj,hy];by_cases a:y=x
 .rw [FY a,FY (by simp[a])]
 rw[FU a];have:x ∈ l.take j++[y]↔x ∈ l.take j:=by
  rw[ZK,Mo];exact⟨fun c=>c.elim id (fun b=>absurd b.symm a),NN⟩
 simp only[this]
def atK(l:List Int)(x:Int)(k:Nat):Int:=if x.toNat<k then l.getD x.toNat 0 else 0
theorem Jmb(P)(W)(hP:∀b,W.1.size<=b->P b)(va vb)(a b)(ha:IsArr P W va a)(hb:IsArr P W vb b)(hoa:a.ok)(hob:b.ok):
 Calls prog 127 #[va,vb,.bool false] W (RRes P W (inP a b)):=by
 have Z:=ha;have aa:=hb;obtain⟨h,g,sc,r,e,o,rfl,ak,al⟩:=ha;obtain⟨D,C,B,s,f,p,rfl,am,an⟩:=hb;obtain⟨t,aq⟩:=Jb Z;obtain⟨u,ar⟩:=Jb aa;have ab:=Bx.n3 W (aM h g sc r e o) (aM D C B s f p) aG 133 133 133;have Q:=ab.alloc (by simp) [E h g sc,aH] 133;have:e<=200:=by rw[t];exact hoa.few
 have:f<=200:=by rw[u];exact hob.few
 obtain⟨az,N⟩:=nm (inP a b);rw[N];clear ab Z aa am aq ar hoa hob;change Hid _ at u t Q N;go_enter func127,ntmps127;go_wp2_with fail;obtain⟨aU,R⟩:=nm ((((W.alloc (.cells (aL h g sc r e o) 133)).alloc (.cells (aL D C B s f p) 133)).alloc (.cells aF 133)).alloc (.cells #[E h g sc,aH] 133));have ah:Bx W aU [(aM h g sc r e o),(aM D C B s f p),aG,[E h g sc,aH]]:=R▸I Q;rw[R];clear R Q;go_loopw [9] (fun d wr=>∃c:Nat,d=G c/\c<=e/\∃v,Bx W wr [(aM h g sc r e o),(aM D C B s f p),aG,[E h g sc,v]]/\OwnL (W.1.size+4) wr v ((a.cells.take c).map (Kx b.cells))) (fun d _=>e-(intOf d).toNat)
 .exact ⟨0,rfl,by omega,_,ah,OwnL.nil _ _⟩
 obtain⟨c,rfl,a5,v,d,j⟩:=hrel;have F:=d;have n:=j;have av:=d.a1;have aw:=d.b1;have ad:=d.c0;have ae:=d.c1;have ai:=d.C0;have aj:=d.C1;have ax:=d.d0;have ac:=d.d1;have T:=d.D1;have ap:W.1.size+4<=wr.1.size:=d.lt;by_cases a6:c<e
 .have w:c<a.cells.length:=by have:=I t;omega
  obtain⟨aW,bc,rfl,X,L,-⟩:=al.at (k:=c) w;generalize hx:a.cells[c]=x at L;have ay:=V d.below X L;have ag:Hid (a.cells.take (c+1)=a.cells.take c++[x]):=O (by rw[NG w,hx]);have:x ∈ a.cells:=by rw[<-hx];exact ND w
  have S:((a.cells.take c).map (Kx b.cells)).length<=1000:=by simp;omega
  have K:Hid ((a.cells.take (c+1)).map (Kx b.cells)=(a.cells.take c).map (Kx b.cells)++[Kx b.cells x]):=O (by rw[ag,NU];rfl);generalize hys:(a.cells.take c).map (Kx b.cells)=ys at n S K;have af:=an.below d.below;have:(0:Int)<=(c:Int):=by omega
  have:(c:Int)<(e:Int):=by omega
  clear d j w X L hx hys;go_wp2_with fail;go_loopw [11,12] (fun l i A=>∃k:Nat,i=G k/\k<=f/\l=G (Kx (b.cells.take (k)) x)/\A=wr) (fun _ i _=>f-(intOf i).toNat)
  .exact ⟨0,rfl,by omega,by simp[Kx],rfl⟩
  obtain⟨k,rfl,a7,rfl,au⟩:=hrel;subst au;by_cases a8:k<f
  .have A:k<b.cells.length:=by have:=I u;omega
   obtain⟨ao,bd,rfl,aX,Y,-⟩:=af.at (k:=k) A;generalize hy:b.cells[k]=y at Y;have aY:(0:Int)<=(k:Int):=by omega
   have bb:(k:Int)<(f:Int):=by omega
   have l:=Jmn (x:=x) A hy;by_cases i:y=x;have H:Kx (b.cells.take (k+1)) x=1:=by rw[l,FY i]
   have d1:(y == x)=true:=by simpa using i
   clear A hy i l;rotate_left;have H:Kx (b.cells.take (k+1)) x=Kx (b.cells.take k) x:=by rw[l,FU i]
   have d1:(y == x)=false:=by simpa using i
   generalize hm:Kx (b.cells.take k) x=m at H⊢;clear A hy i l hm
   all_goals
    go_wp2_with fail;go_roundw
    .exact ⟨k+1,by go_num,by omega,by rw[H],(by first|rfl|trivial)⟩
    simp[intOf];omega
  have ao:k=f:=by omega
  have H:Hid (Kx (b.cells.take (k)) x=Kx b.cells x):=O (by rw[NJ (by have:=I u;omega)]);rw[H];generalize hz:Kx b.cells x=z at K⊢;have:¬ (k:Int)<(f:Int):=by omega
  clear ao hz H;go_wp2_with (at_builtin;refine Ju rfl _ _ rfl n S ap z rfl rfl ?_);intro bb bf l i;obtain⟨be,n4,bd,rfl⟩:=l.sl;have A:=Xv 3 F rfl l i;have Y:W.1.size+1+1+1<W.1.size+4:=by omega
  have aX:=V i.bel Y ac;have aY:=bF i.bel Y T;clear l i ac T ad ae ai aj av aw ax ay;go_wp2_with fail;go_roundw
  .exact ⟨c+1,by go_num,by omega,_,A.1,by rw[K];exact A.2⟩
  simp[intOf];omega
 have L:c=e:=by omega
 have X:¬ (c:Int)<(e:Int):=by omega
 have A:a.cells.take c=a.cells:=NJ (by have:=I t;omega);rw[A]at j n;obtain⟨w,l,vc,rfl⟩:=j.sl;have H:Hid (az=(⟨a.shape,a.cells.map (Kx b.cells)⟩,0)):=O (by rw[<-N];rfl);clear d j L A;go_wp2_with fail;have K:IsArr (OffB W.1.size 4 P) wr (aK h g sc w l vc) ⟨a.shape,a.cells.map (Kx b.cells)⟩:=⟨_,_,_,_,_,_,rfl,(ak.imp (fun b i S=>⟨i,NN S⟩)).below F.below,n.nums.imp (fun b i _=>OffB.new hP i.1)⟩;have i:=Jl (q:=2) (k:=4) (u0:=E h g sc) (u1:=E w l vc) F.below (by decide) K;refine FR (v:=.tuple #[aK h g sc w l vc,G 0]) (by simp[results,results127,go_sem,ad,ae]) rfl ?_;rw[H];exact⟨_,_,_,_,_,_,rfl,i.1,i.2⟩
theorem Jmc(P)(W)(hP:∀b,W.1.size<=b->P b)(va vb)(a b)(ha:IsArr P W va a)(hb:IsArr P W vb b)(hoa:a.ok)(hob:b.ok):
 Calls prog 127 #[va,vb,.bool true] W (RRes P W (atP a b)):=by
 have Z:=ha;have aa:=hb;obtain⟨i,g,sc,B,f,w,rfl,ao,ap⟩:=ha;obtain⟨R,o,Q,C,d,A,rfl,aq,ar⟩:=hb;obtain⟨s,aw⟩:=Jb Z;obtain⟨l,ax⟩:=Jb aa;have K:=Bx.n3 W (aM i g sc B f w) (aM R o Q C d A) aG 133 133 133;have ad:=K.alloc (by simp) [E i g sc,aH] 133;have:f<=200:=by rw[s];exact hoa.few
 have:d<=200:=by rw[l];exact hob.few
 obtain⟨af,j⟩:=nm (atP a b);rw[j];unfold atP at j;by_cases D:b.shape.length≠1
 .rw [FY D]at j;subst j;have c:=K.below;have az:((o:Int)== 1)=false:=by simp;omega
  have aU:((o:Int) != 1)=true:=by simp;omega
  clear ad K Z aa ao ap aq ar s l aw ax hP hoa hob D;go_enter func127,ntmps127;go_wp2_with fail;refine FR (by simp[results,results127,go_sem];try rfl) rfl ?_;exact⟨_,_,_,_,_,_,rfl,Jt _ _,c⟩
 rw[FU D]at j;have az:((o:Int)== 1)=true:=by simp;omega
 have aU:((o:Int) != 1)=false:=by simp;omega
 clear K Z aa aq aw ax hoa hob D;change Hid _ at l s j;go_enter func127,ntmps127;go_wp2_with fail;obtain⟨bd,ae⟩:=nm ((((W.alloc (.cells (aL i g sc B f w) 133)).alloc (.cells (aL R o Q C d A) 133)).alloc (.cells aF 133)).alloc (.cells #[E i g sc,aH] 133));have aY:Bx W bd [(aM i g sc B f w),(aM R o Q C d A),aG,[E i g sc,aH]]:=ae▸ad;rw[ae];clear ae ad az aU;go_loopw [9] (fun e wr=>∃c:Nat,e=G c/\c<=f/\(∀n ∈ a.cells.take c,outB b.cells.length n=false)/\∃v,Bx W wr [(aM i g sc B f w),(aM R o Q C d A),aG,[E i g sc,v]]/\OwnL (W.1.size+4) wr v ((a.cells.take c).map (atF b.cells))) (fun e _=>f-(intOf e).toNat)
 .exact ⟨0,rfl,by omega,by simp,_,aY,OwnL.nil _ _⟩
 obtain⟨c,rfl,bj,r,v,e,t⟩:=hrel;have p:=e;have u:=t;have aV:=r;have a9:=e.a1;have ba:=e.b1;have L:=e.c0;have N:=e.c1;have a4:=e.C0;have a5:=e.C1;have bb:=e.d0;have ay:=e.d1;have an:=e.D1;have a7:W.1.size+4<=wr.1.size:=e.lt;by_cases bl:c<f
 .have H:c<a.cells.length:=by have:=I s;omega
  obtain⟨be,bq,rfl,au,Y,-⟩:=ap.at (k:=c) H;generalize hx:a.cells[c]=x at Y;have bc:=V e.below au Y;have aj:Hid (a.cells.take (c+1)=a.cells.take c++[x]):=O (by rw[NG H,hx]);have ah:x ∈ a.cells:=by rw[<-hx];exact ND H
  have ag:((a.cells.take c).map (atF b.cells)).length<=1000:=by simp;omega
  have T:Hid ((a.cells.take (c+1)).map (atF b.cells)=(a.cells.take c).map (atF b.cells)++[atF b.cells x]):=O (by rw[aj,NU];rfl);generalize hys:(a.cells.take c).map (atF b.cells)=ys at u ag T;have aW:=ar.below e.below;have:(0:Int)<=(c:Int):=by omega
  have:(c:Int)<(f:Int):=by omega
  clear e t H au Y hx hys r;by_cases ab:x<0
  .have d1:decide (x<0)=true:=by simpa using ab
   have F:Hid (af=(eArr,8)):=O (by
    rw[<-j,FY];rw[YX];exact⟨x,ah,by unfold outB;simp;have:=I l;omega⟩)
   go_wp2_with fail;have n:=Jl (q:=2) (k:=4) (u0:=aH) (u1:=aH) p.below (by decide) (Jt (OffB W.1.size 4 P) _);refine FR (v:=.tuple #[.agg aF,G 8]) (by simp[results,results127,go_sem,L,N]) rfl ?_;rw[F];exact⟨_,_,_,_,_,_,rfl,n.1,n.2⟩
  have d1:decide (x<0)=false:=by simpa using ab
  by_cases X:(d:Int)<=x
  .have am:decide ((d:Int)<=x)=true:=by simpa using X
   have F:Hid (af=(eArr,8)):=O (by
    rw[<-j,FY];rw[YX];exact⟨x,ah,by unfold outB;simp;have:=I l;omega⟩)
   go_wp2_with fail;have n:=Jl (q:=2) (k:=4) (u0:=aH) (u1:=aH) p.below (by decide) (Jt (OffB W.1.size 4 P) _);refine FR (v:=.tuple #[.agg aF,G 8]) (by simp[results,results127,go_sem,L,N]) rfl ?_;rw[F];exact⟨_,_,_,_,_,_,rfl,n.1,n.2⟩
  have am:decide ((d:Int)<=x)=false:=by simpa using X
  have al:0<=x:=by omega
  have aZ:x<(d:Int):=by omega
  have aX:Hid (outB b.cells.length x=false):=O (by unfold outB;simp;have:=I l;omega);go_wp2_with fail;clear d1 am ab X;go_loopw [11,12] (fun F n S=>∃k:Nat,n=G k/\k<=d/\F=G (atK b.cells x (k))/\S=wr) (fun _ n _=>d-(intOf n).toNat)
  .exact ⟨0,rfl,by omega,by simp[atK],rfl⟩
  obtain⟨k,rfl,bm,rfl,a8⟩:=hrel;subst a8;by_cases bn:k<d
  .have n:k<b.cells.length:=by have:=I l;omega
   obtain⟨av,br,rfl,a6,ak,-⟩:=aW.at (k:=k) n;generalize hy:b.cells[k]=y at ak;have bf:(0:Int)<=(k:Int):=by omega
   have bg:(k:Int)<(d:Int):=by omega
   have ai:Hid (b.cells.getD k 0=y):=O (by rw[NC,FX n,hy];rfl);have ac:=I al;by_cases F:(k:Int)=x;have S:Hid (atK b.cells x (k+1)=y):=O (by unfold atK;rw[FY (by omega),<-ai];congr 1;omega);have d1:((k:Int)== x)=true:=by simpa using F
   clear n hy F ac;rotate_left;have S:Hid (atK b.cells x (k+1)=atK b.cells x k):=O (by
    unfold atK;by_cases h:x.toNat<k
    .rw [FY h,FY (by omega)]
    rw[FU h,FU (by omega)])
   have d1:((k:Int)== x)=false:=by simpa using F
   generalize hm:atK b.cells x k=m at S⊢;clear n hy F ac hm
   all_goals
    go_wp2_with fail;go_roundw
    .exact ⟨k+1,by go_num,by omega,by rw[S],(by first|rfl|trivial)⟩
    simp[intOf];omega
  have a6:k=d:=by omega
  have ak:Hid (atK b.cells x (k)=atF b.cells x):=O (by unfold atK atF;rw[FY (by have:=I aZ;have:=I l;have:=I al;omega)]);rw[ak];generalize hz:atF b.cells x=z at T⊢;have:¬ (k:Int)<(d:Int):=by omega
  clear a6 hz ak;go_wp2_with (at_builtin;refine Ju rfl _ _ rfl u ag a7 z rfl rfl ?_);intro br bv ac F;obtain⟨bu,n4,bt,rfl⟩:=ac.sl;have ai:=Xv 3 p rfl ac F;have av:W.1.size+1+1+1<W.1.size+4:=by omega
  have bf:=V F.bel av ay;have bg:=bF F.bel av an;clear ac F ay an L N a4 a5 a9 ba bb bc;go_wp2_with fail;go_roundw
  .exact ⟨c+1,by go_num,by omega,(by rw[aj];intro n S;rcases ZK.1 S with h|h;exact aV n h;simp at h;rw[h];exact aX),_,ai.1,by rw[T];exact ai.2⟩
  simp[intOf];omega
 have ab:c=f:=by omega
 have ac:¬ (c:Int)<(f:Int):=by omega
 have F:a.cells.take c=a.cells:=NJ (by have:=I s;omega);rw[F]at t u;have X:=by rw[F]at r;exact r
 obtain⟨T,H,vc,rfl⟩:=t.sl;have Y:Hid (af=(⟨a.shape,a.cells.map (atF b.cells)⟩,0)):=O (by rw[<-j,FU (by rw[YX];rintro⟨n,S,h⟩;rw[X n S]at h;cases h)]);clear e t ab F r;go_wp2_with fail;have S:IsArr (OffB W.1.size 4 P) wr (aK i g sc T H vc) ⟨a.shape,a.cells.map (atF b.cells)⟩:=⟨_,_,_,_,_,_,rfl,(ao.imp (fun b h n=>⟨h,NN n⟩)).below p.below,u.nums.imp (fun b h _=>OffB.new hP h.1)⟩;have n:=Jl (q:=2) (k:=4) (u0:=E i g sc) (u1:=E T H vc) p.below (by decide) S;refine FR (v:=.tuple #[aK i g sc T H vc,G 0]) (by simp[results,results127,go_sem,L,N]) rfl ?_;rw[Y];exact⟨_,_,_,_,_,_,rfl,n.1,n.2⟩
end Go.Proofs.YtjobgpahajhbnaaGreatDoor
