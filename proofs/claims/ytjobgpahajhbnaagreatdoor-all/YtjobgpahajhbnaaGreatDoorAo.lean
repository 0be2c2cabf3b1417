import Derived.Test.YtjobgpahajhbnaaGreatDoorAj
namespace Go.Proofs.YtjobgpahajhbnaaGreatDoor
open Go.RowKit Go.Proofs Go.Maps Go.Proofs.Tryz
attribute [local go_sem ↓] Go.wp_at_zero Go.wp_at_succ
set_option linter.all false
set_option maxHeartbeats 4000000
set_option maxRecDepth 20000
variable {B c i k n:Nat} {P:Nat->Prop} {Q:Exit->Act->World->Prop} {a b:Arr} {f:Int->Int->Int × Int} {g:Nat->Int × Int} {o:Oper} {ops:Array Oper} {rest:List Oper} {sh:List Nat} {v:Value} {w:World} {xo:Option Addr} {xs ys:List Int} {y:Int}
theorem Jbp{t e:TypeId}{i0:TypeInfo}(ht:prog.underlying t=some (.slice e))(hi:prog.info? e=some i0)(hz0:i0.zero=some (G 0))(hz1:i0.size=1)(hz2:i0.bytes=8)
 {a:Act} (hgd:o.guard=none) (s x) (ho:o.op=.call { callee:=.builtin .append,args:=#[s,x],argTypes:=#[t,t] })
 (h:w.ownsRow B e 1 v xs.length (xs.map (Value.int .i64))) (hN:Nums P w (E xo n c) ys) (hx:xs.length<=1000) (hy:ys.length<=1000) (hB:B<=w.1.size) (hs:a.eval s=v) (hv:a.eval x=E xo n c)
 (hk:∀v' w',w'.ownsRow B e 1 v' (xs++ys).length ((xs++ys).map (Value.int .i64))->Below B w w'->wpList prog ops Q rest (a.put o.dst v') w'):wpList prog ops Q (o::rest) a w:=by
 have l:=Je hN;by_cases g:n=0
 .have m:ys=[]:=NK (by omega);subst g;subst m;rw[YU]at hk;have i:=Jv (P:=fun _=>True) h (fun _ _=>trivial);obtain⟨d,f,rfl,j,_⟩:=i;exact Za hgd s x t ho e i0 ht hi d xs.length f j hs xo c hv (hk _ _ h aS)
 obtain⟨b,j,rfl,-,-,-⟩:=hN.at (k:=0) (by omega);subst l;refine JE _ hgd s x t ho B e i0 (G 0) 1 8 ht hi hz0 hz1 hz2 rfl (by decide) v _ _ hs h ⟨b,j,none⟩ ys.length c (ys.map (Value.int .i64)) hv (by simp) (Fj hN) X9 (by unfold maxLen;omega) (by omega) hB ?_;intro v' w' d f _ p;refine hk v' w' (by rw[NU,JD];exact d) ?_;exact aS.grown f hB (fun m i=>(h.lt m i).1)
theorem Jal{a:Act}(hgd:o.guard=none)(s x)(ho:o.op=.call { callee:=.builtin .append,args:=#[s,x],argTypes:=#[37,37] })
 (h:OwnJ B w v xs) (hN:Nums P w (E xo n c) ys) (hx:xs.length<=1000) (hy:ys.length<=1000) (hB:B<=w.1.size) (hs:a.eval s=v) (hv:a.eval x=E xo n c)
 (hk:∀v' w',OwnJ B w' v' (xs++ys)->Below B w w'->wpList prog ops Q rest (a.put o.dst v') w'):wpList prog ops Q (o::rest) a w:=by
 obtain⟨g,b,d,e,f⟩:=NY GS;exact Jbp JH b d e f hgd s x ho h hN hx hy hB hs hv hk
theorem Jfj{a:Act}(hgd:o.guard=none)(s x)(ho:o.op=.call { callee:=.builtin .append,args:=#[s,x],argTypes:=#[32,32] })
 (h:OwnL B w v xs) (hN:Nums P w (E xo n c) ys) (hx:xs.length<=1000) (hy:ys.length<=1000) (hB:B<=w.1.size) (hs:a.eval s=v) (hv:a.eval x=E xo n c)
 (hk:∀v' w',OwnL B w' v' (xs++ys)->Below B w w'->wpList prog ops Q rest (a.put o.dst v') w'):wpList prog ops Q (o::rest) a w:=by
 obtain⟨g,b,d,e,f⟩:=NY VI;exact Jbp ZP b d e f hgd s x ho h hN hx hy hB hs hv hk
def ouG(f:Int->Int->Int × Int)(xs ys:List Int)(i:Nat):Int × Int:=f (xs.getD (i / ys.length) 0) (ys.getD (i % ys.length) 0)
def outR(f:Int->Int->Int × Int)(a b:Arr):Arr × Int :=
 if 3<a.shape.length+b.shape.length then(eArr,5)else if Yb (a.shape++b.shape)=false then(eArr,9)
 else Zz (ouG f a.cells b.cells) (a.shape++b.shape) (Jd (a.shape++b.shape))
theorem Jl8{c:Int}{zz:Int}(hc:SgC c f zz)(P)(W)(hP:∀b,W.1.size<=b->P b)(va vb)(a b)(ha:IsArr P W va a)(hb:IsArr P W vb b)(hoa:a.ok)(hob:b.ok):
 Calls prog 121 #[.int .u8 c,va,vb] W (RRes P W (outR f a b)):=by
 have a5:=ha;have a6:=hb;obtain⟨aw,A,sc,af,C,ad,rfl,bp,bq⟩:=ha;obtain⟨ab,t,aa,ag,d,ae,rfl,o,p⟩:=hb;obtain⟨al,bH⟩:=Jb a5;obtain⟨Y,bI⟩:=Jb a6;have aq:=Bx.n3 W (aM aw A sc af C ad) (aM ab t aa ag d ae) aG 133 133 133;have D:=aq.alloc (by simp) aG 133;have bB:=hoa.rank;have bD:=hob.rank;have cc:wrap64 ((A:Int)+(t:Int))=((A+t:Nat):Int):=by unfold wrap64;omega
 obtain⟨bN,s⟩:=nm (outR f a b);rw[s];unfold outR at s;by_cases ak:3<a.shape.length+b.shape.length
 .rw [FY ak]at s;subst s;have j:(3:Int)<((A+t:Nat):Int):=by omega
  have e:=aq.below;clear D aq a5 a6 bp bq o p al Y bH bI hP hoa hob ak bB bD hc;go_enter func121,ntmps121;go_wp2_with fail;refine FR (by simp[results,results121,go_sem];try rfl) rfl ?_;exact⟨_,_,_,_,_,_,rfl,Jt _ _,e⟩
 rw[FU ak]at s;have ch:¬ (3:Int)<((A+t:Nat):Int):=by omega
 have bR:=o;have bS:=p;have b2:=hoa;have b3:=hob;have bw:(a.shape++b.shape).length<=3:=by simp;omega
 have bx:∀n ∈ a.shape++b.shape,n<=400:=fun n cg=>by
  rcases ZK.1 cg with h|h
  .have:=hoa.lens n h;omega
  have:=hob.lens n h;omega
 have bV:Lens (a.shape++b.shape):=⟨bw,bx⟩;have bi:(a.shape.map Int.ofNat).length<=1000:=by simp;omega
 have bT:(b.shape.map Int.ofNat).length<=1000:=by simp;omega
 clear aq a5 a6 o p bH bI hoa hob ak bB bD bw bx;change Hid _ at s Y al;go_enter func121,ntmps121;have bA:W.1.size+4<=((((W.alloc (.cells (aL aw A sc af C ad) 133)).alloc (.cells (aL ab t aa ag d ae) 133)).alloc (.cells aF 133)).alloc (.cells aF 133)).1.size:=D.lt;go_wp2_with (at_builtin;refine Jal rfl _ _ rfl (OwnJ.nil (W.1.size+4) _) (bp.below D.below) (by simp) bi bA rfl rfl ?_);clear cc ch;intro cG bO a8 o;obtain⟨ar,au,av,rfl⟩:=a8.sl;have Q:=(D.keep o).set 3 0 aH (E ar au av) rfl;have R:W.1.size+1+1+1<W.1.size+4:=by omega
 have aU:=a8.set R (c:=0) (E ar au av);have b8:=(D.keep o).d0;have ca:=(D.keep o).D0;have bE:=o.size;simp at bE;have aW:W.1.size+4<=(bO.setCell (U (W.1.size+1+1+1) 0) (E ar au av)).1.size:=by simp;omega
 clear a8 o D bA bE
 (try rw[MZ]at aU)
 have b7:bO.cell? (U (W.1.size+1) 0)=some (E ab t aa):=by
  have e:=(Q.cell 1 0 _ rfl).1;rwa [celO (by omega)]at e
 go_wp2_with (at_builtin;refine Jal rfl _ _ rfl aU (bR.below Q.below) bi bT aW rfl rfl ?_);intro cH L a9 p;obtain⟨j,l,m,rfl⟩:=a9.sl;have B:=(Q.keep p).set 3 0 (E ar au av) (E j l m) rfl;have N:=a9.set R (c:=0) (E j l m);have b9:=(Q.keep p).d0;have cb:=(Q.keep p).D0;have bG:=p.size;simp at bG aW;clear a9 p Q aU b8 ca b7;rw[<-NU]at N;have X:=Fe (L.setCell (U (W.1.size+1+1+1) 0) (E j l m)) j l m (a.shape++b.shape) N.nums bV;obtain⟨kr,am⟩:=nm (if Yb (a.shape++b.shape)=true then(Jd (a.shape++b.shape):Int)else -1);simp only[am]at X;obtain⟨B1,bm⟩:=nm L.1.size;have ay:W.1.size+4<=B1:=by omega
 clear bG aW;by_cases x:Yb (a.shape++b.shape)=true
 .have a4:kr=(Jd (a.shape++b.shape):Int):=by rw[<-am,FY x]
  subst a4;have ac:Hid (bN=Zz (ouG f a.cells b.cells) (a.shape++b.shape) (Jd (a.shape++b.shape))):=O (by rw[<-s,FU (by simp[x])]);have bo:Jd (a.shape++b.shape)<=64:=by
   unfold Yb at x;rw[ZJ]at x;simpa using x.2
  have bj:Hid (Jd (a.shape++b.shape)=C*d):=O (by rw[Ji,<-b2.size,<-b3.size,al,Y]);generalize hK:Jd (a.shape++b.shape)=K at X ac bo bj;generalize hg:ouG f a.cells b.cells=g at ac;clear hK x;go_wp2_with (go_at_call 161;refine aQ X ?_);obtain⟨bh,S⟩:=nm (L.setCell (U (W.1.size+1+1+1) 0) (E j l m));have b5:Bx W bh [(aM aw A sc af C ad),(aM ab t aa ag d ae),aG,[E j l m,aH]]:=S▸B;have bY:=by
   have e:=N.nums;rw[S]at e;have r:bh.1.size=B1:=by rw[<-S,<-bm];simp
   rw[r]at e;exact e
  have b4:B1<=bh.1.size:=by rw[<-S,<-bm];simp
  rw[S];clear S B N X b9 cb am s;go_loopw [10] (fun e wr=>∃i:Nat,e=G i/\i<=K/\Yc g i=0/\B1<=wr.1.size/\∃v,Bx W wr [(aM aw A sc af C ad),(aM ab t aa ag d ae),aG,[E j l m,v]]/\OwnL B1 wr v (Yx g i)/\Nums (fun b=>W.1.size+4<=b/\b<B1) wr (E j l m) ((a.shape++b.shape).map Int.ofNat)) (fun e _=>K-(intOf e).toNat)
  .exact ⟨0,rfl,by omega,rfl,b4,_,b5,OwnL.nil _ _,bY⟩
  obtain⟨i,rfl,ce,aX,bn,v,e,an,a7⟩:=hrel;have ax:=e;have az:=an;have cj:=e.a1;have ck:=e.b1;have F:=e.c0;have H:=e.c1;have ah:=e.C0;have ai:=e.C1;have cl:=e.d0;have cm:=e.d1;by_cases cf:i<K
  .have bJ:=I bj;have bu:0<d:=by
    rcases ZB d with h|h
    .rw [h]at bJ;omega
    exact h
   have bc:i / d<C:=JF (by rw[ZF];omega);have be:i % d<d:=YR _ bu;have r:f (a.cells.getD (i / b.cells.length) 0) (b.cells.getD (i % b.cells.length) 0)=g i:=by rw[<-hg];rfl
   rw[<-Y]at r;have bv:i / d<=i:=PQ _ _;obtain⟨z,ao⟩:=nm (i / d);obtain⟨q,ap⟩:=nm (i % d);rw[ao,ap]at r;rw[ao]at bc bv;rw[ap]at be;have bb:z<a.cells.length:=by rw[<-al];exact bc
   have bd:q<b.cells.length:=by rw[<-Y];exact be
   obtain⟨cz,cD,rfl,br,aY,-⟩:=bq.at (k:=z) bb;obtain⟨cA,cE,rfl,bt,aZ,-⟩:=bS.at (k:=q) bd;rw[NC,FX bb,NC,FX bd]at r;simp only[JI]at r;obtain⟨ct,bK⟩:=nm (a.cells[z]);obtain⟨y,bL⟩:=nm (b.cells[q]);rw[bK]at aY r;rw[bL]at aZ r;have cn:=V e.below br aY;have co:=V e.below bt aZ;have cp:(i:Int).tdiv (d:Int)=(z:Int):=by rw[Int.tdiv_eq_ediv_of_nonneg (by omega),<-ao];rfl
   have cq:(i:Int).tmod (d:Int)=(q:Int):=by rw[ZE (by omega),<-ap];rfl
   have ci:¬ (d:Int)=0:=by omega
   generalize hgg:g i=gi at r;obtain⟨cy,aj⟩:=gi;have aV:=fun cs=>hc.pair ct y cs;simp only[r]at aV;have bQ:(i:Int)<(K:Int):=by omega
   have cu:(0:Int)<=(z:Int):=by omega
   have cv:(z:Int)<(C:Int):=by omega
   have cw:(0:Int)<=(q:Int):=by omega
   have cx:(q:Int)<(d:Int):=by omega
   have cr:wrap64 (z:Int)=(z:Int):=by unfold wrap64;omega
   clear e an bb bd ao ap br bt aY aZ bK bL r bu F H ah ai cl cm hg bJ bc be bv;go_wp2_with fail;go_quiet ((go_at_call 162;exact JL (aV _)));obtain⟨bP,T⟩:=nm (wr.drewN nq);have u:Bx W bP _:=T▸ax.drewN nq;have N:=T▸az.drewN nq;have bW:=T▸a7.below (Below.drewN aS nq);have bz:B1<=bP.1.size:=T▸bn;rw[T];have F:=u.c0;have H:=u.c1;have ah:=u.C0;have ai:=u.C1;have bM:=u.d1;have bl:=u.D1;clear T ax az a7 bn cj ck cn co cp cq cr bQ cu cv cw cx ci aV hc;have R:W.1.size+1+1+1<B1:=by have:=ay;omega
   by_cases Z:aj=0
   .subst Z;have bU:(Yx g i).length<=1000:=by rw[Vw];have:=ce;have:=bo;omega
    go_wp2_with (at_builtin;refine Ju rfl _ _ rfl N bU bz cy rfl rfl ?_);intro cF cI ba w;obtain⟨bg,n4,bf,rfl⟩:=ba.sl;have b6:=(u.keep (w.bel.mono ay)).set 3 1 v (E bg n4 bf) rfl;have bZ:=Qj (c:=1) ba R (E bg n4 bf);have bX:=(bW.keep w.bel.size (fun b hb cd=>w.bel.block b hb.2)).set (b:=W.1.size+1+1+1) (fun cd=>by have:=cd.1;omega) 1 (E bg n4 bf);have cd:=NE bz w.bel.size;have cB:=V w.bel R bM;have cC:=bF w.bel R bl;clear ba w bM bl F H ah ai;go_wp2_with fail;go_roundw
    .exact ⟨i+1,by go_num,by omega,Vu aX (by rw[hgg]),by simpa using cd,_,b6,by rw[Vv,hgg];exact bZ,bX⟩
    simp[intOf];omega
   have ba:(aj == 0)=false:=by simp[Z]
   have bf:(aj != 0)=true:=by simp[Z]
   go_wp2_with fail;have w:=Jl (q:=2) (k:=4) (u0:=aH) (u1:=aH) u.below (by decide) (Jt (OffB W.1.size 4 P) _);refine FR (v:=.tuple #[.agg aF,G aj]) (by simp[results,results121,go_sem,F,H]) rfl ?_;rw[ac,Xs _ aX (by rw[hgg];exact Z) cf,hgg];exact⟨_,_,_,_,_,_,rfl,by simpa[Z]using w.1,w.2⟩
  have z:i=K:=by omega
  have bQ:¬ (i:Int)<(K:Int):=by omega
  obtain⟨u,r,vc,rfl⟩:=an.sl;clear e an;go_wp2_with fail;have T:IsArr (OffB W.1.size 4 P) wr (aK j l m u r vc) ⟨a.shape++b.shape,Yx g K⟩:=⟨_,_,_,_,_,_,rfl,a7.imp (fun b h _=>OffB.new hP h.1),by rw[<-z];exact az.nums.imp (fun b h _=>OffB.new hP (NE ay h.1))⟩;have w:=Jl (q:=2) (k:=4) (u0:=E j l m) (u1:=E u r vc) ax.below (by decide) T;refine FR (v:=.tuple #[aK j l m u r vc,G 0]) (by simp[results,results121,go_sem,F,H]) rfl ?_;rw[ac,K6 _ (by have:=aX;rw[z]at this;exact this)];exact⟨_,_,_,_,_,_,rfl,w.1,w.2⟩
 have a4:kr=-1:=by rw[<-am,FU x]
 subst a4;have r:bN=(eArr,9):=by rw[<-s,FY (by simpa using x)]
 have F:L.cell? (U (W.1.size+1+1) 0)=some aH:=by
  have e:=(B.cell 2 0 _ rfl).1;rwa [celO (by omega)]at e
 have H:L.cell? (U (W.1.size+1+1) 1)=some aH:=by
  have e:=(B.cell 2 1 _ rfl).1;rwa [celO (by omega)]at e
 have ah:L.frozen? (U (W.1.size+1+1) 0)=false:=by
  have e:=(B.cell 2 0 _ rfl).2;rwa [NA]at e
 have ai:L.frozen? (U (W.1.size+1+1) 1)=false:=by
  have e:=(B.cell 2 1 _ rfl).2;rwa [NA]at e
 go_wp2_with (go_at_call 161;refine aQ X ?_);have w:=Jl (q:=2) (k:=4) (u0:=aH) (u1:=aH) B.below (by decide) (Jt (OffB W.1.size 4 P) _);refine FR (v:=.tuple #[.agg aF,G 9]) (by simp[results,results121,go_sem,F,H]) rfl ?_;rw[r];exact⟨_,_,_,_,_,_,rfl,w.1,w.2⟩
theorem Jcp(g):∀n,Yc g (n+1)=if(g 0).2≠0 then(g 0).2 else Yc (fun i=>g (i+1)) n
 | 0=>by
  simp[Yc]
 | n+1=>by
  rw[Yc,Jcp g n];simp[Yc];omega
theorem Jjp(g)(n):Yx g (n+1)=(g 0).1::Yx (fun i=>g (i+1)) n:=by
 simp[Yx,List.range_succ_eq_map]
theorem Jhm(g)(m):∀n,Yc g (m+n)=if Yc g m≠0 then Yc g m else Yc (fun j=>g (m+j)) n
 | 0=>by
  simp[Yc]
 | n+1=>by
  rw[<-Pj,Yc,Jhm g m n,Yc];omega
theorem Jss(g)(m n):Yx g (m+n)=Yx g m++Yx (fun j=>g (m+j)) n:=by
 simp[Yx,List.range_add]
theorem Jj3(f):∀(xs ys:List Int),xs.length=ys.length->zipF f xs ys=if Yc (fun i=>f (xs.getD i 0) (ys.getD i 0)) xs.length≠0 then .inl (Yc (fun i=>f (xs.getD i 0) (ys.getD i 0)) xs.length)else .inr (Yx (fun i=>f (xs.getD i 0) (ys.getD i 0)) xs.length)
 | [],[],_=>by simp[zipF,Yc,Yx]
 | x::xs,y::ys,h=>by
  have:=Jj3 f xs ys (by simpa using h);rw[zipF,ZN,Jcp,Jjp];grind
theorem Vh(f)(sh)(xs ys)(h:xs.length=ys.length):zipA f sh xs ys=Zz (fun i=>f (xs.getD i 0) (ys.getD i 0)) sh xs.length:=by
 unfold zipA Zz;rw[Jj3 f xs ys h];grind
theorem Jet(h:a.ok)(h0:a.shape.length=0):∃x,a.cells=[x]:=by
 have:=h.size;simp_all[Mq,Jd]
theorem J3a{x:Int}(h:i<n):(List.replicate n x).getD i 0=x:=by
 simp_all
theorem Xa(f)(ha:a.ok)(hb:b.ok):cwR f a b=Jh f a b:=by
 unfold cwR Jh;by_cases e:a.shape.length=0
 .rw [FY e,FY (ZV.1 e),Vh _ _ _ _ (by simp),YI];obtain⟨h,d⟩:=Jet ha e;apply Z9;simp_all[cwG,YM,Nat.mod_one]
 have m:¬ a.shape=[]:=fun c=>e (by rw[c];rfl);rw[FU e,FU m];by_cases g:b.shape.length=0
 .rw [FY g,FY (ZV.1 g),Vh _ _ _ _ (by simp)];obtain⟨h,d⟩:=Jet hb g;apply Z9;simp_all[cwG,YM,Nat.mod_one]
 have n:¬ b.shape=[]:=fun c=>g (by rw[c];rfl);rw[FU g,FU n];by_cases j:a.shape.length=b.shape.length
 .have l:¬ (a.shape.length≠b.shape.length):=fun d=>d j;rw[FU l,FU l];by_cases h:a.shape=b.shape
  .have q:a.cells.length=b.cells.length:=by rw[ha.size,hb.size,h]
   have k:¬ (a.shape≠b.shape):=fun d=>d h;have o:¬ (a.shape.map Int.ofNat≠b.shape.map Int.ofNat):=fun d=>d (by rw[h]);rw[FU k,FU o,Vh _ _ _ _ q];apply Z9;intro i p;unfold cwG;rw[YM p,YM (by omega)]
  have k:a.shape.map Int.ofNat≠b.shape.map Int.ofNat:=fun c=>h (Gp c);rw[FY k,FY h]
 rw[FY j,FY j]
theorem Jb9(f)(x)(b):Jh f ⟨[],[x]⟩ b=Zz (fun j=>f x (b.cells.getD j 0)) b.shape b.cells.length:=by
 unfold Jh;rw[FY rfl,Vh _ _ _ _ (by simp),YI];grind[Z9]
theorem Jab(g)(sh)(n):(Zz g sh n).2=Yc g n:=by
 grind[Zz]
theorem Jx0{m j:Nat}(hj:j<ys.length):ouG f xs ys (m*ys.length+j)=f (xs.getD m 0) (ys.getD j 0):=by
 unfold ouG;rw[ZF m,Nat.mul_add_div (by omega),Hh hj,MQ,PR,YM hj]
theorem ou_E(f)(b)(xs):∀m,Yc (ouG f xs b.cells) (m*b.cells.length)=outE (Jh f) b xs m
 | 0=>by simp[Yc,outE]
 | m+1=>by
  rw[ZG,YA,Jhm,ou_E f b xs m,outE,Jb9,Jab];by_cases h:outE (Jh f) b xs m=0
  .simp only[h,ne_eq,not_true,if_false];grind[G1,Jx0]
  simp[h]
theorem ou_C(f)(b)(xs):∀m,m<=xs.length->outE (Jh f) b xs m=0->Yx (ouG f xs b.cells) (m*b.cells.length)=((xs.take m).map fun x=>(Jh f ⟨[],[x]⟩ b).1.cells).flatten
 | 0,_,_=>by simp[Yx]
 | m+1,hm,h=>by
  rw[outE]at h;by_cases h0:outE (Jh f) b xs m=0
  .rw [FU (by simp[h0])]at h;have hx:xs.getD m 0=xs[m]:=by rw[NC,FX (by omega)];rfl
   rw[hx]at h;rw[ZG,YA,Jss,ou_C f b xs m (by omega) h0,NG (by omega),NU,JY];grind[Jb9,Jab,K6,Jcr,Jx0]
  omega
theorem Qk(f)(ha:a.ok)(hb:b.ok):outR f a b=Yr (Jh f) a b:=by
 unfold outR Yr;split
 .rfl
 split
 .rfl
 have d:Jd (a.shape++b.shape)=a.cells.length*b.cells.length:=by rw[Ji,ha.size,hb.size]
 unfold Zz;rw[d,ou_E];by_cases c:outE (Jh f) b a.cells a.cells.length=0
 .rw [FU (by simp[c]),FU (by simp[c]),ou_C f b a.cells _ aT c,JV];rfl
 simp_all
def Jaj(f:Int->Int->Int × Int):Prop:=∀x y,(f x y).2=0\/(f x y).2=7
theorem Jr3{f:Int->Int->Int × Int}(hf:Jaj f)(z):∀l,(Zh f z l).2=0\/(Zh f z l).2=7
 | []=>NN rfl
 | x::r=>by
  rw[Zh];by_cases h:r=[]
  .simp_all
  rw[FU h];by_cases h0:(Zh f z r).2=0
  .rw [FU (by simp[h0])];exact hf _ _
  rw[FY h0];exact Jr3 hf z r
theorem Jad{g:Nat->Int × Int}:∀{n:Nat},(∀i,i<n->(g i).2=0\/(g i).2=7)->Yc g n=0\/Yc g n=7
 | 0,_=>NN rfl
 | n+1,h=>by
  rw[Yc];rcases Jad (g:=g) (n:=n) (fun i hi=>h i (by omega))with e|e
  .simp_all
  omega
theorem F7{g:Nat->Int × Int}:∀{n:Nat},Yc g n=0->∀i,i<n->(g i).2=0
 | 0,_,i,hi=>absurd hi (by omega)
 | n+1,h,i,hi=>by
  rw[Yc]at h;by_cases h0:Yc g n=0
  .rw [FU (by simp[h0])]at h;by_cases e:i=n
   .simp_all
   exact F7 h0 i (by omega)
  omega
theorem Jac(hi:i<n)(h:(g i).2≠0):Yc g n≠0:=fun e=>h (F7 e i hi)
theorem Jnj:xs=Yx (fun i=>(xs.getD i 0,0)) xs.length:=by
 unfold Yx;apply YG
 .simp
 simp_all
theorem Jp4(f){c d:Arr}(hs:c.shape=d.shape)(hc:c.cells.length=Jd c.shape)(hd:d.cells.length=Jd d.shape):Jh f c d=Zz (fun i=>f (c.cells.getD i 0) (d.cells.getD i 0)) c.shape c.cells.length:=by
 have b:c.cells.length=d.cells.length:=by rw[hc,hd,hs]
 unfold Jh;by_cases a:c.shape=[]
 .rw [FY a,Vh _ _ _ _ (by simp),YI,<-hs,<-b];rw[a]at hc;have:c.cells.length=1:=by rw[hc];rfl
  grind[List.length_eq_one_iff]
 simp_all[Vh]
def Qz(cs:List Arr)(i:Nat):List Int:=cs.map fun c=>c.cells.getD i 0
theorem Jaf{f:Int->Int->Int × Int}(hf:Jaj f)(z){sh:List Nat}:∀(cs:List Arr),cs≠[]->(∀c ∈ cs,c.shape=sh/\c.cells.length=Jd sh)->Jn (Jh f) cs=Zz (fun i=>Zh f z (Qz cs i)) sh (Jd sh)
 | [],h,_=>absurd rfl h
 | c::r,_,hc=>by
  obtain⟨hcs,hcl⟩:=hc c (by simp);by_cases hr:r=[]
  .subst hr;rw[F9];have e:∀i,Zh f z (Qz [c] i)=(c.cells.getD i 0,0):=fun i=>by simp[Qz,Zh]
   simp only[e];rw[K6 _ (Kz (fun i _=>rfl)),<-hcl,<-Jnj,<-hcs]
  have ih:=Jaf hf z r hr (fun d hd=>hc d (M7 _ hd));have:∀i,Qz r i≠[]:=fun i h=>hr (by simpa[Qz]using h);have hstep:∀i,Zh f z (Qz (c::r) i)=if(Zh f z (Qz r i)).2≠0 then(0,(Zh f z (Qz r i)).2)else f (c.cells.getD i 0) (Zh f z (Qz r i)).1:=fun i=>by
   simp_all[Zh,Qz]
  rw[Jn,FU hr,ih];by_cases h0:Yc (fun i=>Zh f z (Qz r i)) (Jd sh)=0
  .rw [K6 _ h0];simp only[ne_eq,not_true,if_false];have hD:(Yx (fun i=>Zh f z (Qz r i)) (Jd sh)).length=Jd sh:=Vw _ _;rw[Jp4 f hcs (by rw[hcl,hcs]) hD,hcs,hcl];have e:Zz (fun i=>f (c.cells.getD i 0) ((Yx (fun i=>Zh f z (Qz r i)) (Jd sh)).getD i 0)) sh (Jd sh)=Zz (fun i=>Zh f z (Qz (c::r) i)) sh (Jd sh):=by
    apply Z9;intro i a;rw[hstep i,FU (by simp[F7 h0 i a])];congr 1;simp[Yx,NC,a]
   rw[e];unfold Zz;by_cases a:Yc (fun i=>Zh f z (Qz (c::r) i)) (Jd sh)=0
   .simp [a]
   simp[a]
  have l:=(Jad (fun i _=>Jr3 hf z _)).resolve_left h0;obtain⟨i,a,g⟩:∃i,i<Jd sh/\(Zh f z (Qz r i)).2≠0:=by
   apply JJ;intro b;exact h0 (Kz (fun i a=>JJ (fun h=>b ⟨i,a,h⟩)))
  have b:=(Jad (fun i _=>Jr3 hf z _)).resolve_left (Jac a (by rw[hstep i,FY g];exact g));have j:Zz (fun i=>Zh f z (Qz r i)) sh (Jd sh)=(eArr,7):=by
   unfold Zz;rw[FY h0,l]
  have k:Zz (fun i=>Zh f z (Qz (c::r) i)) sh (Jd sh)=(eArr,7):=by
   unfold Zz;rw[FY (by rw[b];decide),b]
  rw[j,k];simp
theorem Jst(hk:k<=Jq b.shape)(hi:i<Jd b.shape.dropLast)(hl:b.cells.length=Jd b.shape.dropLast*Jq b.shape):Qz ((cols b).take k) i=(b.cells.drop (i*Jq b.shape)).take k:=by
 have e:i*Jq b.shape+Jq b.shape<=b.cells.length:=by
  rw[hl];have:(i+1)*Jq b.shape<=Jd b.shape.dropLast*Jq b.shape:=NR _ hi;rwa [ZG,YA]at this
 apply YG
 .simp [Qz,cols];omega
 intro a c d;have f:a<k:=by simp[Qz,cols]at c;omega
 have g:i*Jq b.shape+a<b.cells.length:=by omega
 simp_all[Qz,cols,col,colC,Hg]
theorem Jhl:∀c ∈ cols b,c.shape=b.shape.dropLast/\c.cells.length=Jd b.shape.dropLast:=by
 intro c a;simp only[cols,NZ]at a;obtain⟨i,_,rfl⟩:=a;exact⟨rfl,F8 _ _ _ _⟩
theorem Ko(hf:Jaj f)(z)(h:a.ok):redR f z false a=Zw (Jh f) z a:=by
 unfold redR Zw;by_cases b:a.shape.length=0
 .simp_all
 rw[FU b,FU b,FU (by decide)];by_cases c:Yb a.shape.dropLast=false
 .simp_all
 rw[FU c,FU c];have g:=K7 h b;by_cases d:Jq a.shape=0
 .simp_all [Jr2,Zh,K6,Kz,Yx,PP]
 rw[FU d,Jaf hf z (cols a) (by simp_all[cols]) Jhl];apply Z9;intro i e;unfold Jr2;have:=Jst (k:=Jq a.shape) aT e g;rw[NJ (by simp[cols])]at this;rw[this]
theorem Jde(f)(cs):∀k,Vk f cs k=Yc (fun j=>(0,(Jn f (cs.take (j+1))).2)) k
 | 0=>rfl
 | k+1=>by rw[Vk,Yc,Jde f cs k]
theorem Ki(hf:Jaj f)(z)(h:a.ok):redR f z true a=Z1 (Jh f) a:=by
 unfold redR Z1;by_cases p:a.shape.length=0
 .simp_all
 rw[FU p,FU p,FY rfl];have m:=K7 h p;obtain⟨n,t⟩:=nm (Jq a.shape);obtain⟨j,s⟩:=nm (Jd a.shape.dropLast);have y:∀k,k<n->Jn (Jh f) ((cols a).take (k+1))=Zz (fun i=>Zh f z ((a.cells.drop (i*n)).take (k+1))) a.shape.dropLast j:=by
  intro k g;rw[Jaf hf z ((cols a).take (k+1)) (by
   simp[cols];omega) (fun c b=>Jhl c (ZM b)),s]
  apply Z9;intro i l;rw[Jst (by omega) (by omega) m,t]
 rw[t,s]at m;rw[t,s,Jde];have r:∀b,b<j*n->Jfy f z a.cells n b=Zh f z ((a.cells.drop (b / n*n)).take (b % n+1)):=by
  intro b d;unfold Jfy;have:b-b % n=b / n*n:=by have:=Ho b n;rw[ZF]at this;omega
  rw[this]
 have q:∀k,k<n->(Jn (Jh f) ((cols a).take (k+1))).2=Yc (fun i=>Zh f z ((a.cells.drop (i*n)).take (k+1))) j:=fun k g=>by rw[y k g,Jab]
 have C:∀k,k<n->(Jn (Jh f) ((cols a).take (k+1))).2=0\/(Jn (Jh f) ((cols a).take (k+1))).2=7:=fun k g=>by
  rw[q k g];exact Jad (fun i _=>Jr3 hf z _)
 by_cases o:Yc (Jfy f z a.cells n) a.cells.length=0
 .have x:=F7 o;rw[m]at x;have A:∀k,k<n->Yc (fun i=>Zh f z ((a.cells.drop (i*n)).take (k+1))) j=0:=fun k g=>Kz (fun i l=>by
   have d:i*n+k<j*n:=by
    have:(i+1)*n<=j*n:=NR _ l;rw[ZG,YA]at this;omega
   have:=x (i*n+k) d;rw[r _ d,ZF i n,Nat.mul_add_div (by omega),Hh g,MQ,PR,YM g]at this;exact this)
  have B:Yc (fun w=>((0:Int),(Jn (Jh f) ((cols a).take (w+1))).2)) n=0:=Kz (fun k g=>by
   show(Jn (Jh f) ((cols a).take (k+1))).2=0;rw[q k g,A k g])
  rw[K6 _ o,FU (fun e=>e B),m];congr 2;unfold Yx V1;apply YZ;intro b d;have d:b<j*n:=by simpa using d
  have l:0<n:=by
   rcases ZB n with e|e
   .rw [e]at d;omega
   exact e
  have u:=JF (by rw[ZF];exact d);rw[FY (YR _ l),y _ (YR _ l),K6 _ (A _ (YR _ l)),r b d];simp[Yx,NC,u]
 have B:Yc (Jfy f z a.cells n) a.cells.length=7:=(Jad (fun i _=>Jr3 hf z _)).resolve_left o;obtain⟨b,d,x⟩:∃b,b<a.cells.length/\(Jfy f z a.cells n b).2≠0:=by
  apply JJ;intro u;exact o (Kz (fun i l=>JJ (fun h=>u ⟨i,l,h⟩)))
 rw[m]at d;have l:0<n:=by
  rcases ZB n with e|e
  .rw [e]at d;omega
  exact e
 have u:=JF (by rw[ZF];exact d);rw[r b d]at x;have A:Yc (fun w=>((0:Int),(Jn (Jh f) ((cols a).take (w+1))).2)) n≠0:=Jac (YR b l) (by
  show(Jn (Jh f) ((cols a).take (b % n+1))).2≠0;rw[q _ (YR b l)];exact Jac u x)
 have w:=(Jad (fun k g=>C k g)).resolve_left A;rw[FY A,w];unfold Zz;rw[FY o,B]
theorem J12:Jaj V5:=fun _ _=>NN rfl
theorem Jx4:Jaj Kn:=fun _ _=>NN rfl
theorem Jxp:Jaj Kh:=fun _ _=>NN rfl
theorem Jzy:Jaj Z8:=fun x y=>by
 unfold Z8;grind
theorem J1x:Jaj Qi:=fun x y=>by
 unfold Qi;split
 .omega
 exact Jzy _ _
theorem Jrb:Jaj Zk:=fun _ _=>NN rfl
theorem Jk7:Jaj Yp:=fun _ _=>NN rfl
theorem J1u:Jaj V2:=fun _ _=>NN rfl
theorem Jyg:Jaj Kv:=fun _ _=>NN rfl
theorem J1w{L:List Int}(hc:0<c)(hL:L.length=c):rotL L (Xg c y)=(List.range c).map fun j:Nat=>L.getD (((j:Int)+y) % (c:Int)).toNat 0:=by
 have:=Hp y (b:=(c:Int)) (by omega);have:=Ms y (b:=(c:Int)) (by omega);unfold rotL Xg;obtain⟨d,i⟩:=nm ((y % (c:Int)).toNat);rw[i];have:d<c:=by omega
 have k:y % (c:Int)=d:=by omega
 apply YG
 .simp;omega
 intro j n g;have:j<c:=by simpa using g
 have h:(((j:Int)+y) % (c:Int)).toNat=if j+d<c then j+d else j+d-c:=by
  rw[Int.add_emod,k,Hv (a:=(j:Int)) (by omega) (by omega)];by_cases e:j+d<c
  .rw [FY e,Hv (by omega) (by omega)];omega
  rw[FU e];have f:((j:Int)+(d:Int)) % (c:Int)=j+(d:Int)-c:=by
   rw[<-Int.sub_emod_right,Hv (by omega) (by omega)]
  rw[f];omega
 simp only[YJ,JT,h];by_cases e:j+d<c
 .rw [FY e,MJ (by simp[hL];omega),Pf,NC,FX (by omega)];simp only[JI];congr 1;omega
 rw[FU e,Hi (by simp[hL];omega),H7,NC,FX (by omega)];simp only[JI,Hf,hL];congr 1;omega
theorem Jmj(hc)(h):Yl n c hc (k+1)=Yl n c hc k++[Xb n c k hc h]:=by
 simp_all[Yl]
theorem Jdo{n c k:Nat}(hc)(h:n<=k*c):∀j,k<=j->Yl n c hc j=Yl n c hc k
 | 0,hj=>by simp_all
 | j+1,hj=>by
  by_cases e:k=j+1
  .rw [e]
  have:k*c<=j*c:=NR _ (by omega);rw[Yl,dif_neg (by omega)];exact Jdo hc h j (by omega)
theorem Jj6{r c:Nat}{y:Int}(hc){xs:List Int}(hx:xs.length=r*c):∀k,k<=r->Qg (Yl xs.length c hc k) xs y=(List.range (k*c)).map fun p=>xs.getD (Gi c y false p) 0
 | 0,_=>by simp[Yl,Qg]
 | k+1,hk=>by
  have hle:=NR c hk;rw[ZG,YA]at hle;have hlt:k*c<xs.length:=by omega
  have f:(Xb xs.length c k hc hlt).1=(k*c,c):=by
   show(k*c,min c (xs.length-k*c))=_;rw[ME (by omega)]
  have e:=Jj6 (y:=y) hc hx k (by omega);rw[Jmj hc hlt];unfold Qg at e⊢;rw[NU,JY,e,List.map_singleton,List.flatten_singleton,f,J1w hc (by simp;omega),ZG,YA,List.range_add,NU,PZ];congr 1;apply YZ;intro a d;have d:a<c:=by simpa using d
  have g:(k*c+a) % c=a:=by rw[ZF,PR,YM d]
  have:=Hp ((a:Int)+y) (b:=(c:Int)) (by omega);have:=Ms ((a:Int)+y) (b:=(c:Int)) (by omega);simp only[Function.comp_apply];unfold Gi;rw[g,FU (by decide)];obtain⟨l,h⟩:=nm ((((a:Int)+y) % (c:Int)).toNat);rw[h,NC,NC,Mp,FY (by omega),MU];congr 2;omega
theorem Jg0(h:a.ok)(h0:a.shape.length≠0):∃r,a.cells.length=r*Jq a.shape:=⟨_,K7 h h0⟩
theorem Jfm(h:a.ok)(h0:a.shape.length=0)(y)(back):Gr a y back=a:=by
 obtain⟨d,c⟩:=Jet h h0;unfold Gr Ve;rw[FY h0];obtain⟨sh,b⟩:=a;simp_all[Gi]
theorem Jn8(hb:b.ok):(if a.shape.length≠0 then(eArr,5)else(Gr b (a.cells.headD 0) false,0))=Ni a b:=by
 unfold Ni;by_cases i:a.shape.length≠0
 .simp_all
 rw[FU i,FU i];by_cases g:b.shape.length=0
 .simp_all [Jfm]
 rw[FU g];unfold Gr Ve Jbs;rw[FU g];congr 2;obtain⟨h,d⟩:=Jg0 hb g;rcases ZB (Jq b.shape)with e|e
 .have c:=NK (by rw[d,e];omega);rw[c];simp[Qg,Yl]
 have c:∀(f:Nat) (c:0<f),f=Jq b.shape->Qg (Yl b.cells.length f c b.cells.length) b.cells (a.cells.headD 0)=(List.range b.cells.length).map fun m=>b.cells.getD (Gi (Jq b.shape) (a.cells.headD 0) false m) 0:=by
  intro f c j;subst j;have l:h<=b.cells.length:=by rw[d];exact JW _ c
  rw[Jdo (k:=h) c (by omega) _ l,Jj6 c d h aT,<-d]
 exact(c _ _ (by omega)).symm
theorem Jur(h:a.ok):(Gr a 0 true,(0:Int))=revP a:=by
 unfold revP;by_cases c:a.shape.length=0
 .simp_all [Jfm]
 rw[FU c];unfold Gr Ve;rw[FU c];congr 2;obtain⟨j,d⟩:=Jg0 h c;rcases ZB (Jq a.shape)with e|e
 .simp_all [NK,Jkk]
 apply Pe;intro b;by_cases f:b<a.cells.length
 .rw [Jzf e d (by omega),MK,PV f];simp only[Option.map_some];have g:Gi (Jq a.shape) 0 true b=sig (Jq a.shape) b:=by
   unfold Gi sig;rw[FY rfl];have:=Ho b (Jq a.shape);rw[ZF]at this;omega
  have i:sig (Jq a.shape) b<a.cells.length:=by
   rw[<-g];unfold Gi;rw[FY rfl,d];exact Jo4 (by omega) (by omega)
  simp_all
 simp_all[Jkk]
def idxF:List Nat->Nat->List Nat
 | [],_=>[]
 | s::r,n=>n % s::idxF r (n / s)
theorem Jb5:∀(sh:List Nat) (s n:Nat),Zd sh (idxF sh n) s=fpl sh s n
 | [],s,n=>rfl
 | x::sh,s,n=>by rw[idxF,Zd,fpl];exact Jb5 sh _ _
theorem Fx:∀(sh:List Nat) (n:Nat),(idxF sh n).length=sh.length
 | [],_=>rfl
 | x::sh,n=>by rw[idxF,ZN,Fx,ZN]
theorem Je1:∀(sh:List Nat) (n j:Nat) (h:j<sh.length),(idxF sh n)[j]'(by rw[Fx];exact h)=n / Jd (sh.take j) % sh[j]
 | [],_,_,h=>by simp at h
 | x::sh,n,0,_=>by simp[idxF,Jd]
 | x::sh,n,j+1,h=>by
  simp only[idxF,List.getElem_cons_succ,JK];rw[Je1 sh (n / x) j (by simpa using h),Ky,H8]
theorem Jci(sh)(n):(J6 sh.reverse n).reverse=idxF sh n:=by
 apply YG
 .simp [J6,Fx]
 intro a f d;have e:a<sh.length:=by rwa [Fx]at d
 rw[Je1 sh n a e,Hb];simp only[J6,YJ,JT,JQ,PA,Hm];have b:sh.reverse.drop (sh.length-1-a+1)=(sh.take a).reverse:=by
  rw[List.drop_reverse];congr 1;congr 1;omega
 have c:sh.reverse.getD (sh.length-1-a) 1=sh[a]:=by
  rw[NC,FX (by simp;omega),Hb];simp only[JI];congr 1;omega
 rw[b,c,Jb3]
def Jnb(a:Arr):Arr:=⟨a.shape.reverse,(List.range a.cells.length).map fun n=>a.cells.getD (Zd a.shape ((J6 a.shape.reverse n).reverse) 0) 0⟩
theorem Jr4(a):(Jnb a,(0:Int))=N5 a:=by
 unfold Jnb N5 Jjh;simp only[Jci,Jb5]
theorem J0e(hp:∀x ∈ sh,0<x)(hl:∀x ∈ sh,x<=400):∀i ∈ idxF sh n,i<=400:=by
 intro i d;obtain⟨b,e,rfl⟩:=ZS d;have a:b<sh.length:=by rwa [Fx]at e
 rw[Je1 sh n b a];have c:=hp _ (ND a);have:=hl _ (ND a);have:=YR (n / Jd (sh.take b)) c;omega
theorem Jpd(P)(W)(hP:∀b,W.1.size<=b->P b)(v)(a)(h:IsArr P W v a)(hok:a.ok):
 Calls prog 132 #[v] W (RVal P W (Jnb a)):=by
 have al:=h;obtain⟨H,e,sc,ap,p,T,rfl,bf,b3⟩:=h;obtain⟨bi,aU⟩:=Jb al;have dn:p<=200:=by rw[bi];exact hok.few
 have cZ:e<=3:=by rw[aU];exact hok.rank
 have cd:=Bx.n3 W (aM H e sc ap p T) aG aG 133 133 133;have bU:=O cd;obtain⟨xs,aV⟩:=nm (a.shape.map Int.ofNat);rw[aV]at bf;have cf:xs.length=e:=by rw[<-aV,aU];simp
 have bd:=O aV;have R:=O cf;have bG:=O bf;have bH:=O b3;have a5:=O bi;have cI:=O aU;have bS:=O hok;have bT:=O hP;have br:wrap64 ((e:Int)-1)=(e:Int)-1:=by unfold wrap64;omega
 clear cd al bf b3 hok bi aU hP aV cf;go_enter func132,ntmps132;go_wp2_with fail;obtain⟨dx,ce⟩:=nm (((W.alloc (.cells (aL H e sc ap p T) 133)).alloc (.cells aF 133)).alloc (.cells aF 133));rw[ce]at bU⊢;clear ce br;go_loopw [4] (fun an wr=>∃d:Nat,an=G ((d:Int)-1)/\d<=e/\∃vs,Bx W wr [(aM H e sc ap p T),aG,[vs,aH]]/\OwnJ (W.1.size+3) wr vs (xs.reverse.take (e-d))) (fun an _=>(intOf an+1).toNat)
 case atStart=>exact⟨e,rfl,by omega,_,I bU,by simpa using OwnJ.nil _ _⟩
 case round =>
  obtain⟨x,rfl,z,vs,f,r⟩:=hrel;have bL:=O f;have bb:=O r;have ab:=f.a0;have ac:=f.a1;have am:=f.c0;have be:=f.C0;have bp:W.1.size+3<=wr.1.size:=f.lt;by_cases aj:0<x
  .obtain ⟨d,rfl⟩:∃d,x=d+1:=⟨x-1,by omega⟩;have ak:d<xs.length:=by rw[I R];omega
   have ai:((d+1:Nat):Int)-1=(d:Int):=by omega
   rw[ai];have ah:=(I bG).below f.below;obtain⟨b,c4,rfl,cT,bg,-⟩:=ah.at (k:=d) ak;obtain⟨o,l⟩:=nm (xs[d]);rw[l]at bg;have B:Hid (xs.reverse.take (e-d)=xs.reverse.take (e-(d+1))++[o]):=O (by
    have X:e-d=e-(d+1)+1:=by omega
    rw[X,NG (by simp[I R];omega),Hb];congr 2;rw[<-l];congr 1;rw[I R];omega)
   have cl:(0:Int)<=(d:Int):=by omega
   have cm:(d:Int)<(e:Int):=by omega
   have A:Hid ((xs.reverse.take (e-(d+1))).length<=1000):=O (by simp[I R];omega);obtain⟨ys,F⟩:=nm (xs.reverse.take (e-(d+1)));rw[F]at bb A B;have av:W.1.size+1+1<W.1.size+3:=by omega
   have aw:W.1.size+1+1<wr.1.size:=by omega
   have b9:W.1.size<wr.1.size:=by omega
   have a7:=O z;clear f r ah l F ak ai aj ac z;go_wp2_with fail;go_region_law (refine Nm rfl _ _ rfl rfl ((I bb).below aS.drew) (I A) bp o rfl rfl ?_;intro an da aa K;obtain⟨ci,n4,ch,rfl⟩:=aa.sl;have cG:=O (Ja6 (v':=E ci n4 ch) 2 0 ((I bL).next aS.drew) rfl K);have ag:=O (aa.set av (c:=0) (E ci n4 ch));have df:=V K av am;have dl:=bF K av be;clear aa K)
   all_goals
    clear am be ab;have z:=I a7;go_wp2_with fail;go_roundw
    case rel=>exact⟨d,by go_num,by omega,_,(I cG),by rw[I B];exact I ag⟩
    case measure=>simp[intOf]
  .have au:x=0:=by omega
   have L:OwnJ (W.1.size+3) wr vs xs.reverse:=by rw[au]at r;simpa[NJ,I R]using r
   have b8:((x:Nat):Int)-1=-1:=by omega
   rw[b8];clear au b8;obtain⟨ad,j,vc,rfl⟩:=L.sl;have ba:=O (L.nums);have bI:=O bp;clear r L bb f am be ab ac bp z aj;have bP:Hid (j=e):=O (by have:=Je (I ba);rw[this,Hm,I R]);obtain⟨g,bl⟩:=nm ((fun n=>a.cells.getD (Zd a.shape ((J6 a.shape.reverse n).reverse) 0) 0):Nat->Int);have cr:=O bl;have cF:Hid (Jnb a=⟨a.shape.reverse,(List.range p).map g⟩):=O (by unfold Jnb;rw[bl,I a5]);have cX:=I bI;obtain⟨B1,bY⟩:=nm wr.1.size;have cy:=O (bY▸I ba);have ae:Hid (W.1.size+3<=B1):=O (by omega);have cA:Hid (OwnL B1 wr aH []):=O (OwnL.nil _ _);have cp:Hid (B1<=wr.1.size):=O (by omega);clear bl bY cX ba bI;go_wp2_with fail;go_loopw [5] (fun bx y=>∃i:Nat,bx=G i/\i<=p/\B1<=y.1.size/\∃v,Bx W y [(aM H e sc ap p T),aG,[E ad j vc,v]]/\OwnL B1 y v ((List.range i).map g)/\Nums (fun b=>W.1.size+3<=b/\b<B1) y (E ad j vc) xs.reverse) (fun bx _=>p-(intOf bx).toNat)
   case atStart=>exact⟨0,rfl,by omega,I cp,_,I bL,I cA,I cy⟩
   case round =>
    rename World=>y;obtain⟨i,rfl,bm,cQ,v,f,r,ax⟩:=hrel;have aZ:=O f;have bc:=O r;have a8:=O ax;have ab:=f.a0;have ac:=f.a1;have am:=f.c0;have bw:=f.c1;by_cases bn:i<p
    .have hok:=I bS;have N:=X5 (by rw[<-hok.size,<-I a5];omega);have bZ:=Jdi y ad j vc a.shape.reverse i (by rw[PI,I bd];exact ax) ⟨by simp;exact hok.rank,fun o l=>by have:=hok.lens o (by simpa using l);omega⟩ (fun o l=>N o (by simpa using l)) (by omega);have a6:=O bZ;obtain⟨u,ar⟩:=nm ((J6 a.shape.reverse i).map Int.ofNat);rw[ar]at a6;have cu:=O ar;have ca:u.length=j:=by rw[<-ar,I bP,I cI];simp[J6]
     have af:=O ca;have cE:=O N;have bN:=O bm;have ct:=O bn;have db:(i:Int)<(p:Int):=by omega
     have ds:j<=3:=by rw[I bP];exact cZ
     have cR:=O cQ;clear f r ax hok N bZ ar ca bm bn;go_wp2_with fail;refine aR (I a6) ?_;rintro aX ⟨cc,Y⟩;have c3:=Y.size;have bM:=O ((I aZ).next Y);have bQ:=O ((I bc).below Y);have bO:=O ((I a8).below Y);have a9:=O ((Jv (P:=fun b=>y.1.size<=b) cc (fun _ h=>h)).imp (Q:=fun b=>y.1.size<=b/\b<aX.1.size) (fun b h al=>⟨h,al⟩));have bJ:=O Y;obtain⟨dm,Z⟩:=nm y.1.size;rw[Z]at a9⊢;have de:=O Z;have br:wrap64 ((j:Int)-1)=(j:Int)-1:=by unfold wrap64;omega
     clear cc Y a6 aZ bc a8 c3 Z ab ac am bw;go_wp2_with fail;clear br;go_loopw [7,8] (fun c9 bz ck=>∃d:Nat,bz=G ((d:Int)-1)/\d<=j/\OwnJ aX.1.size ck c9 (u.reverse.take (j-d))/\J aX ck) (fun _ bz _=>(intOf bz+1).toNat)
     case atStart=>exact⟨j,rfl,by omega,by simpa using OwnJ.nil _ _,FQ _ _⟩
     case round =>
      obtain⟨x,rfl,z,r,t⟩:=hrel;have ag:=O r;have bK:=O t;by_cases aj:0<x
      .obtain ⟨d,rfl⟩:∃d,x=d+1:=⟨x-1,by omega⟩;have ak:d<u.length:=by rw[I af];omega
       have ai:((d+1:Nat):Int)-1=(d:Int):=by omega
       rw[ai];have ah:=(I a9).below t;obtain⟨b,c4,bj,cT,bg,-⟩:=ah.at (k:=d) ak;injection bj with bj;injection bj with cL cM dj;subst cL cM;obtain⟨o,l⟩:=nm (u[d]);rw[l,ZY]at bg;have B:Hid (u.reverse.take (j-d)=u.reverse.take (j-(d+1))++[o]):=O (by
        have X:j-d=j-(d+1)+1:=by omega
        rw[X,NG (by simp[I af];omega),Hb];congr 2;rw[<-l];congr 1;rw[I af];omega)
       have cl:(0:Int)<=(d:Int):=by omega
       have cm:(d:Int)<(j:Int):=by omega
       have A:Hid ((u.reverse.take (j-(d+1))).length<=1000):=O (by simp[I af];omega);obtain⟨ys,F⟩:=nm (u.reverse.take (j-(d+1)));rw[F]at ag A B;have c2:=t.size;have a7:=O z;clear r t ah l F ak ai aj z;go_wp2_with (at_builtin;refine Jfk rfl _ _ rfl (I ag) (I A) c2 o rfl rfl ?_);intro an da aa K;have cB:=O aa;have s:=O ((I bK).trans K);clear aa K;have z:=I a7;go_wp2_with fail;go_roundw
       case rel=>exact⟨d,by go_num,by omega,by rw[I B];exact I cB,I s⟩
       case measure=>simp[intOf]
      .have au:x=0:=by omega
       subst au;have L:OwnJ aX.1.size wr u7 u.reverse:=by simpa[NJ,I af]using r
       obtain⟨co,cg,cn,rfl⟩:=L.sl;have cz:=O L.nums;have w:=(I bM).next t;have cq:=O w;have bR:=O ((I bQ).below t);have cw:=O ((I bO).below t);have hok:=I bS;have N:=I cE;obtain⟨q,ay⟩:=nm (Zd a.shape ((J6 a.shape.reverse i).reverse) 0);have az:q<a.cells.length:=by
        have:=Jrz a.shape 0 i 1 N (by decide);rw[hok.size,<-ay,Jci,Jb5];omega
       have cY:q<p:=by rw[I a5];exact az
       have cS:=(I bH).below w.below;obtain⟨S,aq,rfl,b5,bh,-⟩:=(I bH).at (k:=q) az;have Z:a.cells[q]=g i:=by rw[<-I cr];simp only[ay];rw[NC,FX az];rfl
       obtain⟨o,l⟩:=nm (g i);rw[Z,l]at bh;have B:Hid ((List.range (i+1)).map g=(List.range i).map g++[o]):=O (by rw[ZZ,NU,<-l];rfl);have cv:Hid (u.reverse=((J6 a.shape.reverse i).reverse).map Int.ofNat):=O (by rw[<-I cu,PI]);have cD:Hid (∀m,J wr m->Calls prog 166 (aL H e sc co cg cn) m fun X cK=>X=aD (G q)/\J m cK):=O (fun m C=>by
        rw[<-ay];exact Np m H e sc co cg cn a.shape _ (by rw[I bd];exact((I bG).below w.below).below C) (by rw[<-I cv];exact(I cz).below C) ⟨hok.rank,fun o l=>by have:=hok.lens o l;omega⟩ (by rw[Jci];exact J0e N (fun o l=>by have:=hok.lens o l;omega)) (by simp[J6]))
       have cU:S<B1:=by have:=I ae;omega
       have b2:W.1.size<B1:=by have:=I ae;omega
       have aY:Hid (B1<=wr.1.size):=O (by have bV:=I cR;have bW:=(I bJ).size;have bX:=t.size;omega);have ao:Hid (∀m,Below B1 wr m->m.cell? (U W.1.size 0)=some (E H e sc)/\m.cell? (U W.1.size 1)=some (aI S aq p T)/\m.cell? (U S (aq+q))=some (G o)):=O (fun m C=>by
        exact⟨V C b2 (w.cell 0 0 _ rfl).1,V C b2 (w.cell 0 1 _ rfl).1,V C cU (V w.below b5 bh)⟩)
       have dd:Hid (∀m aW,Below B1 wr m->(m.setCell (U (W.1.size+1+1) 1) aW).cell? (U W.1.size 0)=some (E H e sc)/\(m.setCell (U (W.1.size+1+1) 1) aW).cell? (U W.1.size 1)=some (aI S aq p T)/\(m.setCell (U (W.1.size+1+1) 1) aW).cell? (U S (aq+q))=some (G o)):=O (fun m aW C=>by
        obtain⟨bV,bW,bX⟩:=I ao m C;exact⟨celN (by omega) bV,celN (by omega) bW,celN (by omega) bX⟩)
       have bw:=w.c1;have cN:=w.C1;obtain⟨ab,ac,c6⟩:=I ao wr aS;have cl:(0:Int)<=(q:Int):=by omega
       have cm:(q:Int)<(p:Int):=by omega
       have cb:=w.lt;simp at cb;have av:W.1.size+1+1<W.1.size+3:=by omega
       have aw:W.1.size+1+1<wr.1.size:=by omega
       have b9:W.1.size<wr.1.size:=by omega
       have cW:S<wr.1.size:=by omega
       have bo:W.1.size+1+1<B1:=by have:=I ae;omega
       have A:Hid (((List.range i).map g).length<=1000):=O (by have:=I bN;simp;omega);obtain⟨ys,F⟩:=nm ((List.range i).map g);rw[F]at bR A B;clear r L t w hok N ay az cY cS b5 bh Z l F cb ag bK bM bQ bO a9 bJ z aj;go_wp2_with fail;go_region_law
        (first
        | (refine Z3 rfl _ _ rfl rfl ((I bR).below (I s)) (I A) (NE (I aY) (I s).size) o rfl rfl ?_;intro dv dw bq D;obtain⟨bD,bu,bA,rfl⟩:=bq.sl;have dc:=O ((I a4).trans D.bel);have cC:=O (Qj (c:=1) bq bo (E bD bu bA));have cJ:=O ((((I cq).next (I s)).keep (D.bel.mono (I ae))).set 2 1 v (E bD bu bA) rfl);have cx:=O ((((I cw).below (I s)).keep D.bel.size (fun b t al=>D.bel.block b t.2)).set (b:=W.1.size+1+1) (fun cV=>by have:=cV.1;omega) 1 (E bD bu bA));have dg:=V D.bel bo c5;have dk:=bF D.bel bo cO;have cH:=O (NE (NE (I aY) (I s).size) D.bel.size);clear bq D)
        | (go_simp;go_at_call 166;refine(I cD _ aS.drew).mono ?_; rintro X cj ⟨rfl,b4⟩;have s:=O ((FQ wr.1.size wr).drew.trans b4);have a4:=O ((I s).mono (I aY));have c5:=V (I s) aw bw;have cO:=bF (I s) aw cN;have dt:=((I ao cj (I a4))).2.1;have du:=((I ao cj (I a4))).2.2;have bt:=(I s).size;have dp:=FT aw bt;have dq:=FT b9 bt;have dr:=FT cW bt;clear b4))
       all_goals
        have bm:=I bN;have bn:=I ct;clear ab ac c6;go_wp2_with fail;go_roundw
        case rel=>exact⟨i+1,by go_num,by omega,by have:=I cH;simpa using this,_,I cJ,by rw[I B];exact I cC,I cx⟩
        case measure=>simp[intOf];omega
    .have b7:i=p:=by omega
     have db:¬ (i:Int)<(p:Int):=by omega
     have c7:=f.b0;have c8:=f.b1;have dh:=f.B0;have di:=f.B1;obtain⟨bE,bv,bB,rfl⟩:=r.sl;have cs:=O b7;clear f r ax b7;go_wp2_with fail;have cP:IsArr (OffB W.1.size 3 P) y (aK ad j vc bE bv bB) ⟨a.shape.reverse,(List.range p).map g⟩:=⟨_,_,_,_,_,_,rfl,by rw[PI,I bd];exact(I a8).imp (fun b h _=>OffB.new (I bT) h.1),by rw[<-I cs];exact(I bc).nums.imp (fun b h _=>OffB.new (I bT) (NE (I ae) h.1))⟩;have b6:=Jl (q:=1) (k:=3) (u0:=E ad j vc) (u1:=E bE bv bB) (I aZ).below (by decide) cP;refine FR (v:=aK ad j vc bE bv bB) (by simp[results,results132,go_sem,c7,c8]) rfl ?_;rw[I cF];exact⟨_,_,_,_,_,_,rfl,b6.1,b6.2⟩
end Go.Proofs.YtjobgpahajhbnaaGreatDoor
