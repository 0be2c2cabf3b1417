import Derived.Test.YtjobgpahajhbnaaGreatDoorZf
namespace Go.Proofs.YtjobgpahajhbnaaGreatDoor
open Go.RowKit Go.Proofs Go.Maps Go.Proofs.Tryz
attribute [local go_sem ↓] Go.wp_at_zero Go.wp_at_succ
set_option linter.all false
set_option maxHeartbeats 8000000
set_option maxRecDepth 20000
variable {B j k n:Nat} {P:Nat->Prop} {W w:World} {c z:Int} {f:Int->Int->Int × Int} {g h:Nat->Int × Int} {l:List (List Value)} {sh:List Nat} {v:Value} {xs ys:List Int}
theorem GS:(prog.info? 3).map (fun i=>(i.zero,i.size,i.bytes))=some (some (G 0),1,8):=by kernel_rfl
def idxL(sh:List Nat)(n j:Nat):List Int:=(List.range sh.length).map fun i=>if i<j then 0 else((n / Jd (sh.drop (i+1)) % sh.getD i 1:Nat):Int)
def J6(sh:List Nat)(n:Nat):List Nat:=(List.range sh.length).map fun i=>n / Jd (sh.drop (i+1)) % sh.getD i 1
theorem Jm5(sh)(n):idxL sh n sh.length=List.replicate sh.length 0:=by
 apply YG
 .simp [idxL]
 simp[idxL];omega
theorem Jwq(sh)(n):idxL sh n 0=(J6 sh n).map Int.ofNat:=by
 simp[idxL,J6]
theorem Jwp(hj:j<sh.length):(idxL sh n (j+1)).set j ((n / Jd (sh.drop (j+1)) % sh[j]:Nat):Int)=idxL sh n j:=by
 apply YG
 .simp [idxL]
 intro b c a;have:b<sh.length:=by simpa[idxL]using a
 simp only[idxL,PG,YJ,JT];grind
theorem Jwo(hj:j<sh.length):n / Jd (sh.drop (j+1)) / sh[j]=n / Jd (sh.drop j):=by
 rw[ZC hj,Ky,H8,ZF]
theorem Jdi(w)(so)(sn sc)(sh)(n:Nat)(h:Nums P w (E so sn sc) (sh.map Int.ofNat))(hl:Lens sh)(hpos:∀x ∈ sh,0<x)(hn:n<=1000):
 Calls prog 165 #[E so sn sc,G n] w fun e w'=>e=aD (aI w.1.size 0 sn sn)/\w'.ownsRow w.1.size 3 1 (aI w.1.size 0 sn sn) sn (((J6 sh n).map Int.ofNat).map (Value.int .i64))/\J w w':=by
 obtain⟨X,L,S,T,W⟩:=NY GS;have d:=Je h;simp at d;have aj:sn<=3:=by have:=hl.rank;omega
 have F:=h;have ai:wrap64 ((sn:Int)-1)=(sn:Int)-1:=by unfold wrap64;omega
 clear h;change Hid _ at d;go_enter func165,ntmps165;go_wp2_with (at_make;refine YV _ rfl _ _ 37 rfl w.1.size 3 X (G 0) 1 JH L S T .i64 .i64 sn sn sn rfl rfl rfl rfl ?c1 ?c2 aT ?_)
 case c1=>rw[W];omega
 case c2=>grind[maxLen]
 intro aa m K;have m:aa.ownsRow w.1.size 3 1 (E (some (adP0 w)) sn sn) sn ((idxL sh n sn).map (Value.int .i64)):=by
  have a:idxL sh n sn=List.replicate sn 0:=by rw[d];exact Jm5 sh n
  rw[a,Mr];have:=YN (G 0) (sn*1);rw[MA]at this;rw[<-this];simpa using m
 have D:=aS.grown K aT (fun _ h=>by cases h);go_wp2_with fail;have H:n / Jd (sh.drop sn)=n:=by rw[d];simp[Jd]
 go_loopw [1,6] (fun b a wr=>∃j:Nat,a=G ((j:Int)-1)/\j<=sn/\b=G (n / Jd (sh.drop j):Nat)/\wr.ownsRow w.1.size 3 1 (E (some (adP0 w)) sn sn) sn ((idxL sh n j).map (Value.int .i64))/\J w wr) (fun _ a _=>(intOf a+1).toNat)
 .exact ⟨sn,rfl,by omega,by rw[H],m,D⟩
 obtain⟨g,rfl,ae,rfl,c,s⟩:=hrel;by_cases af:0<g
 .obtain ⟨j,rfl⟩:∃j,g=j+1:=⟨g-1,by omega⟩;have b:j<sh.length:=by rw[<-d];omega
  have A:((j+1:Nat):Int)-1=(j:Int):=by omega
  rw[A];obtain⟨p,Z,rfl,t,y,-⟩:=F.at (k:=j) (by simp;omega);have c1:=V s t y;simp at c1;have N:=hpos _ (ND b);have r:=hl.lens _ (ND b);have f:=Jwp (n:=n) b;have i:=O (Jwo (n:=n) b);have l:n / Jd (sh.drop (j+1))<=1000:=NE (PQ _ _) hn;obtain⟨a,B⟩:=nm (n / Jd (sh.drop (j+1)));generalize hx:sh[j]=x at c1 N r i f;rw[B]at l i f⊢;have c0:=c.cellAt j (by omega);have ac:=c.frozenAt j;rw[FX (by simp[idxL];omega)]at c0;generalize hu:(((idxL sh n (j+1)).map (Value.int .i64))[j]'(by grind))=u at c0;have o:=(c.stored j (G ((a % x:Nat):Int))).1;rw[<-Pq,f]at o;have ag:(0:Int)<=j:=by omega
  have ah:(j:Int)<sn:=by omega
  have al:((x:Int)== 0)=false:=by simp;omega
  have Q:(a:Int).tmod (x:Int)=((a % x:Nat):Int):=by rw[ZE (by omega)];rfl
  have R:(a:Int).tdiv (x:Int)=((a / x:Nat):Int):=by rw[Int.tdiv_eq_ediv_of_nonneg (by omega)];rfl
  have hd:a / x<=1000:=NE (PQ _ _) l;have ad:w.1.size≠p:=by omega
  obtain⟨Y,C⟩:=nm (a % x);obtain⟨q,z⟩:=nm (a / x);rw[C]at Q o;rw[z]at R hd i;have ak:wrap64 (q:Int)=q:=by unfold wrap64;omega
  have ab:(wr.setCell (U w.1.size j) (G (Y:Int))).cell? (U p (Z+j))=some (G (x:Int)):=celN (by omega) c1;clear hu c y t hx B f C z hd r l b A;go_wp2;go_roundw
  .exact ⟨j,by go_num,by omega,by grind[I],o,s.setCell aT _⟩
  simp[intOf]
 have a:g=0:=by omega
 subst a;rw[Jwq]at c;go_wp2;go_ret;simp_all
def Zh(f:Int->Int->Int × Int)(z:Int):List Int->Int × Int
 | []=>(z,0)
 | x::r=>if r=[]then(x,0)else if(Zh f z r).2≠0 then(0,(Zh f z r).2)else f x (Zh f z r).1
theorem Fg{c:Int}{f:Int->Int->Int × Int}{z:Int}(hc:SgC c f z):∀(xs:List Int) {P:Nat->Prop} (w:World) (ao:Option Addr) (n cap:Nat),Nums P w (E ao n cap) xs->xs.length<=400 ->
 Calls prog 167 #[.int .u8 c,E ao n cap] w fun e w'=>e=aD (.tuple #[G (Zh f z xs).1,G (Zh f z xs).2])/\w'=w
 | [],P,w,ao,n,cap,h,hl=>by
  have hn:=Je h;simp at hn;subst hn;have HS:=O hc.start;go_enter func167,ntmps167;go_wp2_with (go_at_call 209;refine aQ (I HS _) ?_);go_ret2;exact⟨by simp[Zh],rfl⟩
 | [x],P,w,ao,n,cap,h,hl=>by
  have hn:=Je h;simp at hn;subst hn;obtain⟨b,off,rfl,hb,hcl,hcap⟩:=h.at (k:=0) (by simp);simp at hcl hcap;go_enter func167,ntmps167;go_wp2;go_ret2;exact⟨by simp[Zh],rfl⟩
 | x::y::r,P,w,ao,n,cap,h,hl=>by
  have hn:=Je h;simp only[ZN]at hn hl;obtain⟨b,off,rfl,hb,hcl,hcap⟩:=h.at (k:=0) (by simp);simp at hcl hcap;have hd:=Kb h (k:=1) (by omega);rw[FU (by omega)]at hd;have ih:=Fg hc (y::r) w _ _ _ hd (by simp;omega);have HR:Hid (Zh f z (x::y::r)=if(Zh f z (y::r)).2≠0 then(0,(Zh f z (y::r)).2)else f x (Zh f z (y::r)).1):=O (by simp[Zh]);generalize ht:(Zh f z (y::r))=t at HR ih;obtain⟨t1,t2⟩:=t;simp only at HR ih;have HI:=O ih;have HP:=O (fun w'=>hc.pair x t1 w');generalize hs:(Zh f z (x::y::r))=s at HR⊢;have:2<=n:=by omega
  have:n<=400:=by omega
  have:2<=cap:=by omega
  have:((n:Int)== 0)=false:=by simp;omega
  have:((n:Int)== 1)=false:=by simp;omega
  clear h hl hc hd ih ht hs hn hcap;by_cases a:t2=0
  .subst a;have d:s=f x t1:=by rw[HR];simp
   go_enter func167,ntmps167;go_wp2_with (first|(go_at_call 167;refine aQ HI ?_)| (go_at_call 162;refine aQ (I HP _) ?_));exact FR (v:=.tuple #[G (f x t1).1,G (f x t1).2]) (by simp[results]) rfl ⟨by rw[d],rfl⟩
  have d:s=(0,t2):=by rw[HR];simp[a]
  have:(t2 == 0)=false:=by simp[a]
  have:(t2 != 0)=true:=by simp[a]
  go_enter func167,ntmps167;go_wp2_with (first|(go_at_call 167;refine aQ HI ?_)| (go_at_call 162;refine aQ (I HP _) ?_));exact FR (v:=.tuple #[G 0,G t2]) (by simp[results]) rfl ⟨by rw[d],rfl⟩
def Yc(g:Nat->Int × Int):Nat->Int
 | 0=>0
 | k+1=>if Yc g k≠0 then Yc g k else(g k).2
def Yx(g:Nat->Int × Int)(k:Nat):List Int:=(List.range k).map fun i=>(g i).1
def Zz(g:Nat->Int × Int)(sh:List Nat)(n:Nat):Arr × Int:=if Yc g n≠0 then(eArr,Yc g n)else(⟨sh,Yx g n⟩,0)
theorem Vv(g)(k):Yx g (k+1)=Yx g k++[(g k).1]:=by simp[Yx,ZZ]
theorem Vw(g)(k):(Yx g k).length=k:=by simp[Yx]
theorem Kz{g:Nat->Int × Int}:∀{k:Nat},(∀i,i<k->(g i).2=0)->Yc g k=0
 | 0,_=>rfl
 | k+1,h=>by
  rw[Yc,FU (by rw[Kz (fun i hi=>h i (by omega))];simp)];simp_all
theorem Jcq{g:Nat->Int × Int}{k:Nat}(h:Yc g k=0)(hk:(g k).2≠0):∀{n:Nat},k<n->Yc g n=(g k).2
 | 0,hn=>absurd hn (by omega)
 | n+1,hn=>by
  rw[Yc];by_cases e:k=n
  .simp_all
  have:=Jcq h hk (n:=n) (by omega);omega
theorem Xs(sh)(h:Yc g k=0)(hk:(g k).2≠0)(hn:k<n):Zz g sh n=(eArr,(g k).2):=by
 unfold Zz;rw[Jcq h hk hn,FY hk]
theorem K6(sh)(h:Yc g n=0):Zz g sh n=(⟨sh,Yx g n⟩,0):=by
 simp[Zz];omega
theorem Vu(h:Yc g k=0)(hk:(g k).2=0):Yc g (k+1)=0:=by
 simp[Yc];omega
theorem G1{g h:Nat->Int × Int}:∀{n:Nat},(∀i,i<n->g i=h i)->Yc g n=Yc h n
 | 0,_=>rfl
 | n+1,e=>by rw[Yc,Yc,G1 (fun i hi=>e i (by omega)),e n (by omega)]
theorem Jcr(e:∀i,i<n->g i=h i):Yx g n=Yx h n:=by
 simp_all[Yx]
theorem Z9(sh)(e:∀i,i<n->g i=h i):Zz g sh n=Zz h sh n:=by
 grind[Zz,G1,Jcr]
def RRes(P:Nat->Prop)(W:World)(r:Arr × Int)(e:Ending)(W':World):Prop :=
 ∃so sn sc co cn cc,e=.returned (.tuple #[aK so sn sc co cn cc,.int .i64 r.2])/\IsArr P W' (aK so sn sc co cn cc) (if r.2=0 then r.1 else eArr)/\J W W'
theorem OwnL.sl(h:OwnL B w v xs):∃vo n vc,v=E vo n vc:=by
 obtain⟨vo,vc,a⟩:=h.shape;simp_all
theorem Bx.drewN(h:Bx W w l)(n):Bx W (w.drewN n) l:=h.next (Below.drewN aS n)
theorem OwnL.drewN(h:OwnL B w v ys)(n):OwnL B (w.drewN n) v ys:=h.below (Below.drewN aS n)
theorem Xv{w':World}{v':Value}{y:Int}(q)(hbx:Bx W w l)(hq:(l[q]?.bind (·[1]?))=some v)(ho:OwnL (W.1.size+l.length) w' v' (ys++[y]))(hg:Grew (W.1.size+l.length) w v v' w'):
 Bx W (w'.setCell (U (W.1.size+q) 1) v') (l.modify q (·.set 1 v'))/\OwnL (W.1.size+l.length) (w'.setCell (U (W.1.size+q) 1) v') v' (ys++[y]):=by
 have:q<l.length:=by
  rcases YS q l.length with h|h
  .exact h
  simp_all
 exact⟨(hbx.keep hg.bel).set q 1 v v' hq,Qj ho (by omega) _⟩
theorem Jl{q:Nat}{u0 u1:Value}{a:Arr}(hb:J W w)(hq:q<k)(hA:IsArr (OffB W.1.size k P) w v a):IsArr P ((w.setCell (U (W.1.size+q) 0) u0).setCell (U (W.1.size+q) 1) u1) v a/\J W ((w.setCell (U (W.1.size+q) 0) u0).setCell (U (W.1.size+q) 1) u1):=Ze hb hq hA
def Jfy(f:Int->Int->Int × Int)(z:Int)(xs:List Int)(n i:Nat):Int × Int:=Zh f z ((xs.drop (i-i % n)).take (i % n+1))
def Jr2(f:Int->Int->Int × Int)(z:Int)(xs:List Int)(n i:Nat):Int × Int:=Zh f z ((xs.drop (i*n)).take n)
def redR(f:Int->Int->Int × Int)(z:Int)(scan:Bool)(a:Arr):Arr × Int :=
 if a.shape.length=0 then(a,0)else if scan=true then Zz (Jfy f z a.cells (Jq a.shape)) a.shape a.cells.length
 else if Yb a.shape.dropLast=false then(eArr,9)else Zz (Jr2 f z a.cells (Jq a.shape)) a.shape.dropLast (Jd a.shape.dropLast)
theorem Jkr{b off cap:Nat}(h:Nums P w (aI b off n cap) xs){lo hi:Nat}(h1:lo<=hi)(h2:hi<=n):Nums P w (E (if cap=lo then some (U b off)else some (U b (off+lo))) (hi-lo) (cap-lo)) ((xs.drop lo).take (hi-lo)):=J1 (Kb h (k:=lo) (by omega)) (by omega)
theorem Jo2(hc:SgC c f z)(P)(W)(hP:∀b,W.1.size<=b->P b)(v)(a)(h:IsArr P W v a)(hok:a.ok)(hr:a.shape.length≠0):
 Calls prog 129 #[.int .u8 c,.bool true,v] W (RRes P W (redR f z true a)):=by
 have D:=h;obtain⟨bq,e,sc,r,i,o,rfl,w,aU⟩:=h;obtain⟨s,ao⟩:=Jb D;have ae:Hid (redR f z true a=Zz (Jfy f z a.cells (Jq a.shape)) a.shape a.cells.length):=O (by unfold redR;rw[FU hr,FY rfl]);rw[ae];clear ae;obtain⟨b0,j,rfl,aV,aX,a9⟩:=w.at (k:=a.shape.length-1) (by simp;omega);clear aX;have aY:=Zp w;have a5:=Vl (P:=P) W (some (U b0 j)) e sc r i o a w hok.rank;have am:Ve a.shape=Jq a.shape:=by unfold Ve;rw[FU hr]
 have ap:=Bx.n2 W [aI b0 j e sc,E r i o] aG 133 133;have L:=Vl (P:=P) _ (some (U b0 j)) e sc r i o a (w.below ap.below) hok.rank;rw[am]at L;generalize hn:Jq a.shape=n at L⊢;have ab:wrap64 ((e:Int)-1)=((e-1:Nat):Int):=by have:=hok.rank;unfold wrap64;omega
 have ac:((e:Int)== 0)=false:=by simp;omega
 generalize hm:e-1=m at ab;have a7:m<=sc:=by omega
 have ba:(0:Int)<=(m:Int):=by omega
 have bb:(m:Int)<=(sc:Int):=by omega
 have u:=O s;clear a5 D hr s hm am aY a9;change Hid _ at hn ao;go_enter func129,ntmps129;go_wp2_with (go_at_call 164;refine aQ L ?_);have Y:=Bx.n4 W [aI b0 j e sc,E r i o] aG [aI b0 j e sc,E r i o] [aI b0 j e sc,aH] 133 133 133 133;generalize hwS:((((W.alloc (.cells #[aI b0 j e sc,E r i o] 133)).alloc (.cells aF 133)).alloc (.cells #[aI b0 j e sc,E r i o] 133)).alloc (.cells #[aI b0 j e sc,aH] 133))=wS at Y⊢;obtain⟨g,C⟩:=nm (Jfy f z a.cells n);rw[C];clear hwS ap L;change Hid _ at C;go_loopw [10] (fun l wr=>∃d:Nat,l=G d/\d<=i/\Yc g d=0/\∃v,Bx W wr [[aI b0 j e sc,E r i o],aG,[aI b0 j e sc,E r i o],[aI b0 j e sc,v]]/\OwnL (W.1.size+4) wr v (Yx g d)) (fun l _=>i-(intOf l).toNat)
 .exact ⟨0,rfl,by omega,rfl,_,Y,OwnL.nil _ _⟩
 obtain⟨d,rfl,hi,X,v,l,H⟩:=hrel;have S:=H;have bd:=l.a1;have aq:=l.d0;have ar:=l.d1;have T:=l.D1;have B:=aU.below l.below;have s:=I u;have ak:i<=200:=by rw[s];exact hok.few
 by_cases a4:d<i
 .obtain ⟨b,bp,rfl,aW,-,aZ⟩:=B.at (k:=d) (by omega);have bo:0<n:=by
   have:=K7 hok (by rw[<-ao];intro p;rw[p]at ac;simp at ac);rw[hn,<-s]at this;rcases ZB n with h|h
   .rw [h]at this;omega
   exact h
  have Z:d-d % n<=d:=Nat.sub_le _ _;have an:d % n<=d:=Nat.mod_le _ _;have hcut:=Jkr B (lo:=d-d % n) (hi:=d+1) (by omega) (by omega);rw[FU (by omega)]at hcut;have F:d+1-(d-d % n)=d % n+1:=by omega
  rw[F]at hcut;have t:=fun k=>Fg hc _ _ _ _ _ (hcut.below (Below.drewN aS k)) (by simp;omega);have al:Zh f z ((a.cells.drop (d-d % n)).take (d % n+1))=g d:=by rw[<-C];rfl
  rw[al]at t;generalize hgg:g d=gi at t;obtain⟨bl,A⟩:=gi;have av:(d:Int).tmod (n:Int)=((d % n:Nat):Int):=by rw[ZE (by omega)];rfl
  have bc:((n:Int)== 0)=false:=by simp;omega
  generalize hmd:(d % n)=md at t av Z F an;generalize hlo1:d-md=lo at t Z F;have aw:(d:Int)<(i:Int):=by omega
  have bf:(0:Int)<=(lo:Int):=by omega
  have bg:(lo:Int)<=((d+1:Nat):Int):=by omega
  have bh:((d+1:Nat):Int)<=(o:Int):=by omega
  have bi:¬ o=lo:=by omega
  have bj:d+1-lo=md+1:=by omega
  clear ab;have R:wrap64 ((d:Int)-(md:Int))=(lo:Int):=by unfold wrap64;omega
  have ag:=O R;clear R;have be:wrap64 ((d:Int)+1)=((d+1:Nat):Int):=by unfold wrap64;omega
  have R:=I ag;clear H B s hcut al Z an F hmd hlo1 hc;go_wp2_with fail;have ax:=T;have a8:¬ (n:Int)=0:=by omega
  clear aW aZ ak a7 ba bb aV T ac;change Hid _ at ar aq;go_quiet ((go_at_call 167;exact JL (t _)));obtain⟨ad,K⟩:=nm (wr.drewN nq);have p:Bx W ad _:=K▸l.drewN nq;have az:=K▸S.drewN nq;rw[K];have N:=p.b0;have Q:=p.b1;have ah:=p.B0;have ai:=p.B1;have au:=p.d1;have aj:=p.D1;have a6:W.1.size+4<=ad.1.size:=p.lt;clear K l S bd aq ar ax t av R be ag aw bf bg bh bi bj a8 bc Y;by_cases x:A=0
  .subst x;have ay:(Yx g d).length<=1000:=by rw[Vw];have:=hi;have:=hok;have:=this.few;have:=I u;omega
   go_wp2_with (at_builtin;refine Ju rfl _ _ rfl az ay a6 bl rfl rfl ?_);intro br bv aa y;obtain⟨bu,n4,bt,rfl⟩:=aa.sl;have af:=Xv 3 p rfl aa y;have bn:=y.bel.size;have bm:=V y.bel (by omega) au;have T:=bF y.bel (by omega) aj;clear aa y au aj N Q ah ai;have ak:i<=200:=by have:=hok;have:=this.few;have:=I u;omega
   go_wp2_with fail;go_roundw
   .exact ⟨d+1,by go_num,by omega,Vu X (by rw[hgg]),_,af.1,by rw[Vv,hgg];exact af.2⟩
   simp[intOf];omega
  have aa:(A == 0)=false:=by simp[x]
  have af:(A != 0)=true:=by simp[x]
  go_wp2_with fail;have y:=Jl (q:=1) (k:=4) (u0:=aH) (u1:=aH) p.below (by decide) (Jt (OffB W.1.size 4 P) ad);refine FR (v:=.tuple #[.agg aF,G A]) (by simp[results,results129,go_sem,N,Q]) rfl ?_;rw[Xs _ X (by rw[hgg];exact x) (by have:=a4;have:=I u;omega),hgg];exact⟨_,_,_,_,_,_,rfl,by simpa[x]using y.1,y.2⟩
 have t:d=i:=by omega
 have N:=l.b0;have Q:=l.b1;have ah:=l.B0;have ai:=l.B1;have aw:¬ (d:Int)<(i:Int):=by omega
 obtain⟨p,vc,rfl⟩:=H.shape;clear H B hok s ab;change Hid _ at t;go_wp2_with fail;have x:IsArr (OffB W.1.size 4 P) wr (.agg #[aI b0 j e sc,E p (Yx g d).length vc]) ⟨a.shape,Yx g d⟩:=⟨_,_,_,_,_,_,rfl,(w.imp (fun b h D=>⟨h,NN D⟩)).below l.below,S.nums.imp (fun b h _=>OffB.new hP h.1)⟩;have y:=Jl (q:=1) (k:=4) (u0:=aI b0 j e sc) (u1:=E p (Yx g d).length vc) l.below (by decide) x;refine FR (v:=.tuple #[.agg #[aI b0 j e sc,E p (Yx g d).length vc],G 0]) (by simp[results,results129,go_sem,N,Q]) rfl ?_;rw[C,<-u,<-t,K6 _ X];exact⟨_,_,_,_,_,_,rfl,y.1,y.2⟩
theorem Jgr(P)(w)(cap):Nums P w (E none 0 cap) []:=⟨none,cap,rfl,by simp,fun h=>absurd h (by simp),fun a h=>by cases h⟩
theorem Jio(hc:SgC c f z)(P)(W)(hP:∀b,W.1.size<=b->P b)(v)(a)(h:IsArr P W v a)(hok:a.ok)(hr:a.shape.length≠0):
 Calls prog 129 #[.int .u8 c,.bool false,v] W (RRes P W (redR f z false a)):=by
 have au:=h;obtain⟨b4,i,sc,p,o,j,rfl,y,bi⟩:=h;obtain⟨B,a5⟩:=Jb au;obtain⟨bw,ag⟩:=nm (redR f z false a);rw[ag];unfold redR at ag;rw[FU hr,FU (by decide)]at ag;have an:=O ag;clear ag;obtain⟨b0,e,rfl,bj,aV,bR⟩:=y.at (k:=a.shape.length-1) (by simp;omega);clear aV;have bP:=Zp y;have bQ:=Vl (P:=P) W (some (U b0 e)) i sc p o j a y hok.rank;have bm:Ve a.shape=Jq a.shape:=by unfold Ve;rw[FU hr]
 have a6:=Bx.n2 W [aI b0 e i sc,E p o j] aG 133 133;have bq:=Vl (P:=P) _ (some (U b0 e)) i sc p o j a (y.below a6.below) hok.rank;have T:=bq;rw[bm]at T;generalize hn:Jq a.shape=n at T an;have av:wrap64 ((i:Int)-1)=((i-1:Nat):Int):=by have:=hok.rank;unfold wrap64;omega
 have bx:((i:Int)== 0)=false:=by simp;omega
 generalize hm:i-1=m at av;have bo:m<=sc:=by omega
 have br:(0:Int)<=(m:Int):=by omega
 have bt:(m:Int)<=(sc:Int):=by omega
 have bJ:=a6;have bX:=y;have bA:=bi;have bH:=hok;have bB:=O B;have bZ:=O a5;have bG:=O hn;have bI:=hP;have aX:(a.shape.map Int.ofNat).take m=a.shape.dropLast.map Int.ofNat:=by rw[JN,<-a5,hm,Mh]
 have Z:=fun a9 (bO:J W a9)=>Fe (Q:=P) a9 (some (U b0 e)) m sc a.shape.dropLast (by rw[<-aX];exact(J1 y (by omega)).below bO) ⟨by have:=hok.rank;simp;omega,fun l d=>by have:=hok.lens l (PM _ d);omega⟩;have bD:=show Nums P W (aI b0 e m sc) (a.shape.dropLast.map Int.ofNat) by rw[<-aX];exact J1 y (by omega)
 have be:=O (K7 hok hr);clear a6 bq bQ au y bi hok hr B a5 hn hP hm bm bP bR aX;go_enter func129,ntmps129;have bl:=Bx.n4 W [aI b0 e i sc,E p o j] aG [aI b0 e i sc,E p o j] [aI b0 e m sc,aH] 133 133 133 133;have N:=bl;clear bl;obtain⟨kr,aZ⟩:=nm (if Yb a.shape.dropLast=true then(Jd a.shape.dropLast:Int)else -1);simp only[aZ]at Z;have ax:=O aZ;clear aZ;by_cases A:Yb a.shape.dropLast=true
 .have aY:kr=(Jd a.shape.dropLast:Int):=by rw[<-ax,FY A]
  subst aY;have X:Hid (bw=Zz (Jr2 f z a.cells n) a.shape.dropLast (Jd a.shape.dropLast)):=O (by rw[<-an,FU (by simp[A])]);have bN:Jd a.shape.dropLast<=64:=by
   unfold Yb at A;rw[ZJ]at A;simpa using A.2
  generalize hK:Jd a.shape.dropLast=K at Z X bN be;have bY:=O hK;clear hK A;go_wp2_with (first|(go_at_call 164;refine aQ T ?_)| (go_at_call 161;refine aQ (Z _ N.below) ?_));generalize hwS:((((W.alloc (.cells #[aI b0 e i sc,E p o j] 133)).alloc (.cells aF 133)).alloc (.cells #[aI b0 e i sc,E p o j] 133)).alloc (.cells #[aI b0 e m sc,aH] 133))=wS at N⊢;generalize hg:Jr2 f z a.cells n=g at X;have bE:=O hg;clear hwS bJ T hg Z an ax;go_loopw [14] (fun l wr=>∃d:Nat,l=G d/\d<=K/\Yc g d=0/\∃v,Bx W wr [[aI b0 e i sc,E p o j],aG,[aI b0 e i sc,E p o j],[aI b0 e m sc,v]]/\OwnL (W.1.size+4) wr v (Yx g d)) (fun l _=>K-(intOf l).toNat)
  .exact ⟨0,rfl,by omega,rfl,_,N,OwnL.nil _ _⟩
  obtain⟨d,rfl,hi,ap,v,l,af⟩:=hrel;have S:=O ap;have D:=l;have az:=af;have bu:=l.a1;have ai:=l.b0;have aj:=l.b1;have bf:=l.B0;have bg:=l.B1;have bv:=l.d0;have aw:=l.d1;have ao:=l.D1;have bn:W.1.size+4<=wr.1.size:=l.lt;have x:=bA.below l.below;have hok:=bH;have B:=I bB;have aW:o<=200:=by rw[B];exact hok.few
  have aq:o=K*n:=by have:=I be;rw[bG]at this;omega
  by_cases ac:d<K
  .have ar:(d+1)*n<=K*n:=NR _ (by omega);rw[ZG,YA,<-aq]at ar;generalize hlo:d*n=lo at ar;have a4:n=0->lo=0:=by rintro rfl;simpa using hlo.symm
   have ba:(d:Int)<(K:Int):=by omega
   have L:Zh f z ((a.cells.drop (d*n)).take n)=g d:=by rw[<-bE];rfl
   rw[hlo]at L;generalize hgg:g d=gi at L;obtain⟨bz,w⟩:=gi;have u:=O hgg;have al:=hi;have am:=ac;have b3:lo<=200:=by omega
   cases p with
   | none =>
    have aV:=Jgq x;have bM:0<K:=by omega
    have H:n=0:=by
     rcases ZB n with h|h
     .exact h
     have:=Nat.mul_pos bM h;omega
    have bh:=a4 H;have aU:a.cells=[]:=by have:=Je x;exact ZV.1 (by omega)
    have R:∀k s,k=0->Nums P wr (E none k s) ((a.cells.drop lo).take n):=by rintro k s rfl;rw[aU];simpa using Jgr P wr s
    have F:=fun ak ah s (h:Nums P wr (E ak ah s) ((a.cells.drop lo).take n))=>Fg hc _ wr ak ah s h (by rw[aU];simp);rw[L]at F;have bb:(0:Int)<=(lo:Int):=by omega
    have bc:(lo:Int)<=((lo+n:Nat):Int):=by omega
    have bd:((lo+n:Nat):Int)<=(j:Int):=by omega
    have ae:(d:Int)*(n:Int)=(lo:Int):=by rw[<-hlo,MC]
    have ab:Hid (wrap64 ((lo:Int)+(n:Int))=((lo+n:Nat):Int)):=O (by unfold wrap64;omega);have aa:Hid (wrap64 ((d:Int)*(n:Int))=(lo:Int)):=O (by rw[ae];unfold wrap64;omega);have bS:=O bh;have bp:=O H;have a7:=I aa;have a8:=I ab;clear ap l af x hok B ar hlo a4 L hgg ac hi aq aU aW hc bo br bt bj av bx aV H bh ae;go_wp2_with fail;refine(F _ _ _ (R _ _ (by have:=I bp;omega))).mono ?_;rintro b2 a9 ⟨rfl,rfl⟩;clear F a7 a8 aa ab ba bb bc bd R;by_cases r:w=0
    .subst r;have ay:(Yx g d).length<=1000:=by rw[Vw];have:=al;omega
     go_wp2_with (at_builtin;refine Ju rfl _ _ rfl az ay bn bz rfl rfl ?_);intro bT bW C t;obtain⟨bV,n4,bU,rfl⟩:=C.sl;have Y:=Xv 3 D rfl C t;have bK:=V t.bel (by omega) aw;have bL:=bF t.bel (by omega) ao;clear C t aw ao ai aj bf bg bu bv;have hi:=al;have ac:=am;go_wp2_with fail;go_roundw
     .exact ⟨d+1,by go_num,by omega,Vu S (by rw[u]),_,Y.1,by rw[Vv,u];exact Y.2⟩
     simp[intOf];omega
    have C:(w == 0)=false:=by simp[r]
    have Y:(w != 0)=true:=by simp[r]
    go_wp2_with fail;have t:=Jl (q:=1) (k:=4) (u0:=aH) (u1:=aH) D.below (by decide) (Jt (OffB W.1.size 4 P) _);refine FR (v:=.tuple #[.agg aF,G w]) (by simp[results,results129,go_sem,ai,aj]) rfl ?_;rw[X,Xs _ S (by rw[u];exact r) am,u];exact⟨_,_,_,_,_,_,rfl,by simpa[r]using t.1,t.2⟩
   | some ad =>
    obtain⟨b,b2,b5⟩:=ad;have bS:=Jgo x;subst bS;have bM:=Zp x;have hcut:=Jkr x (lo:=lo) (hi:=lo+n) (by omega) (by omega);have bp:lo+n-lo=n:=by omega
    rw[bp]at hcut;have bb:(0:Int)<=(lo:Int):=by omega
    have bc:(lo:Int)<=((lo+n:Nat):Int):=by omega
    have bd:((lo+n:Nat):Int)<=(j:Int):=by omega
    have ae:(d:Int)*(n:Int)=(lo:Int):=by rw[<-hlo,MC]
    have ab:Hid (wrap64 ((lo:Int)+(n:Int))=((lo+n:Nat):Int)):=O (by unfold wrap64;omega);have aa:Hid (wrap64 ((d:Int)*(n:Int))=(lo:Int)):=O (by rw[ae];unfold wrap64;omega);have aU:=fun ak ah s (h:Nums P wr (E ak ah s) ((a.cells.drop lo).take n))=>Fg hc _ wr ak ah s h (by simp;omega);rw[L]at aU;by_cases H:j=lo;rw[FY H]at hcut;have R:=hcut;have bh:=eq_true H;clear H;have H:=bh;clear bh;rotate_left;rw[FU H]at hcut;have R:=hcut
    all_goals
     have F:=aU;have a7:=I aa;have a8:=I ab;clear ap l af x hok B ar hlo a4 L hgg ac hi aq aW hc bo br bt bj av bx hcut aU ae bM;go_wp2_with fail;refine aQ (F _ _ _ (by simpa using R)) ?_;clear F a7 a8 aa ab ba bb bc bd bp H;by_cases r:w=0
     .subst r;have ay:(Yx g d).length<=1000:=by rw[Vw];have:=al;omega
      go_wp2_with (at_builtin;refine Ju rfl _ _ rfl az ay bn bz rfl rfl ?_);intro bT bW C t;obtain⟨bV,n4,bU,rfl⟩:=C.sl;have Y:=Xv 3 D rfl C t;have bK:=V t.bel (by omega) aw;have bL:=bF t.bel (by omega) ao;clear C t aw ao ai aj bf bg bu bv;have hi:=al;have ac:=am;go_wp2_with fail;go_roundw
      .exact ⟨d+1,by go_num,by omega,Vu S (by rw[u]),_,Y.1,by rw[Vv,u];exact Y.2⟩
      simp[intOf];omega
     have C:(w == 0)=false:=by simp[r]
     have Y:(w != 0)=true:=by simp[r]
     go_wp2_with fail;have t:=Jl (q:=1) (k:=4) (u0:=aH) (u1:=aH) D.below (by decide) (Jt (OffB W.1.size 4 P) _);refine FR (v:=.tuple #[.agg aF,G w]) (by simp[results,results129,go_sem,ai,aj]) rfl ?_;rw[X,Xs _ S (by rw[u];exact r) am,u];exact⟨_,_,_,_,_,_,rfl,by simpa[r]using t.1,t.2⟩
  have w:d=K:=by omega
  have ba:¬ (d:Int)<(K:Int):=by omega
  have C:=O w;obtain⟨u,s,vc,rfl⟩:=af.sl;clear ap l af x hok B av w aq aW;go_wp2_with fail;have r:IsArr (OffB W.1.size 4 P) wr (.agg #[aI b0 e m sc,E u s vc]) ⟨a.shape.dropLast,Yx g d⟩:=⟨_,_,_,_,_,_,rfl,(bD.imp (fun b h au=>⟨h,NN au⟩)).below D.below,az.nums.imp (fun b h _=>OffB.new bI h.1)⟩;have t:=Jl (q:=1) (k:=4) (u0:=aI b0 e m sc) (u1:=E u s vc) D.below (by decide) r;refine FR (v:=.tuple #[.agg #[aI b0 e m sc,E u s vc],G 0]) (by simp[results,results129,go_sem,ai,aj]) rfl ?_;rw[X,<-C,K6 _ S];exact⟨_,_,_,_,_,_,rfl,t.1,t.2⟩
 have aY:kr=-1:=by rw[<-ax,FU A]
 subst aY;have d:Hid (bw=(eArr,9)):=O (by rw[<-an,FY (by simpa using A)]);go_wp2_with (first|(go_at_call 164;refine aQ T ?_)| (go_at_call 161;refine aQ (Z _ N.below) ?_));have r:=Jt P ((((W.alloc (.cells #[aI b0 e i sc,E p o j] 133)).alloc (.cells aF 133)).alloc (.cells #[aI b0 e i sc,E p o j] 133)).alloc (.cells #[aI b0 e m sc,aH] 133));refine FR (by simp[results,results129,go_sem];try rfl) rfl ?_;refine ?_;rw[d];exact⟨_,_,_,_,_,_,rfl,r,N.below⟩
theorem Jf2(hc:SgC c f z)(scan)(P)(W)(hP:∀b,W.1.size<=b->P b)(v)(a)(h:IsArr P W v a)(hok:a.ok):
 Calls prog 129 #[.int .u8 c,.bool scan,v] W (RRes P W (redR f z scan a)):=by
 by_cases d:a.shape.length=0
 .have j:=h;obtain⟨k,r,sc,i,g,e,rfl,p,q⟩:=h;have m:=(Jb j).2;rw[d]at m;have o:Hid (redR f z scan a=(a,0)):=O (by unfold redR;rw[FY d]);have n:=O j;subst m;clear j p q hok hP d hc;go_enter func129,ntmps129;go_wp2_with fail;refine FR (v:=.tuple #[aK k 0 sc i g e,G 0]) (by simp[results,results129,go_sem]) rfl ?_;rw[o];have l:J W ((W.alloc (.cells (aL k 0 sc i g e) 133)).alloc (.cells (aL k 0 sc i g e) 133)):=(aS.alloc aT _).alloc (by simp) _;exact⟨_,_,_,_,_,_,rfl,n.below l,l⟩
 cases scan
 .exact Jio hc P W hP v a h hok d
 exact Jo2 hc P W hP v a h hok d
def RVal(P:Nat->Prop)(W:World)(r:Arr)(e:Ending)(W':World):Prop :=
 ∃so sn sc co cn cc,e=.returned (aK so sn sc co cn cc)/\IsArr P W' (aK so sn sc co cn cc) r/\J W W'
theorem Jef(F)(c)(hF:c=43/\F=id\/c=45/\F=Km\/c=124/\F=Yg\/c=42/\F=Yj)(P)(W)(hP:∀b,W.1.size<=b->P b)(v)(a)(h:IsArr P W v a)(hok:a.ok):
 Calls prog 130 #[.int .u8 c,v] W (RVal P W ⟨a.shape,a.cells.map F⟩):=by
 have o:=h;obtain⟨l,j,sc,u,g,t,rfl,L,N⟩:=h;have m:=(Jb o).1;have:g<=200:=by rw[m];exact hok.few
 have z:=Bx.n3 W (aM l j sc u g t) aG [E l j sc,aH] 133 133 133;have T:=O L;have X:=O N;clear o L N hok;change Hid _ at hP m z;obtain⟨rfl,hF⟩| ⟨rfl,hF⟩| ⟨rfl,hF⟩| ⟨rfl,hF⟩:=hF
 all_goals
  change Hid _ at hF;go_enter func130,ntmps130;go_wp2_with fail;generalize hwS:(((W.alloc (.cells (aL l j sc u g t) 133)).alloc (.cells aF 133)).alloc (.cells #[E l j sc,aH] 133))=wS at z⊢;clear hwS;go_loopw [6] (fun e wr=>∃d:Nat,e=G d/\d<=g/\∃v,Bx W wr [(aM l j sc u g t),aG,[E l j sc,v]]/\OwnL (W.1.size+3) wr v ((a.cells.take d).map F)) (fun e _=>g-(intOf e).toNat)
  .exact ⟨0,rfl,by omega,_,z,OwnL.nil _ _⟩
  obtain⟨d,rfl,al,v,e,p⟩:=hrel;have r:=O e;have s:=O p;have ad:=e.a1;have R:=e.b0;have S:=e.b1;have Y:=e.B0;have Z:=e.B1;have ae:=e.c0;have Q:=e.c1;have K:=e.C1;have ab:W.1.size+3<=wr.1.size:=e.lt;have w:=X.below e.below;by_cases am:d<g
  .have x:d<a.cells.length:=by have:=I m;omega
   obtain⟨b,an,rfl,aj,aa,-⟩:=w.at (k:=d) x;obtain⟨f,A⟩:=nm a.cells[d];rw[A]at aa;have H:Hid ((a.cells.take (d+1)).map F=(a.cells.take d).map F++[F f]):=O (by rw[NG x,A,NU];rfl);have af:(d:Int)<(g:Int):=by omega
   have:(0:Int)<=(d:Int):=by omega
   have C:Hid (((a.cells.take d).map F).length<=1000):=O (by simp;omega);generalize hys:(a.cells.take d).map F=ys at s C H;clear e p w x A hys;obtain⟨B,ac⟩| rfl|⟨B,ac⟩:f<0/\¬ 0<f\/f=0\/0<f/\¬ f<0:=by omega
   all_goals
    go_wp2_with (first|(go_at_call 168;(first|refine(Jba _ 1 (by first|(simp;done)| (simp;omega)) _).mono ?_|refine(Jba _ 0 (by first|(simp;done)| (simp;omega)) _).mono ?_);rintro ah ar ⟨rfl,rfl⟩)| (at_builtin;refine Ju rfl _ _ rfl s C ab _ rfl rfl ?_));intro ao au y n;obtain⟨aq,n4,ap,rfl⟩:=y.sl;have D:=O (Xv 2 r rfl y n);have:=V n.bel (by omega) Q;have:=bF n.bel (by omega) K;clear y n Q K R S Y Z ad ae;go_wp2_with fail;go_roundw
    .have i:=D.2;refine⟨d+1,by go_num,by omega,_,D.1,?_⟩;rw[H,hF];first|exact i|(rw[show Yg 0=0 by unfold Yg wrap64;omega];exact i)| (rw[show Km 0=0 by unfold Km wrap64;omega];exact i)| (rw[show Yj 0=0 from rfl];exact i)| (rw[show Yj f=1 by unfold Yj;rw[FU (by omega),FY B]];exact i)| (rw[show Yj f=-1 by unfold Yj;rw[FY B]];exact i)| (rw[show Yg f=wrap64 (-f) by unfold Yg wrap64;omega];exact i)| (rw[show Yg f=f by unfold Yg wrap64;omega];exact i)
    simp[intOf];omega
  have A:d=g:=by omega
  have af:¬ (d:Int)<(g:Int):=by omega
  have x:Hid ((a.cells.take d).map F=a.cells.map F):=O (by rw[NJ (by have:=I m;omega)]);obtain⟨n,i,vc,rfl⟩:=p.sl;clear e p w A;go_wp2_with fail;have y:IsArr (OffB W.1.size 3 P) wr (aK l j sc n i vc) ⟨a.shape,a.cells.map F⟩:=⟨_,_,_,_,_,_,rfl,(T.imp (fun b h o=>⟨h,NN o⟩)).below r.below,by rw[<-x];exact s.nums.imp (fun b h _=>OffB.new hP h.1)⟩;have f:=Jl (q:=1) (k:=3) (u0:=E l j sc) (u1:=E n i vc) r.below (by decide) y;exact FR (by simp[results,results130,go_sem,R,S]) rfl ⟨_,_,_,_,_,_,rfl,f.1,f.2⟩
end Go.Proofs.YtjobgpahajhbnaaGreatDoor
