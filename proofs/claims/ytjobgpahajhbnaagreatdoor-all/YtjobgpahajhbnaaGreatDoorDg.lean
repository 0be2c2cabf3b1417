import Derived.Test.YtjobgpahajhbnaaGreatDoorDb
import Derived.Stop.RegionWithIn
namespace Go.Proofs.YtjobgpahajhbnaaGreatDoor
open Go.RowKit Go.Proofs Go.Maps Go.Shelf Go.Proofs.Tryz
attribute [local go_sem ↓] Go.wp_at_zero Go.wp_at_succ
attribute [local go_sem] Oper.semAt_some
set_option linter.all false
set_option maxHeartbeats 4000000
set_option maxRecDepth 100000
variable {A B W W0 w:World} {L d xs:List Int} {P:Nat->Prop} {Q:Exit->Act->World->Prop} {a b:Arr} {c cc cn g i j k l n r s sc2 sn2:Nat} {co so2:Option Addr} {f:Arr->Arr->Arr × Int} {p:Nat->Bool} {row:Option Nat} {x y:Int}
structure Spread (f:Arr->Arr->Arr × Int):Prop where
 ok:∀ x b,Jk x->b.ok->(f ⟨[],[x]⟩ b).2=0->(f ⟨[],[x]⟩ b).1.ok
 len:∀ x b,Jk x->b.ok->(f ⟨[],[x]⟩ b).2=0->(f ⟨[],[x]⟩ b).1.cells.length=b.cells.length
theorem J1s(h:Jk x):(⟨[],[x]⟩:Arr).ok:=⟨by simp,by simp,by simp[Jd],by simp,by simpa using h⟩
theorem Zj{F:Int->Int->Int × Int}(hf:∀x y,Jk x->Jk y->Jk (F x y).1):Spread (Jh F) where
 ok:=fun x b hx hb h=>(Jep hf (J1s hx) hb).2 h
 len:=fun x b hx hb h=>by
  unfold Jh at h⊢;simp only[Pt]at h⊢;unfold zipA at h⊢;cases hc:zipF F (List.replicate b.cells.length (List.headD [x] 0)) b.cells with
  | inl e=>grind[Jd7]
  | inr l =>
   have:=Jh4 hc (by simp);simp_all
def outE(f:Arr->Arr->Arr × Int)(b:Arr)(xs:List Int):Nat->Int
 | 0=>0
 | k+1=>if outE f b xs k≠0 then outE f b xs k else(f ⟨[],[xs.getD k 0]⟩ b).2
def outC(f:Arr->Arr->Arr × Int)(b:Arr)(xs:List Int):List Int:=(xs.map fun x=>(f ⟨[],[x]⟩ b).1.cells).flatten
def Yr(f:Arr->Arr->Arr × Int)(a b:Arr):Arr × Int :=
 if 3<a.shape.length+b.shape.length then(eArr,5)else if Yb (a.shape++b.shape)=false then(eArr,9)
 else if outE f b a.cells a.cells.length≠0 then(eArr,outE f b a.cells a.cells.length)else(⟨a.shape++b.shape,outC f b a.cells⟩,0)
theorem Jcb{f:Arr->Arr->Arr × Int}{b:Arr}{xs:List Int}:∀{k:Nat},outE f b xs k=0->∀i,i<k->(f ⟨[],[xs.getD i 0]⟩ b).2=0
 | 0,_,i,hi=>absurd hi (by omega)
 | k+1,h,i,hi=>by
  unfold outE at h;by_cases h0:outE f b xs k=0
  .rw [FU (by simp[h0])]at h;by_cases hk:i=k
   .simp_all
   exact Jcb h0 i (by omega)
  omega
theorem Jdq{f:Arr->Arr->Arr × Int}{b:Arr}{xs:List Int}{k:Nat}(h:outE f b xs k≠0):∀{n:Nat},k<=n->outE f b xs n=outE f b xs k
 | 0,hn=>by
  simp_all
 | n+1,hn=>by
  by_cases hk:k=n+1
  .subst hk;rfl
  have:=Jdq h (n:=n) (by omega);simp[outE];omega
theorem Jes{f:Arr->Arr->Arr × Int}{b:Arr}{n:Nat}:∀{xs:List Int},(∀x ∈ xs,(f ⟨[],[x]⟩ b).1.cells.length=n)->(outC f b xs).length=xs.length*n
 | [],_=>by simp[outC]
 | x::r,h=>by
  have:=Jes (xs:=r) (fun y hy=>h y (by simp[hy]));simp_all[outC,ZG,Hg]
theorem Jqe(f)(b)(xs)(x):outC f b (xs++[x])=outC f b xs++(f ⟨[],[x]⟩ b).1.cells:=by
 simp[outC]
theorem Jko(h:outE f b xs xs.length=0)(hx:x ∈ xs):(f ⟨[],[x]⟩ b).2=0:=by
 obtain⟨i,a,rfl⟩:=ZS hx;have:=Jcb h i a;simp_all
theorem Jvm(hf:Spread f)(ha:a.ok)(hb:b.ok):(Yr f a b).1.cells.length<=200/\((Yr f a b).2=0->(Yr f a b).1.ok):=by
 unfold Yr;split
 .simp [eArr]
 rename_i h1;split
 .simp [eArr]
 rename_i h2;split
 .simp [eArr];omega
 rename_i e;have e:outE f b a.cells a.cells.length=0:=by simpa using e
 have h:Yb (a.shape++b.shape)=true:=by simpa using h2
 unfold Yb at h;simp only[ZJ,JM,YL]at h;have i:(outC f b a.cells).length=Jd (a.shape++b.shape):=by
  rw[Jes (n:=b.cells.length) (fun x d=>hf.len x b (ha.fits x d) hb (Jko e d)),Ji,ha.size,hb.size]
 refine⟨by simp;omega,fun _=>⟨by simp;omega,fun n j=>by grind,i,by simp;omega,?_⟩⟩;intro c g;simp only[outC,Pn,NZ]at g;obtain⟨l,⟨x,d,rfl⟩,g⟩:=g;exact(hf.ok x b (ha.fits x d) hb (Jko e d)).fits c g
theorem GC:Enters prog 201:=NF func201 (by decide) rfl
def rotL(L:List Int)(s:Nat):List Int:=L.drop s++L.take s
def Xg(n:Nat)(y:Int):Nat:=(y % (n:Int)).toNat
theorem Jyl(n):(wrap64 n-n) % 18446744073709551616=0:=by
 grind[wrap64]
theorem Jvl(h0:0<n):((Z8 y n).1-y / (n:Int)) % 18446744073709551616=0:=by
 unfold Z8;rw[FU (by omega)];have:¬ ((n:Int)<0):=by omega
 have c:(n:Int).sign=1:=Int.sign_eq_one_of_pos (by omega);have hd:=Int.tdiv_eq_ediv (a:=y) (b:=(n:Int));rw[c]at hd;have:(y.tmod (n:Int)=0)↔(n:Int) ∣ y:=(Int.dvd_iff_tmod_eq_zero).symm;by_cases g:0<=y
 .simp_all [Mu,wrap64];omega
 by_cases d:(n:Int) ∣ y
 .simp_all [wrap64];omega
 simp_all[wrap64];omega
theorem Juu(h0:0<n)(hn:n<=1000):(Qi (n:Int) y).1=y % (n:Int):=by
 unfold Qi;rw[FU (by omega)];show wrap64 (y-wrap64 ((n:Int)*(Z8 y n).1))=y % (n:Int);have b:=Jvl (y:=y) h0;obtain⟨a,h⟩:=Int.dvd_of_emod_eq_zero b;have c:(Z8 y n).1=y / (n:Int)+18446744073709551616*a:=by omega
 have:(n:Int)*(Z8 y n).1=(n:Int)*(y / (n:Int))+18446744073709551616*((n:Int)*a):=by
  rw[c,Int.mul_add,<-Int.mul_assoc,Int.mul_comm (n:Int) 18446744073709551616,Int.mul_assoc]
 have:=Int.emod_add_mul_ediv y (n:Int);have:=Hp y (show(n:Int)≠0 by omega);have:=Ms y (show(0:Int)<n by omega);grind[wrap64]
theorem Jt2(h0:0<n):Xg n y<n/\((Xg n y:Nat):Int)=y % (n:Int):=by
 have:=Hp y (show(n:Int)≠0 by omega);simp_all[Ms,Xg];omega
def Qg{n:Nat}(pre:List (Part n))(xs:List Int)(y:Int):List Int:=(pre.map (fun p=>rotL ((xs.drop p.1.1).take p.1.2) (Xg p.1.2 y))).flatten
theorem Jc9(pre)(x:Part n)(xs:List Int)(y:Int):Qg (pre++[x]) xs y=Qg pre xs y++rotL ((xs.drop x.1.1).take x.1.2) (Xg x.1.2 y):=by
 simp[Qg]
theorem Jki(L)(s):(rotL L s).length=L.length:=by
 simp[rotL];omega
theorem Jfl{n:Nat}:∀(pre:List (Part n)) (xs:List Int) (y:Int),(Qg pre xs y).length<=pre.length*xs.length
 | [],_,_=>by simp[Qg]
 | p::pre,xs,y=>by
  have:=Jfl pre xs y;simp_all[Qg,Jki,ZG];omega
def Jbs(xs:List Int)(la:Nat)(y:Int):List Int:=Qg (Yl xs.length (max la 1) (Xl la) xs.length) xs y
def Ni(a b:Arr):Arr × Int:=if a.shape.length≠0 then(eArr,5)else if b.shape.length=0 then(b,0)else(⟨b.shape,Jbs b.cells (Jq b.shape) (a.cells.headD 0)⟩,0)
theorem Nums.own{v:Value}(h:Nums P A v L)(hg:A.grownBy B row)(hr:∀r,row=some r->n<=r/\∃o:Obj,A.heap[r]?=some o/\o.isCells=false):Nums P B v L:=by
 obtain⟨a,c,s,l,f,g⟩:=h;refine⟨a,c,s,l,fun e=>?_,g⟩;obtain⟨b,t,j,q,p,k⟩:=f e;exact⟨b,t,j,q,FT p hg.size,fun i m=>cell_kept (k i m) hg (fun r d=>(hr r d).2)⟩
section
theorem Jlr(W)(P)(so)(sn sc)(co)(cn cc)(so2)(sn2 sc2)(co2)(cn2 cc2)(a b)(ha:IsArr P W (aK so sn sc co cn cc) a)(hb:IsArr P W (aK so2 sn2 sc2 co2 cn2 cc2) b)(h:sn≠0\/sn2=0):
 Calls prog 201 #[aK so sn sc co cn cc,aK so2 sn2 sc2 co2 cn2 cc2] W fun e W'=>∃so sn sc co cn cc,e=aD (.tuple #[aK so sn sc co cn cc,G (Ni a b).2])/\IsArr P W' (aK so sn sc co cn cc) (Ni a b).1/\J W W':=by
 have q:=(Jb ha).2;have s:=(Jb hb).2;have d:=St.start (P:=P) (W:=W) (a:=a) (b:=b) ha hb;generalize hW1:(((W.alloc (.cells (aL so sn sc co cn cc) 89)).alloc (.cells (aL so2 sn2 sc2 co2 cn2 cc2) 89)).alloc (.cells #[M,aH] 89))=W1 at d;have n:=fun f=>(Jo f so sn sc co cn cc).mono (fun e c h=>(⟨h.1,by rw[h.2];exact(aS.alloc aT _).alloc (by simp) _⟩:e=aD (.bool ((sn:Int)== 0))/\J f c));have w:=fun f=>(Jo f so2 sn2 sc2 co2 cn2 cc2).mono (fun e c h=>(⟨h.1,by rw[h.2];exact(aS.alloc aT _).alloc (by simp) _⟩:e=aD (.bool ((sn2:Int)== 0))/\J f c));obtain⟨r,i⟩:=nm (Ni a b);simp only[i];have B:=d.a0;have C:=d.a1;clear ha hb;change Hid _ at s q;go_enter func201,ntmps201;go_wp2_with fail;try rw[hW1]
 clear hW1 B C;refine aR (n _) fun z p=>?_;have c:=d.keep p;have u:=c;have g:=c.below;have D:=c.b0;have F:=c.b1;have k:=c.r0;have l:=c.r1;have H:=c.fr (W.1.size+1+1) 0 (by omega) (by omega);have K:=c.fr (W.1.size+1+1) 1 (by omega) (by omega);have n3:=c.lt;have n2:W.1.size+1<z.1.size:=by omega
 clear c p d n;by_cases t:sn=0
 .have y:((sn:Int)== 0)=true:=by rw[t];rfl
  have o:sn2=0:=by omega
  have:((sn2:Int)== 0)=true:=by rw[o];rfl
  have j:r=(b,0):=by
   rw[<-i];unfold Ni;rw[FU (by grind[I]),FY (by grind[I])]
  subst j;clear t h o i q s;go_wp2_with fail;refine aR (w _) fun A x=>?_;have c:=u.keep x;have D:=c.b0;have F:=c.b1;have k:=c.r0;have l:=c.r1;have H:=c.fr (W.1.size+1+1) 0 (by omega) (by omega);have K:=c.fr (W.1.size+1+1) 1 (by omega) (by omega);have n3:=c.lt;have n2:W.1.size+1<A.1.size:=by omega
  have g:=c.below;have m:=c.isB;go_wp2;exact FR (by simp[results,results201,go_sem,k,l]) rfl ⟨_,_,_,_,_,_,rfl,(Ke g m).1,(Ke g m).2⟩
 have y:((sn:Int)== 0)=false:=by rw[NT];omega
 have j:r=(eArr,5):=by
  rw[<-i];unfold Ni;rw[FY (by grind[I])]
 subst j;go_wp2;exact FR (by simp[results,results201,go_sem,k,l]) rfl ⟨_,_,_,_,_,_,rfl,Jt _ _,(Ke (P:=P) g (Jt _ _)).2⟩
end
theorem J3k{P:Program}{o:Oper}{a:Act}{K K':Act->World->Prop}(hd:∀c,o.op≠.defer c)(hk:∀a w,K a w->K' a w)(h:o.wp P a w K Q):o.wpIn (Fence.wide.inRound l) n P a w K' Q:=by
 refine⟨fun _ _=>trivial,?_⟩;rw[show(Fence.wide.inRound l).round=some l from rfl,Oper.semAt_some l _ _ hd];have h:=Oper.wp_mono hk h;unfold Oper.wp at h;generalize(execOp a.eval o).run P w=r at *;cases r with
 | ok x w' =>
  cases x with
  | value v=>exact h
  | skip=>exact h
  | defer d=>exact h
  | enter f args=>exact⟨fun h=>(by cases h),CallsIn.inRound l (YF.2 h)⟩
  | row row args=>exact⟨fun h=>(by cases h),fun c b _=>let⟨v,w2,r,s⟩:=h c b;⟨v,w2,r,stepsIn_wide.2 s⟩⟩
  | _=>exact h.elim
 | halt x w'=>cases x<;>exact h
theorem Q7{l n:Nat}{P:Program}{md:Region.Mode}{ops:Array Oper}{Q:Exit->Act->World->Prop}(hd:∀(i:Nat) (o:Oper),ops[i]?=some o->∀c,o.op≠.defer c)(hL:¬ LetsOut Q):∀(fuel:Nat) (listed:Array Bool) (a:Act) (w:World),wpAny P md ops Q fuel listed a w->wpAnyIn (Fence.wide.inRound l) n P md ops Q fuel listed a w
 | 0,_,_,_,h=>h
 | fuel+1,listed,a,w,h=>⟨h.1,fun i hi=>by
  have hh:=h.2 i hi;unfold wpOp at hh;unfold wpOpIn;split
  .rename_i ho;simp only[ho]at hh;exact Q7 hd hL fuel _ _ _ hh
  rename_i o ho;simp only[ho]at hh;split
  .rename_i hw;simp only[hw,Pt]at hh;rcases hh with hh|hh
   .exact J3k (hd i o ho) (fun a w h=>Q7 hd hL fuel _ a w h) hh
   exact absurd hh.2 hL
  rename_i hw;simp only[hw]at hh;exact⟨fun _ _=>trivial,Q7 hd hL fuel _ _ _ hh⟩⟩
structure S2 (W w:World) (co:Option Addr) (cn cc:Nat) (so2:Option Addr) (sn2 sc2:Nat):Prop where
 below:J W w
 lt:W.1.size+1+1<w.1.size
 a1:w.cell? (U W.1.size 1)=some (.slice co cn cc)
 b0:w.cell? (U (W.1.size+1) 0)=some (.slice so2 sn2 sc2)
 r0:w.cell? (U (W.1.size+1+1) 0)=some aH
 r1:w.cell? (U (W.1.size+1+1) 1)=some aH
 f0:w.frozen? (U (W.1.size+1+1) 0)=false
 f1:w.frozen? (U (W.1.size+1+1) 1)=false
theorem S2.of{so:Option Addr}{sn sc:Nat}{co2:Option Addr}{cn2 cc2:Nat}(h:St W P w so sn sc co cn cc so2 sn2 sc2 co2 cn2 cc2 a b):S2 W w co cn cc so2 sn2 sc2:=⟨h.below,h.lt,h.a1,h.b0,h.r0,h.r1,h.fr _ 0 (by omega) (by omega),h.fr _ 1 (by omega) (by omega)⟩
theorem S2.keep{w':World}(h:S2 W w co cn cc so2 sn2 sc2)(hb:Below (W.1.size+1+1+1) w w'):S2 W w' co cn cc so2 sn2 sc2:=by
 have:=h.lt;have:=hb.size;refine⟨h.below.trans (hb.mono (by omega)),by omega,?_,?_,?_,?_,?_,?_⟩
 .exact V hb (by omega) h.a1
 .exact V hb (by omega) h.b0
 .exact V hb (by omega) h.r0
 .exact V hb (by omega) h.r1
 .exact bF hb (by omega) h.f0
 exact bF hb (by omega) h.f1
theorem S2.own(h:S2 W A co cn cc so2 sn2 sc2)(hn:W.1.size<=n)(hg:A.grownBy B row)(hr:∀r,row=some r->n<=r/\∃o:Obj,A.heap[r]?=some o/\o.isCells=false):S2 W B co cn cc so2 sn2 sc2:=by
 have a:=fun r b=>(hr r b).2;have:=h.lt;have:=hg.size;exact⟨h.below.grown hg (by omega) (fun k b=>NE hn (hr k b).1),by omega,cell_kept h.a1 hg a,cell_kept h.b0 hg a,cell_kept h.r0 hg a,cell_kept h.r1 hg a,(frozen_kept h.r0 hg a).trans h.f0,(frozen_kept h.r1 hg a).trans h.f1⟩
def Off4(n bx:Nat)(P:Nat->Prop)(b:Nat):Prop:=P b/\(b<n\/(n+1+1<b/\b≠bx))
theorem Jqi{b off cap:Nat}(h:Nums P w (aI b off n cap) xs)(x:Part n):Nums P w (aI b (off+x.1.1) x.1.2 x.1.2) ((xs.drop x.1.1).take x.1.2):=by
 have:=Je h;have:=x.2;obtain⟨q,s,p,y,j,_⟩:=h;injection p with e t u;subst e;obtain⟨r,B,c,o,m,k⟩:=j (by omega);injection c with c;injection c with f g;subst f g;have d:((xs.drop x.1.1).take x.1.2).length=x.1.2:=by simp;omega
 refine⟨some (U b (off+x.1.1)),x.1.2,by rw[d],by rw[d];exact FP _,fun _=>⟨b,off+x.1.1,rfl,o,m,fun i l=>?_⟩,fun a h=>by cases h;rfl⟩;rw[d]at l;rw[Pj,k (x.1.1+i) (by omega)];simp
def J27(R:Act->World->Prop):Exit->Act->World->Prop
 | .normal,a,w=>R a w
 | _,_,_=>False
theorem Jtq(W)(P)(hP:∀b,W.1.size<=b->P b)(so)(sc)(co)(cn cc)(so2)(sn2 sc2)(co2)(cn2 cc2)(a b)(ha:IsArr P W (aK so 0 sc co cn cc) a)(hb:IsArr P W (aK so2 sn2 sc2 co2 cn2 cc2) b)(hoa:a.ok)(hob:b.ok)(h:sn2≠0):
 Calls prog 201 #[aK so 0 sc co cn cc,aK so2 sn2 sc2 co2 cn2 cc2] W fun e W'=>∃so sn sc co cn cc,e=aD (.tuple #[aK so sn sc co cn cc,G 0])/\IsArr P W' (aK so sn sc co cn cc) ⟨b.shape,Jbs b.cells (Jq b.shape) (a.cells.headD 0)⟩/\J W W':=by
 have bi:=(Jb ha).2;have bT:=(Jb hb).2;have a4:=(Jb hb).1;have bd:=NK bi.symm;have au:=Yi (l:=b.shape) (by omega);obtain⟨t,bg⟩:=nm (Jq b.shape);rw[bg]at au⊢;have:=hob.lens t (by rw[au];simp);have bf:b.shape.dropLast.length<=3:=by have:=hob.rank;simp;omega
 obtain⟨xs,ao⟩:=nm b.cells;rw[ao]at a4⊢;have bP:xs.length<=200:=by rw[<-ao];exact hob.few
 have a9:((sn2:Int)== 0)=false:=by rw[NT];omega
 obtain⟨y,S,T,aX,bM,bO,_,bE,bB,ce⟩:=Yv (J8 ha) hoa bd;subst bO bM;have bV:=hoa.fits y (by rw[aX];simp);rw[aX];show Calls prog 201 #[(agV so 0 sc (some (U S T)) 1 cc),(agV so2 sn2 sc2 co2 cn2 cc2)] W fun e W'=>∃so sn sc co cn cc,e=aD (.tuple #[(agV so sn sc co cn cc),G 0])/\IsArr P W' (agV so sn sc co cn cc) ⟨b.shape,Jbs xs t y⟩/\J W W';have ah:=St.start (P:=P) (W:=W) (a:=a) (b:=b) ha hb;obtain⟨cd,aW⟩:=nm (((W.alloc (.cells #[E so 0 sc,aI S T 1 cc] 89)).alloc (.cells (aL so2 sn2 sc2 co2 cn2 cc2) 89)).alloc (.cells #[M,M] 89));rw[aW]at ah;have bt:=ah;have bv:Hid (∀d,Calls prog 220 #[(agV so 0 sc (some (U S T)) 1 cc)] d fun e D=>e=aD (.bool true)/\J d D):=O (fun d=>(Jo d so 0 sc (some (U S T)) 1 cc).mono (fun e D h=>⟨h.1,by rw[h.2];exact belA2⟩));have bw:Hid (∀d,Calls prog 220 #[(agV so2 sn2 sc2 co2 cn2 cc2)] d fun e D=>e=aD (.bool false)/\J d D):=O (fun d=>(Jo d so2 sn2 sc2 co2 cn2 cc2).mono (fun e D h=>⟨by rw[h.1,a9],by rw[h.2];exact(aS.alloc aT _).alloc (by simp) _⟩));have bq:=fun d aZ=>Fw d so2 sn2 sc2 co2 cn2 cc2 b (hb.below aZ) b.shape.dropLast t au bf;have bp:=fun d=>Jd0 co2 cn2 cc2 (max t 1) (Xl t) d;have:max (t:Int) 1=((max t 1:Nat):Int):=by omega
 have:∀d:World,W.1.size+1+1<d.1.size->∀b,d.1.size<=b->Off3 W.1.size P b:=fun d h b hb=>⟨hP b (by omega),.inr (by omega)⟩
 have a8:=O a4;have:=O ao;have ax:∀d,J W d->Nums (fun b=>P b/\b<W.1.size) d (E co2 cn2 cc2) xs:=fun d aZ=>by have R:=J8 hb;rw[ao]at R;exact(R.imp (fun b f g=>⟨f,g⟩)).below aZ
 have bx:=O (V8 hb);have br:=hP;have b6:=ah.a0;have b7:=ah.a1;refine(YF (n:=5)).1 ?_;refine callsIn_of_wp_marks func201 rfl trivial ?_ rfl;simp only[ntmps201,Md,ZN,YT,Nat.reduceAdd,Nat.reduceSub,M9,Ha,Hz,Hl,MZ,Mk];clear ha hb hoa hob bi bT a4 bd au bg ao bf aX ah h a9 hP;gi_wp2_with fail
 try rw[aW]
 clear aW b6 b7;refine⟨trivial,(YF.2 (I bv _)).mono ?_⟩;rintro e b5 ⟨rfl,bG⟩;have ab:=bt.keep bG;have bu:=ab;have bm:=ab.b0;have bn:=ab.b1;have n3:=ab.lt;have n2:W.1.size+1<b5.1.size:=by omega
 gi_wp2_with fail
 refine⟨trivial,(YF.2 (I bw _)).mono ?_⟩;rintro e f ⟨rfl,bH⟩;have ab:=bu.keep bH;obtain⟨af,am⟩:=nm (f.alloc (.cells #[M] 32));have bI:J f af:=by rw[<-am];exact belA1
 have:af.1.size=f.1.size+1:=by rw[<-am];simp
 have bZ:af.cell? (adP0 f)=some M:=by rw[<-am];exact alA
 have b3:af.frozen? (adP0 f)=false:=by rw[<-am];exact NL _ _ _ _ rfl
 have aq:=ab.keep bI;have ay:=aq;have bm:=aq.b0;have bn:=aq.b1;have n3:=aq.lt;have:=ab.lt;have n2:W.1.size+1<af.1.size:=by omega
 gi_wp2_with fail
 try rw[am]
 refine Code.wpIn_mono (Q:=J27 (fun ap d=>∃q,J af q/\d=(q.alloc (.cells #[E co2 cn2 cc2] 32)).alloc (.cells #[G ((max t 1:Nat):Int)] 3)/\ap={ tmps:=#[(agV so 0 sc (some (U S T)) 1 cc),(agV so2 sn2 sc2 co2 cn2 cc2),.pointer (some (adP0 W)),.pointer (some (adQ0 W)),.pointer (some (adR0 W)),G 0,.pointer (some (adP0 f)),undef,undef,undef,(agV so 0 sc (some (U S T)) 1 cc),.bool true,.bool false,undef,(agV so2 sn2 sc2 co2 cn2 cc2),.bool false,undef,.pointer (some (adQ1 W)),E co2 cn2 cc2,(agV so2 sn2 sc2 co2 cn2 cc2),G t,G ((max t 1:Nat):Int),.func (.func 274) #[] #[.pointer (some (adP0 q)),.pointer (some (adQ0 q))],undef,undef,undef,undef,undef,undef,undef,undef,undef,undef,undef,undef,undef,undef,undef,undef,undef,undef,undef,undef,undef,undef,undef,undef],defers:=[] })) ?_ ?_
 case refine_2 =>
  gi_region_with (first|(refine⟨trivial,?_⟩;gi_at_call 234;refine(YF.2 (bq _ (ay.below.trans (aS.drew.mono ay.below.size)))).mono ?_;rintro e q ⟨rfl,ai⟩;have g:=Jw ai;have j:=g;have o:=V g n2 bm;have z:=V g n2 bn;have m:=g.size)| (refine⟨trivial,?_⟩;gi_at_call 233;refine(YF.2 (bp _)).mono ?_;rintro e A ⟨rfl,an⟩))
  all_goals exact⟨q,j,rfl,rfl⟩
 case refine_1 =>
  intro e ap d aj;cases e with
  | normal =>
   obtain⟨q,ai,an,rfl⟩:=aj;dsimp only;have bJ:J q d:=by rw[an];exact belA2
   have aY:=ai.trans (bJ.mono ai.size);have bX:d.cell? (adP0 q)=some (E co2 cn2 cc2):=by
    rw[an,WA (a:=adP0 q) (NB _ _ _ (by simp))];exact alA
   have bY:d.cell? (adQ0 q)=some (G ((max t 1:Nat):Int)):=by
    rw[an];exact(NH _ _ _ _ (by simp)).trans rfl
   have:d.1.size=q.1.size+1+1:=by rw[an];simp
   have:=ai.size;gi_wp2_with fail;have bz:=S2.of (ay.keep aY);have bR:max t 1<=1000:=by omega
   have bN:cn2<=1000:=by rw[I a8];omega
   have bL:=Zp (ax W aS);have bQ:W.1.size<=d.1.size:=by omega
   obtain⟨j,o,bc⟩:∃j o,0<cn2->co2=some (U j o):=by
    by_cases g:0<cn2
    .obtain ⟨j,o,e⟩:=Nn (ax W aS) (by omega);exact⟨j,o,fun _=>e⟩
    .exact ⟨0,0,fun h=>absurd h g⟩
   have b2:=V aY (by omega) bZ;have b4:=bF aY (by omega) b3;refine wpIn_rangeFunc_ownF rfl (by omega) (gf:=274) (lb:=#[.pointer (some (adP0 q)),.pointer (some (adQ0 q))]) rfl trivial (enters_of func274 (by kernel_rfl) rfl)
    (Jcs 4 (by omega) q.1.size (q.1.size+1) j o cn2 cc2 (max t 1) co2 bc (Xl t) bR bN bL d (by omega) (by omega) bX bY) KpB.trans (fun W' l m L g A _ _=>KpB.put (n:=d.1.size) (by omega) (by omega) W' l m L g A) aS (fun _=>rfl)
    (fun B W'=>(∃m n c,W'.cell? (adP0 f)=some (E m n c)/\W'.frozen? (adP0 f)=false/\Nums (Off4 W.1.size f.1.size P) W' (E m n c) (Qg B xs y))/\S2 W W' (some (U S T)) 1 cc so2 sn2 sc2/\d.1.size<=W'.1.size)
    (fun _ _ _=>False)
    (fun B C F row ae g A=>by
     obtain⟨⟨m,n,c,R,ac,ag⟩,z,az⟩:=ae;exact⟨⟨m,n,c,cell_kept R g (fun r e=>(A r e).2),(frozen_kept R g (fun r e=>(A r e).2)).trans ac,ag.own g A⟩,z.own bQ g A,NE az g.size⟩)
    (fun _ _ _ _ _ ae _ _=>ae)
    ⟨⟨none,0,0,b2,b4,Ym _ _⟩,bz,FP _⟩
    (fun x=>{ tmps:=#[(agV so 0 sc (some (U S T)) 1 cc),(agV so2 sn2 sc2 co2 cn2 cc2),.pointer (some (adP0 W)),.pointer (some (adQ0 W)),.pointer (some (adR0 W)),G 0,.pointer (some (adP0 f)),aI j (o+x.1.1) x.1.2 x.1.2,undef,undef,(agV so 0 sc (some (U S T)) 1 cc),.bool true,.bool false,undef,(agV so2 sn2 sc2 co2 cn2 cc2),.bool false,undef,.pointer (some (adQ1 W)),E co2 cn2 cc2,(agV so2 sn2 sc2 co2 cn2 cc2),G t,G ((max t 1:Nat):Int),.func (.func 274) #[] #[.pointer (some (adP0 q)),.pointer (some (adQ0 q))],aI j (o+x.1.1) x.1.2 x.1.2,undef,undef,undef,undef,undef,undef,undef,undef,undef,undef,undef,undef,undef,undef,undef,undef,undef,undef,undef,undef,undef,undef,undef],defers:=[] }) ?assign ?body ?done ?stop
   case assign =>
    intro l x W' ak L;gi_wp2;exact L
   case body =>
    rintro l B x W' ⟨⟨m,n,c,R,ac,ag⟩,z,az⟩ ch;dsimp only;have bU:=x.2;have bK:0<cn2:=by omega
    have aU:=ax W' z.below;rw[bc bK]at aU;have aa:=Jqi aU x;obtain⟨g,a6⟩:=nm x.1.2;obtain⟨C,a5⟩:=nm x.1.1;obtain⟨X,bj⟩:=nm ((xs.drop x.1.1).take x.1.2);rw[a6,a5]at bU;have al:=Jc9 B x xs y;rw[bj]at al aa;rw[a6]at al aa⊢;rw[a5]at aa⊢;obtain⟨s,ae⟩:=nm (Xg g y);have aw:=Jt2 (n:=g) (y:=y) (by omega);rw[ae]at aw al;have a7:=Juu (n:=g) (y:=y) (by omega) (by omega);rw[<-aw.2]at a7;have bb:=rest_rule.call (g:Int) y W' (by unfold Jk;omega) bV;rw[a7]at bb;have:=V z.below bE bB;have a1:=z.a1;have ar:f.1.size<W'.1.size:=by omega
    have:(0:Int)<=s:=by omega
    have:(s:Int)<=(g:Int):=by omega
    have bh:s<=g:=by omega
    have bD:(if g=s then some (⟨j,o+C,none⟩:Addr)else some (U j (o+C+s)))=some (U j (o+C+s)):=FU (by omega);have bW:=Je aa;have aV:=Kb aa bh;rw[bD]at aV;have ba:=J1 aa bh;have av:[Qg B xs y,X.drop s,X.take s].flatten=Qg (B++[x]) xs y:=by rw[al];simp[rotL]
    have:=av;have be:[Qg B xs y,X.drop s,X.take s].flatten.length<=1000000:=by
     rw[av];have R:=Jfl (B++[x]) xs y;have ac:(B++[x]).length*xs.length<=1000*200:=Hw (by simp;omega) bP;omega
    have bo:Calls prog 253 #[E (some (adP0 W')) 3 3] (W'.alloc (.cells #[E m n c,aI j (o+C+s) (g-s) (g-s),aI j (o+C) s g] 32)).drew fun e D=>∃K H F,e=aD (E K H F)/\Nums (Off4 W.1.size f.1.size P) D (E K H F) (Qg (B++[x]) xs y)/\J W' D:=by
     have L:J W' (W'.alloc (.cells #[E m n c,aI j (o+C+s) (g-s) (g-s),aI j (o+C) s g] 32)).drew:=(belA1).drew;have Z:=Jx5 (Q:=fun _=>True) (e:=32) (ag.imp (fun _ _ _=>trivial)) (aV.imp (fun _ _ _=>trivial)) (ba.imp (fun _ _ _=>trivial));obtain⟨Y,N⟩:=nm ((W'.alloc (.cells #[E m n c,aI j (o+C+s) (g-s) (g-s),aI j (o+C) s g] 32)).drew);have bl:Y.1.size=W'.1.size+1:=by rw[<-N];simp
     have ak:Jj0 (fun _=>True) Y W'.1.size [Qg B xs y,X.drop s,X.take s]:=by rw[<-N];exact Z
     rw[N]at L⊢;refine(Jdz (Off4 W.1.size f.1.size P) (Q:=fun _=>True) Y (fun b hb=>⟨br b (by omega),.inr ⟨by omega,by omega⟩⟩) W'.1.size 3 3 [Qg B xs y,X.drop s,X.take s] rfl (by decide) (by omega) ak be).mono ?_;rintro e D ⟨K,H,F,rfl,ad,A⟩;rw[av]at ad;exact⟨K,H,F,rfl,ad,L.trans (A.mono L.size)⟩
    have:=O aw;clear aV ba aa aU be av bW al a7 bj a6 a5 ae aw;gi_wp2_with fail;refine⟨trivial,(CallsIn.inRound l (YF.2 bb)).mono ?_⟩;rintro e N ⟨rfl,Y⟩;have bA:=Y.symm;subst bA;gi_wp2_with fail;refine Code.wpIn_mono (Q:=J27 (fun _ D=>∃K H F Z,Nums (Off4 W.1.size f.1.size P) Z (E K H F) (Qg (B++[x]) xs y)/\J W' Z/\D=Z.setCell (adP0 f) (E K H F))) ?_ ?_
    case refine_2 =>
     refine wpIn_region_any (by kernel_rfl) (Q7 ?hd ?hL _ _ _ _ ?_)
     case hd =>
      intro i L A ad Z;rcases i with _|_|_|_|_|_|_|_|_|_|i<;>simp at A<;>(subst A;cases Z)
     case hL =>
      rintro⟨ap,D,A⟩;exact A
     change wpAny _ _ _ _ _ _ _ (World.drew _);refine Pb (i:=1) (v:=aI j (o+C) g g) rfl (by kernel_rfl) (by kernel_rfl) (by kernel_rfl) (fun _ _ _ h=>h) (NN ⟨by rfl,fun w=>by go_simp⟩) ?_;go_simp;refine Pb (i:=2) (v:=G s) rfl (by kernel_rfl) (by kernel_rfl) (by kernel_rfl) (fun _ _ _ h=>h) (NN ⟨by rfl,fun w=>by go_simp⟩) ?_;go_simp;refine Pb (i:=3) (v:=aI j (o+C+s) (g-s) (g-s)) rfl (by kernel_rfl) (by kernel_rfl) (by kernel_rfl) (fun _ _ _ h=>h) (NN ⟨by rfl,fun w=>by go_simp⟩) ?_;go_simp;refine Pb (i:=4) (v:=aI j (o+C) g g) rfl (by kernel_rfl) (by kernel_rfl) (by kernel_rfl) (fun _ _ _ h=>h) (NN ⟨by rfl,fun w=>by go_simp⟩) ?_;go_simp;refine Pb (i:=5) (v:=G s) rfl (by kernel_rfl) (by kernel_rfl) (by kernel_rfl) (fun _ _ _ h=>h) (NN ⟨by rfl,fun w=>by go_simp⟩) ?_;go_simp;refine Pb (i:=6) (v:=aI j (o+C) s g) rfl (by kernel_rfl) (by kernel_rfl) (by kernel_rfl) (fun _ _ _ h=>h) (NN ⟨by rfl,fun w=>by go_simp⟩) ?_;go_simp;refine wpAny_ready (rs:=[0]) (by kernel_rfl) (by simp) ?_;refine Pk rfl (fun ak L=>?_) AllReady.nil;go_simp;refine L _ _ ?_;refine wpAny_ready (rs:=[7]) (by kernel_rfl) (by simp) ?_;refine Pk rfl (fun ak L=>?_) AllReady.nil;go_simp;refine L _ _ ?_;refine wpAny_ready (rs:=[8]) (by kernel_rfl) (by simp) ?_;refine Pk rfl (fun ak L=>?_) AllReady.nil;go_simp;refine bo.mono ?_;rintro e Z ⟨K,H,F,rfl,ad,A⟩;have bl:=V A ar R;have bS:=bF A ar ac;refine L _ _ ?_;refine wpAny_ready (rs:=[9]) (by kernel_rfl) (by simp) ?_;refine Pk rfl (fun ak L=>?_) AllReady.nil;go_simp;refine L _ _ ?_;exact wpAny_done (by kernel_rfl) ⟨K,H,F,Z,ad,A,rfl⟩ _
    case refine_1 =>
     intro e ap D aj;cases e with
     | normal =>
      obtain⟨K,H,F,Z,ad,A,rfl⟩:=aj;have L:Below (W.1.size+1+1+1) W' (Z.setCell (adP0 f) (E K H F)):=(A.mono (by omega)).setCell (p:=adP0 f) (by show W.1.size+1+1+1<=f.1.size;omega) _;have bS:=V A ar R;have bl:KeepsOthers W' Z:=⟨A.size,fun k m ak _=>(A.block k (YE.1 ak).1).trans ak⟩;have ak:¬ Off4 W.1.size f.1.size P f.1.size:=by
       rintro⟨_,h|h⟩<;>omega
      refine⟨bl.trans (KeepsOthers.setCell _ _ _),⟨?_,?_⟩,⟨K,H,F,FW _ _ _ bS,?_,ad.set ak 0 _⟩,z.keep L,?_⟩
      .exact (FV _ _ _ _ (by show q.1.size≠f.1.size;omega)).trans (A.block _ (by omega))
      .exact (FV _ _ _ _ (by show q.1.size+1≠f.1.size;omega)).trans (A.block _ (by omega))
      .rw [NA];exact bF A ar ac
      .have:=A.size;simp;omega
     | _=>exact aj.elim
   case done =>
    rintro g X W' aw rfl ⟨⟨m,n,c,R,ac,ag⟩,z,az⟩ L;have a6:=z.b0;have ar:=z.r0;have av:=z.r1;have a7:=z.f0;have ba:=z.f1;have aV:=z.lt;have aU:W.1.size+1<W'.1.size:=by omega
    have a5:f.1.size<W'.1.size:=by omega
    gi_wp2
    obtain⟨N,Y⟩:=nm ((W'.setCell (adR0 W) (E so2 sn2 sc2)).setCell (adR1 W) (E m n c));have F:N.heap[g]?=some (.deferred (some [])):=by rw[<-Y];exact((KeepsOthers.setCell _ _ _).trans (KeepsOthers.setCell _ _ _)).same g _ L rfl
    have H:OnlyB (W.1.size+1+1) W' N:=by
     rw[<-Y];exact⟨rfl,rfl,rfl,by simp,fun k ak=>(FV _ _ _ _ (fun e=>ak e)).trans (FV _ _ _ _ (fun e=>ak e))⟩
    have ad:N.cell? (adR0 W)=some (E so2 sn2 sc2):=by
     rw[<-Y,celO (by omega)];exact FW _ _ _ ar
    have bl:N.cell? (adR1 W)=some (E m n c):=by
     rw[<-Y];exact FW _ _ _ (u:=M) (celN (by omega) av)
    have ak:¬ Off4 W.1.size f.1.size P (W.1.size+1+1):=by
     rintro⟨_,h|h⟩<;>omega
    have K:Nums (Off4 W.1.size f.1.size P) N (E m n c) (Jbs xs t y):=by
     rw[<-Y];have A:=I a8;subst A;exact(ag.set ak 0 _).set ak 1 _
    rw[Y];refine⟨by simp,.inl ⟨_,_,rfl,run_takeDeferred F,?_⟩⟩;have A:=grownBy_putObj' N g (.deferred none);have B:∀r,some g=some r->∃m:Obj,N.heap[r]?=some m/\m.isCells=false:=fun r e=>by cases e;exact⟨_,F,rfl⟩
    have ae:=cell_kept ad A B;have al:=cell_kept bl A B;have aa:Below W.1.size N (N.putObj g (.deferred none)):=aS.grown A (by rw[H.size];omega) (fun k e=>by cases e;omega);have C:=(z.below.trans (H.below (by omega))).trans aa;have Z:=K.own (n:=0) A (fun r e=>⟨ZL _,B r e⟩);exact⟨.tuple #[(agV so2 sn2 sc2 m n c),G 0],by simp[results,results201,go_sem,ae,al],so2,sn2,sc2,m,n,c,rfl,⟨_,_,_,_,_,_,rfl,(I bx).below C,Z.imp (fun b h _=>h.1)⟩,C⟩
   case stop =>
    rintro g c B W' _ _ h _;exact h.elim
  | _=>exact aj.elim
theorem Jyq(w):FnTwo 201 #[] w Ni:=by
 intro W P A v a b _ o i j p q;have c:=i;have d:=j;obtain⟨k,e,sc,co,cn,cc,rfl,s,t⟩:=i;obtain⟨so2,sn2,sc2,h,g,f,rfl,u,x⟩:=j;have:=(Jb c).2;have:=(Jb d).2;by_cases l:e≠0\/sn2=0
 .exact Jlr W P k e sc co cn cc so2 sn2 sc2 h g f a b c d l
 have m:e=0:=by omega
 have n:sn2≠0:=by omega
 subst m;have r:Ni a b=(⟨b.shape,Jbs b.cells (Jq b.shape) (a.cells.headD 0)⟩,0):=by
  unfold Ni;rw[FU (by omega),FU (by omega)]
 rw[r];exact Jtq W P o k sc co cn cc so2 sn2 sc2 h g f a b c d p q n
theorem Jda{n c:Nat}(hc)(xs)(y)(hx:xs.length=n):∀k,(Qg (Yl n c hc k) xs y).length=min n (k*c)
 | 0=>by simp[Yl,Qg]
 | k+1=>by
  have:=Jda hc xs y hx k;have:(k+1)*c=k*c+c:=by rw[ZG,YA]
  by_cases a:k*c<n
  .grind [Gx,Jc9,Jki,Xb]
  simp_all[Yl,dif_neg];omega
theorem Jn9(xs)(la)(y):(Jbs xs la y).length=xs.length:=by
 unfold Jbs;rw[Jda (Xl la) xs y rfl];grind[Nat.le_mul_of_pos_right]
theorem Jup{c:Int}(h:c ∈ rotL L s):c ∈ L:=by
 grind[rotL]
theorem Jn7{pre:List (Part n)}{c:Int}(h:c ∈ Qg pre xs y):c ∈ xs:=by
 unfold Qg at h;obtain⟨l,a,b⟩:=Pn.1 h;obtain⟨p,_,rfl⟩:=NZ.1 a;grind[List.mem_of_mem_drop,List.mem_of_mem_take,Jup]
theorem Jtp:TwoC ⟨#[114,101,118]⟩ Ni:=⟨fun w=>(Q6 (t:=⟨#[114,101,118]⟩) (k1:=.string [101,118]) (k2:=.string [114,101,118]) (f:=201) (by decide) (by kernel_rfl) (by kernel_rfl) (by kernel_rfl) (by kernel_rfl) (by kernel_rfl) w).mono (by rintro e w' ⟨rfl,hb⟩;exact⟨201,#[],rfl,GC,hb,Jyq w'⟩),fun a b ha hb=>by
 unfold Ni;split
 .simp [eArr]
 split
 .exact ⟨hb.few,fun _=>hb⟩
 have hl:=Jn9 b.cells (Jq b.shape) (a.cells.headD 0);exact⟨by show(Jbs _ _ _).length<=200;rw[hl];exact hb.few,fun _=>⟨hb.rank,hb.lens,by show(Jbs _ _ _).length=_;rw[hl];exact hb.size,by show(Jbs _ _ _).length<=200;rw[hl];exact hb.few,fun c hc=>hb.fits c (Jn7 hc)⟩⟩⟩
theorem J3q(hk:k<c):(i*c+k) / c=i/\(i*c+k) % c=k:=by
 constructor
 .rw [Hg,Nat.add_mul_div_right _ _ (by omega),Hh hk,ZY]
 simp_all[YM]
def sig(c p:Nat):Nat:=p / c*c+(c-1-p % c)
theorem Jus{p:Nat}(h:s+c<=L.length):(Q0 L (s,c))[p]?=if p<s then L[p]? else if p<s+c then L[s+(c-1-(p-s))]? else L[p]?:=by
 unfold Q0;by_cases a:p<s
 .grind
 rw[FU a,ZA (by simp;omega),YD,ME (by omega)];grind
theorem Jph{n r c:Nat}(hc)(hn:n=r*c){xs:List Int}(hx:xs.length=n):∀k,k<=r->∀p,(revs (Yl n c hc k) xs)[p]?=if p<k*c then xs[sig c p]? else xs[p]?
 | 0,_,p=>by simp[Yl,revs]
 | k+1,hk,p=>by
  have hlt:k*c<n:=by
   rw[hn];have:(k+1)*c<=r*c:=NR c hk;rw[ZG]at this;omega
  have j:k*c+c<=n:=by
   rw[hn];have:(k+1)*c<=r*c:=NR c hk;rw[ZG]at this;omega
  rw[Gx hc hlt,Jf7];have f:(Xb n c k hc hlt).1=(k*c,c):=by
   show(k*c,min c (n-k*c))=_;rw[ME (by omega)]
  rw[f,Jus (by simp_all[X4])];have g:=Jph hc hn hx k (by omega);have h:(k+1)*c=k*c+c:=by rw[ZG,YA]
  by_cases d:p<k*c
  .grind
  rw[FU d];by_cases e:p<k*c+c
  .obtain ⟨a,b⟩:=J3q (c:=c) (i:=k) (k:=p-k*c) (by omega);rw[show k*c+(p-k*c)=p by omega]at a b;rw[FY e,FY (by omega),g,FU (by omega)];unfold sig;rw[a,b]
  grind
theorem Jzf(hc:0<c)(hx:xs.length=r*c){p:Nat}(hp:p<r*c):(revC xs c)[p]?=xs[sig c p]?:=by
 unfold revC;have a:∀(b:Nat) (a:0<b),b=c->(revs (Yl xs.length b a xs.length) xs)[p]?=xs[sig c p]?:=by
  intro b a d;subst d;have e:r<=xs.length:=by rw[hx];exact JW _ a
  rw[Nt (k:=r) a (by omega) _ e,Jph (r:=r) a hx rfl r aT,FY hp]
 grind
theorem Jkk(xs)(c):(revC xs c).length=xs.length:=X4 _ _ rfl
def Qc(d:List Int)(i j:Nat):List Int:=(d.set i (d.getD j 0)).set j (d.getD i 0)
theorem Yn(d)(i j):(Qc d i j).length=d.length:=by simp[Qc]
theorem Jj9(hi:i<d.length)(hj:j<d.length)(k):(Qc d i j).getD k 0=if j=k then d.getD i 0 else if i=k then d.getD j 0 else d.getD k 0:=by
 obtain⟨x,a⟩:=nm (d.getD i 0);obtain⟨y,b⟩:=nm (d.getD j 0);unfold Qc;grind
structure InR (n:Nat) (d:List Int):Prop where
 len:d.length=n
 rng:∀ x ∈ d,0<=x/\x<(n:Int)
theorem InR.at(h:InR n d)(hi:i<n):0<=d.getD i 0/\d.getD i 0<(n:Int):=by
 have a:i<d.length:=by rw[h.len];exact hi
 rw[NC,FX a];exact h.rng _ (ND a)
theorem InR.swap(h:InR n d)(hi:i<n)(hj:j<n):InR n (Qc d i j):=by
 refine⟨by rw[Yn];exact h.len,fun x a=>?_⟩;unfold Qc at a;rcases List.mem_or_eq_of_mem_set a with h1|h1
 .rcases List.mem_or_eq_of_mem_set h1 with h2|h2
  .exact h.rng x h2
  rw[h2];exact h.at hj
 rw[h1];exact h.at hi
theorem OnlyB.refl(g)(W):OnlyB g W W:=⟨rfl,rfl,rfl,rfl,fun _ _=>rfl⟩
theorem OnlyB.trans{C:World}(h:OnlyB g A B)(k:OnlyB g B C):OnlyB g A C:=⟨k.os.trans h.os,k.tape.trans h.tape,k.output.trans h.output,k.size.trans h.size,fun b hb=>(k.block b hb).trans (h.block b hb)⟩
theorem OnlyB.drew(h:OnlyB g A B):OnlyB g A B.drew:=⟨h.os,h.tape,h.output,h.size,h.block⟩
theorem OnlyB.set(h:OnlyB g A B)(i)(v):OnlyB g A (B.setCell (U g i) v):=⟨h.os,h.tape,h.output,by simpa using h.size,fun b hb=>(FV _ _ _ _ hb).trans (h.block b hb)⟩
theorem OnlyB.cell(h:OnlyB g A B){b o:Nat}(hb:b≠g):B.cell? (U b o)=A.cell? (U b o):=WA (h.block b hb)
structure SAt (g n:Nat) (W0 W:World) (d:List Int):Prop where
 row:∀ i,i<n->W.cell? (U g i)=some (.int .i64 (d.getD i 0))/\W.frozen? (U g i)=false
 only:OnlyB g W0 W
 inr:InR n d
 lt:g<W.1.size
theorem SAt.drew(h:SAt g n W0 W d):SAt g n W0 W.drew d:=⟨h.row,h.only.drew,h.inr,h.lt⟩
theorem SAt.swap(h:SAt g n W0 W d)(hi:i<n)(hj:j<n):SAt g n W0 ((W.setCell (U g i) (G (d.getD j 0))).setCell (U g j) (G (d.getD i 0))) (Qc d i j):=by
 refine⟨fun k c=>⟨?_,by rw[NA,NA];exact(h.row k c).2⟩,(h.only.set _ _).set _ _,h.inr.swap hi hj,by simpa using h.lt⟩;have:=h.inr.len;rw[Jj9 (by omega) (by omega)];by_cases b:j=k
 .subst b;rw[FY rfl];have c:∃u,(W.setCell (U g i) (G (d.getD j 0))).cell? (U g j)=some u:=by
   by_cases a:i=j
   .subst a;exact⟨_,FW _ _ _ (h.row i hi).1⟩
   exact⟨_,celN (by omega) (h.row j hj).1⟩
  grind[World.cell?_setCell_same]
 rw[FU b,celO (by omega)];by_cases a:i=k
 .subst a;rw[FY rfl];exact FW _ _ _ (h.row i hi).1
 rw[FU a,celO (by omega)];exact(h.row k c).1
def CmpC(g n b3 b2:Nat)(W0:World)(cf:Int->Int->Int):Prop:=∀W,OnlyB g W0 W->∀x y:Int,0<=x/\x<(n:Int)->0<=y/\y<(n:Int)->Calls prog 276 #[.int .i64 x,.int .i64 y,aJ b3 0,aJ b2 0] W fun e W'=>e=.returned (.int .i64 (cf x y))/\OnlyB g W W'/\W'.heap[g]?=W.heap[g]?
theorem SAt.next{W':World}(h:SAt g n W0 W d)(hb:OnlyB g W W')(hg:W'.heap[g]?=W.heap[g]?):SAt g n W0 W' d :=
 ⟨fun i hi=>⟨(WA (a:=U g i) hg).trans (h.row i hi).1,(NI (a:=U g i) hg).trans (h.row i hi).2⟩,h.only.trans hb,h.inr,by rw[hb.size];exact h.lt⟩
def Gn(cf:Int->Int->Int)(a:Nat):Nat->List Int->List Int
 | 0,d=>d
 | k+1,d=>if cf (d.getD (a+k+1) 0) (d.getD (a+k) 0)<0 then Gn cf a k (Qc d (a+k+1) (a+k))else d
def Zr(cf:Int->Int->Int)(a:Nat):Nat->Nat->List Int->List Int
 | 0,_,d=>d
 | s+1,i,d=>Zr cf a s (i+1) (Gn cf a (i-a) d)
def bsr(p:Nat->Bool):Nat->Nat->Nat->Nat
 | 0,i,_=>i
 | f+1,i,j=>if i<j then(if p ((i+j) / 2)=true then bsr p f ((i+j) / 2+1) j else bsr p f i ((i+j) / 2))else i
theorem Jfd{p:Nat->Bool}:∀{f i j:Nat},j-i<=f->bsr p f i j=bsr p (f+1) i j
 | 0,i,j,h=>by
  simp[bsr];omega
 | f+1,i,j,h=>by
  rw[bsr];conv=>rhs;rw[bsr]
  by_cases hij:i<j
  .rw [FY hij,FY hij];by_cases hp:p ((i+j) / 2)=true
   .rw [FY hp,FY hp];exact Jfd (by omega)
   rw[FU hp,FU hp];exact Jfd (by omega)
  grind
def bsF(p:Nat->Bool)(i j:Nat):Nat:=bsr p (j-i) i j
theorem Gg:∀{f:Nat},j-i<=f->bsr p f i j=bsF p i j:=by
 intro f a;obtain⟨k,rfl⟩:∃k,f=(j-i)+k:=⟨f-(j-i),by omega⟩;induction k with
 | zero=>rfl
 | succ k ih=>grind[Jfd]
theorem Xc(h:¬ i<j):bsF p i j=i:=by
 simp_all[bsF,bsr]
theorem Jcu(h:i<j)(hp:p ((i+j) / 2)=true):bsF p i j=bsF p ((i+j) / 2+1) j:=by
 rw[<-Gg (f:=(j-i-1)+1) (by omega),bsr,FY h,FY hp,Gg (by omega)]
theorem Jhx(h:i<j)(hp:¬ p ((i+j) / 2)=true):bsF p i j=bsF p i ((i+j) / 2):=by
 rw[<-Gg (f:=(j-i-1)+1) (by omega),bsr,FY h,FU hp,Gg (by omega)]
theorem Qf{p:Nat->Bool}:∀(f:Nat) {i j:Nat},j-i<=f->i<=j->i<=bsF p i j/\bsF p i j<=j
 | 0,i,j,hf,h=>by grind[Xc]
 | f+1,i,j,hf,h=>by
  by_cases hij:i<j
  .by_cases hp:p ((i+j) / 2)=true
   .rw [Jcu hij hp];have:=Qf (p:=p) f (i:=(i+j) / 2+1) (j:=j) (by omega) (by omega);omega
   rw[Jhx hij hp];have:=Qf (p:=p) f (i:=i) (j:=(i+j) / 2) (by omega) (by omega);omega
  simp_all[Xc]
def shUp:Nat->Nat->List Int->List Int
 | 0,_,d=>d
 | s+1,k,d=>shUp s (k+1) (Qc d k (k+1))
def shDn:Nat->Nat->List Int->List Int
 | 0,_,d=>d
 | s+1,k,d=>shDn s (k-1) (Qc d k (k-1))
def swR(a b:Nat):Nat->Nat->List Int->List Int
 | 0,_,d=>d
 | s+1,i,d=>swR a b s (i+1) (Qc d (a+i) (b+i))
def rotP(m:Nat):Nat->Nat->Nat->List Int->List Int
 | 0,i,_,d=>swR (m-i) m i 0 d
 | f+1,i,j,d=>if i=j then swR (m-i) m i 0 d else if j<i then rotP m f (i-j) j (swR (m-i) m j 0 d)else rotP m f i (j-i) (swR (m-i) (m+j-i) i 0 d)
def rotF(a m b:Nat)(d:List Int):List Int:=rotP m (m-a+(b-m)) (m-a) (b-m) d
def Q2(cf:Int->Int->Int)(a m b:Nat)(d:List Int):Nat :=
 bsF (fun c=>decide (¬ cf (d.getD ((a+b) / 2+m-1-c) 0) (d.getD c 0)<0)) (if(a+b) / 2<m then(a+b) / 2+m-b else a) (if(a+b) / 2<m then(a+b) / 2 else m)
def symP(cf:Int->Int->Int):Nat->Nat->Nat->Nat->List Int->List Int
 | 0,_,_,_,d=>d
 | f+1,a,m,b,d =>
  if m=a+1 then shUp (bsF (fun h=>decide (cf (d.getD h 0) (d.getD a 0)<0)) m b-1-a) a d
  else if b=m+1 then shDn (m-bsF (fun h=>decide (¬ cf (d.getD m 0) (d.getD h 0)<0)) a m) m d
  else
   let s:=Q2 cf a m b d
   let e:=(a+b) / 2+m-s
   let d1:=if s<m/\m<e then rotF s m e d else d
   let d2:=if a<s/\s<(a+b) / 2 then symP cf f a s ((a+b) / 2) d1 else d1
   if(a+b) / 2<e/\e<b then symP cf f ((a+b) / 2) e b d2 else d2
def Qw(x y:Int):Int:=if x<y then -1 else if y<x then 1 else 0
theorem Jsq(W)(x y):Calls prog 230 #[G x,G y] W fun e W'=>e=aD (G (Qw x y))/\W'=W:=Jcn x y _ rfl W
theorem Jsr(W)(x y):Calls prog 237 #[G x,G y] W fun e W'=>e=aD (G (Qw y x))/\W'=W:=by
 have a:=O (fun W'=>Jsq W' y x);obtain⟨r,b⟩:=nm (Qw y x);simp only[b]at a⊢;go_enter func237,ntmps237;go_wp2_with (go_at_call 230;refine aQ (I a _) ?_);go_ret;simp
def Qx(kf:Int->Int->Int)(ks:List Int)(x y:Int):Int:=kf (ks.getD x.toNat 0) (ks.getD y.toNat 0)
theorem J0u{q:Nat}(hen:Enters prog q){kf:Int->Int->Int}(hk:∀W x y,Calls prog q #[G x,G y] W fun e W'=>e=aD (G (kf x y))/\W'=W)(g n b3 b2)(W0)(h3:b3≠g)(h2:b2≠g)(c3:W0.cell? (U b3 0)=some (aC q))(co)(cc)(c2:W0.cell? (U b2 1)=some (E co n cc))(l3:b3<W0.1.size)(l2:b2<W0.1.size)(ks)(hN:Nums (fun b=>b≠g) W0 (E co n cc) ks):
 CmpC g n b3 b2 W0 (Qx kf ks):=by
 intro W a x y Z aa;have:=Je hN;obtain⟨i,rfl⟩:∃i:Nat,x=i:=⟨x.toNat,by omega⟩;obtain⟨j,rfl⟩:∃j:Nat,y=j:=⟨y.toNat,by omega⟩;have m:i<ks.length:=by omega
 have p:j<ks.length:=by omega
 obtain⟨L,N,H,T,A,_⟩:=hN;obtain⟨d,c,rfl,s,B,l⟩:=A (by omega);injection H with z R S;subst z;have:=(a.cell (o:=0) h3).trans c3;have:=(a.cell (o:=1) h2).trans c2;have t:=(a.cell (o:=c+i) s).trans (l i m);have u:=(a.cell (o:=c+j) s).trans (l j p);have C:Qx kf ks (i:Int) (j:Int)=kf ks[i] ks[j]:=by
  unfold Qx;simp[NC,m,p]
 rw[C];obtain⟨h,F⟩:=nm (ks[i]);obtain⟨v,K⟩:=nm (ks[j]);rw[F]at t⊢;rw[K]at u⊢;have k:=O (fun W'=>hk W' h v);obtain⟨r,D⟩:=nm (kf h v);simp only[D]at k⊢;have:∀args w,(callFunc q args).run prog w=.ok (.enter q args) w:=hen;have:b3<W.1.size:=by rw[a.size];exact l3
 have:b2<W.1.size:=by rw[a.size];exact l2
 have:d<W.1.size:=by rw[a.size];exact B
 have:(0:Int)<=i:=by omega
 have:(i:Int)<n:=by omega
 have:(0:Int)<=j:=by omega
 have:(j:Int)<n:=by omega
 go_enter func276,ntmps276;go_wp2_with fail;go_region_held3 (fun f=>f.cell? (U b3 0)=some (aC q)/\f.cell? (U b2 1)=some (aI d c n cc)/\f.cell? (U d (c+i))=some (G h)/\f.cell? (U d (c+j))=some (G v))
  (first
   | simp_all
   | (trace_state;fail))
  ((go_at_fn q;refine aQ (I k _) ?_))
 go_wp2;go_ret;exact⟨rfl,(OnlyB.refl _ _).drew,rfl⟩
end Go.Proofs.YtjobgpahajhbnaaGreatDoor
