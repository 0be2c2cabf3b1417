import Derived.Test.YtjobgpahajhbnaaGreatDoorAo
namespace Go.Proofs.YtjobgpahajhbnaaGreatDoor
open Go.RowKit Go.Proofs Go.Maps Go.Proofs.Tryz
attribute [local go_sem ↓] Go.wp_at_zero Go.wp_at_succ
set_option linter.all false
set_option maxHeartbeats 6000000
set_option maxRecDepth 20000
variable {B k n:Nat} {P:Nat->Prop} {W w:World} {l:List Int} {lt:Int->Int->Prop} {up:Bool} {v:Value}
def bef(up:Bool)(xs:List Int)(k i:Nat):Bool:=if up=true then decide (xs.getD k 0<xs.getD i 0\/(xs.getD k 0=xs.getD i 0/\k<i))else decide (xs.getD i 0<xs.getD k 0\/(xs.getD k 0=xs.getD i 0/\k<i))
def befN(up:Bool)(xs:List Int)(i m:Nat):Nat:=((List.range m).filter fun k=>bef up xs k i).length
theorem Jcw(up)(xs)(i m):befN up xs i (m+1)=befN up xs i m+(if bef up xs m i=true then 1 else 0):=by
 grind[befN,List.range_succ]
theorem Jjy(up)(xs)(i):∀m,befN up xs i m<=m
 | 0=>by simp[befN]
 | m+1=>by
  have:=Jjy up xs i m;grind[Jcw]
theorem Jxi(up)(xs)(i):bef up xs i i=false:=by
 simp[bef]
theorem Jfe(up)(xs)(i):∀{m},i<m->befN up xs i m<m
 | 0,h=>absurd h (by omega)
 | m+1,h=>by
  rw[Jcw];by_cases e:i=m
  .grind [Jjy,Jxi]
  have:=Jfe up xs i (m:=m) (by omega);grind
def Xj(up:Bool)(xs:List Int)(n:Nat):List Int:=(List.range n).map fun i=>(befN up xs i xs.length:Int)
theorem Jmi(up)(xs)(n):Xj up xs (n+1)=Xj up xs n++[(befN up xs n xs.length:Int)]:=by simp[Xj,ZZ]
theorem K9(up)(xs)(n):(Xj up xs n).length=n:=by simp[Xj]
def Jah(up:Bool)(xs:List Int):Nat->List Int
 | 0=>List.replicate xs.length 0
 | n+1=>(Jah up xs n).set (befN up xs n xs.length) (n:Int)
theorem Qa(up)(xs):∀n,(Jah up xs n).length=xs.length
 | 0=>by simp[Jah]
 | n+1=>by rw[Jah,List.length_set,Qa]
def Xd(up:Bool)(xs:List Int):List Int:=Jah up xs xs.length
theorem Jvj{B':Nat}{e:TypeId}{xs:List Value}(h:w.ownsRow B e 1 v n xs)(hB:B'<=B):w.ownsRow B' e 1 v n xs:=by
 obtain⟨b,⟨a,i⟩| ⟨f,c,d,a,g,j⟩⟩:=h
 .exact ⟨b,NN ⟨a,i⟩⟩
 exact⟨b,NO ⟨f,c,d,a,NE hB g,j⟩⟩
theorem Jzw{vo:Option Addr}{vc:Nat}{xs:List Int}(h:OwnL B w (E vo n vc) xs)(h0:0<n):∃g,vo=some (U g 0)/\n=xs.length/\B<=g:=by
 obtain⟨d,⟨a,e⟩| ⟨g,b,c,a,f⟩⟩:=h
 .simp_all
 simp_all
theorem Jxw(u)(P)(w)(co)(cn cc)(xs)(h:Nums P w (E co cn cc) xs)(hx:xs.length<=200):
 Calls prog 134 #[E co cn cc,.bool u] w fun e w'=>∃vo vn vc,e=aD (E vo vn vc)/\OwnL w.1.size w' (E vo vn vc) (Xd u xs)/\J w w':=by
 have g:=Je h;obtain⟨aZ,C,ad,ae,af⟩:=NY VI;have am:=O C;have aq:=O h;have a8:cn<=200:=by omega
 clear h hx C;change Hid _ at g af ae ad;go_enter func134,ntmps134;go_wp2_with fail;go_loopw [5,6] (fun i b wr=>∃a:Nat,b=G a/\a<=cn/\OwnL w.1.size wr i (Xj u xs a)/\J w wr) (fun _ b _=>cn-(intOf b).toNat)
 .exact ⟨0,rfl,by omega,OwnL.nil _ _,FQ _ _⟩
 obtain⟨a,rfl,C,d,c⟩:=hrel;have L:=O d;have W:=O c;by_cases R:a<cn
 .have aa:a<xs.length:=by have:=I g;omega
  have N:=aq.below c;obtain⟨A,a4,rfl,aU,Q,-⟩:=N.at (k:=a) aa;generalize hy:xs[a]=y at Q;have ay:Hid (xs.getD a 0=y):=O (by simp_all);have a5:(a:Int)<cn:=by omega
  have an:=O R;have ar:=O N;obtain⟨ai,z,ag,rfl⟩:=d.sl;have aw:=O c.size;obtain⟨T,aX⟩:∃T,T=wr:=⟨_,rfl⟩;subst aX;clear d c N aa hy aU C R;change Hid _ at Q;go_wp2_with fail;go_loopw [7,8] (fun f b wr=>∃k:Nat,b=G k/\k<=cn/\f=G (befN u xs a k)/\J T wr) (fun _ b _=>cn-(intOf b).toNat)
  .exact ⟨0,rfl,by omega,rfl,FQ _ _⟩
  obtain⟨k,rfl,D,rfl,c⟩:=hrel;have q:=O c;by_cases F:k<cn
  .have S:k<xs.length:=by have:=I g;omega
   obtain⟨_,_,s,o,r,-⟩:=ar.at (k:=k) S;injection s with s;injection s with l ah al;subst l ah;generalize hx:xs[k]=x at r;have ac:Hid (xs.getD k 0=x):=O (by simp_all);have ak:=V c o r;have aj:=V c o Q;have b:=Jjy u xs a k;have i:=Jcw u xs a k;generalize j:befN u xs a k=f at b i⊢;have au:(0:Int)<=k:=by omega
   have av:(k:Int)<cn:=by omega
   have ao:(0:Int)<=a:=by omega
   have ap:(a:Int)<cn:=by omega
   have Y:=O D;have Z:=O F;have ab:=O b;clear c r S hx j o D F b;change Hid _ at i;have X:Hid (bef u xs k a=((bif u then decide (x<y)else decide (y<x))|| ((x == y) && decide ((k:Int)<a)))):=O (by unfold bef;rw[ac,ay];cases u<;>simp<;>rfl);obtain⟨a1,a2,a3⟩| ⟨a1,a2,a3⟩| ⟨a1,a2,a3⟩:x<y/\¬ y<x/\x≠y\/¬ x<y/\y<x/\x≠y\/¬ x<y/\¬ y<x/\x=y:=by omega
   all_goals
    first|have d1:decide (x<y)=true:=MV a1|have d1:=Mu a1
    first|have t:decide (y<x)=true:=MV a2|have t:=Mu a2
    first|have B:=NT.2 a3|have B:=NQ.2 a3
    clear a1 a2 a3;cases u<;>by_cases K:k<a
    all_goals
     first|have H:decide ((k:Int)<a)=true:=by simpa using K|have H:decide ((k:Int)<a)=false:=by simpa using K
     go_wp2_with fail;go_quiet (fail);have D:=I Y;have F:=I Z;have b:=I ab;have m:=I X;rw[d1,t,B,H]at m;simp at m;clear ak aj;go_wp2;go_roundw
     .exact ⟨k+1,by go_num,by omega,(by first|(rw[i,FY m];go_num)| (rw[i,FU (by simp;omega)];rfl)),Below.drewN q _⟩
     simp[intOf];omega
  have ab:k=cn:=by omega
  have av:Hid (befN u xs a k=befN u xs a xs.length):=O (by rw[ab,g]);rw[av];have K:befN u xs a xs.length<xs.length:=Jfe u xs a (by have:=I g;omega);obtain⟨f,j⟩:=nm (befN u xs a xs.length);have ap:=O j;rw[j];have a6:¬ (k:Int)<cn:=by omega
  obtain⟨aj,aY⟩:∃aj,aj=wr:=⟨_,rfl⟩;subst aY;have au:=O ((I L).below c);have al:=O ((I W).trans (c.mono aw));have ao:Hid (z=a):=O (by
   obtain⟨l,i,b⟩:=L.shape;simp_all[K9])
  clear c ab K j D F;go_wp2_with fail;go_loopw [5] (fun i wr=>∃b vo n vc,i=E vo n vc/\OwnL w.1.size wr (E vo n vc) b/\((b=Xj u xs a/\n=a)\/(b=Xj u xs a++[0]/\n=a+1))/\J w wr) (fun i _=>a+1-lenOf i)
  .exact ⟨_,_,_,_,rfl,au,NN ⟨rfl,ao⟩,al⟩
  obtain⟨b,a9,o,ah,rfl,s,aV,r⟩:=hrel;have Y:=O s;have X:=O r;have aW:=r.size;have R:=I an;rcases aV with⟨i,m⟩| ⟨i,m⟩
  .have a7:(o:Int)<=a:=by omega
   have S:Hid (b.length<=1000):=O (by rw[i,K9];omega);have Z:=O m;clear s r m;change Hid _ at i;go_wp2_with (at_builtin;refine Ju rfl _ _ rfl Y S aW 0 rfl rfl ?_);intro ac az l B;obtain⟨ax,ak,rfl⟩:=l.shape;generalize hn4:((b++[(0:Int)]).length)=n4 at l⊢;have H:=O ((I X).trans B.bel);have t:n4=a+1:=by rw[<-hn4,i];simp[K9]
   have m:=I Z;clear B hn4 m;change Hid _ at t l;go_wp2;go_roundw
   .exact ⟨_,_,_,_,rfl,l,NO ⟨by rw[i],t⟩,H⟩
   simp[lenOf];have:=I t;omega
  have a7:¬ (o:Int)<=a:=by omega
  have ba:(0:Int)<=a:=by omega
  have bb:(a:Int)<o:=by omega
  obtain⟨B,rfl,ac,Z⟩:=Jzw s (by omega);have H:wr.ownsRow w.1.size 2 1 (aI B 0 o ah) o (b.map (Value.int .i64)):=by have:=s;unfold OwnL at this;rw[<-ac]at this;exact this
  have c0:=H.cellAt a (by omega);have az:=H.frozenAt a;rw[FX (by simp;omega)]at c0;obtain⟨S,t⟩:=nm ((b.map (Value.int .i64))[a]'(by simp;omega));rw[t]at c0;have l:=(H.stored a (G (f:Int))).1;have ax:Hid (OwnL w.1.size (wr.setCell (U B a) (G (f:Int))) (aI B 0 o ah) (Xj u xs (a+1))):=O (by
   rw[<-Pq,i]at l;have e:(Xj u xs a++[(0:Int)]).set a (f:Int)=Xj u xs (a+1):=by
    rw[Jmi,ap,MG _ _ (by simp[K9]),K9];simp
   rw[e]at l;simp_all[K9,OwnL])
  have ak:=O (r.setCell (p:=U B a) Z (G (f:Int)));clear s r i m ac H t l Y X Z;go_wp2;go_roundw
  .exact ⟨a+1,by go_num,by omega,ax,ak⟩
  simp[intOf];omega
 have N:a=cn:=by omega
 have a5:¬ (a:Int)<cn:=by omega
 obtain⟨ai,z,ag,rfl⟩:=d.sl;have X:Xj u xs a=Xj u xs xs.length:=by rw[N,g]
 have B:Hid (Nums (fun A=>w.1.size<=A/\A<wr.1.size) wr (E ai z ag) (Xj u xs xs.length)):=O (by rw[<-X];exact d.nums);have T:z=cn:=by have:=Je B;rw[this,K9,g]
 obtain⟨i,aa⟩:∃i,i=wr:=⟨_,rfl⟩;subst aa;have o:=O c;clear d c N X L W;change Hid _ at T;go_wp2_with (at_make;refine YV _ rfl _ _ 32 rfl i.1.size 2 aZ (G 0) 1 ZP am ad ae .i64 .i64 cn cn cn rfl rfl rfl rfl ?c1 ?c2 aT ?_)
 case c1=>rw[af];omega
 case c2=>unfold maxLen;omega
 intro ac m F;have m:ac.ownsRow i.1.size 2 1 (aI i.1.size 0 cn cn) cn ((Jah u xs 0).map (Value.int .i64)):=by
  have l:Jah u xs 0=List.replicate cn 0:=by rw[g];rfl
  rw[l,Mr];have:=YN (G 0) (cn*1);rw[MA]at this;rw[<-this];simpa using m
 have Y:=O (aS.grown F aT (fun _ h=>by cases h));clear F;change Hid _ at m;go_wp2_with fail;go_loopw [10] (fun f wr=>∃b:Nat,f=G b/\b<=cn/\wr.ownsRow i.1.size 2 1 (aI i.1.size 0 cn cn) cn ((Jah u xs b).map (Value.int .i64))/\J i wr) (fun f _=>cn-(intOf f).toNat)
 .exact ⟨0,rfl,by omega,m,Y⟩
 obtain⟨b,rfl,ah,d,c⟩:=hrel;by_cases Z:b<cn
 .have Q:b<(Xj u xs xs.length).length:=by rw[K9,<-g];exact Z
  obtain⟨A,a4,rfl,D,s,-⟩:=B.at (k:=b) Q;have K:befN u xs b xs.length<xs.length:=Jfe u xs b (by have:=I g;omega);have H:(Xj u xs xs.length)[b]=(befN u xs b xs.length:Int):=by simp[Xj]
  rw[H]at s;have ab:=V c D s;have q:Hid (Jah u xs (b+1)=(Jah u xs b).set (befN u xs b xs.length) (b:Int)):=O rfl;generalize j:befN u xs b xs.length=f at ab K q;have aj:f<cn:=by have:=I g;omega
  have c0:=d.cellAt f (by omega);have az:=d.frozenAt f;rw[FX (by simp[Qa];omega)]at c0;obtain⟨S,t⟩:∃S,((Jah u xs b).map (Value.int .i64))[f]'(by simp[Qa];omega)=S:=⟨_,rfl⟩;rw[t]at c0;have l:=(d.stored f (G (b:Int))).1;rw[<-Pq,<-q]at l;have r:=O (c.setCell (p:=U i.1.size f) aT (G (b:Int)));have ak:(0:Int)<=b:=by omega
  have al:(b:Int)<cn:=by omega
  have an:(b:Int)<z:=by have:=I T;omega
  have ao:(0:Int)<=f:=by omega
  have ap:(f:Int)<cn:=by omega
  clear d c s H j K t Q D q;change Hid _ at l;go_wp2;go_roundw
  .exact ⟨b+1,by go_num,by omega,l,r⟩
  simp[intOf];omega
 have f:b=cn:=by omega
 have a6:¬ (b:Int)<cn:=by omega
 have j:Hid (OwnL w.1.size wr (aI i.1.size 0 cn cn) (Xd u xs)):=O (by
  unfold OwnL Xd;rw[Qa,<-g,<-f];rw[f]at d⊢;exact Jvj d o.size)
 have r:=O ((I o).trans (c.mono o.size));clear d c f;go_wp2;exact FR (v:=aI i.1.size 0 cn cn) (by simp[results]) rfl ⟨_,_,_,rfl,j,r⟩
theorem Xp{α:Type}{P:α->Bool}:∀(S:List α) (p:Nat),(∀q,(h:q<S.length)->P S[q]=decide (q<p))->(S.filter P).length=min p S.length
 | [],p,_=>by simp
 | x::S,0,h=>by
  have h0:=h 0 (by simp);simp at h0;rw[List.filter_cons_of_neg (by simp[h0])];have:=Xp S 0 (fun q hq=>by
   have:=h (q+1) (by simp;omega);simpa using this)
  omega
 | x::S,p+1,h=>by
  have h0:=h 0 (by simp);simp at h0;rw[List.filter_cons_of_pos (by simp[h0]),ZN];have:=Xp S p (fun q hq=>by
   have:=h (q+1) (by simp;omega);simpa using this)
  simp;omega
theorem Jzq(trans:∀{x y z},lt x y->lt y z->lt x z)(irr:∀x,¬ lt x x)(hbl:∀k i:Nat,bef up l k i=true↔lt k i){S:List Nat}(hp:S.Perm (List.range l.length))(hs:∀p q,(h:q<S.length)->(hpq:p<q)->lt (S[p]'(by omega)) S[q]){p:Nat}(h:p<S.length):befN up l S[p] l.length=p:=by
 unfold befN;rw[<-(hp.filter _).length_eq,Xp S p]
 .omega
 intro q a;rcases PB q p with e|e|e
 .simp_all
 .grind
 grind
theorem Js7{up:Bool}{l:List Int}(hinj:∀i j,i<l.length->j<l.length->befN up l i l.length=befN up l j l.length->i=j):∀m,m<=l.length->∀i,i<m->(Jah up l m)[befN up l i l.length]?=some (i:Int)
 | 0,_,i,hi=>absurd hi (by omega)
 | m+1,hm,i,hi=>by
  rw[Jah];by_cases e:i=m
  .grind [Qa,Jfe]
  rw[List.getElem?_set_ne (fun h=>e (hinj i m (by omega) (by omega) h.symm))];exact Js7 hinj m (by omega) i (by omega)
theorem Jkp(trans:∀{x y z},lt x y->lt y z->lt x z)(irr:∀x,¬ lt x x)(hbl:∀k i:Nat,bef up l k i=true↔lt k i){s:List Int}(hp:s.Perm (Ql l.length))(hs:J2 lt s 0 l.length):Xd up l=s:=by
 obtain⟨b,h⟩:=nm (s.map Int.toNat:List Nat);have w:s.length=l.length:=by rw[hp.length_eq];simp[Ql]
 have D:b.length=l.length:=by rw[<-h,JQ,w]
 have A:∀o ∈ s,0<=o:=fun o r=>by
  have:=hp.mem_iff.1 r;simp[Ql]at this;omega
 have f:b.Perm (List.range l.length):=by
  rw[<-h];have:=hp.map Int.toNat;have e:(Ql l.length).map Int.toNat=List.range l.length:=by
   unfold Ql;rw[PZ];conv=>rhs;rw[<-List.map_id (List.range l.length)]
   apply YZ;intro k _;simp
  rwa [e]at this
 have j:∀a,(c:a<b.length)->((b[a]:Nat):Int)=s[a]'(by omega):=by
  intro a c;have d:a<s.length:=by omega
  have:b[a]=(s[a]).toNat:=by simp[<-h]
  rw[this];have:=A _ (ND d);omega
 have C:∀a d,(c:d<b.length)->(p:a<d)->lt (b[a]'(by omega)) b[d]:=by
  intro a d c p;have:=hs a d (by omega) p (by omega);unfold ix at this;rw[j a (by omega),j d c];rwa [NC,NC,FX (by omega),FX (by omega)]at this
 have n:∀a,(c:a<b.length)->befN up l b[a] l.length=a:=fun a c=>Jzq (lt:=lt) (fun c k=>trans c k) irr hbl f C c;have u:∀i g,i<l.length->g<l.length->befN up l i l.length=befN up l g l.length->i=g:=by
  intro i g m q e;obtain⟨a,t,rfl⟩:=ZS (f.mem_iff.2 (MX.2 m));obtain⟨d,B,rfl⟩:=ZS (f.mem_iff.2 (MX.2 q));rw[n a t,n d B]at e;subst e;rfl
 apply YG
 .simp [Xd,Qa];omega
 intro a q B;have m:a<b.length:=by omega
 have t:=MX.1 (f.mem_iff.1 (ND m));have:=Js7 u l.length aT b[a] t;rw[n a m,j a m]at this;have e:=FX q;unfold Xd at e;rw[this]at e;exact(NS e).symm
theorem Jvo(l):Xd true l=upL l:=by
 obtain⟨b,c⟩:=Jfs (Jqf l) l.length;refine Jkp (lt:=ltU l) (fun a k=>(Jqf l).trans a k) (Jqf l).irr (fun k a=>?_) c b;unfold bef ltU ix;simp
theorem Jvp(l):Xd false l=dnL l:=by
 obtain⟨b,c⟩:=Jfs (Jqg l) l.length;refine Jkp (lt:=ltD l) (fun a k=>(Jqg l).trans a k) (Jqg l).irr (fun k a=>?_) c b;unfold bef ltD ix;simp
def OneR(t:ByteArray)(F:Arr->Arr × Int):Prop:=∀(P:Nat->Prop) (W:World) (_:∀b,W.1.size<=b->P b) (v:Value) (a:Arr) (_:IsArr P W v a) (_:a.ok),Calls prog 87 #[.string t,v] W (RRes P W (F a))
theorem Va{c:Int}{r:Bool}(h:sgnB c=r)(w):Calls prog 120 #[.int .u8 c] w fun e w'=>e=aD (.bool r)/\w'=w:=by
 rw[<-h];exact Y5 c w
theorem Jag{a:Arr}(h:IsArr P W v a)(hb:J W w):IsArr (OffB W.1.size k P) w v a:=(h.imp (fun _ h hl=>⟨h,NN hl⟩)).below hb
theorem Vd(hP:∀b,W.1.size<=b->P b)(hk:W.1.size+k<=w.1.size):∀b,w.1.size<=b->OffB W.1.size k P b:=fun _ h=>OffB.new hP (by omega)
theorem one_4:OneR ⟨#[114,97,118,101,108]⟩ (fun a=>(Kk a,0))/\OneR ⟨#[114,101,118]⟩ (fun a=>(Gr a 0 true,0))/\OneR ⟨#[102,108,105,112]⟩ (fun a=>(Jnb a,0))/\OneR ⟨#[105,111,116,97]⟩ Gm:=by
 refine⟨?_,?_,?_,?_⟩
 all_goals
  intro P W y v a j f;have C:=j;obtain⟨L,K,sc,i,h,g,rfl,_,z⟩:=j;have d:=Bx.n2 W (aM L K sc i h g) [M,M] 133 133;have c:=Vd (k:=2) y d.lt;have e:=Jag (k:=2) C d.below;have m:=Kj _ _ c (E i h g) a.cells ((z.imp (fun R w B=>⟨w,NN B⟩)).below d.below);have n:=Jf0 _ _ c _ a 0 e f;have o:=Jpd _ _ c _ a e f;have p:=Jpc _ _ c _ a e f;go_enter func87,ntmps87;go_wp2_with (first|(go_at_call 120;refine aQ (Va (r:=false) (by decide) _) ?_)| ((first|(go_at_call 131;refine m.mono ?_)| (go_at_call 124;refine n.mono ?_)| (go_at_call 132;refine o.mono ?_)| (go_at_call 133;refine p.mono ?_));rintro S T ⟨D,F,H,c1,t,u,rfl,x,A⟩;have b:=d.next A;have N:=b.b0;have Q:=b.b1;have X:=b.B0;have Y:=b.B1;have s:=x));have l:=Jl (q:=1) (k:=2) (u0:=E D F H) (u1:=E c1 t u) b.below (by decide) s;exact FR (by simp[results,results87,go_sem,N,Q]) rfl ⟨_,_,_,_,_,_,rfl,l.1,l.2⟩
theorem Jkq(c){F:Int->Int}(hs:sgnB (c.toNat:Int)=true)(hc:∀(P:Nat->Prop) (W:World),(∀b,W.1.size<=b->P b)->∀(v:Value) (a:Arr),IsArr P W v a->a.ok->Calls prog 130 #[.int .u8 c.toNat,v] W (RVal P W ⟨a.shape,a.cells.map F⟩)):OneR ⟨#[c]⟩ (fun a=>(⟨a.shape,a.cells.map F⟩,0)):=by
 intro P W t v a h y;have x:=h;obtain⟨H,D,sc,r,p,o,rfl,_,_⟩:=h;have f:=Bx.n2 W (aM H D sc r p o) [M,M] 133 133;have l:=fun w=>Va hs w;have g:=fun w' (hb':J W w') (hl':W.1.size+2<=w'.1.size)=>hc (OffB W.1.size 2 P) w' (Vd t hl') _ a (Jag x hb') y;obtain⟨S,z⟩:=nm (⟨a.shape,a.cells.map F⟩:Arr);simp only[z]at g⊢;have e:=f;have Q:=f.a0;have R:=f.a1;go_enter func87,ntmps87;go_wp2_with (go_at_call 120;refine aQ (l _) ?_);go_region_with (go_at_call 130;refine(g _ e.below.drew e.lt).mono ?_;rintro N T ⟨A,B,C,c1,m,n,rfl,s,u⟩;have d:=e.next (aS.drew.trans u);have K:=d.b0;have L:=d.b1;have X:=d.B0;have Y:=d.B1;have j:=s)
 all_goals
  go_wp2_with fail;have i:=Jl (q:=1) (k:=2) (u0:=E A B C) (u1:=E c1 m n) d.below (by decide) j;exact FR (by simp[results,results87,go_sem,K,L]) rfl ⟨_,_,_,_,_,_,rfl,i.1,i.2⟩
theorem Zo(c)(k){f:Int->Int->Int × Int}{z:Int}(hc:SgC (c.toNat:Int) f z):OneR ⟨#[c,bif k then 92 else 47]⟩ (redR f z k):=by
 intro P W i v g j o;have n:=j;obtain⟨H,F,sc,A,y,x,rfl,_,_⟩:=j;have b:=Bx.n2 W (aM H F sc A y x) aG 133 133;have s:=fun w=>Va hc.sgn w;have e:=fun w' (hb':J W w') (hl':W.1.size+2<=w'.1.size)=>Jf2 hc k (OffB W.1.size 2 P) w' (Vd i hl') _ g (Jag n hb') o;obtain⟨S,p⟩:=nm (redR f z k g);simp only[p]at e⊢;have d:=b;have Q:=b.a0;have R:=b.a1;clear b n i o hc p;cases k<;>simp only[NX,NP]
 all_goals
  go_enter func87,ntmps87;go_wp2_with (go_at_call 120;refine aQ (s _) ?_);go_region_with (go_at_call 129;refine(e _ d.below.drew d.lt).mono ?_;rintro N T ⟨B,C,D,c1,t,u,rfl,h,l⟩;have a:=d.next (aS.drew.trans l);have K:=a.b0;have L:=a.b1;have X:=a.B0;have Y:=a.B1;have r:=h;clear h l)
  all_goals
   go_wp2_with fail;have m:=Jl (q:=1) (k:=2) (u0:=E B C D) (u1:=E c1 t u) a.below (by decide) r;exact FR (by simp[results,results87,go_sem,K,L]) rfl ⟨_,_,_,_,_,_,rfl,m.1,m.2⟩
def Jcc(up:Bool)(a:Arr):Arr × Int:=if a.shape.length≠1 then(eArr,5)else(⟨[(Xd up a.cells).length],Xd up a.cells⟩,0)
theorem one_ord:OneR ⟨#[117,112]⟩ (Jcc true)/\OneR ⟨#[100,111,119,110]⟩ (Jcc false):=by
 refine⟨?_,?_⟩
 all_goals
  intro P W t v f u d;have m:=u;obtain⟨X,b,sc,i,h,g,rfl,_,l⟩:=u;have x:=(Jb m).2;have e:=Bx.n2 W (aM X b sc i h g) [M,M] 133 133;unfold Jcc;by_cases c:f.shape.length≠1
  .rw [FY c];have o:((b:Int)== 1)=false:=by simp;omega
   have p:((b:Int) != 1)=true:=by simp;omega
   clear m l x d c;go_enter func87,ntmps87;go_wp2_with (go_at_call 120;refine aQ (Va (r:=false) (by decide) _) ?_);refine FR (by simp[results,results87,go_sem];try rfl) rfl ?_;exact⟨_,_,_,_,_,_,rfl,Jt _ _,e.below⟩
  rw[FU c];have o:((b:Int)== 1)=true:=by simp;omega
  have p:((b:Int) != 1)=false:=by simp;omega
  have n:=(l.imp (Q:=OffB W.1.size 2 P) (fun C j R=>⟨j,NN R⟩)).below e.below;have y:=Jxw true _ _ i h g f.cells n d.few;have z:=Jxw false _ _ i h g f.cells n d.few;clear m l x d c n;go_enter func87,ntmps87;go_wp2_with (go_at_call 120;refine aQ (Va (r:=false) (by decide) _) ?_);first|with_reducible refine y.mono ?_|refine z.mono ?_
  rintro H aa ⟨Z,Y,vc,rfl,S,L⟩;have s:=e.next L;have B:=Kj _ aa (Vd (k:=2) t s.lt) (E Z Y vc) _ (S.nums.imp (fun C j _=>OffB.new t (NE e.lt j.1)));go_wp2_with (go_at_call 131;refine B.mono ?_;rintro H ad ⟨o,p,T,c1,D,F,rfl,K,N⟩;have a:=s.next N;have ab:=a.b0;have ac:=a.b1;have ae:=a.B0;have af:=a.B1;have A:=K);have w:=Jl (q:=1) (k:=2) (u0:=E o p T) (u1:=E c1 D F) a.below (by decide) A;exact FR (by simp[results,results87,go_sem,ab,ac]) rfl ⟨_,_,_,_,_,_,rfl,w.1,w.2⟩
theorem Jiw(a):Jcc true a=Kl Qw a:=by
 unfold Jcc Kl;by_cases b:a.shape.length≠1
 .simp_all
 rw[FU b,FU b];have c:(Xd true a.cells).length=a.cells.length:=Qa _ _ _;rw[c,Jvo];rfl
theorem Jix(a):Jcc false a=Kl (fun x y=>Qw y x) a:=by
 unfold Jcc Kl;by_cases b:a.shape.length≠1
 .simp_all
 rw[FU b,FU b];have c:(Xd false a.cells).length=a.cells.length:=Qa _ _ _;rw[c,Jvp];rfl
theorem Jzz:OneR ⟨#[114,104,111]⟩ (Zq):=by
 intro P W A v u B L;have K:=B;obtain⟨n,d,sc,i,h,g,rfl,C,ah⟩:=B;obtain⟨ak,p⟩:=Jb K;have N:=Bx.n2 W (aM n d sc i h g) [M,M] 133 133;have j:W.1.size+2<=((W.alloc (.cells (aL n d sc i h g) 133)).alloc (.cells #[M,M] 133)).1.size:=N.lt;have aa:=fun w=>Va (c:=114) (r:=false) (by decide) w;have aU:d<=3:=by rw[p];exact L.rank
 obtain⟨b,m⟩:=nm (u.shape.map Int.ofNat);have Y:Zq u=(⟨[b.length],b⟩,0):=by unfold Zq;rw[m]
 rw[m]at C;have ao:b.length=d:=by rw[<-m,p];simp
 clear K ah ak p L j m;go_enter func87,ntmps87;go_wp2_with (go_at_call 120;refine aQ (aa _) ?_);obtain⟨a7,Q⟩:=nm ((W.alloc (.cells (aL n d sc i h g) 133)).alloc (.cells #[M,M] 133));have ac:=Q▸N;rw[Q];go_loopw [6,7] (fun ap s wr=>∃a:Nat,s=G a/\a<=d/\OwnL (W.1.size+2) wr ap (b.take a)/\Bx W wr [(aM n d sc i h g),[M,M]]) (fun _ s _=>d-(intOf s).toNat)
 .exact ⟨0,rfl,by omega,OwnL.nil _ _,ac⟩
 obtain⟨a,rfl,ay,l,f⟩:=hrel;have o:=l;have aY:=f.a0;have j:W.1.size+2<=wr.1.size:=f.lt;by_cases am:a<d
 .have H:a<b.length:=by rw[ao];exact am
  obtain⟨ad,aX,rfl,ai,D,-⟩:=C.at (k:=a) H;generalize hx:b[a]=x at D;have aZ:=V f.below ai D;have ab:b.take (a+1)=b.take a++[x]:=by rw[NG H,hx]
  have t:(b.take a).length<=1000:=by simp;omega
  generalize b.take a=ys at o t ab;have aV:(0:Int)<=a:=by omega
  have aW:(a:Int)<d:=by omega
  go_wp2_with (at_builtin;refine Ju rfl _ _ rfl o t j x rfl rfl ?_);intro a4 a6 az al;have aw:=f.keep al.bel;go_wp2;go_roundw
  .grind
  simp[intOf];omega
 have a8:¬ (a:Int)<d:=by omega
 have ag:b.take a=b:=NJ (by omega);rw[ag]at l o;obtain⟨ar,aq,vc,an⟩:=l.sl;subst an;have Z:=Kj (OffB W.1.size 2 P) wr (Vd A j) (E ar aq vc) _ (l.nums.imp (fun ad ae _=>OffB.new A ae.1));go_wp2_with (go_at_call 131;refine Z.mono ?_;rintro ax a5 ⟨R,S,T,c1,y,z,rfl,af,aj⟩;have e:=f.next aj;have au:=e.b0;have av:=e.b1;have a9:=e.B0;have ba:=e.B1;have X:=af);have F:=Jl (q:=1) (k:=2) (u0:=E R S T) (u1:=E c1 y z) e.below (by decide) X;refine FR (v:=.tuple #[(agV R S T c1 y z),G 0]) (by simp[results,results87,go_sem,au,av]) rfl ?_;rw[Y];exact⟨_,_,_,_,_,_,rfl,F.1,F.2⟩
end Go.Proofs.YtjobgpahajhbnaaGreatDoor
