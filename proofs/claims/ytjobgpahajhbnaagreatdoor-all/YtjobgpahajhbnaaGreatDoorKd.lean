import Derived.Shelf.Spec.SlicesGrow
import Derived.Test.YtjobgpahajhbnaaGreatDoorTr
namespace Go.Proofs.YtjobgpahajhbnaaGreatDoor
open Go.Shelf Go.RowKit Go.Proofs Go.Maps Go.Proofs.Tryz
attribute [local go_sem ↓] Go.wp_at_zero Go.wp_at_succ
set_option linter.all false
set_option maxHeartbeats 2000000
set_option maxRecDepth 20000
variable {L:List (List Int)} {P Q:Nat->Prop} {W w:World} {a b':Arr} {ao c1 co co2 s1 so so2:Option Addr} {b c2 c3 cap cc cc2 cn cn2 i k n off s2 s3 sc sc2 sn sn2:Nat} {sh:List Nat} {x:Int} {xs:List Int}
def KJ:Go.Shelf.Ren:=⟨fun|4=>279|n=>n,fun|22=>32|25=>2|3=>3|4=>4|9=>9|20=>20|0=>0|n=>n,fun|n=>n⟩
theorem KK:Go.Proofs.Lays8.n4 prog KJ:={
 mixed:=by kernel_rfl
 f4:=⟨f279.name,by decide,func279.trans (NM some (by kernel_rfl))⟩
 t0:=Ma
 a0:=isAgg0
 z0:=sizeOf0
 v0:=Mn
 t3:=MR
 a3:=isAgg3
 z3:=Ht
 v3:=Mf
 t4:=JZ
 a4:=isAgg4
 z4:=Hn
 v4:=ML
 t9:=YY
 a9:=isAgg9
 z9:=PK
 v9:=Mg
 t20:=underlying20
 a20:=isAgg20
 z20:=sizeOf20
 v20:=zeroValue20
 t22:=ZP
 a22:=isAgg32
 z22:=sizeOf32
 v22:=zeroValue32 }
theorem Jc4(k):(Builtin.zeroCells (G 0).cells k).size=k:=by
 simp[Builtin.zeroCells,Value.cells]
theorem Jwr(n:Nat)(hn:n<=1000000)(w):Calls prog 279 #[aH,G n] w fun e w'=>∃v,e=aD v/\w'.ownsRow w.1.size 2 1 v 0 []/\J w w':=by
 obtain⟨i,d,g,k,h⟩:=NY VI;by_cases b:n=0
 .subst b;refine aQ (Any8.slices_Grow_room KK none 0 0 0 w (by omega) (by omega) (by omega) (by omega)) ?_;exact⟨_,rfl,NW _ _ _ _,FQ _ _⟩
 refine(Any8.slices_Grow_grow KK i (G 0) d g (by omega) none 0 0 n [] w (by omega) (by omega) (by rw[h];omega) (by omega) (by simp) (by simp) (by simp)).mono ?_;rintro e w' ⟨rfl,rfl⟩;have c:∀a,(w.drew.alloc a).heap[w.1.size]?=some a:=fun a=>by show(w.heap.push a)[w.1.size]?=_;simp
 have:=grownCap_ge w (0+n) 0 2;have f:=grownCap_le_maxLen w (0+n) 0 2 (by unfold maxLen;omega);refine⟨_,rfl,⟨by simp,.inr ⟨_,_,_,rfl,FP _,c _,by omega,f,?_,by simp⟩⟩,?_⟩
 .simp only[Array.size_append,Md,YT,Jc4];show _=grownCap w (0+n) 0 2*1;show 0+(0+n-0)+(grownCap w (0+n) 0 2-(0+n))=_;omega
 exact aS.drew.alloc (by simp) _
theorem Xh{P:Program}(w)(t tx ty e e')(i)(ht:P.underlying t=some (.slice e))(ht':P.underlying tx=some (.slice e'))(hi:P.info? e=some i)(base xo)(sLen sCap c)(hle:sLen<=sCap):
 (Builtin.append_ #[t,tx] ty (aL base sLen sCap xo 0 c)).run P w=.ok (E base sLen sCap) w:=by
 have a:∀(x:Addr),(loadCells x 0).run P w=.ok #[] w:=fun x=>by simpa using run_loadCells_list (P:=P) w x [] (by simp)
 cases base<;>cases xo<;>simp[Builtin.append_,run_underlying ht,run_underlying ht',sizeOf,typeInfo,hi,hle,storeCells,Builtin.lenOf,Builtin.firstCells,a]
theorem Za{P:Program}{ops:Array Oper}{rest:List Oper}{o:Oper}{a:Act}{Q:Exit->Act->World->Prop}(hgd:o.guard=none)(s x)(t)(ho:o.op=.call { callee:=.builtin .append,args:=#[s,x],argTypes:=#[t,t] })
 (e) (i) (ht:P.underlying t=some (.slice e)) (hi:P.info? e=some i) (base) (sLen sCap) (hle:sLen<=sCap) (hs:a.eval s=E base sLen sCap) (xo) (c) (hx:a.eval x=E xo 0 c)
 (h:wpList P ops Q rest (a.put o.dst (E base sLen sCap)) w):wpList P ops Q (o::rest) a w :=
 wpList_plain hgd fun _ hK=>by
  have hr:=Xh (P:=P) w t t o.type e e i ht ht hi base xo sLen sCap c hle;unfold Oper.wp execOp;simp only[ho,resolve,invoke,builtin,Sem.run_bind,Sem.run_pure,Result.andThen_ok,List.map_toArray,Mv,List.map_nil,hs,hx,hr];exact hK _ _ h
def Jj0(Q:Nat->Prop)(w:World)(gb:Nat)(L:List (List Int)):Prop:=∀i,(h:i<L.length)->∃o n c,w.cell? (U gb i)=some (.slice o n c)/\Nums Q w (.slice o n c) L[i]
def lens(L:List (List Int))(i:Nat):Nat:=(L.take i).flatten.length
theorem Fs(h:i<L.length):lens L (i+1)=lens L i+L[i].length:=by
 unfold lens;rw[NG h,JY,JD];simp
theorem Jhd(h:i<L.length):(L.take (i+1)).flatten=(L.take i).flatten++L[i]:=by
 rw[NG h,JY];simp
theorem Nx(L)(i):lens L i<=L.flatten.length:=by
 have:L.flatten.length=(L.take i).flatten.length+(L.drop i).flatten.length:=by
  rw[<-JD,<-JY,Mw]
 unfold lens;omega
theorem Fj{c:Nat}(h:Nums Q w (aI b off xs.length c) xs):∀j u,(xs.map (Value.int .i64))[j]?=some u->w.cell? ((⟨b,off,none⟩:Addr).add j)=some u:=by
 intro j u m;obtain⟨l,rfl⟩:=Jew m;obtain⟨ao,cap,n,_,i,_⟩:=h;obtain⟨b',q,a,_,_,k⟩:=i (by omega);injection n with e o p;rw[<-e]at a;injection a with a;injection a with f g;subst f;subst g;have d:(⟨b,off,none⟩:Addr).add j=⟨b,off+j,none⟩:=by cases j<;>simp[Addr.add]
 rw[d];exact k j l
theorem X9:∀u ∈ xs.map (Value.int .i64),u.oneCell'=true:=by
 intro u a;obtain⟨x,_,rfl⟩:=NZ.1 a;rfl
theorem Jdz(P)(w)(hP:∀b,w.1.size<=b->P b)(gb k cap)(L)(hk:L.length=k)(hk3:k<=200)(hgb:gb<w.1.size)(hL:Jj0 Q w gb L)(hfew:L.flatten.length<=1000000):
 Calls prog 253 #[aI gb 0 k cap] w fun e w'=>∃so sn sc,e=aD (E so sn sc)/\Nums P w' (E so sn sc) L.flatten/\J w w':=by
 obtain⟨B,z,ag,ah,ai⟩:=NY VI;have H:=fun n (h:n<=1000000) w'=>Jwr n h w';go_enter func253,ntmps253;go_wp2_with fail;go_loopw [3,11] (fun c a wr=>∃i:Nat,c=G (lens L i)/\a=G i/\i<=k/\wr=w) (fun _ a _=>k-(intOf a).toNat)
 .exact ⟨0,by simp[lens],rfl,by omega,rfl⟩
 obtain⟨i,rfl,rfl,au,ae⟩:=hrel;have af:=ae.symm;subst af;by_cases r:i<k
 .have d:i<L.length:=by rw[hk];exact r
  obtain⟨aj,n,x,p,j⟩:=hL i d;have l:=Je j;have g:=Fs d;rw[<-l]at g;have f:=Nx L (i+1);have Y:(0:Int)<=i:=by omega
  have Z:(i:Int)<k:=by omega
  obtain⟨t,a⟩:=nm (lens L i);obtain⟨m,c⟩:=nm (lens L (i+1));rw[a,c]at g;rw[c]at f;rw[a];have q:IntKind.i64.wrap ((t:Int)+(n:Int))=(m:Int):=by rw[Jg (by omega) (by omega)];omega
  have o:¬ ((m:Int)<0):=by omega
  clear j l g f hfew a;go_wp2_with fail;go_roundw
  .exact ⟨i+1,by rw[c],by go_num,by omega,(by first|rfl|trivial)⟩
  simp[intOf];omega
 have aa:i=k:=by omega
 subst aa;have f:=NE (Nx L i) hfew;generalize lens L i=t at f⊢;go_wp2_with fail;refine(H t f _).mono ?_;rintro e aw ⟨v,rfl,d,c⟩;have K:=d;have D:=c;clear d c;go_wp2_with fail;go_loopw [6,27] (fun j g wr=>∃a:Nat,g=G a/\a<=i/\wr.ownsRow w.1.size 2 1 j (lens L a) ((L.take a).flatten.map (Value.int .i64))/\J w wr) (fun _ g _=>i-(intOf g).toNat)
 .exact ⟨0,rfl,by omega,by simpa[lens]using K,D⟩
 obtain⟨a,rfl,av,d,c⟩:=hrel;by_cases r:a<i
 .have q:a<L.length:=by rw[hk];exact r
  obtain⟨aj,n,x,p,j⟩:=hL a q;have ar:=V c hgb p;have s:=j.below c;have l:=Je j;have g:=Fs q;rw[<-l]at g;have f:=Nx L (a+1);have u:=Jhd q;have Y:(0:Int)<=(a:Int):=by omega
  have Z:(a:Int)<(i:Int):=by omega
  obtain⟨C,vc,rfl,A,-⟩:=Zm d;have m:=O l;have aq:lens L a+n<=1000000:=by omega
  clear j p f hfew l;change Hid _ at s;by_cases ab:n=0
  .subst ab;have y:=NK m.symm;have o:wr.ownsRow w.1.size 2 1 (E C (lens L a) vc) (lens L (a+1)) ((L.take (a+1)).flatten.map (Value.int .i64)):=by
    rw[g,u,y,YU,MQ];exact d
   clear y;go_wp2_with (at_builtin;refine Za rfl _ _ 32 rfl 2 B ZP z _ _ _ ?c1 rfl _ _ rfl ?_)
   case c1=>exact A
   go_wp2_with fail;go_roundw
   .exact ⟨a+1,by go_num,by omega,o,c⟩
   simp[intOf];omega
  obtain⟨ao,an,ad,T,y,_⟩:=I s;obtain⟨b,off,rfl,_,ap,W⟩:=y (by rw[<-m];omega);injection ad with N R S;subst N;clear y W T R S;go_wp2_with (at_builtin;refine JA _ rfl _ _ 32 rfl w.1.size 2 B (G 0) 1 8 ZP z ag ah ai rfl (by decide) _ _ _ rfl d ⟨b,off,none⟩ n x (L[a].map (Value.int .i64)) rfl (by simp[I m]) ?c2 X9 ?c3 ?c4 ?c5 ?_)
  case c2 =>
   have:=I s;rw[m]at this;exact Fj this
  case c3=>unfold maxLen;omega
  case c4=>omega
  case c5=>exact c.size
  intro al am ac X _;have F:=c.grown X c.size (fun ak o=>(d.lt ak o).1);have o:am.ownsRow w.1.size 2 1 al (lens L (a+1)) ((L.take (a+1)).flatten.map (Value.int .i64)):=by
   rw[g,u,NU];simpa using ac
  go_wp2_with fail;go_roundw
  .exact ⟨a+1,by go_num,by omega,o,F⟩
  simp[intOf];omega
 have l:a=i:=by omega
 subst l;have j:(L.take a).flatten=L.flatten:=by rw[<-hk,JV]
 rw[j]at d;have g:=Jv (P:=P) d hP;obtain⟨C,vc,rfl,A,-⟩:=Zm d;go_wp2_with fail;go_ret;exact⟨_,_,_,rfl,g,c⟩
theorem Jni(P)(w)(hP:∀b,w.1.size<=b->P b)(gb k cap)(L)(hk:L.length=k)(hk3:k<=200)(hgb:gb<w.1.size)(hL:Jj0 Q w gb L)(hfew:L.flatten.length<=1000):
 Calls prog 253 #[aI gb 0 k cap] w fun e w'=>∃so sn sc,e=aD (E so sn sc)/\Nums P w' (E so sn sc) L.flatten/\J w w':=Jdz P w hP gb k cap L hk hk3 hgb hL (by omega)
theorem Jr1(l:List Nat)(a):l.foldl (·*·) a=a*l.foldl (·*·) 1:=by
 induction l generalizing a with
 | nil=>simp
 | cons x l ih =>
  grind
theorem Ji(l r):Jd (l++r)=Jd l*Jd r:=by
 grind[Jd,Jr1]
theorem J7(n):Jd [n]=n:=by simp[Jd]
theorem Jdm(h:k<sh.length):Jd (sh.take (k+1))=Jd (sh.take k)*sh[k]:=by
 rw[NG h,Ji,J7]
theorem Jvb(h:∀n ∈ sh,n<=400):Jd sh<=400 ^ sh.length:=by
 induction sh with
 | nil=>simp[Jd]
 | cons x l ih =>
  have b:=ih (fun n a=>h n (M7 _ a));have c:=h x (by simp);have a:Jd (x::l)=x*Jd l:=by
   have:=Ji [x] l;rw[J7]at this;exact this
  simp_all[Nat.pow_succ,ZF,Hw]
structure Lens (sh:List Nat):Prop where
 rank:sh.length<=3
 lens:∀ n ∈ sh,n<=400
theorem Lens.take(h:Lens sh)(k):Lens (sh.take k):=⟨by have:=h.rank;simp;omega,fun n hn=>h.lens n (ZM hn)⟩
theorem Lens.prod(h:Lens sh):Jd sh<=64000000:=by
 have:=Jvb h.lens;have:400 ^ sh.length<=400 ^ 3:=Mb (by decide) h.rank;omega
theorem F3(w)(so)(sn sc)(sh)(h:Nums Q w (E so sn sc) (sh.map Int.ofNat))(hl:Lens sh):
 Calls prog 225 #[E so sn sc] w fun e w'=>e=aD (G (Jd sh))/\w'=w:=by
 have c:=Je h;simp at c;have:sn<=3:=by have:=hl.rank;omega
 go_enter func225,ntmps225;go_wp2_with fail;go_loopw [3,8] (fun d a wr=>∃k:Nat,a=G k/\d=G (Jd (sh.take k))/\k<=sn/\wr=w) (fun _ a _=>sn-(intOf a).toNat)
 .exact ⟨0,rfl,by simp[Jd],by omega,rfl⟩
 obtain⟨k,rfl,rfl,x,n⟩:=hrel;have o:=n.symm;subst o;by_cases m:k<sn
 .have l:k<sh.length:=by rw[<-c];exact m
  obtain⟨b,off,rfl,s,g,-⟩:=h.at (k:=k) (by simp;omega);simp at g;have d:=Jdm l;have i:=(hl.take (k+1)).prod;obtain⟨p,a⟩:=nm (Jd (sh.take k));obtain⟨q,j⟩:=nm (Jd (sh.take (k+1)));obtain⟨r,f⟩:=nm (sh[k]);rw[a,j,f]at d;rw[j]at i;rw[f]at g;rw[a];have:IntKind.i64.wrap ((p:Int)*(r:Int))=(q:Int):=by
   rw[<-MC,<-d];exact Jg (by omega) (by omega)
  have:(0:Int)<=k:=by omega
  have:(k:Int)<sn:=by omega
  clear d i a f;go_wp2;go_roundw
  .grind
  simp[intOf];omega
 have d:k=sn:=by omega
 subst d;have a:=NJ (by rw[<-c];exact FP _);rw[a];go_wp2;go_ret;simp
def Yb(sh:List Nat):Bool:=sh.all (fun n=>decide (n<=64)) && decide (Jd sh<=64)
theorem Jbh(w)(so)(sn sc)(sh)(h:Nums Q w (E so sn sc) (sh.map Int.ofNat))(hl:Lens sh):
 Calls prog 222 #[E so sn sc] w fun e w'=>e=aD (.bool (Yb sh))/\w'=w:=by
 have a:=Je h;simp at a;have:sn<=3:=by have:=hl.rank;omega
 have i:=h;have g:=F3 w so sn sc sh h hl;clear h;change Hid _ at a;go_enter func222,ntmps222;go_wp2_with fail;go_loopw [7] (fun c wr=>∃k:Nat,c=G k/\(∀n ∈ sh.take k,n<=64)/\k<=sn/\wr=w) (fun c _=>sn-(intOf c).toNat)
 .grind
 obtain⟨k,rfl,m,A,q⟩:=hrel;have r:=q.symm;subst r;by_cases p:k<sn
 .have d:k<sh.length:=by rw[<-a];exact p
  obtain⟨b,off,rfl,t,f,-⟩:=i.at (k:=k) (by simp;omega);simp at f;have s:=hl.lens _ (ND d);have l:=NG d;have j:=ND d;generalize hy:sh[k]=y at f s l j;have:(0:Int)<=k:=by omega
  have:(k:Int)<sn:=by omega
  clear hy;by_cases u:64<y
  .have o:(64:Int)<y:=by omega
   have c:Hid (Yb sh=false):=O (by
    grind[Yb])
   go_wp2;exact FR (v:=.bool false) (by simp[results]) rfl ⟨by rw[c],(by simp)⟩
  have o:¬ ((64:Int)<y):=by omega
  go_wp2;go_roundw
  .grind
  simp[intOf];omega
 have f:k=sn:=by omega
 subst f;have d:=NJ (by rw[<-a];exact FP _);rw[d]at m;have c:Hid (Yb sh=decide ((Jd sh:Int)<=64)):=O (by
  unfold Yb;grind)
 clear d;go_wp2_with (go_at_call 225;refine aQ g ?_);exact FR (v:=.bool (decide ((Jd sh:Int)<=64))) (by simp[results]) rfl ⟨by rw[c],(by simp)⟩
def Zl(a:Arr):Arr:=if a.shape.length=0 then Kk a else a
theorem X1(h:a.ok):(Zl a).ok:=by
 unfold Zl;split
 .exact ⟨by simp[Kk],by simp[Kk];exact h.few,by simp[Kk,Jd],h.few,h.fits⟩
 exact h
theorem V3(a):(Zl a).cells=a.cells:=by
 unfold Zl;split<;>rfl
def Off3(n:Nat)(P:Nat->Prop)(b:Nat):Prop:=P b/\(b<n\/n+1+1<b)
structure St (W:World) (P:Nat->Prop) (w:World) (so:Option Addr) (sn sc:Nat) (co:Option Addr) (cn cc:Nat) (so2:Option Addr) (sn2 sc2:Nat) (co2:Option Addr) (cn2 cc2:Nat) (a b:Arr):Prop where
 below:J W w
 lt:W.1.size+1+1<w.1.size
 a0:w.cell? (U W.1.size 0)=some (.slice so sn sc)
 a1:w.cell? (U W.1.size 1)=some (.slice co cn cc)
 b0:w.cell? (U (W.1.size+1) 0)=some (.slice so2 sn2 sc2)
 b1:w.cell? (U (W.1.size+1) 1)=some (.slice co2 cn2 cc2)
 r0:w.cell? (U (W.1.size+1+1) 0)=some aH
 r1:w.cell? (U (W.1.size+1+1) 1)=some aH
 fr:∀ b i,W.1.size<=b->b<=W.1.size+1+1->w.frozen? (U b i)=false
 isA:IsArr (Off3 W.1.size P) w (aK so sn sc co cn cc) a
 isB:IsArr (Off3 W.1.size P) w (aK so2 sn2 sc2 co2 cn2 cc2) b
theorem St.keep{w':World}{b:Arr}(h:St W P w so sn sc co cn cc so2 sn2 sc2 co2 cn2 cc2 a b)(hb:J w w'):St W P w' so sn sc co cn cc so2 sn2 sc2 co2 cn2 cc2 a b:=by
 have:=h.lt;have:=hb.size;refine⟨h.below.trans (hb.mono h.below.size),by omega,?_,?_,?_,?_,?_,?_,?_,h.isA.below hb,h.isB.below hb⟩
 .exact V hb (by omega) h.a0
 .exact V hb (by omega) h.a1
 .exact V hb (by omega) h.b0
 .exact V hb (by omega) h.b1
 .exact V hb (by omega) h.r0
 .exact V hb (by omega) h.r1
 intro b i c d;exact bF hb (by omega) (h.fr b i c d)
theorem St.start{b:Arr}(ha:IsArr P W (aK so sn sc co cn cc) a)(hb:IsArr P W (aK so2 sn2 sc2 co2 cn2 cc2) b):
 St W P (((W.alloc (.cells (aL so sn sc co cn cc) 89)).alloc (.cells (aL so2 sn2 sc2 co2 cn2 cc2) 89)).alloc (.cells aF 89)) so sn sc co cn cc so2 sn2 sc2 co2 cn2 cc2 a b:=by
 have c:J W (((W.alloc (.cells (aL so sn sc co cn cc) 89)).alloc (.cells (aL so2 sn2 sc2 co2 cn2 cc2) 89)).alloc (.cells aF 89)):=((aS.alloc aT _).alloc (by simp) _).alloc (by simp;omega) _;have:(((W.alloc (.cells (aL so sn sc co cn cc) 89)).alloc (.cells (aL so2 sn2 sc2 co2 cn2 cc2) 89)).alloc (.cells aF 89)).1.size=W.1.size+1+1+1:=by simp
 refine⟨c,by omega,?_,?_,?_,?_,?_,?_,?_,(ha.imp (fun b e d=>⟨e,.inl d⟩)).below c,(hb.imp (fun b e d=>⟨e,.inl d⟩)).below c⟩
 .rw [WA (a:=U W.1.size 0) (NB _ _ _ (by simp;omega)),WA (a:=U W.1.size 0) (NB _ _ _ (by simp))];simp
 .rw [WA (a:=U W.1.size 1) (NB _ _ _ (by simp;omega)),WA (a:=U W.1.size 1) (NB _ _ _ (by simp))];simp
 .rw [WA (a:=U (W.1.size+1) 0) (NB _ _ _ (by simp))];simp
 .rw [WA (a:=U (W.1.size+1) 1) (NB _ _ _ (by simp))];simp
 .exact (NH _ _ _ _ (by simp)).trans rfl
 .exact (NH _ _ _ _ (by simp)).trans rfl
 intro b i g h;by_cases f:b=W.1.size+1+1
 .simp_all [NL]
 by_cases d:b=W.1.size+1
 .subst d;rw[NI (a:=U (W.1.size+1) i) (NB _ _ _ (by simp))];simp
 have e:b=W.1.size:=by omega
 subst e;rw[NI (a:=U W.1.size i) (NB _ _ _ (by simp;omega)),NI (a:=U W.1.size i) (NB _ _ _ (by simp))];simp
theorem St.setB{b:Arr}(h:St W P w so sn sc co cn cc so2 sn2 sc2 co2 cn2 cc2 a b)(hb:IsArr (Off3 W.1.size P) w (aK s1 s2 s3 c1 c2 c3) b'):St W P ((w.setCell (U (W.1.size+1) 0) (E s1 s2 s3)).setCell (U (W.1.size+1) 1) (E c1 c2 c3)) so sn sc co cn cc s1 s2 s3 c1 c2 c3 a b':=by
 have c:∀b,b≠W.1.size+1->((w.setCell (U (W.1.size+1) 0) (E s1 s2 s3)).setCell (U (W.1.size+1) 1) (E c1 c2 c3)).heap[b]?=w.heap[b]?:=fun b e=>(FV _ _ _ _ (fun d=>e d)).trans (FV _ _ _ _ (fun d=>e d));have d:¬ Off3 W.1.size P (W.1.size+1):=by
  rintro⟨_,h|h⟩<;>omega
 refine⟨(h.below.setCell (p:=U (W.1.size+1) 0) (by simp) _).setCell (p:=U (W.1.size+1) 1) (by simp) _,by simpa using h.lt,?_,?_,?_,?_,?_,?_,?_,(h.isA.set d 0 _).set d 1 _,(hb.set d 0 _).set d 1 _⟩
 .rw [WA (a:=U W.1.size 0) (c _ (by simp))];exact h.a0
 .rw [WA (a:=U W.1.size 1) (c _ (by simp))];exact h.a1
 .rw [celO (by omega)];exact FW _ _ _ h.b0
 .exact FW _ _ _ (u:=E co2 cn2 cc2) (celN (by omega) h.b1)
 .rw [WA (a:=U (W.1.size+1+1) 0) (c _ (by simp))];exact h.r0
 .rw [WA (a:=U (W.1.size+1+1) 1) (c _ (by simp))];exact h.r1
 intro b i f g;rw[NA,NA];exact h.fr b i f g
theorem St.setA{b:Arr}(h:St W P w so sn sc co cn cc so2 sn2 sc2 co2 cn2 cc2 a b)(hb:IsArr (Off3 W.1.size P) w (aK s1 s2 s3 c1 c2 c3) b'):St W P ((w.setCell (U W.1.size 0) (E s1 s2 s3)).setCell (U W.1.size 1) (E c1 c2 c3)) s1 s2 s3 c1 c2 c3 so2 sn2 sc2 co2 cn2 cc2 b' b:=by
 have c:∀b,b≠W.1.size->((w.setCell (U W.1.size 0) (E s1 s2 s3)).setCell (U W.1.size 1) (E c1 c2 c3)).heap[b]?=w.heap[b]?:=fun b e=>(FV _ _ _ _ (fun d=>e d)).trans (FV _ _ _ _ (fun d=>e d));have d:¬ Off3 W.1.size P W.1.size:=by
  rintro⟨_,h|h⟩<;>omega
 refine⟨(h.below.setCell (p:=U W.1.size 0) (by simp) _).setCell (p:=U W.1.size 1) (by simp) _,by simpa using h.lt,?_,?_,?_,?_,?_,?_,?_,(hb.set d 0 _).set d 1 _,(h.isB.set d 0 _).set d 1 _⟩
 .rw [celO (by omega)];exact FW _ _ _ h.a0
 .exact FW _ _ _ (u:=E co cn cc) (celN (by omega) h.a1)
 .rw [WA (a:=U (W.1.size+1) 0) (c _ (by simp))];exact h.b0
 .rw [WA (a:=U (W.1.size+1) 1) (c _ (by simp))];exact h.b1
 .rw [WA (a:=U (W.1.size+1+1) 0) (c _ (by simp;omega))];exact h.r0
 .rw [WA (a:=U (W.1.size+1+1) 1) (c _ (by simp;omega))];exact h.r1
 intro b i f g;rw[NA,NA];exact h.fr b i f g
theorem Jqk(h:Nums P w (aI b off xs.length cap) xs)(hk:k<=xs.length):Nums P w (aI b (off+k) (xs.length-k) (cap-k)) (xs.drop k):=by
 obtain⟨ao,e,d,l,j,_⟩:=h;injection d with f g c;subst c;refine⟨some (U b (off+k)),cap-k,by simp,by simp;omega,fun i=>?_,fun a h=>by cases h;rfl⟩;grind
theorem Jqh(h:Nums P w (aI b off xs.length cap) xs)(hk:k<=xs.length):Nums P w (aI b off k cap) (xs.take k):=by
 obtain⟨ao,e,d,l,j,_⟩:=h;injection d with f g c;subst c;refine⟨some (U b off),cap,by simp;omega,by simp;omega,fun i=>?_,fun a h=>by cases h;rfl⟩;grind
theorem Fv(P)(W)(hP:∀b,W.1.size<=b->P b)(so)(sn sc)(co)(cn cc)(a)(ha:IsArr P W (aK so sn sc co cn cc) a):
 Calls prog 254 #[aK so sn sc co cn cc] W fun e w'=>∃s1 s2 s3 c1 c2 c3,e=aD (aK s1 s2 s3 c1 c2 c3)/\IsArr P w' (aK s1 s2 s3 c1 c2 c3) (Zl a)/\J W w':=by
 have r:=(Jb ha).2;have m:=fun d=>Jo d so sn sc co cn cc;have h:=fun d (c:J W d) (z:W.1.size+1<d.1.size)=>Vb (fun b=>P b/\b≠W.1.size+1) d (fun b f=>⟨hP b (by omega),by omega⟩) (E co cn cc) a.cells (((J8 ha).imp (fun b f g=>⟨f,by omega⟩)).below c);have o:=ha.imp (Q:=fun b=>P b/\b≠W.1.size+1) (fun b f g=>⟨f,by omega⟩);obtain⟨s,f⟩:=nm (Zl a:Arr);simp only[f];by_cases q:sn=0
 .have l:(⟨[a.cells.length],a.cells⟩:Arr)=s:=by rw[<-f];unfold Zl;rw[FY (by omega)];rfl
  simp only[l]at h;subst q;clear f l ha hP r o;go_enter func254,ntmps254;go_wp2_with (go_at_call 220;refine aQ (m _) ?_);have g:J W ((((W.alloc (.cells (aL so 0 sc co cn cc) 89)).alloc (.cells aF 89)).alloc (.cells (aL so 0 sc co cn cc) 89)).alloc (.cells (aL so 0 sc co cn cc) 89)):=(((((FQ W.1.size W).alloc aT _).alloc (by simp) _).alloc (by simp;omega) _).alloc (by simp;omega) _);refine(h _ g (by simp)).mono ?_;rintro e n ⟨s1,s2,s3,c1,c2,c3,rfl,u,i⟩;have t:=g.trans (i.mono g.size);obtain⟨j,k⟩:=Yy i;have w:=i.size;simp only[MT]at j k w;have d0:aB n (W.1.size+1) 0 aH:=(j (W.1.size+1) 0 (by omega)).trans ((Jbl W _ _ _ _ 0).trans rfl);have d1:aB n (W.1.size+1) 1 aH:=(j (W.1.size+1) 1 (by omega)).trans ((Jbl W _ _ _ _ 1).trans rfl);have:=(k (W.1.size+1) 0 (by omega)).trans (Gc W _ _ _ _ 0);have:=(k (W.1.size+1) 1 (by omega)).trans (Gc W _ _ _ _ 1);have:W.1.size+1<n.1.size:=by omega
  clear i j k g h m;go_wp2;refine FR (v:=aK s1 s2 s3 c1 c2 c3) (by simp[results,results254,go_sem,d0,d1]) rfl ⟨_,_,_,_,_,_,rfl,?_,?_⟩
  .exact ((u.set (fun c=>c.2 rfl) 0 _).set (fun c=>c.2 rfl) 1 _).imp (fun b c _=>c.1)
  exact(t.setCell (p:=U (W.1.size+1) 0) (ZO _) _).setCell (p:=U (W.1.size+1) 1) (ZO _) _
 have l:a=s:=by rw[<-f];unfold Zl;rw[FU (by omega)]
 subst l;have g:((sn:Int)== 0)=false:=by rw[NT];omega
 clear f ha hP r h q;go_enter func254,ntmps254;go_wp2_with (go_at_call 220;refine aQ (m _) ?_);refine FR (by simp[results,results254,go_sem];try rfl) rfl ?_;refine⟨_,_,_,_,_,_,rfl,?_,?_⟩
 .exact (o.below (((((FQ W.1.size W).alloc aT _).alloc (by simp) _).alloc (by simp;omega) _).alloc (by simp;omega) _)).imp (fun b c _=>c.1)
 exact((((FQ W.1.size W).alloc aT _).alloc (by simp) _).alloc (by simp;omega) _).alloc (by simp;omega) _
theorem KL:Enters prog 203:=NF func203 (by decide) rfl
def Xq(x:Int)(xs:List Int):List Int:=if 0<=x then xs.drop x.toNat else xs.take (xs.length-(-x).toNat)
def Jaw(a b:Arr):Arr × Int:=if a.shape.length≠0\/(Zl b).shape.length≠1 then(eArr,5)else(⟨[(Xq (a.cells.headD 0) b.cells).length],Xq (a.cells.headD 0) b.cells⟩,0)
theorem Ke{v u0 u1:Value}{q:Arr}(hb:J W w)(hA:IsArr (Off3 W.1.size P) w v q):IsArr P ((w.setCell (U (W.1.size+1+1) 0) u0).setCell (U (W.1.size+1+1) 1) u1) v q/\J W ((w.setCell (U (W.1.size+1+1) 0) u0).setCell (U (W.1.size+1+1) 1) u1):=by
 have a:¬ Off3 W.1.size P (W.1.size+1+1):=by
  rintro⟨_,h|h⟩<;>omega
 exact⟨((hA.set a 0 _).set a 1 _).imp (fun b h _=>h.1),(hb.setCell (p:=U (W.1.size+1+1) 0) (by show W.1.size<=W.1.size+1+1;omega) _).setCell (p:=U (W.1.size+1+1) 1) (by show W.1.size<=W.1.size+1+1;omega) _⟩
theorem Kb(h:Nums P w (aI b off n cap) xs)(hk:k<=n):Nums P w (E (if cap=k then some (U b off)else some (U b (off+k))) (n-k) (cap-k)) (xs.drop k):=by
 have e:=Je h;subst e;by_cases c:cap=k
 .rw [FY c];have d:xs.length<=cap:=by
   obtain⟨ao,g,f,d,_⟩:=h;injection f with i j l;omega
  have f:xs.length-k=0:=by omega
  have hd:xs.drop k=[]:=MP (by omega);rw[f,hd];exact⟨_,_,rfl,by simp,fun h=>absurd h (by simp),fun a h=>by cases h;rfl⟩
 rw[FU c];exact Jqk h hk
theorem Jsb(hn:n=xs.length)(h:0<=x):∃k:Nat,k<=n/\min x (n:Int)=(k:Int)/\Xq x xs=xs.drop k:=by
 subst hn;unfold Xq;rw[FY h];by_cases a:(xs.length:Int)<x
 .exact ⟨xs.length,FP _,by omega,by rw[MP (by omega),MP aT]⟩
 exact⟨x.toNat,by omega,by omega,rfl⟩
theorem Jsc(hn:n=xs.length)(h:¬ 0<=x):∃k:Nat,k<=n/\max x (-(n:Int))=(k:Int)-(n:Int)/\Xq x xs=xs.take k:=by
 subst hn;unfold Xq;rw[FU h];by_cases a:-(xs.length:Int) > x
 .exact ⟨0,by omega,by omega,by rw[show xs.length-(-x).toNat=0 by omega]⟩
 exact⟨xs.length-(-x).toNat,by omega,by omega,rfl⟩
theorem Jti(h:n<=1000):IntKind.i64.wrap (-(n:Int))=-(n:Int):=by
 show(if(true && decide (-(n:Int) % (18446744073709551616:Int) >= 9223372036854775808))=true then -(n:Int) % (18446744073709551616:Int)-18446744073709551616 else -(n:Int) % (18446744073709551616:Int))=-(n:Int);by_cases b:n=0
 .subst b;decide
 have a:-(n:Int) % (18446744073709551616:Int)=18446744073709551616-n:=by omega
 rw[a,FY (by simp;omega)];omega
theorem J0m(w):FnTwo 203 #[] w Jaw:=by
 intro W P b5 v a b _ bc bu af bj bl;obtain⟨so,sn,sc,co,cn,cc,rfl,aq,be⟩:=bu;obtain⟨so2,sn2,sc2,co2,cn2,cc2,rfl,bg,N⟩:=af;have R:=Je aq;simp at R;have p:=St.start (P:=P) (W:=W) (a:=a) (b:=b) ⟨so,sn,sc,co,cn,cc,rfl,aq,be⟩ ⟨so2,sn2,sc2,co2,cn2,cc2,rfl,bg,N⟩;generalize hW1:(((W.alloc (.cells (aL so sn sc co cn cc) 89)).alloc (.cells (aL so2 sn2 sc2 co2 cn2 cc2) 89)).alloc (.cells aF 89))=W1 at p;have a7:=O p;have a6:Hid (∀g:World,W.1.size+1+1<g.1.size->∀b,g.1.size<=b->Off3 W.1.size P b):=O (fun g c b af=>⟨bc b (by omega),.inr (by omega)⟩);have a4:=O (Fv (Off3 W.1.size P) W1 (I a6 W1 p.lt) so2 sn2 sc2 co2 cn2 cc2 b p.isB);have ba:=O (fun g=>(Jo g so sn sc co cn cc).mono (fun L d c=>(⟨c.1,by rw[c.2];exact(aS.alloc aT _).alloc (by simp) _⟩:L=aD (.bool ((sn:Int)== 0))/\J g d)));have al:=O bj;have a5:=O (X1 bl);have aX:=O (V3 b);obtain⟨ay,B⟩:=nm (Jaw a b);simp only[B];have br:=p.b0;have bt:=p.b1;clear bc bj bl aq be bg N p;change Hid _ at B R;go_enter func203,ntmps203;go_wp2_with fail;try rw[hW1]
 clear hW1 br bt;refine a4.mono ?_;rintro L aU ⟨s1,s2,s3,c1,c2,c3,rfl,ap,N⟩;have j:=a7.keep N;have bd:=j.setB ap;have an:=O bd;have am:=O (Jb ap);have S:=j.a0;have F:=j.a1;have H:=j.b0;have K:=j.b1;have bL:=j.fr (W.1.size+1) 0 (by omega) (by omega);have bM:=j.fr (W.1.size+1) 1 (by omega) (by omega);have n3:=j.lt;have n1:W.1.size<aU.1.size:=by omega
 have n2:W.1.size+1<aU.1.size:=by omega
 clear j bd ap N a4 a7;go_wp2_with fail;generalize hw3:((aU.setCell (U (W.1.size+1) 0) (E s1 s2 s3)).setCell (U (W.1.size+1) 1) (E c1 c2 c3))=w3 at an⊢;clear hw3 S F H K bL bM n1 n2 n3;refine aR (I ba _) fun aV bh=>?_;have e:=an.keep bh;have a8:=O e;have S:=e.a0;have F:=e.a1;have H:=e.b0;have K:=e.b1;have t:=e.r0;have u:=e.r1;have T:=e.fr (W.1.size+1+1) 0 (by omega) (by omega);have X:=e.fr (W.1.size+1+1) 1 (by omega) (by omega);have n3:=e.lt;have n1:W.1.size<aV.1.size:=by omega
 have n2:W.1.size+1<aV.1.size:=by omega
 have Y:=O e.below;clear e bh an ba;by_cases D:sn=0
 .have bH:((sn:Int)== 0)=true:=by rw[D];rfl
  change Hid _ at D;go_wp2_with fail;refine aR (Qu _ s1 s2 s3 c1 c2 c3) fun ak bm=>?_;have bi:J aV ak:=by rw[bm];exact(aS.alloc aT _).alloc (by simp) _
  clear bm;have d:=a8.keep bi;have a9:=O d;clear S F H K t u T X n1 n2 n3;have S:=d.a0;have F:=d.a1;have H:=d.b0;have K:=d.b1;have t:=d.r0;have u:=d.r1;have T:=d.fr (W.1.size+1+1) 0 (by omega) (by omega);have X:=d.fr (W.1.size+1+1) 1 (by omega) (by omega);have n3:=d.lt;have n1:W.1.size<ak.1.size:=by omega
  have n2:W.1.size+1<ak.1.size:=by omega
  have Y:=O d.below;clear bi a8;by_cases Q:s2=1
  .have bG:((s2:Int)== 1)=true:=by rw[Q];rfl
   have ar:=NK (by rw[<-R];exact D);obtain⟨x,bN,ao,au,bx,bz,_,bw,bf,bP⟩:=Yv (J8 d.isA) al ar;subst bz;have z:=J8 d.isB;rw[aX]at z;have q:=Je z;generalize hxs:b.cells=xs at z q;have bA:xs.length<=200:=by rw[<-hxs,<-V3 b];exact a5.few
   have C:ay=(⟨[(Xq x xs).length],Xq x xs⟩,0):=by
    rw[<-B];unfold Jaw;rw[FU (by rw[ar,<-am.2,Q];simp),au,hxs];rfl
   generalize hys:Xq x xs=m at C;subst C;change Hid _ at hys;have ax:=al.fits x (by rw[au];simp);subst bx;have aY:=O z;have:c2<=c3:=by
    obtain⟨aa,ab,f,A,_,_⟩:=z;injection f with ae h c;omega
   clear d ar au hxs aX a5 al B D am R z Q;change Hid _ at q;go_wp2_with fail;refine aR (Y0 _ s1 s2 s3 c1 c2 c3) fun s bn=>?_;have ag:J ak s:=by rw[bn];exact aS.alloc aT _
   clear bn;have i:=a9.keep ag;have:=V ag bw bf;have y:=O ((I aY).below ag);clear S F H K t u T X n1 n2 n3 Y aY a9 ag bf;have F:=i.a1;have H:=i.b0;have K:=i.b1;have t:=i.r0;have u:=i.r1;have T:=i.fr (W.1.size+1+1) 0 (by omega) (by omega);have X:=i.fr (W.1.size+1+1) 1 (by omega) (by omega);have n3:=i.lt;have n1:W.1.size<s.1.size:=by omega
   have n2:W.1.size+1<s.1.size:=by omega
   have aW:=O i.below;clear i;have bp:=O (fun(g:World) (af:W.1.size+1+1<g.1.size) v m (c:Nums (Off3 W.1.size P) g v m)=>Vb (Off3 W.1.size P) g (I a6 g af) v m c);have:=ax.1;have:=ax.2;clear ax;by_cases bo:0<=x;obtain⟨k,ai,bE,l⟩:=Jsb q bo;rw[hys]at l;have bB:(0:Int)<=(k:Int):=by omega
   have bD:(k:Int)<=(c2:Int):=by omega
   have aZ:=O l;clear l;rcases c1 with _|⟨ac,ad,az⟩
   have o:=I y;obtain⟨aa,ab,f,A,n,_⟩:=o;have r:xs.length=0:=by
    by_cases c:0<xs.length
    .obtain ⟨b',bb,ae,_⟩:=n c;injection f with h;rw[ae]at h;cases h
    omega
   have av:c2=0:=by rw[q];exact r
   subst av;have ah:k=0:=by omega
   subst ah;have aj:m=[]:=by rw[aZ,NK r];rfl
   subst aj;have:min x 0=0:=by omega
   clear f A n r bE;have Z:Hid (Nums (Off3 W.1.size P) s.drew (E none 0 c3) []):=O ⟨_,_,rfl,by simp,fun c=>absurd c (by simp),fun a c=>by cases c⟩;rotate_left;have aw:az=none:=by
    obtain⟨aa,ab,f,A,n,c⟩:=I y;injection f with h;exact c _ h.symm
   subst aw;obtain⟨bq,bv⟩:=nm ((if c3=k then some (U ac ad)else some (U ac (ad+k))):Option Addr);have Z:Hid (Nums (Off3 W.1.size P) s.drew (E bq (c2-k) (c3-k)) m):=O (by
    rw[<-bv,aZ];exact(Kb y ai).below aS.drew)
   rotate_left;obtain⟨k,ai,bU,l⟩:=Jsc q bo;rw[hys]at l;have bB:(0:Int)<=(k:Int):=by omega
   have bD:(k:Int)<=(c2:Int):=by omega
   have:k<=c3:=by omega
   have:c2<=200:=by rw[q];exact bA
   have:IntKind.i64.wrap (-(c2:Int))=-(c2:Int):=Jti (by omega);have:IntKind.i64.wrap ((c2:Int)+((k:Int)-(c2:Int)))=(k:Int):=by
    have L:(c2:Int)+((k:Int)-(c2:Int))=(k:Int):=by omega
    rw[L];exact Jg (by omega) (by omega)
   change Hid _ at l;rcases c1 with _|⟨ac,ad,az⟩
   have o:=I y;obtain⟨aa,ab,f,A,n,_⟩:=o;have r:xs.length=0:=by
    by_cases c:0<xs.length
    .obtain ⟨b',bb,ae,_⟩:=n c;injection f with h;rw[ae]at h;cases h
    omega
   have av:c2=0:=by rw[q];exact r
   have ah:k=0:=by omega
   have aj:m=[]:=by rw[l,NK r];simp
   have bI:x<0:=by omega
   have Z:Hid (Nums (Off3 W.1.size P) s.drew (E none k c3) m):=O (by
    rw[ah,aj];exact⟨_,_,rfl,by simp,fun c=>absurd c (by simp),fun a c=>by cases c⟩)
   clear f A n r av ah aj;rotate_left;have aw:az=none:=by
    obtain⟨aa,ab,f,A,n,c⟩:=I y;injection f with h;exact c _ h.symm
   subst aw;have bI:x<0:=by omega
   have Z:Hid (Nums (Off3 W.1.size P) s.drew (aI ac ad k c3) m):=O (by
    rw[l];have o:=I y;have c:=Je o;rw[c]at o ai;exact(Jqh o ai).below aS.drew)
   all_goals
    all_goals
     go_wp2_with fail;go_region_with (go_at_call 151;refine(I bp _ (by simpa using n3) _ _ (I Z)).mono ?_;rintro L b6 ⟨b2,b3,b4,u1,u2,u3,rfl,bb,c⟩;have bJ:=V c n3 t;have bK:=V c n3 u;have:=bF c n3 T;have:=bF c n3 X;have h:=O bb;have ae:=O ((I aW).trans ((Jw c).mono aW.size));have:=c.size;clear bb c)
     all_goals
      go_wp2_with fail;exact FR (by simp[results,results203,go_sem,bJ,bK]) rfl ⟨_,_,_,_,_,_,rfl,(Ke ae h).1,(Ke ae h).2⟩
  have bG:((s2:Int)== 1)=false:=by rw[NT];omega
  have C:ay=(eArr,5):=by
   rw[<-B];unfold Jaw;rw[FY (NO (by rw[<-am.2];exact Q))]
  subst C;clear d Q;go_wp2_with fail;exact FR (by simp[results,results203,go_sem,t,u]) rfl ⟨_,_,_,_,_,_,rfl,Jt _ _,(Ke (P:=P) Y (Jt _ _)).2⟩
 have bH:((sn:Int)== 0)=false:=by rw[NT];omega
 have C:ay=(eArr,5):=by
  rw[<-B];unfold Jaw;rw[FY (NN (by rw[<-R];exact D))]
 subst C;clear D;go_wp2_with fail;exact FR (by simp[results,results203,go_sem,t,u]) rfl ⟨_,_,_,_,_,_,rfl,Jt _ _,(Ke (P:=P) Y (Jt _ _)).2⟩
theorem Jse(x)(xs):(Xq x xs).length<=xs.length:=by
 unfold Xq;split<;>simp
theorem Jsd{c:Int}(h:c ∈ Xq x xs):c ∈ xs:=by
 unfold Xq at h;split at h
 .exact ZX h
 exact ZM h
theorem Jw0:TwoC ⟨#[100,114,111,112]⟩ Jaw:=⟨fun w=>(Q6 (t:=⟨#[100,114,111,112]⟩) (k1:=.string [114,111,112]) (k2:=.string [100,114,111,112]) (f:=203) (by decide) (by kernel_rfl) (by kernel_rfl) (by kernel_rfl) (by kernel_rfl) (by kernel_rfl) w).mono (by rintro e w' ⟨rfl,hb⟩;exact⟨203,#[],rfl,KL,hb,J0m w'⟩),fun a b ha hb=>by
 unfold Jaw;split
 .exact ⟨by simp[eArr],fun h=>absurd h (by decide)⟩
 have:=Jse (a.cells.headD 0) b.cells;have:=hb.few;exact⟨by show(Xq _ _).length<=200;omega,fun _=>⟨by simp,fun n hn=>by rw[Mo.1 hn];omega,by simp[Jd],by show(Xq _ _).length<=200;omega,fun c hc=>hb.fits c (Jsd hc)⟩⟩⟩
theorem Fw(w)(so)(sn sc)(co)(cn cc)(a)(ha:IsArr P w (aK so sn sc co cn cc) a)(sh)(len:Nat)(hs:a.shape=sh++[len])(h3:sh.length<=3):
 Calls prog 234 #[aK so sn sc co cn cc] w fun e w'=>e=aD (G len)/\J w w':=by
 have c:=(Jb ha).2;rw[hs]at c;simp at c;obtain⟨x,u,t,o,n,m,d,f,p⟩:=ha;injection d with d;simp at d;obtain⟨⟨rfl,rfl,rfl⟩,rfl,rfl,rfl⟩:=d;rw[hs]at f;obtain⟨b,off,rfl,j,g,-⟩:=f.at (k:=sh.length) (by simp);simp at g;have h:(w.alloc (.cells #[aI b off sn sc,E co cn cc] 89)).cell? (U b (off+sh.length))=some (G len):=by rw[Mc _ _ _ j];exact g
 have l:((w.alloc (.cells #[aI b off sn sc,E co cn cc] 89)).alloc (.cells #[aI b off sn sc,E co cn cc] 89)).cell? (U b (off+sh.length))=some (G len):=by rw[Mc _ _ _ (by simp;omega)];exact h
 generalize sh.length=k at c h l h3;have i:=fun w'=>Z7 w' (some (U b off)) sn sc co cn cc;have:(0:Int)<=k:=by omega
 have:(k:Int)<sn:=by omega
 have:IntKind.i64.wrap ((sn:Int)-1)=(k:Int):=by
  have e:((sn:Int)-1)=(k:Int):=by omega
  rw[e];exact Jg (by omega) (by omega)
 clear c;go_enter func234,ntmps234;go_wp2_with fail;go_region_with (first|(go_at_call 221;refine aQ (i _) ?_))
 all_goals
  go_wp2;go_ret;refine⟨rfl,?_⟩
  first
  | exact(belA1).drew.alloc (by simp) _
  | trace_state
theorem J1(h:Nums P w (E ao n cap) xs)(hk:k<=n):Nums P w (E ao k cap) (xs.take k):=by
 have:=Je h;obtain⟨e,f,d,l,j,c⟩:=h;injection d with a g b;subst a b;have:k<=xs.length:=by omega
 refine⟨ao,cap,by simp;omega,by simp;omega,fun i=>?_,c⟩;grind
theorem Zp(h:Nums P w (E ao n cap) xs):n<=cap:=by
 obtain⟨a,b,d,c,_⟩:=h;simp_all
theorem Jgq(h:Nums P w (E none n cap) xs):n=0:=by
 obtain⟨a,b,e,d,c,_⟩:=h;grind
theorem Jgo{spot:Option Nat}(h:Nums P w (E (some ⟨b,off,spot⟩) n cap) xs):spot=none:=by
 obtain⟨a,c,g,f,d,e⟩:=h;grind
def Vq(xs:List Int)(len i:Nat):List Int:=(xs.drop (i*len)).take len
theorem Jh2(w)(so)(sn sc)(co)(cn cc)(a)(ha:IsArr P w (aK so sn sc co cn cc) a)(sh)(len)(hs:a.shape=sh++[len])(h3:sh.length<=3)(i)(hi:(i+1)*len<=a.cells.length)(hil:i<=100000000)(hll:len<=1000)(hfew:a.cells.length<=1000):
 Calls prog 257 #[aK so sn sc co cn cc,G i] w fun e w'=>∃o n c,e=aD (E o n c)/\Nums P w' (E o n c) (Vq a.cells len i)/\J w w':=by
 have x:=fun w' (C:J w w')=>Fw w' so sn sc co cn cc a (ha.below C) sh len hs h3;have f:=J8 ha;have D:=Je f;have:=Zp f;obtain⟨b,s⟩:=nm (i*len);obtain⟨j,q⟩:=nm (i+1);obtain⟨up,h⟩:=nm (j*len);have K:up=b+len:=by rw[<-h,<-s,<-q,ZG,YA]
 rw[q,h]at hi;have F:(0:Int)<=b:=by omega
 have:(b:Int)<=up:=by omega
 have:(up:Int)<=cc:=by omega
 have:b<=up:=by omega
 have:up<=cc:=by omega
 have r:up-b=len:=by omega
 have:IntKind.i64.wrap ((i:Int)+1)=(j:Int):=by
  have e:(i:Int)+1=(j:Int):=by omega
  rw[e];exact Jg (by omega) (by omega)
 have:IntKind.i64.wrap ((i:Int)*(len:Int))=(b:Int):=by
  rw[<-MC,s];exact Jg F (by omega)
 have:IntKind.i64.wrap ((j:Int)*(len:Int))=(up:Int):=by
  rw[<-MC,h];exact Jg (by omega) (by omega)
 obtain⟨A,u⟩:=nm (Vq a.cells len i);rw[u];have:up<=cn:=by omega
 clear ha h K q hs D hil hll hi;change Hid _ at r;rcases co with _|⟨y,z,ac⟩
 .have N:=Jgq f;subst N;have L:up=0:=by omega
  subst L;have H:b=0:=by omega
  subst H;have B:len=0:=by have:=I r;omega
  have l:A=[]:=by rw[<-u];unfold Vq;rw[B];simp
  go_enter func257,ntmps257;go_wp2_with (go_at_call 234;refine aR (x _ (belA1)) fun Q d=>?_;have g:=d;obtain⟨p,-⟩:=Yy d;have d1:=p w.1.size 1 (by simp);(try simp at d1);have t:=d.size;(try simp at t));go_ret;refine⟨_,_,_,rfl,?_,(belA1).trans (g.mono (by simp))⟩;rw[l];exact⟨_,_,rfl,by simp,fun m=>absurd m (by simp),fun a m=>by cases m⟩
 have H:=Jgo f;subst H;obtain⟨m,B⟩:=nm ((if cc=b then some (U y z)else some (U y (z+b))):Option Addr);have l:Nums P w (E m (up-b) (cc-b)) A:=by
  have d:=Kb f (k:=b) (by omega);rw[B]at d;have g:=J1 d (k:=up-b) (by omega);rw[<-u];unfold Vq;rw[s];rw[r]at g⊢;exact g
 go_enter func257,ntmps257;go_wp2_with (go_at_call 234;refine aR (x _ (belA1)) fun Q d=>?_;have g:=d;obtain⟨p,-⟩:=Yy d;have d1:=p w.1.size 1 (by simp);(try simp at d1);have t:=d.size;(try simp at t));go_ret;exact⟨_,_,_,rfl,l.below ((belA1).trans (g.mono (by simp))),(belA1).trans (g.mono (by simp))⟩
theorem Jhp(w)(ao)(n cap)(xs)(h:Nums Q w (E ao n cap) xs)(hx:xs.length<=200)(h0:0<n):
 Calls prog 79 #[E ao n cap] w fun e w'=>∃g c,e=aD (aI g 0 n c)/\w'.ownsRow w.1.size 3 1 (aI g 0 n c) n (xs.map (Value.int .i64))/\J w w':=by
 have m:=Je h;obtain⟨x,y,p,_,j,B⟩:=h;injection p with d z f;subst d f;obtain⟨b,off,rfl,_,_,A⟩:=j (by omega);obtain⟨t,k,q,r,s⟩:=NY VK;refine(QY t (G 0) 1 8 k q r s rfl (by decide) (fun w=>by kernel_rfl) b off n cap (xs.map (Value.int .i64)) w (by simp[m]) (by grind[maxLen]) (by omega) ?_ ?_).mono ?_
 .grind
 .intro i a;obtain⟨l,_,rfl⟩:=NZ.1 a;rfl
 rintro e w' ⟨D,rfl,o,_,i⟩;obtain⟨l,⟨rfl,C⟩| ⟨g,c,a,rfl,u⟩⟩:=o
 .omega
 exact⟨g,c,rfl,⟨l,.inr ⟨g,c,a,rfl,u⟩⟩,i⟩
theorem J2n{Q':Nat->Prop}(w)(o1)(n c)(o2)(d)(l r:List Nat)(h1:Nums Q w (E o1 n c) (l.map Int.ofNat))(h2:Nums Q' w (E o2 n d) (r.map Int.ofNat))(hn:n<=200):
 Calls prog 256 (aL o1 n c o2 n d) w fun e w'=>e=aD (.bool (l == r))/\J w w':=by
 have g:=Je h1;have h:=Je h2;simp at g h;by_cases m:n=0
 .subst m;have a:=NK g.symm;have f:=NK h.symm;subst a f;refine aQ (QV o1 o2 c 0 d w (by omega)) ?_;exact⟨rfl,FQ _ _⟩
 have y:0<(l.map Int.ofNat).length:=by simp;omega
 have z:0<(r.map Int.ofNat).length:=by simp;omega
 have A:n<=(l.map Int.ofNat).length:=by simp;omega
 have B:n<=(r.map Int.ofNat).length:=by simp;omega
 have C:(l.map Int.ofNat).length<=n:=by simp;omega
 have D:(r.map Int.ofNat).length<=n:=by simp;omega
 have i:n<=9223372036854775807:=by omega
 obtain⟨ao,cap,s,_,o,_⟩:=h1;obtain⟨b,off,rfl,_,_,K⟩:=o y;injection s with a f k;subst a;obtain⟨F,H,t,_,p,_⟩:=h2;obtain⟨j,x,rfl,_,_,L⟩:=p z;injection t with a f k;subst a;refine aR (QU b off n c j x n d (l.map Int.ofNat) (r.map Int.ofNat) w A B i i (fun u q=>by simp_all) (fun u q=>by simp_all)) ?_;rintro w' ⟨q,rfl⟩;refine⟨?_,⟨rfl,rfl,rfl,FP _,fun _ _=>rfl⟩⟩;rw[NJ C,NJ D];congr 2;rw[PO];simp only[NQ];constructor
 .grind [List.map_inj_right]
 simp_all
end Go.Proofs.YtjobgpahajhbnaaGreatDoor
