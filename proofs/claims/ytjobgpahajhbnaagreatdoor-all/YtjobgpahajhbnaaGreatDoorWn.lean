import Derived.Test.YtjobgpahajhbnaaGreatDoorSd
import Derived.Deep.DrawnRows
namespace Go.Proofs.YtjobgpahajhbnaaGreatDoor
open Go.RowKit Go.Proofs.Tryz
attribute [local go_sem ↓] Go.wp_at_zero Go.wp_at_succ
set_option linter.all false
set_option maxRecDepth 10000
set_option maxHeartbeats 1000000
variable {A:List (Nat × Nat)} {B b c j n:Nat} {P Q:Nat->Prop} {T:List (Int × Int)} {W0 w w':World} {e:TypeId} {f:Int} {mv v:Value} {s:ByteArray} {xs:List Int}
theorem VJ:(prog.info? 155).map (fun i=>(i.zero,i.size,i.bytes))=some (some (.agg #[G 0,G 0,G 0,.string ⟨#[]⟩,G 0]),5,48):=by kernel_rfl
theorem Jzk{wr w1 w2:World}{v':Value}{p:Nat}{o o2:Obj}
 (hb:J w wr) (hb1:J wr w1) (hown:wr.ownsRow w.1.size 155 5 v A.length (Nb s A))
 (h2:w2.ownsRow w.1.size 155 5 v' (A.length+1) (Nb s A++[G (Ya (s.extract p (p+n))),G (Zt (s.extract p (p+n))),G (Yq (s.extract p (p+n))),aE (s.extract p (p+n)),G p])) (hg:((w1.alloc o).alloc o2).grownBy w2 v.ownBlock):
 w2.ownsRow w.1.size 155 5 v' (A++[(p,p+n)]).length (Nb s (A++[(p,p+n)]))/\J w w2:=by
 have a:=hb.trans (hb1.mono hb.size);have c:=a.size;constructor
 .simp [Jjs];omega
 exact((a.alloc c o).alloc (by simp;omega) o2).grown hg (by simp;omega) (fun d b=>(hown.lt d b).1)
theorem J0q(s:ByteArray)(p n)(W)(hs:s.size<=200)(hp:p<s.size)(hnb:p+n<=s.size)(hv:Evs W)(ht:tl (s.data.toList.drop p)=some n):
 Calls prog 105 #[aE (s.extract p s.size)] W fun e w'=>e=aD (.tuple #[tokX (Ya (s.extract p (p+n))) (Zt (s.extract p (p+n))) (Yq (s.extract p (p+n))) (s.extract p (p+n)) 0,.bool true])/\J W w':=by
 have:(s.extract p s.size).size=s.size-p:=by rw[ZR];omega
 refine(Jsn (s.extract p s.size) W (by omega) (by omega) hv).mono ?_;grind[CutR,Jfq,Jtv]
theorem J0r(s:ByteArray)(p)(W)(hs:s.size<=200)(hp:p<s.size)(hv:Evs W)(ht:tl (s.data.toList.drop p)=none):
 Calls prog 105 #[aE (s.extract p s.size)] W fun e w'=>∃k r t,e=aD (.tuple #[tokV k r t 0,.bool false])/\J W w':=by
 have:(s.extract p s.size).size=s.size-p:=by rw[ZR];omega
 refine(Jsn (s.extract p s.size) W (by omega) (by omega) hv).mono ?_;grind[CutR,Jfq]
theorem G9(s)(w)(hs:s.size<=200)(hv:Evs w):
 Calls prog 75 #[aE s] w fun e w'=>∃v,e=aD (.tuple #[v,G (bif (lexR s).2 == -1 then 0 else(lexR s).2),.bool ((lexR s).2 == -1)])/\w'.ownsRow w.1.size 155 5 v (lexR s).1.length (Nb s (lexR s).1)/\J w w':=by
 obtain⟨Q,D,L,N,P⟩:=NY VJ;obtain⟨r,t⟩:=nm (lexS s s.size 0 []);have C:lexR s=r:=t;rw[C];go_enter func75,ntmps75;go_wp2_with fail;go_loopw [5,6] (fun v a wr=>∃(p f:Nat) (A:List (Nat × Nat)),p<=s.size/\a=G p/\A.length<=p/\wr.ownsRow w.1.size 155 5 v A.length (Nb s A)/\J w wr/\s.size<=f+p/\lexS s f p A=r) (fun _ a _=>s.size-(intOf a).toNat)
 .exact ⟨0,s.size,[],by omega,rfl,by simp,NW _ _ _ _,FQ _ _,by omega,t⟩
 obtain⟨p,f,A,ae,rfl,Z,m,a,ab,k⟩:=hrel;have q:=hv.below a hv.1;by_cases i:p<s.size
 .obtain ⟨c,rfl⟩:∃c,f=c+1:=⟨f-1,by omega⟩;cases h32:((s[p].toNat:Int)== 32)
  .cases ht:tl (s.data.toList.drop p)with
   | none =>
    have b:=k.symm.trans (Jq8 s c p A i h32 ht);go_wp2_with fail;refine(J0r s p _ hs i q ht).mono ?_;rintro e l ⟨g,o,h,rfl,d⟩;unfold tokV;go_wp2;go_ret3;refine⟨M,?_,?_,?_⟩
    .rw [b,show(((p:Int))== -1)=false from NT.2 (by omega)];rfl
    .rw [b];exact NW _ _ _ _
    exact(a.trans (d.mono a.size)).alloc (NE a.size d.size) _
   | some n =>
    have u:=Jls ht;rw[Fu]at u;have:=u.1;have F:p+n<=s.size:=by omega
    have b:=(Jq5 s c p n A i h32 ht).symm.trans k;go_wp2_with fail;refine aR (J0q s p n _ hs i F q ht) fun l d=>?_;have K:(s.extract p (p+n)).size=n:=by rw[ZR];omega
    generalize hte:s.extract p (p+n)=h at K⊢;obtain⟨R,x⟩:=nm (Ya h);obtain⟨S,y⟩:=nm (Zt h);obtain⟨X,B⟩:=nm (Yq h);rw[x,y,B];unfold tokX;have o:=Jf m d;go_wp2_with (at_builtin;refine JA _ rfl _ _ 147 rfl w.1.size 155 Q (.agg #[G 0,G 0,G 0,.string ⟨#[]⟩,G 0]) 5 48 underlying147 D L N P rfl (by decide) _ _ _ rfl ((o.alloc _).alloc _) (adQ0 l) 1 1 [G R,G S,G X,aE h,G p] rfl rfl ?c1 ?c2 ?c3 ?c4 ?c5 ?_)
    case c1 =>
     intro j T g;match j,g with
     | 0,g=>simp_all[Addr.add]
     | 1,g=>simp_all[Addr.add]
     | 2,g=>simp_all[Addr.add]
     | 3,g=>simp_all[Addr.add]
     | 4,g=>simp_all[Addr.add]
    case c2=>intro T z;simp at z;rcases z with rfl|rfl|rfl|rfl|rfl<;>rfl
    case c3=>grind[maxLen]
    case c4=>omega
    case c5 =>
     have g:=a.size;have H:=d.size;simp;omega
    intro af W H g _;have:=Jzk (n:=n) (p:=p) a d m (by rw[hte,x,y,B];exact H) g;have:=o.lt;have:W.cell? (U l.1.size 3)=some (aE h):=by
     rw[WA (g.block l.1.size (by simp;omega) (fun e=>by grind))];simp
    go_wp2;go_roundw
    .grind
    simp[intOf];omega
  have b:=(Jgz s c p A i h32).symm.trans k;go_wp2;go_roundw
  .exact ⟨p+1,c,A,by omega,by go_num,by omega,m,a,by omega,b⟩
  simp[intOf];omega
 have b:=k.symm.trans (Jq7 s f p A (by omega));go_wp2;go_ret3;simp_all
theorem Jhz(h:T.length<=1):beg T=0:=by
 simp_all[kB,beg]
theorem Jos:∀(l:List (Int × Int)) (j st op:Nat),(scan l j st op).1<=j+l.length
 | [],j,st,op=>by simp[scan]
 | q::r,j,st,op=>by
  unfold scan;split
  .simp
  have:=Jos r (j+1);grind
theorem J1t{st op:Nat}(h:j<=T.length):(sc T j st op).1<=T.length:=by
 grind[Jos,sc]
theorem Jyi(T):beg T<=T.length:=by
 by_cases a:T.length<=1
 .simp_all [Jhz]
 unfold beg;grind
theorem Jnx(s)(A):Wf (tks s A):=by
 intro c a;simp only[tks,NZ]at a;obtain⟨b,_,rfl⟩:=a;generalize s.extract b.1 b.2=t;show Ya t=0\/Ya t=1\/Ya t=4\/Ya t=5->Zt t=0;unfold Ya Zt;cases(hd t == 40)
 .cases (hd t == 41)
  .cases (hd t == 95 || digB (hd t))
   .cases letB (hd t)
    .simp
    simp only[NX,NP];grind[Q9]
   simp
  simp
 simp
theorem J15(h:okT (tks s A)=true):pFin s A (sc (tks s A) (beg (tks s A)) 0 0)=(0,0):=by
 simp only[okT,topB,ZJ,decide_eq_true_iff]at h;unfold pFin;have:=J1t (st:=0) (op:=0) (Jyi (tks s A));simp_all[Qr];omega
theorem J2a(h:okT (tks s A)=false):pFin s A (sc (tks s A) (beg (tks s A)) 0 0)=(3,plc s A (endT (tks s A))):=by
 unfold pFin;rw[FU]
 .rfl
 intro a;simp_all[okT,topB,Qr]
theorem Jd8(hfew:A.length<=200)(h:w.ownsRow B 155 5 v A.length (Nb s A)):
 ∃ao g cap,v=E ao A.length cap/\TokIn w ao g (toks s A):=by
 obtain⟨ao,cap,g,i,_,j,c⟩:=Yf h;refine⟨ao,g,cap,i,by simp[Z6];omega,by simp_all[Z6],?_⟩;intro b d;have f:b<A.length:=by rw[Z6]at d;exact d
 have e:=J2g (fun a:Nat × Nat=>G (Ya (s.extract a.1 a.2))) (fun a=>G (Zt (s.extract a.1 a.2))) (fun a=>G (Yq (s.extract a.1 a.2))) (fun a=>Value.string (s.extract a.1 a.2)) (fun a=>G a.1) A b f;rw[c (b*5) (by omega),c (b*5+1) (by omega),c (b*5+2) (by omega),c (b*5+3) (by omega),c (b*5+4) (by omega)];simp only[toks,YJ];exact e
theorem Jk1(hs:s.size<=200):(lexR s).1.length<=200:=by grind[Jcf,lexR]
theorem Kw{a b c:World}(h:J a b)(h':J b c):J a c:=h.trans (h'.mono h.size)
def Zs(s:ByteArray)(x:Ex):Prop:=PX (toks s (lexR s).1) false (beg (tks s (lexR s).1)) 0 x (lexR s).1.length
def Z2(s:ByteArray):ByteArray:=if(Jr s).1=0 then Q1 (toks s (lexR s).1)else⟨#[]⟩
def Jh3(s:ByteArray)(w:World)(e:Ending)(w':World):Prop :=
 ∃q,e=.returned (.tuple #[.agg #[.string (Z2 s),.pointer q],.int .i64 (Jr s).1,.int .i64 (Jr s).2])/\J w w'/\((Jr s).1=0->∃x,Zs s x/\IsEx w.1.size w' q x)
theorem Jm8(s)(w)(h:200<s.size)(hm:s.size<=9223372036854775807):Calls prog 59 #[aE s] w (Jh3 s w):=by
 have a:Jr s=(1,0):=by unfold Jr;rw[FY h]
 have b:Z2 s=⟨#[]⟩:=by unfold Z2;rw[a];rfl
 go_enter func59,ntmps59;go_wp2;refine FR (by simp[results,results59,go_sem];try rfl) rfl ?_;refine⟨none,?_,belA1,?_⟩
 .rw [a,b]
 simp_all
theorem Jrx(s)(w)(hs:s.size<=200)(hv:Evs w)(hx:¬ (lexR s).2=-1):Calls prog 59 #[aE s] w (Jh3 s w):=by
 have a:Jr s=(2,(lexR s).2):=by unfold Jr;rw[FU (by omega),FU hx]
 have k:Z2 s=⟨#[]⟩:=by unfold Z2;rw[a];rfl
 have g:((lexR s).2 == -1)=false:=NT.2 hx;go_enter func59,ntmps59;go_wp2_with fail;refine(G9 s _ hs (hv.alloc _)).mono ?_;rintro e l ⟨v,rfl,_,b⟩;rw[g,NP];obtain⟨c,d⟩:=Yy b;have d0:=c w.1.size 0 (by simp);have d1:=c w.1.size 1 (by simp);have h:=d w.1.size 0 (by simp);have i:=d w.1.size 1 (by simp);simp at d0 d1 h i;have f:J w l:=(belA1).trans (b.mono (by simp));go_wp2_with fail;refine FR (v:=.tuple #[.agg #[.string ⟨#[]⟩,.pointer none],G 2,G (lexR s).2]) (by simp[results,results59,go_sem,d0,d1]) rfl ⟨none,?_,?_,?_⟩
 .rw [a,k]
 .exact (f.setCell aT _).setCell aT _
 rw[a];intro j;cases j
theorem Jws(s)(A)(w)(hs:s.size<=200)(hv:Evs w)(hA:(lexR s).1=A)(hx:(lexR s).2=-1):Calls prog 59 #[aE s] w (Jh3 s w):=by
 have t:Jr s=pFin s A (sc (tks s A) (beg (tks s A)) 0 0):=by unfold Jr;rw[FU (by omega),FY hx,hA]
 have z:=NQ.2 hx;have B:A.length<=200:=by rw[<-hA];exact Jk1 hs
 have K:endT (tks s A)<=A.length:=by
  have:=J1t (st:=0) (op:=0) (Jyi (tks s A));rwa [Qr]at this
 generalize hn:endT (tks s A)=n at K;cases ho:okT (tks s A)
 .rw [J2a ho,hn]at t;have r:Z2 s=⟨#[]⟩:=by unfold Z2;rw[t];rfl
  by_cases R:n=A.length
  .have N:plc s A n=(s.size:Int):=by unfold plc;rw[MF (by omega)]
   have H:((n:Int)== (A.length:Int))=true:=by rw[NQ];omega
   go_enter func59,ntmps59;go_wp2_with fail;refine(G9 s _ hs (hv.alloc _)).mono ?_;rintro e j ⟨v,rfl,h,b⟩;rw[z,NX];rw[hA]at h;obtain⟨l,o,m,rfl,i⟩:=Jd8 B h;go_wp2_with fail;have f:=Jbu j l o m (toks s A) i (by simp[Xo,Jnx]);rw[Z6]at f;refine f.mono ?_;rintro e x ⟨y,rfl,a,_⟩;rw[Xo,ho,hn];simp only[NP];obtain⟨d,g⟩:=Yy (Kw b a);have d0:=d w.1.size 0 (by simp);have d1:=d w.1.size 1 (by simp);have p:=g w.1.size 0 (by simp);have q:=g w.1.size 1 (by simp);simp at d0 d1 p q;have c:=(belA1).trans ((Kw b a).mono (by simp));have u:w.1.size<x.1.size:=by have:=(Kw b a).size;simp at this;omega
   go_wp2;refine FR (v:=.tuple #[.agg #[.string ⟨#[]⟩,.pointer none],G 3,G s.size]) (by simp[results,results59,go_sem,d0,d1,u]) rfl ⟨none,?_,?_,?_⟩
   .simp_all
   .first
    | exact((c.setCell aT _).setCell aT _).alloc (by simp;omega) _
    | exact((c.alloc c.size _).setCell aT _).setCell aT _
   simp_all
  have L:n<A.length:=by omega
  have N:plc s A n=(A[n].1:Int):=by unfold plc;rw[FX L]
  have H:((n:Int)== (A.length:Int))=false:=by rw[NT];omega
  go_enter func59,ntmps59;go_wp2_with fail;refine(G9 s _ hs (hv.alloc _)).mono ?_;rintro e j ⟨v,rfl,h,b⟩;rw[z,NX];rw[hA]at h;obtain⟨l,o,m,rfl,i⟩:=Jd8 B h;go_wp2_with fail;have f:=Jbu j l o m (toks s A) i (by simp[Xo,Jnx]);rw[Z6]at f;refine f.mono ?_;rintro e x ⟨y,rfl,a,_⟩;rw[Xo,ho,hn];simp only[NP];have F:=i.addr (by grind[Z6]);obtain⟨rfl,k⟩:=F;obtain⟨_,_,_,_,C⟩:=i.cell n (by simp_all[Z6]);have D:=V a k C;simp only[toks,YJ]at D;obtain⟨d,g⟩:=Yy (Kw b a);have d0:=d w.1.size 0 (by simp);have d1:=d w.1.size 1 (by simp);have p:=g w.1.size 0 (by simp);have q:=g w.1.size 1 (by simp);simp at d0 d1 p q;have c:=(belA1).trans ((Kw b a).mono (by simp));have u:w.1.size<x.1.size:=by have:=(Kw b a).size;simp at this;omega
  have P:=FT k a.size;have Q:(n:Int)<(A.length:Int):=by omega
  go_wp2_with fail;go_region
  all_goals
   go_wp2;refine FR (v:=.tuple #[.agg #[.string ⟨#[]⟩,.pointer none],G 3,G A[n].1]) (by simp[results,results59,go_sem,d0,d1,u]) rfl ⟨none,?_,?_,?_⟩
   .simp_all
   .first
    | exact(((c.setCell aT _).setCell aT _).alloc (by simp;omega) _).drew
    | exact(((c.alloc c.size _).setCell aT _).setCell aT _).drew
   simp_all
 rw[J15 ho]at t;have r:Z2 s=Q1 (toks s A):=by unfold Z2;rw[t,hA];rfl
 have H:∀k,PX (toks s A) false (beg (kr (toks s A))) 0 k (toks s A).length->Zs s k:=by
  intro k a;unfold Zs;rw[hA];rwa [Xo,Z6]at a
 have D:=r;go_enter func59,ntmps59;go_wp2_with fail;refine(G9 s _ hs (hv.alloc _)).mono ?_;rintro e j ⟨v,rfl,h,b⟩;rw[z,NX];rw[hA]at h;obtain⟨l,o,m,rfl,i⟩:=Jd8 B h;go_wp2_with fail;have f:=Jbu j l o m (toks s A) i (by simp[Xo,Jnx]);rw[Z6]at f;refine f.mono ?_;rintro e x ⟨y,rfl,a,hx⟩;have C:=hx (by simp_all[Xo]);have F:=C;rw[Xo,ho];simp only[NX];obtain⟨d,g⟩:=Yy (Kw b a);have d0:=d w.1.size 0 (by simp);have d1:=d w.1.size 1 (by simp);have p:=g w.1.size 0 (by simp);have q:=g w.1.size 1 (by simp);simp at d0 d1 p q;have c:=(belA1).trans ((Kw b a).mono (by simp));have u:w.1.size<x.1.size:=by have:=(Kw b a).size;simp at this;omega
 have R:w.1.size<j.1.size:=by have:=b.size;simp at this;omega
 obtain⟨nm,r⟩:=nm (Q1 (toks s A));rw[r];rw[r]at D;go_wp2;refine FR (v:=.tuple #[.agg #[aE nm,.pointer y],G 0,G 0]) (by simp[results,results59,go_sem,d0,d1,u]) rfl ⟨y,?_,?_,?_⟩
 .rw [t,D]
 .first
  | exact((c.setCell aT _).setCell aT _).alloc (by simp;omega) _
  | exact((c.alloc c.size _).setCell aT _).setCell aT _
 intro _;obtain⟨k,C,L⟩:=F;refine⟨k,H k C,(L.mono (B':=w.1.size) (by omega)).keep ?_⟩;refine⟨by simp,fun N P Q=>?_⟩;grind[RowKit.Below.heap_alloc,RowKit.Below.heap_setCell]
theorem Vr(s)(w)(hv:Evs w)(hm:s.size<=9223372036854775807):Calls prog 59 #[aE s] w (Jh3 s w):=by
 by_cases b:200<s.size
 .exact Jm8 s w b hm
 by_cases a:(lexR s).2=-1
 .exact Jws s _ w (by omega) hv rfl a
 exact Jrx s w (by omega) hv a
theorem Jp1(s)(w)(hv:Evs w)(hm:s.size<=9223372036854775807):
 Calls prog 64 #[aE s] w fun e w'=>e=aD (.tuple #[G (Jr s).1,G (Jr s).2])/\J w w':=by
 have c:=Vr s w hv hm;obtain⟨a,f⟩:=nm ((Jr s).1);obtain⟨b,g⟩:=nm ((Jr s).2);obtain⟨n,h⟩:=nm (Z2 s);unfold Jh3 at c;simp only[f,g,h]at c;rw[f,g];go_enter func64,ntmps64;go_wp2_with fail;refine c.mono ?_;rintro e j ⟨i,rfl,d,_⟩;go_wp2;go_ret2
 first
 | exact⟨rfl,d⟩
 | exact⟨rfl,d.alloc d.size _⟩
structure Arr where
 shape:List Nat
 cells:List Int
variable {a:Arr}
def Jd(l:List Nat):Nat:=l.foldl (·*·) 1
def Jk(c:Int):Prop:=-9223372036854775808<=c/\c<=9223372036854775807
structure Arr.ok (a:Arr):Prop where
 rank:a.shape.length<=3
 lens:∀ n ∈ a.shape,n<=200
 size:a.cells.length=Jd a.shape
 few:a.cells.length<=200
 fits:∀ c ∈ a.cells,Jk c
def Nums(P:Nat->Prop)(w:World)(v:Value)(xs:List Int):Prop :=
 ∃ao cap,v=.slice ao xs.length cap/\xs.length<=cap/\(0<xs.length->∃b off,ao=some (U b off)/\P b/\b<w.1.size/\∀i,(h:i<xs.length)->w.cell? (U b (off+i))=some (.int .i64 xs[i]))/\∀a,ao=some a->a.spot=none
def IsArr(P:Nat->Prop)(w:World)(v:Value)(a:Arr):Prop :=
 ∃so sn sc co cn cc,v=aK so sn sc co cn cc/\Nums P w (.slice so sn sc) (a.shape.map Int.ofNat)/\Nums P w (.slice co cn cc) a.cells
def zArr:Value:=.agg aF
theorem Nums.keep(h:Nums P w v xs)(hs:w.1.size<=w'.1.size)(hb:∀b,P b->b<w.1.size->w'.heap[b]?=w.heap[b]?):Nums P w' v xs:=by
 obtain⟨d,e,n,j,g,m⟩:=h;refine⟨d,e,n,j,fun f=>?_,m⟩;obtain⟨b,p,i,c,a,k⟩:=g f;exact⟨b,p,i,c,FT a hs,fun o l=>(WA (hb b c a)).trans (k o l)⟩
theorem Nums.imp(h:Nums P w v xs)(hq:∀b,P b->b<w.1.size->Q b):Nums Q w v xs:=by
 obtain⟨c,d,m,i,f,l⟩:=h;refine⟨c,d,m,i,fun e=>?_,l⟩;obtain⟨b,n,g,k,a,j⟩:=f e;exact⟨b,n,g,hq b k a,a,j⟩
theorem IsArr.keep(h:IsArr P w v a)(hs:w.1.size<=w'.1.size)(hb:∀b,P b->b<w.1.size->w'.heap[b]?=w.heap[b]?):IsArr P w' v a:=by
 obtain⟨k,j,sc,e,d,c,i,f,g⟩:=h;exact⟨k,j,sc,e,d,c,i,f.keep hs hb,g.keep hs hb⟩
theorem IsArr.below(h:IsArr P w v a)(hb:J w w'):IsArr P w' v a:=h.keep hb.size (fun b _ hl=>hb.block b hl)
theorem Nums.below{a:List Int}(h:Nums P w v a)(hb:J w w'):Nums P w' v a:=h.keep hb.size (fun b _ hl=>hb.block b hl)
theorem IsArr.imp(h:IsArr P w v a)(hq:∀b,P b->b<w.1.size->Q b):IsArr Q w v a:=by
 obtain⟨k,j,sc,e,d,c,i,f,g⟩:=h;exact⟨k,j,sc,e,d,c,i,f.imp hq,g.imp hq⟩
theorem Ym(P)(w):Nums P w aH []:=⟨none,0,rfl,FP _,fun h=>absurd h (by simp),fun a h=>by cases h⟩
theorem Jv(h:w.ownsRow B e 1 v n (xs.map (Value.int .i64)))(hP:∀b,B<=b->P b):Nums P w v xs:=by
 obtain⟨d,⟨rfl,h⟩| ⟨c,f,k,rfl,i,j⟩⟩:=h
 .have:xs=[]:=by rw[h]at d;simpa using d
  subst this;exact Ym P w
 have m:n=xs.length:=by simpa using d.symm
 subst m;have g:w.ownsRow B e 1 (aI c 0 xs.length f) xs.length (xs.map (Value.int .i64)):=⟨d,.inr ⟨c,f,k,rfl,i,j⟩⟩;refine⟨some (U c 0),f,rfl,j.2.1,fun _=>⟨c,0,rfl,hP c i,(g.lt c rfl).2,fun o l=>?_⟩,fun a h=>by cases h;rfl⟩;rw[ZY,g.cellAt o (by omega)];simp[l]
theorem Jg{n:Int}(h0:0<=n)(h1:n<=9223372036854775807):IntKind.i64.wrap n=n:=by
 have e:n % (18446744073709551616:Int)=n:=Hv h0 (by omega);show(if(true && decide (n % (18446744073709551616:Int) >= 9223372036854775808))=true then n % (18446744073709551616:Int)-18446744073709551616 else n % (18446744073709551616:Int))=n;rw[e,FU];simp;omega
theorem Jfi(hc:c<=1000)(hn:n<=200):IntKind.i64.wrap ((c:Int)+IntKind.i64.wrap (1+(n:Int)))=((c+(1+n):Nat):Int):=by
 rw[Jg (n:=1+(n:Int)) (by omega) (by omega),Jg (by omega) (by omega)];omega
structure Wk (W0:World) (mv:Value) (fuel:Int) (c:Nat) (w:World):Prop where
 below:J W0 w
 vals:w.cell? (U W0.1.size 0)=some mv
 fuel:w.cell? (U W0.1.size 1)=some (.int .i64 fuel)
 cost:w.cell? (U W0.1.size 2)=some (.int .i64 c)
 fr:w.frozen? (U W0.1.size 2)=false
 lt:W0.1.size<w.1.size
theorem Wk.keep(h:Wk W0 mv f c w)(hb:J w w'):Wk W0 mv f c w' :=
 ⟨h.below.trans (hb.mono h.below.size),V hb h.lt h.vals,V hb h.lt h.fuel,V hb h.lt h.cost,bF hb h.lt h.fr,FT h.lt hb.size⟩
theorem Wk.alloc(h:Wk W0 mv f c w)(o):Wk W0 mv f c (w.alloc o):=h.keep (aS.alloc aT o)
theorem Wk.drew(h:Wk W0 mv f c w):Wk W0 mv f c w.drew:=⟨h.below.drew,h.vals,h.fuel,h.cost,h.fr,h.lt⟩
theorem Wk.drewN(h:Wk W0 mv f c w)(n):Wk W0 mv f c (w.drewN n):=⟨⟨h.below.os,h.below.tape,h.below.output,h.below.size,h.below.block⟩,h.vals,h.fuel,h.cost,h.fr,h.lt⟩
theorem Wk.paid(h:Wk W0 mv f c w)(k):Wk W0 mv f k (w.setCell (U W0.1.size 2) (G k)):=
 ⟨h.below.setCell aT _,celN (by omega) h.vals,celN (by omega) h.fuel,FW _ _ _ h.cost,froN h.fr,by simpa using h.lt⟩
theorem Wk.other(h:Wk W0 mv f c w)(hb:W0.1.size<b)(i)(v):Wk W0 mv f c (w.setCell (U b i) v):=
 ⟨h.below.setCell (Nat.le_of_lt hb) _,celN (by omega) h.vals,celN (by omega) h.fuel,celN (by omega) h.cost,froN h.fr,by simpa using h.lt⟩
theorem Kp.drewN(h:Kp W0 w w')(n):Kp W0 w (w'.drewN n):=⟨h.os,h.tape,h.output,h.size,h.block⟩
theorem IsArr.kp(h:IsArr P w v a)(hP:¬ P W0.1.size)(hk:Kp W0 w w'):IsArr P w' v a :=
 h.keep hk.size (fun b hb hl=>hk.block b hl (fun e=>hP (by rw[<-NS e];exact hb)))
theorem IsArr.set(h:IsArr P w v a)(hb:¬ P b)(i)(u):IsArr P (w.setCell (U b i) u) v a :=
 h.keep (by simp) (fun c hc _=>FV _ _ _ _ (fun e=>hb (by rw[<-show c=b from e];exact hc)))
def payP(fuel:Int)(r:Arr × Int)(p c:Nat):Sum (Int × Nat) (Arr × Nat):=
 if r.2≠0 then .inl (r.2,p)else if fuel<((c+(1+r.1.cells.length):Nat):Int)then .inl (10,p)else .inr (r.1,c+(1+r.1.cells.length))
def Jc2(ws:List Int):Arr:=if ws.length=1 then⟨[],ws⟩else⟨[ws.length],ws⟩
def Js(env:ByteArray->Option Arr)(fuel:Int)(f1:ByteArray->Arr->Arr × Int)(f2:ByteArray->Arr->Arr->Arr × Int):Ex->Nat->Sum (Int × Nat) (Arr × Nat)
 | .num ws,c=>.inr (Jc2 ws,c)
 | .name t p,c=>match env t with
  | none=>.inl (4,p)
  | some a=>.inr (a,c)
 | .one t p r,c=>match Js env fuel f1 f2 r c with
  | .inl e=>.inl e
  | .inr x=>payP fuel (f1 t x.1) p x.2
 | .two t p l r,c=>match Js env fuel f1 f2 r c with
  | .inl e=>.inl e
  | .inr x=>match Js env fuel f1 f2 l x.2 with
   | .inl e=>.inl e
   | .inr y=>payP fuel (f2 t y.1 x.1) p y.2
def Jcy(P:Nat->Prop)(W0:World)(mv:Value)(fuel:Int)(w:World)(r:Sum (Int × Nat) (Arr × Nat))(e:Ending)(w':World):Prop :=
 Kp W0 w w'/\match r with
 | .inl x=>e=.returned (.tuple #[zArr,.agg #[.int .i64 x.1,.int .i64 x.2]])/\x.1≠0/\∃c,Wk W0 mv fuel c w'
 | .inr x=>∃v,e=.returned (.tuple #[v,.agg #[.int .i64 0,.int .i64 0]])/\IsArr P w' v x.1/\Wk W0 mv fuel x.2 w'/\(x.2:Int)<=fuel
theorem J09{fuel:Int}{k:Nat}(h1:Kp W0 w w')(h2:Wk W0 mv fuel k w')(h3:IsArr P w v a)(hP:¬ P W0.1.size)(hf:(k:Int)<=fuel):Jcy P W0 mv fuel w (.inr (a,k)) (aD (.tuple #[v,.agg #[G 0,G 0]])) w' :=
 ⟨h1,v,rfl,h3.kp hP h1,h2,hf⟩
theorem Wk.four(h:Wk W0 mv f c w)(hb:W0.1.size<b)(v0 v1 v2 v3):Wk W0 mv f c ((((w.setCell (U b 0) v0).setCell (U b 1) v1).setCell (U (b+1) 0) v2).setCell (U (b+1) 1) v3):=
 (((h.other hb _ _).other hb _ _).other (by omega) _ _).other (by omega) _ _
theorem Kp.four(h:Kp W0 w w')(hb:w.1.size<=b)(v0 v1 v2 v3):Kp W0 w ((((w'.setCell (U b 0) v0).setCell (U b 1) v1).setCell (U (b+1) 0) v2).setCell (U (b+1) 1) v3):=
 (((h.new hb _ _).new hb _ _).new (by omega) _ _).new (by omega) _ _
theorem Y0(w)(so)(sn sc)(co)(cn cc):
 Calls prog 156 #[aK so sn sc co cn cc] w fun e w'=>e=aD (G cn)/\w'=w.alloc (.cells (aL so sn sc co cn cc) 89):=by
 go_enter func156,ntmps156;go_wp2;go_ret;exact⟨rfl,rfl⟩
theorem Jzv(P)(W0)(mv)(fuel)(c)(w)(hw:Wk W0 mv fuel c w)(so)(sn sc)(co)(cn cc)(er)(p:Nat)(he:(er != 0)=true):
 Calls prog 110 #[aJ W0.1.size 0,aK so sn sc co cn cc,G er,G p] w (Jcy P W0 mv fuel w (.inl (er,p))):=by
 have b:=hw;have:=hw.lt;have a:=show er≠0 by simpa using he
 clear hw;go_enter func110,ntmps110;go_wp2_with fail;refine FR (by simp[results,results110,go_sem,zArr]) rfl ⟨?_,rfl,a,c,?_⟩
 .exact (((Kp.refl W0 w).alloc _).alloc _).alloc _
 exact((b.alloc _).alloc _).alloc _
theorem Jvf(P)(W0)(mv)(fuel)(c)(w)(hw:Wk W0 mv fuel c w)(so)(sn sc)(co)(cn cc)(p:Nat)(hc:c<=1000)(hn:cn<=200)(hf:fuel<((c+(1+cn):Nat):Int)):
 Calls prog 110 #[aJ W0.1.size 0,aK so sn sc co cn cc,G 0,G p] w (Jcy P W0 mv fuel w (.inl (10,p))):=by
 have d:=hw;have:=hw.lt;have c1:=hw.fuel;have e:=hw.cost;have:=hw.fr;have:W0.1.size≠w.1.size:=by omega
 have:fuel<(c:Int)+(1+(cn:Int)):=by omega
 have:W0.1.size<w.1.size+1:=by omega
 have:W0.1.size<w.1.size+1+1:=by omega
 have:W0.1.size<w.1.size+1+1+1:=by omega
 obtain⟨a,b⟩:=nm (c+(1+cn));clear hw hf;go_enter func110,ntmps110;go_wp2_with fail;go_region_with (first|(go_at_call 156;refine aQ (Y0 _ so sn sc co cn cc) ?_))
 all_goals
  rw[Jfi hc hn];simp only[b];have:fuel<(a:Int):=by have:=b;omega
  have:(w.setCell (U W0.1.size 2) (G (a:Int))).cell? (U W0.1.size 1)=some (G fuel):=celN (by omega) c1;have:(w.setCell (U W0.1.size 2) (G (a:Int))).cell? (U W0.1.size 2)=some (G (a:Int)):=FW _ _ _ e;go_wp2_with fail;go_quiet (fail);go_wp2_with fail;refine FR (v:=.tuple #[zArr,.agg #[G 10,G p]]) (by simp[results,results110,go_sem,zArr]) rfl ?_;exact⟨((((((Kp.setReader W0 w 2 (G (a:Int))).alloc _).alloc _).alloc _).alloc _).drewN _).four (by omega) _ _ _ _,rfl,(show(10:Int)≠0 by decide),a,((((((d.paid a).alloc _).alloc _).alloc _).alloc _).drewN _).four (by omega) _ _ _ _⟩
theorem J13(P)(W0)(mv)(fuel)(c)(w)(hw:Wk W0 mv fuel c w)(so)(sn sc)(co)(cn cc)(p:Nat)(hc:c<=1000)(hn:cn<=200)(hf:((c+(1+cn):Nat):Int)<=fuel)(a)(ha:IsArr P w (aK so sn sc co cn cc) a)(hP:¬ P W0.1.size):
 Calls prog 110 #[aJ W0.1.size 0,aK so sn sc co cn cc,G 0,G p] w (Jcy P W0 mv fuel w (.inr (a,c+(1+cn)))):=by
 have e:=hw;have:=hw.lt;have c1:=hw.fuel;have f:=hw.cost;have:=hw.fr;have:W0.1.size≠w.1.size:=by omega
 have:(c:Int)+(1+(cn:Int))<=fuel:=by omega
 have:W0.1.size<w.1.size+1:=by omega
 have:W0.1.size<w.1.size+1+1:=by omega
 have:W0.1.size<w.1.size+1+1+1:=by omega
 obtain⟨b,d⟩:=nm (c+(1+cn));clear hw hf;go_enter func110,ntmps110;go_wp2_with fail;go_region_with (first|(go_at_call 156;refine aQ (Y0 _ so sn sc co cn cc) ?_))
 all_goals
  rw[Jfi hc hn];simp only[d];have g:(b:Int)<=fuel:=by have:=d;omega
  have:(w.setCell (U W0.1.size 2) (G (b:Int))).cell? (U W0.1.size 1)=some (G fuel):=celN (by omega) c1;have:(w.setCell (U W0.1.size 2) (G (b:Int))).cell? (U W0.1.size 2)=some (G (b:Int)):=FW _ _ _ f;go_wp2_with fail;go_quiet (fail);go_wp2_with fail;refine FR (by simp[results,results110,go_sem];try rfl) rfl ?_;refine ?_;rw[d];exact J09 (((((((Kp.setReader W0 w 2 (G (b:Int))).alloc _).alloc _).alloc _).alloc _).drewN _).four (by omega) _ _ _ _) (((((((e.paid b).alloc _).alloc _).alloc _).alloc _).drewN _).four (by omega) _ _ _ _) ha hP g
theorem Jb{so:Option Addr}{sn sc:Nat}{co:Option Addr}{cn cc:Nat}(h:IsArr P w (aK so sn sc co cn cc) a):cn=a.cells.length/\sn=a.shape.length:=by
 obtain⟨k,j,i,g,f,e,b,⟨_,_,c,_⟩,⟨_,_,d,_⟩⟩:=h;injection b with b;simp at b c d;exact⟨by rw[b.2.2.1];exact d.2.1,by rw[b.1.2.1];exact c.2.1⟩
theorem Jpz(P)(W0)(mv)(fuel)(c)(w)(hw:Wk W0 mv fuel c w)(v)(r)(p:Nat)(hc:(c:Int)<=fuel)(hfl:fuel<=1000)(ha:IsArr P w v r.1)(hn:r.1.cells.length<=200)(hP:¬ P W0.1.size):
 Calls prog 110 #[aJ W0.1.size 0,v,G r.2,G p] w (Jcy P W0 mv fuel w (payP fuel r p c)):=by
 have i:=ha;obtain⟨h,g,sc,e,a,d,rfl,_,_⟩:=ha;obtain⟨j,_⟩:=Jb i;unfold payP;by_cases b:r.2=0
 .rw [FU (by simpa using b),b];rw[<-j]at hn⊢;by_cases f:fuel<((c+(1+a):Nat):Int)
  .rw [FY f];exact Jvf P W0 mv fuel c w hw h g sc e a d p (by omega) hn f
  rw[FU f];exact J13 P W0 mv fuel c w hw h g sc e a d p (by omega) hn (by omega) r.1 i hP
 rw[FY b];exact Jzv P W0 mv fuel c w hw h g sc e a d r.2 p (by simpa using b)
def Look(P:Nat->Prop)(W0:World)(mv:Value)(env:ByteArray->Option Arr):Prop :=
 ∀t:ByteArray,t.size<=200->∃v,(∀w,J W0 w->(Instr.lookup 87 mv (.string t) true).run prog w=.ok (.tuple #[v,.bool (env t).isSome]) w) /\
  match env t with
  | none=>v=zArr
  | some a=>IsArr P W0 v a
theorem Jtk(P)(W0)(mv)(fuel)(c)(w)(hw:Wk W0 mv fuel c w)(k r x)(t)(p:Nat)
 (hl:∀w,J W0 w->(Instr.lookup 87 mv (aE t) true).run prog w=.ok (.tuple #[zArr,.bool false]) w):
 Calls prog 108 #[aJ W0.1.size 0,.agg #[G k,G r,G x,aE t,G p]] w (Jcy P W0 mv fuel w (.inl (4,p))):=by
 have d:=hw;have:=hw.lt;have:=hw.vals;have:W0.1.size≠w.1.size:=by omega
 have:W0.1.size<w.1.size+1:=by omega
 have:W0.1.size<w.1.size+1+1:=by omega
 have:W0.1.size<w.1.size+1+1+1:=by omega
 unfold zArr at hl;have b:∀w',Below (((w.alloc (.cells #[G k,G r,G x,aE t,G p] 155)).alloc (.cells #[M,M] 89)).alloc (.cells #[G 0,G 0] 117)).1.size (((w.alloc (.cells #[G k,G r,G x,aE t,G p] 155)).alloc (.cells #[M,M] 89)).alloc (.cells #[G 0,G 0] 117)) w'->w'.cell? (adP0 W0)=some mv/\w'.cell? (U w.1.size 3)=some (aE t)/\w'.cell? (U w.1.size 4)=some (G p)/\(Instr.lookup 87 mv (aE t) true).run prog w'=.ok (.tuple #[.agg #[M,M],.bool false]) w':=by
  intro w' a;have e:=((d.alloc (.cells #[G k,G r,G x,aE t,G p] 155)).alloc (.cells #[M,M] 89)).alloc (.cells #[G 0,G 0] 117);have f:=((FQ (w.1.size+1) (w.alloc (.cells #[G k,G r,G x,aE t,G p] 155))).alloc (by simp) (.cells #[M,M] 89)).alloc (by simp) (.cells #[G 0,G 0] 117);refine⟨(e.keep a).vals,?_,?_,hl _ (e.keep a).below⟩
  .exact V a (by simp;omega) ((f.cell (p:=U w.1.size 3) (by simp)).trans (by simp))
  exact V a (by simp;omega) ((f.cell (p:=U w.1.size 4) (by simp)).trans (by simp))
 go_enter func108,ntmps108;go_wp2_with fail;go_region_held3 (fun w'=>w'.cell? (adP0 W0)=some mv/\w'.cell? (U w.1.size 3)=some (aE t)/\w'.cell? (U w.1.size 4)=some (G p)/\(Instr.lookup 87 mv (aE t) true).run prog w'=.ok (.tuple #[.agg #[M,M],.bool false]) w')
  (first|exact b _ aS.drew|exact b _ (belA1).drew)
  (fail)
 all_goals
  have a:=b _ (aS.alloc aT (.cells #[M,M] 89)).drew;obtain⟨_,_,e,_⟩:=a;go_wp2_with fail;go_region
  all_goals
   go_wp2_with fail;refine FR (v:=.tuple #[zArr,.agg #[G 4,G p]]) (by simp[results,results108,go_sem,zArr]) rfl ?_;exact⟨(((((Kp.refl W0 w).alloc _).alloc _).alloc _).alloc _).drew.drew,rfl,(show(4:Int)≠0 by decide),c,((((d.alloc _).alloc _).alloc _).alloc _).drew.drew⟩
theorem Jnz(P)(W0)(mv)(fuel)(c)(w)(hw:Wk W0 mv fuel c w)(k r x)(t)(p:Nat)
 (so) (sn sc) (co) (cn cc) (a) (ha:IsArr P w (aK so sn sc co cn cc) a) (hP:¬ P W0.1.size) (hc:(c:Int)<=fuel)
 (hl:∀w,J W0 w->(Instr.lookup 87 mv (aE t) true).run prog w=.ok (.tuple #[aK so sn sc co cn cc,.bool true]) w):
 Calls prog 108 #[aJ W0.1.size 0,.agg #[G k,G r,G x,aE t,G p]] w (Jcy P W0 mv fuel w (.inr (a,c))):=by
 have e:=hw;have:=hw.lt;have:=hw.vals;have:W0.1.size≠w.1.size:=by omega
 have:W0.1.size<w.1.size+1:=by omega
 have:W0.1.size<w.1.size+1+1:=by omega
 have:W0.1.size<w.1.size+1+1+1:=by omega
 have d:∀w',Below (((w.alloc (.cells #[G k,G r,G x,aE t,G p] 155)).alloc (.cells #[M,M] 89)).alloc (.cells #[G 0,G 0] 117)).1.size (((w.alloc (.cells #[G k,G r,G x,aE t,G p] 155)).alloc (.cells #[M,M] 89)).alloc (.cells #[G 0,G 0] 117)) w'->w'.cell? (adP0 W0)=some mv/\w'.cell? (U w.1.size 3)=some (aE t)/\w'.cell? (U w.1.size 4)=some (G p)/\(Instr.lookup 87 mv (aE t) true).run prog w'=.ok (.tuple #[(agV so sn sc co cn cc),.bool true]) w':=by
  intro w' b;have f:=((e.alloc (.cells #[G k,G r,G x,aE t,G p] 155)).alloc (.cells #[M,M] 89)).alloc (.cells #[G 0,G 0] 117);have g:=((FQ (w.1.size+1) (w.alloc (.cells #[G k,G r,G x,aE t,G p] 155))).alloc (by simp) (.cells #[M,M] 89)).alloc (by simp) (.cells #[G 0,G 0] 117);refine⟨(f.keep b).vals,?_,?_,hl _ (f.keep b).below⟩
  .exact V b (by simp;omega) ((g.cell (p:=U w.1.size 3) (by simp)).trans (by simp))
  exact V b (by simp;omega) ((g.cell (p:=U w.1.size 4) (by simp)).trans (by simp))
 go_enter func108,ntmps108;go_wp2_with fail;go_region_held3 (fun w'=>w'.cell? (adP0 W0)=some mv/\w'.cell? (U w.1.size 3)=some (aE t)/\w'.cell? (U w.1.size 4)=some (G p)/\(Instr.lookup 87 mv (aE t) true).run prog w'=.ok (.tuple #[(agV so sn sc co cn cc),.bool true]) w')
  (first|exact d _ aS.drew|exact d _ (belA1).drew)
  (fail)
 all_goals
  go_wp2_with fail;refine FR (by simp[results,results108,go_sem];try rfl) rfl ?_;refine ?_;exact J09 (((((Kp.refl W0 w).alloc _).alloc _).alloc _).alloc _).drew ((((e.alloc _).alloc _).alloc _).alloc _).drew ha hP hc
theorem Jn0(P)(W0)(mv)(fuel)(c)(w)(hw:Wk W0 mv fuel c w)(k r x)(t)(ht:t.size<=200)(p:Nat)(env)(hl:Look P W0 mv env)(hP:¬ P W0.1.size)(hc:(c:Int)<=fuel):
 Calls prog 108 #[aJ W0.1.size 0,.agg #[G k,G r,G x,aE t,G p]] w (Jcy P W0 mv fuel w (match env t with|none=>.inl (4,p)| some a=>.inr (a,c))):=by
 obtain⟨v,d,b⟩:=hl t ht;cases he:env t with
 | none =>
  rw[he]at d b;simp only at b;subst b;exact Jtk P W0 mv fuel c w hw k r x t p d
 | some a =>
  rw[he]at d b;simp only at b;have e:=b.below hw.below;have i:=e;obtain⟨l,j,sc,h,g,f,rfl,_,_⟩:=e;exact Jnz P W0 mv fuel c w hw k r x t p l j sc h g f a i hP hc d
theorem VK:(prog.info? 3).map (fun i=>(i.zero,i.size,i.bytes))=some (some (G 0),1,8):=by kernel_rfl
theorem Jew{u:Value}(h:(xs.map (Value.int .i64))[j]?=some u):∃hj:j<xs.length,u=G xs[j]:=by
 grind
theorem Jsz(P)(w)(hP:∀b,w.1.size<=b->P b)(v)(xs)(h:Nums Q w v xs)(hx:xs.length<=200):
 Calls prog 80 #[v] w fun e w'=>∃so sn sc,e=aD (E so sn sc)/\Nums P w' (E so sn sc) xs/\J w w':=by
 obtain⟨s,f,rfl,_,u,y⟩:=h;by_cases t:0<xs.length
 .obtain ⟨b,q,rfl,_,_,x⟩:=u t;obtain⟨p,i,m,n,o⟩:=NY VI;refine(VB p (G 0) 1 8 i m n o rfl (by decide) (fun w=>by kernel_rfl) b q xs.length f (xs.map (Value.int .i64)) w (by simp) (by grind[maxLen]) (by omega) ?_ ?_).mono ?_
  .grind
  .intro d c;obtain⟨g,_,rfl⟩:=NZ.1 c;rfl
  rintro e w' ⟨B,rfl,l,_,g⟩;have k:=Jv (P:=P) l hP;obtain⟨c,d,rfl,r⟩:=k;exact⟨c,xs.length,d,rfl,⟨c,d,rfl,r⟩,g⟩
 have z:xs=[]:=NK (by omega);subst z;cases s with
 | none =>
  refine aQ (VD 0 f w) ?_;exact⟨none,0,0,rfl,Ym P _,FQ _ _⟩
 | some a =>
  obtain⟨b,q,A⟩:=a;have x:A=none:=y _ rfl;subst x;obtain⟨p,i,m,n,o⟩:=NY VI;refine(VB p (G 0) 1 8 i m n o rfl (by decide) (fun w=>by kernel_rfl) b q 0 f [] w (by simp) (by omega) (by omega) (fun j d c=>by simp at c) (fun d c=>by simp at c)).mono ?_;rintro e w' ⟨B,rfl,l,_,g⟩;have k:=Jv (P:=P) (xs:=[]) l hP;obtain⟨c,d,rfl,r⟩:=k;exact⟨c,0,d,rfl,⟨c,d,rfl,r⟩,g⟩
theorem J0v(P)(w)(hP:∀b,w.1.size<=b->P b)(v)(xs)(h:Nums Q w v xs)(hx:xs.length<=200):
 Calls prog 79 #[v] w fun e w'=>∃so sn sc,e=aD (E so sn sc)/\Nums P w' (E so sn sc) xs/\J w w':=by
 obtain⟨s,f,rfl,_,x,y⟩:=h;by_cases t:0<xs.length
 .obtain ⟨b,q,rfl,_,_,u⟩:=x t;obtain⟨p,i,m,n,o⟩:=NY VK;refine(QY p (G 0) 1 8 i m n o rfl (by decide) (fun w=>by kernel_rfl) b q xs.length f (xs.map (Value.int .i64)) w (by simp) (by grind[maxLen]) (by omega) ?_ ?_).mono ?_
  .intro j d c;obtain⟨g,rfl⟩:=Jew c;exact u j g
  .intro d c;obtain⟨g,_,rfl⟩:=NZ.1 c;rfl
  rintro e w' ⟨B,rfl,l,_,g⟩;have k:=Jv (P:=P) l hP;obtain⟨c,d,rfl,r⟩:=k;exact⟨c,xs.length,d,rfl,⟨c,d,rfl,r⟩,g⟩
 have z:xs=[]:=NK (by omega);subst z;cases s with
 | none =>
  refine aQ (VC 0 f w) ?_;exact⟨none,0,0,rfl,Ym P _,FQ _ _⟩
 | some a =>
  obtain⟨b,q,A⟩:=a;have u:A=none:=y _ rfl;subst u;obtain⟨p,i,m,n,o⟩:=NY VK;refine(QY p (G 0) 1 8 i m n o rfl (by decide) (fun w=>by kernel_rfl) b q 0 f [] w (by simp) (by unfold maxLen;omega) (by omega) (fun j d c=>by simp at c) (fun d c=>by simp at c)).mono ?_;rintro e w' ⟨B,rfl,l,_,g⟩;have k:=Jv (P:=P) (xs:=[]) l hP;obtain⟨c,d,rfl,r⟩:=k;exact⟨c,0,d,rfl,⟨c,d,rfl,r⟩,g⟩
theorem Fk{x:Int}(hb:w.1.size=b)(hP:P b):Nums P (w.alloc (.cells #[G x] e)) (aI b 0 1 1) [x]:=by
 subst hb;refine⟨some (adP0 w),1,rfl,FP _,fun _=>⟨w.1.size,0,rfl,hP,by simp,fun d c=>?_⟩,fun a c=>by cases c;rfl⟩;simp at c;subst c;simp
theorem No(P)(w)(hP:∀b,w.1.size<=b->P b)(x):
 Calls prog 150 #[G x] w fun e w'=>∃co cn cc,e=aD (.agg #[aH,E co cn cc])/\IsArr P w' (.agg #[aH,E co cn cc]) ⟨[],[x]⟩/\J w w':=by
 go_enter func150,ntmps150;go_wp2_with fail;refine FR (by simp[results,results150,go_sem];try rfl) rfl ?_;refine⟨_,_,_,rfl,⟨_,_,_,_,_,_,rfl,Ym _ _,Fk (by simp) (hP _ (by omega))⟩,?_⟩;exact belA2
theorem Vb(P)(w)(hP:∀b,w.1.size<=b->P b)(v)(xs)(h:Nums P w v xs):
 Calls prog 151 #[v] w fun e w'=>∃so sn sc co cn cc,e=aD (aK so sn sc co cn cc)/\IsArr P w' (aK so sn sc co cn cc) ⟨[xs.length],xs⟩/\J w w':=by
 have a:=h;obtain⟨c,d,rfl,_,_⟩:=h;go_enter func151,ntmps151;go_wp2_with fail;refine FR (by simp[results,results151,go_sem];try rfl) rfl ?_;refine⟨_,_,_,_,_,_,rfl,⟨_,_,_,_,_,_,rfl,Fk (by simp) (hP _ (by omega)),?_⟩,?_⟩
 .exact a.below (belA2)
 exact belA2
theorem Jqj{ws:List Int}(h:IntsIn B w v ws)(hl:∀b,B<b->b<w.1.size->P b):Nums P w v ws:=by
 obtain⟨b,d,rfl,g,e,c,f⟩:=h;exact⟨some (U b 0),d,rfl,g,fun _=>⟨b,0,rfl,hl b e c,c,fun j i=>by rw[ZY];exact f j i⟩,fun a h=>by cases h;rfl⟩
theorem J16(P)(w)(hP:∀b,w.1.size<=b->P b)(b off cap)(x)(hc:w.cell? (U b off)=some (G x))(hb:b<w.1.size):
 Calls prog 107 #[aI b off 1 cap] w fun e w'=>∃so sn sc co cn cc,e=aD (aK so sn sc co cn cc)/\IsArr P w' (aK so sn sc co cn cc) ⟨[],[x]⟩/\J w w':=by
 have g:∀b,w.1.size<=b->P b:=hP;have:(w.alloc (.cells #[M,M] 89)).cell? (U b off)=some (G x):=by rw[Mc _ _ _ hb];exact hc
 go_enter func107,ntmps107;go_wp2_with fail;refine(No (fun b=>P b/\b≠w.1.size) _ (fun b a=>⟨g b (by simp at a;omega),by simp at a;omega⟩) x).mono ?_;rintro e l ⟨co,cn,cc,rfl,j,c⟩;obtain⟨d,f⟩:=Yy c;have d0:=d w.1.size 0 (by simp);have d1:=d w.1.size 1 (by simp);have h:=f w.1.size 0 (by simp);have i:=f w.1.size 1 (by simp);simp at d0 d1 h i;go_wp2_with fail;refine FR (v:=.agg #[M,E co cn cc]) (by simp[results,results107,go_sem,d0,d1]) rfl ⟨_,_,_,_,_,_,rfl,?_,?_⟩
 .exact ((j.set (fun a=>a.2 rfl) 0 _).set (fun a=>a.2 rfl) 1 _).imp (fun b a _=>a.1)
 exact(((belA1).trans (c.mono (by simp))).setCell aT _).setCell aT _
theorem Jz0(P)(w)(hP:∀b,w.1.size<=b->P b)(ao)(cap)(xs)(hx:Nums Q w (E ao xs.length cap) xs)(h1:¬ xs.length=1)(hl:xs.length<=200):
 Calls prog 107 #[E ao xs.length cap] w fun e w'=>∃so sn sc co cn cc,e=aD (aK so sn sc co cn cc)/\IsArr P w' (aK so sn sc co cn cc) ⟨[xs.length],xs⟩/\J w w':=by
 have c:∀b,w.1.size<=b->P b:=hP;have:((xs.length:Int)== 1)=false:=NT.2 (by omega);go_enter func107,ntmps107;go_wp2_with fail;refine(Jsz (fun b=>P b/\b≠w.1.size) _ (fun b a=>⟨c b (by simp at a;omega),by simp at a;omega⟩) _ xs (hx.below (belA1)) hl).mono ?_;rintro e x ⟨so,sn,sc,rfl,p,d⟩;have q:=d.size;simp at q;go_wp2_with fail;refine(Vb (fun b=>P b/\b≠w.1.size) _ (fun b a=>⟨c b (by omega),by omega⟩) _ xs p).mono ?_;rintro e y ⟨t,s,r,k,j,i,rfl,n,o⟩;have f:=Kw d o;obtain⟨g,h⟩:=Yy f;have d0:=g w.1.size 0 (by simp);have d1:=g w.1.size 1 (by simp);have l:=h w.1.size 0 (by simp);have m:=h w.1.size 1 (by simp);simp at d0 d1 l m;go_wp2_with fail;refine FR (v:=(agV t s r k j i)) (by simp[results,results107,go_sem,d0,d1]) rfl ⟨_,_,_,_,_,_,rfl,?_,?_⟩
 .exact ((n.set (fun a=>a.2 rfl) 0 _).set (fun a=>a.2 rfl) 1 _).imp (fun b a _=>a.1)
 exact(((belA1).trans (f.mono (by simp))).setCell aT _).setCell aT _
theorem J17(P)(w)(hP:∀b,w.1.size<=b->P b)(v)(ws)(h:Nums Q w v ws)(h0:0<ws.length)(hl:ws.length<=200):
 Calls prog 107 #[v] w fun e w'=>∃so sn sc co cn cc,e=aD (aK so sn sc co cn cc)/\IsArr P w' (aK so sn sc co cn cc) (Jc2 ws)/\J w w':=by
 have f:=h;obtain⟨d,c,rfl,l,i,m⟩:=h;unfold Jc2;by_cases a:ws.length=1
 .rw [FY a];obtain⟨b,k,rfl,_,g,j⟩:=i h0;match ws,a with
  | [x],_ =>
   exact J16 P w hP b k c x (j 0 (by simp)) g
 rw[FU a];exact Jz0 P w hP d c ws f a hl
end Go.Proofs.YtjobgpahajhbnaaGreatDoor
