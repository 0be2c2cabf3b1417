import Derived.Test.YtjobgpahajhbnaaGreatDoorGj
namespace Go.Proofs.YtjobgpahajhbnaaGreatDoor
open Go.RowKit Go.Proofs Go.Maps Go.Proofs.Tryz
attribute [local go_sem ↓] Go.wp_at_zero Go.wp_at_succ
set_option linter.all false
set_option maxHeartbeats 8000000
variable {A:List (Nat × Nat)} {P:Nat->Prop} {T:List Tok} {a:Arr} {ao:Option Addr} {b:Int} {cap g j j0 k n o size:Nat} {e e0:Ex} {l:List UInt8} {q:Tok} {s t:ByteArray} {v:Value} {w':World} {ys:List Value}
theorem Jzc{T:List (Int × Int)}{st op:Nat}(h:T.length<=j):sc T j st op=(j,st,op):=by
 unfold sc;rw[YP h,scan]
def TokR(s:ByteArray)(A:List (Nat × Nat))(k:Nat)(w:World)(v0:Value):Prop :=
 ∃ao g cap,v0=.slice ao (A.length-k) cap/\(k<A.length->ao=some (U g (2*k))/\g<w.1.size)/\(∀i,(h:i<A.length)->w.cell? (U g (i*2))=some (.string (s.extract A[i].1 A[i].2)))/\∀i,(h:i<A.length)->w.cell? (U g (i*2+1))=some (.int .i64 A[i].1)
def RdOut(s:ByteArray)(A:List (Nat × Nat))(k:Nat)(nm:ByteArray)(p:Int × Int)(w:World)(e:Ending)(w':World):Prop :=
 ∃v0 v3,e=.returned (.tuple #[v0,.int .i64 p.1,.int .i64 p.2,v3])/\J w w'/\(p.1=0->v3=.string nm/\TokR s A k w' v0)
theorem RefIn.tokr{w:World}(h:RefIn w ao g cap s A)(hb:J w w'):TokR s A 0 w' (E ao A.length cap):=by
 by_cases d:0<A.length
 .obtain ⟨rfl,c⟩:=h.addr d;exact⟨_,g,cap,rfl,fun _=>⟨rfl,FT c hb.size⟩,fun b a=>V hb c (h.txt b a),fun b a=>V hb c (h.plc b a)⟩
 exact⟨_,g,cap,rfl,fun h=>absurd h d,fun b a=>absurd a (by omega),fun b a=>absurd a (by omega)⟩
theorem RefIn.tokr2{w:World}(h:RefIn w ao g cap s A)(hb:J w w')(h2:1<A.length)(ao')(c)(ha:2<A.length->ao'=some (U g 4)):TokR s A 2 w' (E ao' (A.length-2) c):=by
 obtain⟨rfl,a⟩:=h.addr (by omega);exact⟨_,g,c,rfl,fun h=>⟨ha h,FT a hb.size⟩,fun d b=>V hb a (h.txt d b),fun d b=>V hb a (h.plc d b)⟩
theorem Ff(s)(A)(w)(hs:s.size<=200)(hA:(lexR s).1=A)(hx:(lexR s).2=-1)(q)(n)
 (hq:A.length<=1/\q=0/\n=⟨#[]⟩\/∃(_:1<A.length) (t0 t1:ByteArray),s.extract (A[0]).1 (A[0]).2=t0/\s.extract (A[1]).1 (A[1]).2=t1/\((t1.toList == [105,115])=false/\q=0/\n=⟨#[]⟩\/0<t0.size/\(t1.toList == [105,115])=true/\(namB t0=false/\q=0/\n=⟨#[]⟩\/namB t0=true/\q=2/\t0=n))):
 Calls prog 65 #[aE s] w (RdOut s A q n (pFin s A (sc (tks s A) q 0 0)) w):=by
 obtain⟨Z,y⟩:=nm (sc (tks s A) q 0 0);rw[y];have Y:=O y;have H:=O hq;clear hq y;change Hid _ at hx;go_enter func65,ntmps65;go_wp2_with fail;refine(Jdb s _ hs).mono ?_;rintro e m ⟨v,rfl,L,r⟩;rw[hx];obtain⟨ao,g,cap,rfl,a⟩:=Juz hs L;rw[hA]at a⊢;clear L;obtain⟨p,hq,rfl⟩| ⟨p,t0,t1,R,S,⟨ab,hq,rfl⟩| ⟨z,ab,⟨x,hq,rfl⟩| ⟨x,hq,rfl⟩⟩⟩:=I H
 all_goals
  clear H;try
   obtain⟨rfl,k⟩:=a.addr (by omega);have:=a.cp;have:=a.few;have W:aB m g 0 (aE t0):=R▸a.txt 0 (by omega);have:aB m g 2 (aE t1):=S▸a.txt 1 p;clear R S
  try
   have:=ne1 t0 z;have:=ne2 t0 z;change Hid _ at x
  have F:=FQ m.1.size m;go_wp2_with fail;try
   refine aR (K5 _ _ z) fun T f=>?_;rw[x];have F:=f;have W:=V f k W;clear f;go_wp2_with fail
  go_loopw [9,11,12] (fun c vs d wr=>∃b st op:Nat,c=G b/\vs=G st/\d=G op/\b<=A.length/\st<=2/\op<=b/\J m wr/\Z=sc (tks s A) b st op) (fun c _ _ _=>A.length-(intOf c).toNat)
  .exact ⟨q,0,0,by rw[hq];rfl,rfl,rfl,by omega,by omega,by omega,F,Y.symm⟩
  obtain⟨b,st,op,rfl,rfl,rfl,aj,ae,ad,K,u⟩:=hrel;have c:=O K;clear K;change Hid _ at u;by_cases l:b<A.length
  .try obtain⟨rfl,k⟩:=a.addr (by omega)
   have aa:=V c k (a.txt b l);obtain⟨t,j⟩:=nm (s.extract A[b].1 A[b].2);have B:Vt t:=j▸a.ok _ (ND l);have N:=B.pos;have Q:=B.few;obtain⟨C,D⟩:=J1r (op:=op) a.ok l ae t j;rw[j]at aa;clear j B;cases hn:nxB st t op
   .have d:=O ((I u).trans (C hn));clear C D;change Hid _ at hn;go_wp2_with fail;refine aR (Jkv _ _ _ _ N Q) fun T f=>?_;have cp:=V f (FT k c.size) (V c k (a.plc b l));rw[hn];have h:(b:Int)<(A.length:Int):=by omega
    go_wp2_with fail;go_quiet (fail);go_wp2_with fail;refine FR (by simp[results,results65,go_sem];try rfl) rfl ?_;rw[d,J0j l];exact⟨_,_,rfl,J00 (J2v r c f) _,fun i=>absurd i (by simp)⟩
   obtain⟨ag,P,af,i,ac⟩:=D hn;generalize h:(bif t.toList == [40]then op+1 else bif t.toList == [41]then op-1 else op)=o at i;have d:=O ((I u).trans i);clear C D i;change Hid _ at P hn;cases e40:(t.toList == [40])<;>cases e41:(t.toList == [41])
   rotate_left 3;exact absurd e41 (by rw[NQ.1 e40];decide)
   all_goals
    rw[e40,e41]at h;have X:=O h;clear h;go_wp2_with fail;refine aR (Jkv _ _ _ _ N Q) fun T f=>?_;rw[hn,P];go_wp2_with fail;go_roundw
    .have h:=I X;simp at h;exact⟨b+1,ag,o,by go_num,rfl,by first|(subst h;rfl)| (have:=ac e41;go_num)| go_num,by omega,af,by omega,Jcv c f,d⟩
    simp[intOf];omega
  have B:b=A.length:=by omega
  have d:=O ((I u).trans (Jzc (by rw[Qr];omega)));rw[B]at d;clear B;cases hs0:((st:Int)== 0)
  .by_cases h:op=0
   .subst h;have j:=O (Jze (s:=s) (A:=A) (st:=st) (op:=0) (by have:=NT.1 hs0;omega) rfl);go_wp2_with fail
    all_goals
     refine FR (by simp[results,results65,go_sem];try rfl) rfl ?_;rw[d,j];try rw[hq]
     exact⟨_,_,rfl,Jcv r c,fun _=>⟨rfl,by first|exact a.tokr c|exact a.tokr2 c p _ _ (fun i=>absurd i (by omega))| exact a.tokr2 c p _ _ (fun _=>rfl)⟩⟩
   have ad:(0:Int)<(op:Int):=by omega
   have j:=O (Jlc (s:=s) (A:=A) (st:=st) (op:=op) (NO (by omega)));go_wp2_with fail;refine FR (by simp[results,results65,go_sem];try rfl) rfl ?_;rw[d,j];exact⟨_,_,rfl,Jcv r c,fun i=>absurd i (by simp)⟩
  have j:=O (Jlc (s:=s) (A:=A) (st:=st) (op:=op) (NN (by have:=NQ.1 hs0;omega)));go_wp2_with fail;refine FR (by simp[results,results65,go_sem];try rfl) rfl ?_;rw[d,j];exact⟨_,_,rfl,Jcv r c,fun i=>absurd i (by simp)⟩
theorem Jqs(h:1<A.length){t0 t1:ByteArray}(h0:s.extract (A[0]).1 (A[0]).2=t0)(h1:s.extract (A[1]).1 (A[1]).2=t1):Q1 (toks s A)=bif namB t0 && t1.toList == [105,115]then t0 else⟨#[]⟩:=by
 grind[toks,Gl,Jcg,Jrg,Q1,Yz]
theorem Jms(h:A.length<=1):Q1 (toks s A)=⟨#[]⟩:=by
 simp_all[Q1,Jrj,Z6]
def RTok(s:ByteArray)(w:World)(e:Ending)(w':World):Prop :=
 ∃v0 v3,e=.returned (.tuple #[v0,.int .i64 (Jr s).1,.int .i64 (Jr s).2,v3])/\J w w'/\((Jr s).1=0->v3=.string (Z2 s)/\TokR s (lexR s).1 (beg (tks s (lexR s).1)) w' v0)
theorem RdOut.tok{nm:ByteArray}{p:Int × Int}{w:World}{e:Ending}(h:RdOut s (lexR s).1 k nm p w e w')(hp:Jr s=p)(hk:beg (tks s (lexR s).1)=k)(hn:Q1 (toks s (lexR s).1)=nm):RTok s w e w':=by
 obtain⟨b,c,d,a,f⟩:=h;refine⟨b,c,by simp_all,a,fun h=>?_⟩;simp_all[Z2]
theorem Jem(s)(w)(hm:s.size<=9223372036854775807):
 Calls prog 65 #[aE s] w (RTok s w):=by
 by_cases f:200<s.size
 .have l:Jr s=(1,0):=by unfold Jr;rw[FY f]
  refine(Jpr s w f hm).mono ?_;rintro e w' ⟨a,d,g,c⟩;exact⟨a,d,by simp_all,c,fun b=>by simp_all⟩
 have f:s.size<=200:=by omega
 by_cases h:(lexR s).2=-1
 .obtain ⟨A,d⟩:=nm ((lexR s).1);have l:Jr s=pFin s (lexR s).1 (sc (tks s (lexR s).1) (beg (tks s (lexR s).1)) 0 0):=by unfold Jr;rw[FU (by omega),FY h]
  have n:=Je0 s f;rw[d]at n;by_cases c:1<A.length
  .obtain ⟨k,i⟩:=nm (s.extract (A[0]).1 (A[0]).2);obtain⟨m,g⟩:=nm (s.extract (A[1]).1 (A[1]).2);have o:=i▸n _ (ND (by omega));have a:=Jxh c i g;have j:=Jqs c i g;cases e1:(m.toList == [105,115])
   .rw [e1,Bool.and_false,NP]at a j;refine(Ff s A w f d h 0 _ (NO ⟨c,k,m,i,g,NN ⟨e1,rfl,rfl⟩⟩)).mono (fun e w' b=>?_);subst d;exact b.tok (by rw[l,a]) a j
   cases en:namB k
   .rw [e1,en]at a j;refine(Ff s A w f d h 0 _ (NO ⟨c,k,m,i,g,NO ⟨o.pos,e1,NN ⟨en,rfl,rfl⟩⟩⟩)).mono (fun e w' b=>?_);subst d;exact b.tok (by simp_all) a j
   rw[e1,en]at a j;refine(Ff s A w f d h 2 k (NO ⟨c,k,m,i,g,NO ⟨o.pos,e1,NO ⟨en,rfl,rfl⟩⟩⟩)).mono (fun e w' b=>?_);subst d;exact b.tok (by simp_all) a j
  have a:=Jhz (T:=tks s A) (by grind[Qr]);refine(Ff s A w f d h 0 _ (NN ⟨by omega,rfl,rfl⟩)).mono (fun e w' b=>?_);subst d;exact b.tok (by rw[l,a]) a (Jms (by omega))
 have l:Jr s=(2,(lexR s).2):=by unfold Jr;rw[FU (by omega),FU h]
 refine(Ju0 s w f h).mono ?_;rintro e w' ⟨a,d,g,c⟩;exact⟨a,d,by simp_all,c,fun b=>by simp_all⟩
theorem Jba(h)(r)(hr:(if h then 1 else 0)=r)(w):Calls prog 168 #[.bool h] w fun e w'=>e=aD (G r)/\w'=w:=by
 subst hr;cases h<;>(go_enter func168,ntmps168;go_wp2;go_ret;exact⟨rfl,rfl⟩)
def Jhc(x y:Int):Int:=if x.tmod y≠0/\decide (x.tmod y<0)≠decide (y<0)then wrap64 (wrap64 (x.tdiv y)-1)else wrap64 (x.tdiv y)
theorem Jdx{x y:Int}(hy:y≠0):(Jhc x y,(0:Int))=Z8 x y:=by
 unfold Jhc Z8;rw[FU hy];by_cases b:x.tmod y=0
 .rw [FU (by simp[b]),FU (by simp[b])]
 have e:decide (x.tmod y<0)=decide (x<0):=by
  by_cases c:x<0
  .have:x.tmod y<=0:=by
    have d:=Int.tmod_nonneg (a:=-x) y (by omega);rw[Int.neg_tmod]at d;omega
   simp[c];omega
  have:=Int.tmod_nonneg (a:=x) y (by omega);simp[c];omega
 rw[e];by_cases c:decide (x<0)≠decide (y<0)
 .rw [FY ⟨b,c⟩,FY ⟨b,c⟩]
 rw[FU (fun k=>c k.2),FU (fun k=>c k.2)]
theorem Jdj(x y)(hy:y≠0)(w):Calls prog 208 #[G x,G y] w fun e w'=>e=aD (G (Jhc x y))/\w'=w:=by
 obtain⟨f,a⟩:=nm (Jhc x y);rw[a];unfold Jhc at a;have d:(y == 0)=false:=by simp[hy]
 go_enter func208,ntmps208;go_wp2
 .rename_i h;exact FR (v:=G (wrap64 (x.tdiv y))) (by simp[results,results208,go_sem]) rfl ⟨by rw[<-a,FU (by rintro⟨b,c⟩;exact b h)],rfl⟩
 .rename_i h;exact FR (v:=G (wrap64 (wrap64 (x.tdiv y)-1))) (by simp[results,results208,go_sem]) rfl ⟨by rw[<-a,FY ⟨by simpa using h.1,by simpa using h.2⟩],rfl⟩
 rename_i h;exact FR (v:=G (wrap64 (x.tdiv y))) (by simp[results,results208,go_sem]) rfl ⟨by rw[<-a,FU (by rintro⟨b,c⟩;rcases h with h|h<;>simp_all)],rfl⟩
structure SgC (c:Int) (f:Int->Int->Int × Int) (z:Int):Prop where
 sgn:sgnB c=true
 pair:∀ a b w,Calls prog 162 #[.int .u8 c,.int .i64 a,.int .i64 b] w fun e w'=>e=.returned (.tuple #[.int .i64 (f a b).1,.int .i64 (f a b).2])/\w'=w
 start:∀ w,Calls prog 209 #[.int .u8 c] w fun e w'=>e=.returned (.int .i64 z)/\w'=w
theorem Jzu:SgC 43 V5 0 where
 sgn:=by decide
 pair:=by
  intro a b w;unfold V5;go_enter func162,ntmps162;go_wp2;go_ret2;exact⟨rfl,rfl⟩
 start:=by
  intro w;go_enter func209,ntmps209;go_wp2;go_ret;exact⟨rfl,rfl⟩
theorem Jvw:SgC 45 Kn 0 where
 sgn:=by decide
 pair:=by
  intro a b w;unfold Kn;go_enter func162,ntmps162;go_wp2;go_ret2;exact⟨rfl,rfl⟩
 start:=by
  intro w;go_enter func209,ntmps209;go_wp2;go_ret;exact⟨rfl,rfl⟩
theorem Jts:SgC 42 Kh 1 where
 sgn:=by decide
 pair:=by
  intro a b w;unfold Kh;go_enter func162,ntmps162;go_wp2;go_ret2;exact⟨rfl,rfl⟩
 start:=by
  intro w;go_enter func209,ntmps209;go_wp2;go_ret;exact⟨rfl,rfl⟩
theorem Jzx:SgC 37 Z8 1 where
 sgn:=by decide
 pair:=by
  intro a b w;by_cases c:b=0
  .subst c;go_enter func162,ntmps162;go_wp2;go_ret2;exact⟨rfl,rfl⟩
  rw[<-Jdx (x:=a) c];have:(b == 0)=false:=by simp[c]
  go_enter func162,ntmps162;go_wp2_with (go_at_call 208;refine aQ (Jdj a b c _) ?_);go_ret2;exact⟨rfl,rfl⟩
 start:=by
  intro w;go_enter func209,ntmps209;go_wp2;go_ret;exact⟨rfl,rfl⟩
theorem Jzg:SgC 124 Qi 0 where
 sgn:=by decide
 pair:=by
  intro a b w;unfold Qi;by_cases c:a=0
  .subst c;go_enter func162,ntmps162;go_wp2;go_ret2;exact⟨rfl,rfl⟩
  rw[FU c,<-Jdx (x:=b) c];have:(a == 0)=false:=by simp[c]
  go_enter func162,ntmps162;go_wp2_with (go_at_call 208;refine aQ (Jdj b a c _) ?_);go_ret2;exact⟨rfl,rfl⟩
 start:=by
  intro w;go_enter func209,ntmps209;go_wp2;go_ret;exact⟨rfl,rfl⟩
theorem Jra:SgC 38 Zk 9223372036854775807 where
 sgn:=by decide
 pair:=by
  intro a b w;unfold Zk;by_cases d:a<b
  .have c:min a b=a:=by omega
   rw[c];go_enter func162,ntmps162;go_wp2;go_ret2;exact⟨rfl,rfl⟩
  have c:min a b=b:=by omega
  rw[c];go_enter func162,ntmps162;go_wp2;go_ret2;exact⟨rfl,rfl⟩
 start:=by
  intro w;go_enter func209,ntmps209;go_wp2;go_ret;exact⟨rfl,rfl⟩
theorem Jm7:SgC 33 Yp (-9223372036854775808) where
 sgn:=by decide
 pair:=by
  intro a b w;unfold Yp;by_cases d:a<b
  .have c:max a b=b:=by omega
   rw[c];go_enter func162,ntmps162;go_wp2;go_ret2;exact⟨rfl,rfl⟩
  have c:max a b=a:=by omega
  rw[c];go_enter func162,ntmps162;go_wp2;go_ret2;exact⟨rfl,rfl⟩
 start:=by
  intro w;go_enter func209,ntmps209;go_wp2;go_ret;exact⟨rfl,rfl⟩
theorem Jza:SgC 61 V2 1 where
 sgn:=by decide
 pair:=by
  intro a b w;unfold V2;obtain⟨d,c⟩:=nm ((if a=b then(1:Int)else 0):Int);simp only[c];go_enter func162,ntmps162;go_wp2_with (go_at_call 168;refine aQ (Jba _ d (by simpa using c) _) ?_);go_ret2;exact⟨rfl,rfl⟩
 start:=by
  intro w;go_enter func209,ntmps209;go_wp2;go_ret;exact⟨rfl,rfl⟩
theorem Jxg:SgC 60 Kv 0 where
 sgn:=by decide
 pair:=by
  intro a b w;unfold Kv;obtain⟨d,c⟩:=nm ((if a<b then(1:Int)else 0):Int);simp only[c];go_enter func162,ntmps162;go_wp2_with (go_at_call 168;refine aQ (Jba _ d (by simpa using c) _) ?_);go_ret2;exact⟨rfl,rfl⟩
 start:=by
  intro w;go_enter func209,ntmps209;go_wp2;go_ret;exact⟨rfl,rfl⟩
def digV(l:List UInt8):Nat:=l.foldl (fun n c=>10*n+(c.toNat-48)) 0
theorem Jcm(l)(c):digV (l++[c])=10*digV l+(c.toNat-48):=by simp[digV]
theorem Jhj:∀k,digV (l.take k)<=digV l:=by
 intro k;have:∀(b a:List UInt8),digV a<=digV (a++b):=by
  intro b;induction b with
  | nil=>intro a;simp
  | cons c b ih =>
   intro a;have:=ih (a++[c]);grind[Jcm]
 grind[List.take_append_drop]
theorem Jfz(t)(w)(hs:t.size<=200)(h0:0<t.size)(hd:∀c ∈ t.data.toList,48<=c.toNat/\c.toNat<=57)(hv:digV t.data.toList<=9223372036854775807):
 Calls prog 119 #[aE t] w fun e w'=>e=aD (G (digV t.data.toList))/\w'=w:=by
 have n:=O hv;have q:t.data.toList.length=t.size:=JX;go_enter func119,ntmps119;go_wp2_with fail;go_loopw [3,4] (fun d b wr=>∃a:Nat,b=G a/\a<=t.size/\d=G (digV (t.data.toList.take a))/\wr=w) (fun _ b _=>t.size-(intOf b).toNat)
 case atStart=>exact⟨0,rfl,by omega,by simp[digV],rfl⟩
 case round =>
  obtain⟨a,rfl,B,rfl,u⟩:=hrel;have x:=u.symm;subst x;by_cases p:a<t.size
  .have j:a<t.data.toList.length:=by rw[q];exact p
   have f:=hd _ (ND j);have d:=Jcm (t.data.toList.take a) (t.data.toList[a]);rw[<-NG j]at d;have k:=Jhj (l:=t.data.toList) (a+1);have g:t[a]=t.data.toList[a]:=by simp;rfl
   have o:=I n;obtain⟨h,b⟩:=nm (digV (t.data.toList.take a));obtain⟨m,r⟩:=nm (digV (t.data.toList.take (a+1)));rw[b]at d⊢;rw[r]at d k;rw[<-g]at d f;obtain⟨c,i⟩:=nm (t[a].toNat);rw[i]at d f;have s:((c:Int)== 95)=false:=by simp;omega
   have:((c:Int) != 95)=true:=by simp;omega
   have:10*h+(c-48)<=9223372036854775807:=by omega
   have:IntKind.u8.wrap ((c:Int)-48)=((c-48:Nat):Int):=by rw[IntKind.wrap_u8];omega
   have:wrap64 (10*(h:Int)+((c-48:Nat):Int))=(m:Int):=by unfold wrap64;omega
   have:Hid (10*(h:Int)+((c-48:Nat):Int)=(m:Int)):=O (by omega);clear b d k o g;go_wp2;go_roundw
   case rel=>grind[I]
   simp[intOf];omega
  .have k:a=t.size:=by omega
   have d:t.data.toList.take a=t.data.toList:=NJ (by omega);rw[d];obtain⟨h,b⟩:=nm (digV t.data.toList);rw[b];have j:=O b;have f:=hd _ (ND (by omega:0<t.data.toList.length));have g:t[0]=t.data.toList[0]'(by omega):=by simp;rfl
   rw[<-g]at f;obtain⟨c,i⟩:=nm (t[0].toNat);rw[i]at f;have s:((c:Int)== 95)=false:=by simp;omega
   have m:¬ (a:Int)<(t.size:Int):=by omega
   clear d b g;go_wp2;exact FR (v:=G h) (by simp[results]) rfl ⟨by rw[I j],(by simp)⟩
theorem Jl5(t)(L)(hL:t.data.toList=95::L)(w)(hs:t.size<=200)(hd:∀c ∈ L,48<=c.toNat/\c.toNat<=57)(hv:digV L<=9223372036854775807):
 Calls prog 119 #[aE t] w fun e w'=>e=aD (G (-(digV L:Int)))/\w'=w:=by
 have k:=O hv;have q:t.data.toList.length=t.size:=JX;have:0<t.size:=by rw[<-q,hL];simp
 have s:t.size=L.length+1:=by rw[<-q,hL];rfl
 have f:t[0].toNat=95:=by
  have g:t[0]=t.data.toList[0]'(by omega):=by simp;rfl
  rw[g];simp[hL]
 go_enter func119,ntmps119;go_wp2_with fail;go_loopw [3,4] (fun d b wr=>∃a:Nat,b=G a/\a<=t.size/\d=G (digV (L.take (a-1)))/\wr=w) (fun _ b _=>t.size-(intOf b).toNat)
 case atStart=>exact⟨0,rfl,by omega,by simp[digV],rfl⟩
 case round =>
  obtain⟨a,rfl,K,rfl,z⟩:=hrel;have A:=z.symm;subst A;by_cases N:a<t.size
  .rcases ZB a with e|e
   .subst e;have r:((t[0].toNat:Int)== 95)=true:=by rw[f];rfl
    have y:((t[0].toNat:Int) != 95)=false:=by rw[f];rfl
    have b:digV (L.take (0-1))=0:=rfl;rw[b];go_wp2;go_roundw
    case rel=>exact⟨1,rfl,by omega,rfl,(by simp)⟩
    simp[intOf];omega
   .obtain ⟨j,rfl⟩:∃j,a=j+1:=⟨a-1,by omega⟩;have o:j<L.length:=by have:=s;omega
    have m:=hd _ (ND o);have d:=Jcm (L.take j) (L[j]);rw[<-NG o]at d;have p:=Jhj (l:=L) (j+1);have g:t[j+1]=L[j]:=by
     have b:t[j+1]=t.data.toList[j+1]'(by omega):=by simp;rfl
     rw[b];simp[hL]
    have u:=I k;obtain⟨h,b⟩:=nm (digV (L.take j));obtain⟨B,i⟩:=nm (digV (L.take (j+1)));have n:j+1-1=j:=by omega
    rw[n,b];rw[b]at d;rw[i]at d p;rw[<-g]at d m;obtain⟨c,x⟩:=nm (t[j+1].toNat);rw[x]at d m;have:=O i;have r:((c:Int)== 95)=false:=by simp;omega
    have y:((c:Int) != 95)=true:=by simp;omega
    have:10*h+(c-48)<=9223372036854775807:=by omega
    have:IntKind.u8.wrap ((c:Int)-48)=((c-48:Nat):Int):=by rw[IntKind.wrap_u8];omega
    have:Hid (10*(h:Int)+((c-48:Nat):Int)=(B:Int)):=O (by omega);clear b i d p u g n;go_wp2;go_roundw
    case rel=>exact⟨j+1+1,by go_num,by omega,by grind[I],(by simp)⟩
    simp[intOf];omega
  .have d:L.take (a-1)=L:=NJ (by omega);rw[d];have i:=I k;obtain⟨h,b⟩:=nm (digV L);rw[b]at i⊢;have g:=O b;have r:((t[0].toNat:Int)== 95)=true:=by rw[f];rfl
   have m:¬ (a:Int)<(t.size:Int):=by omega
   clear d b f;go_wp2;exact FR (v:=G (-(h:Int))) (by simp[results]) rfl ⟨by rw[I g],(by simp)⟩
def NumF(l:List UInt8):Prop:=(∀c ∈ l,dU c=true)/\l≠[]/\val l<=9223372036854775807\/∃L,l=95::L/\(∀c ∈ L,dU c=true)/\val L<=9223372036854775807
theorem Jn6(p):∀(l:List UInt8),∀c ∈ l.takeWhile p,p c=true
 | [],c,h=>by simp at h
 | a::l,c,h=>by
  cases ha:p a with
  | false=>simp_all
  | true =>
   simp only[PY,ha,Pt,JO]at h;rcases h with rfl|h
   .exact ha
   exact Jn6 p l c h
theorem Jh9(p):∀(l:List UInt8),l.take (l.takeWhile p).length=l.takeWhile p
 | []=>rfl
 | c::l=>by
  cases h:p c with
  | false=>simp[h]
  | true=>simp[h,Jh9 p l]
theorem Jgs(h:numE k l=some n):n=k+(l.takeWhile dU).length/\l.takeWhile dU≠[]/\val (l.takeWhile dU)<=9223372036854775807:=by
 simp_all[numE]
theorem J1e(h:tl l=some n)(hn:dU (l.headD 0)=true\/l.headD 0=95):NumF (l.take n):=by
 cases l with
 | nil=>grind[tl]
 | cons c r =>
  simp only[List.headD_cons]at hn;cases hd:dU c with
  | true =>
   simp only[tl,hd,NX]at h;obtain⟨a,d,b⟩:=Jgs h;rw[a,ZY,Jh9];exact NN ⟨Jn6 dU _,d,b⟩
  | false =>
   rcases hn with hn|hn
   .simp_all
   subst hn;have e:numE 1 r=some n:=by
    simp only[tl]at h;rw[show dU 95=false by decide,NP,show((95:UInt8)== 95)=true by decide,NX]at h;exact h
   obtain⟨a,d,b⟩:=Jgs e;rw[a,Hg,JK,Jh9];exact NO ⟨_,rfl,Jn6 dU _,b⟩
def AllF(s:ByteArray)(A:List (Nat × Nat)):Prop:=∀q ∈ A,numB (s.extract q.1 q.2)=true->NumF (s.extract q.1 q.2).data.toList
theorem Jz9(s):∀(f p:Nat) (A:List (Nat × Nat)),AllF s A->AllF s (lexS s f p A).1
 | 0,_,_,h=>h
 | f+1,p,A,h=>by
  unfold lexS;split
  .rename_i hp;cases hb:((s[p].toNat:Int)== 32)
   .rw [NP];cases ht:tl (s.data.toList.drop p)with
    | none=>intro q hq;cases hq
    | some n =>
     apply Jz9 s f;intro q hq;rcases ZK.1 hq with hq|hq
     .exact h q hq
     rw[Mo.1 hq];intro hn;have hbd:=Jls ht;show NumF (s.extract p (p+n)).data.toList;have he:(s.extract p (p+n)).data.toList=(s.data.toList.drop p).take n:=by rw[Zf,JU]
     rw[he];refine J1e ht ?_;have a:hd (s.extract p (p+n))=(((s.data.toList.drop p).headD 0).toNat:Int):=by
      unfold hd;rw[he];cases hl:s.data.toList.drop p with
      | nil=>simp
      | cons c r =>
       obtain⟨k,rfl⟩:∃k,n=k+1:=⟨n-1,by omega⟩;simp
     unfold numB at hn;change(digB (hd (s.extract p (p+n)))|| hd (s.extract p (p+n))== 95)=true at hn;rw[a]at hn;rcases Bool.or_eq_true_iff.1 hn with h1|h1
     .exact NN h1
     refine NO ?_;have:=NQ.1 h1;exact Mt.1 (by grind)
   rw[NX];exact Jz9 s f _ _ h
  exact h
theorem Jsi{c:UInt8}(h:dU c=true):48<=c.toNat/\c.toNat<=57:=by
 grind[dU,digB]
theorem Jdf(t)(w)(hs:t.size<=200)(hn:NumF t.data.toList):
 Calls prog 119 #[aE t] w fun e w'=>e=aD (G (Yq t))/\w'=w:=by
 rcases hn with⟨b,j,f⟩| ⟨i,b,j,f⟩
 .have m:0<t.size:=by
   have:t.data.toList.length=t.size:=JX;rcases ZB t.size with h|h
   .simp_all
   exact h
  have g:Yq t=(digV t.data.toList:Int):=by
   cases hl:t.data.toList with
   | nil=>simp_all
   | cons a r =>
    have c:=b a (by rw[hl];simp);have d:hd t=(a.toNat:Int):=by unfold hd;rw[hl];rfl
    unfold Yq;have:=Jsi c;have k:(hd t == 95)=false:=by rw[d];simp;omega
    have l:digB (hd t)=true:=by rw[d];exact c
    rw[k,NP,l,NX,hl];rfl
  rw[g];exact Jfz t w hs m (fun a c=>Jsi (b a c)) f
 have g:Yq t=-(digV i:Int):=by
  have d:hd t=95:=by unfold hd;rw[b];rfl
  unfold Yq;rw[d,b];rfl
 rw[g];exact Jl5 t i b w hs (fun a c=>Jsi (j a c)) f
structure Tk (q:Tok):Prop where
 vt:Vt q.t
 k:q.k=Ya q.t
 r:q.r=Zt q.t
 x:q.x=Yq q.t
 num:numB q.t=true->NumF q.t.data.toList
theorem Jyt(hs:s.size<=200):∀q ∈ toks s (lexR s).1,Tk q:=by
 intro q a;simp only[toks,NZ]at a;obtain⟨c,b,rfl⟩:=a;exact⟨Je0 s hs c b,rfl,rfl,rfl,Jz9 s s.size 0 [] (fun q a=>by cases a) c b⟩
theorem Jv8:(Ya t == 0)=((hd t == 40)== false && (hd t == 41)== false && numB t):=by
 unfold Ya numB;cases h1:(hd t == 40)with
 | true=>simp
 | false =>
  cases h2:(hd t == 41)with
  | true=>simp
  | false =>
   rw[NP,NP,Bool.or_comm];cases h3:(digB (hd t)|| hd t == 95)with
   | true=>simp
   | false =>
    rw[NP];cases h4:letB (hd t)with
    | false=>simp
    | true =>
     rw[NX];grind[Q9]
theorem Ji0{c:Int}(h:(digB c || c == 95)=true):(c == 40)=false/\(c == 41)=false/\letB c=false/\sgnB c=false:=by
 simp_all[digB,letB,sgnB];omega
theorem Jre:(Ya t == 0)=numB t:=by
 simp_all[Jv8,numB,Ji0]
theorem Jrd(hv:Vt t):(Ya t == 4)=(t.toList == [40]):=by
 cases h1:(hd t == 40)with
 | true =>
  have:=hv.opn h1;simp_all[Ya]
 | false =>
  have a:=Fm t h1;rw[a];unfold Ya;rw[h1,NP];cases h2:(hd t == 41)with
  | true=>rfl
  | false =>
   rw[NP];cases h3:(hd t == 95 || digB (hd t))with
   | true=>rfl
   | false =>
    rw[NP];cases h4:letB (hd t)with
    | false=>rfl
    | true =>
     rw[NX];grind[Q9]
theorem Jmz(hv:Vt t):(Ya t == 5)=(t.toList == [41]):=by
 cases h1:(hd t == 40)with
 | true =>
  have:=hv.opn h1;simp_all[Ya]
 | false =>
  cases h2:(hd t == 41)with
  | true =>
   have:=hv.cls h2;simp_all[Ya]
  | false =>
   have a:=Xk t h2;rw[a];unfold Ya;rw[h1,NP,h2,NP];cases h3:(hd t == 95 || digB (hd t))with
   | true=>rfl
   | false =>
    rw[NP];cases h4:letB (hd t)with
    | false=>rfl
    | true =>
     rw[NX];grind[Q9]
theorem Juq(b)(h:b=1\/b=2):Zc 0 b=false:=by
 rcases h with rfl|rfl<;>decide
theorem J2f(h:amid fnL t=true):letB (hd t)=true:=by
 unfold amid at h;rw[YX]at h;obtain⟨e,a,b⟩:=h;have c:=NQ.1 b;have d:hd t=hd e:=by
  unfold hd;rw[<-YC,<-YC,c]
 rw[d];simp only[fnL,JO,Hd,or_false]at a;rcases a with rfl|rfl|rfl|rfl|rfl|rfl|rfl|rfl|rfl|rfl|rfl|rfl|rfl<;>decide
theorem Jth(h:(Zb t != 0)=true):amid fnL t=true:=by
 simp_all[N4]
theorem J1i(h:Tk q)(hb:b=1\/b=2)(hr:Zc q.r b=true):funB q.t=true/\(q.t.toList == [40])=false/\(q.t.toList == [41])=false:=by
 rw[h.r]at hr;unfold Zt at hr;cases h1:(hd q.t == 40)with
 | true=>simp_all[Juq]
 | false =>
  rw[h1,NP]at hr;cases h2:(hd q.t == 41)with
  | true=>simp_all[Juq]
  | false =>
   rw[h2,NP]at hr;refine⟨?_,Fm _ h1,Xk _ h2⟩;cases h3:(hd q.t == 95 || digB (hd q.t))with
   | true=>simp_all[Juq]
   | false =>
    rw[h3,NP]at hr;cases h4:letB (hd q.t)with
    | true =>
     rw[h4,NX]at hr;unfold funB;rw[Jth,Bool.true_or];refine bne_iff_ne.2 (fun e=>?_);simp_all[Juq]
    | false =>
     unfold funB;rcases h.vt.any with h|h|h|h|h
     .simp_all
     .simp_all
     .simp_all
     .simp_all
     simp_all
theorem Jqm(h1:letB (hd t)=false)(h2:sgnB (hd t)=false):funB t=false:=by
 unfold funB;rw[h2,Bool.or_false];grind[J2f]
theorem Jfp(h:Tk q)(hk:q.k=0):numB q.t=true/\funB q.t=false/\(q.t.toList == [40])=false/\(q.t.toList == [41])=false/\namB q.t=false:=by
 have a:numB q.t=true:=by rw[<-Jre,<-h.k,hk];rfl
 obtain⟨b,c,d,e⟩:=Ji0 a;simp_all[Jqm,Fm,Xk,namB]
theorem Joc(h:Tk q)(hk:q.k=1):namB q.t=true/\funB q.t=false/\(q.t.toList == [40])=false/\(q.t.toList == [41])=false/\numB q.t=false:=by
 have a:namB q.t=true:=by rw[<-Jcg,<-h.k,hk];rfl
 have:=a;unfold namB at a;simp only[ZJ,Bool.not_eq_true']at a;grind[Jq9,letB,Fm,Xk,funB,numB,digB]
theorem Jj7(h:Tk q)(hk:q.k=5):(q.t.toList == [41])=true/\funB q.t=false/\(q.t.toList == [40])=false/\numB q.t=false:=by
 have b:(q.t.toList == [41])=true:=by rw[<-Jmz h.vt,<-h.k,hk];rfl
 have a:hd q.t=41:=Vj q.t 41 [] (NQ.1 b);refine⟨b,Jqm (by rw[a];decide) (by rw[a];decide),by simp_all,by unfold numB;rw[a];decide⟩
theorem Jyy(h:Tk q)(hk:q.k=4):(q.t.toList == [40])=true/\numB q.t=false:=by
 have a:(q.t.toList == [40])=true:=by rw[<-Jrd h.vt,<-h.k,hk];rfl
 have b:hd q.t=40:=Vj q.t 40 [] (NQ.1 a);exact⟨a,by unfold numB;rw[b];decide⟩
inductive Sp (T:List Tok) (o k j0:Nat) (e0:Ex):Nat->Ex->Prop where
 | root:PX T false j0 o e0 k->Sp T o k j0 e0 j0 e0
 | one (j:Nat) (r:Ex):Sp T o k j0 e0 j (.one (tokAt T j).t (tokAt T j).p r)->fB (kr T) j 1=true->PX T false (j+1) o r k->Sp T o k j0 e0 (j+1) r
 | two (j:Nat) (l:Ex) (m:Nat) (r:Ex):Sp T o k j0 e0 j (.two (tokAt T m).t (tokAt T m).p l r)->fB (kr T) j 1=false->PX T true j o l m->fB (kr T) m 2=true->PX T false (m+1) o r k->Sp T o k j0 e0 (m+1) r
theorem Nr{b:Bool}(h:PX T b j o e k):j<k/\k<=T.length:=by
 induction h with
 | nums j o k h1 h2=>omega
 | name j o h1 =>
  obtain⟨a,_⟩:=Jau h1;grind[Z4]
 | paren j o e k h1 h2 h3 h4 ih =>
  obtain⟨a,_⟩:=Jau h4;grind[Z4]
 | one j o r k h1 h2 ih=>omega
 | only j o l k h1 h2 h3 ih=>exact ih
 | two j o l k r m h1 h2 h3 h4 ih1 ih2=>omega
theorem Jt3(h:Sp T o k j0 e0 j e):PX T false j o e k/\j0<=j:=by
 induction h with
 | root h=>simp;omega
 | one j r h1 h2 h3 ih=>grind
 | two j l m r h1 h2 h3 h4 h5 ih=>exact⟨h5,by have:=(Nr h3).1;omega⟩
theorem Jih{T:List Tok}{o k j0:Nat}{e0:Ex}:∀(n:Nat) {j:Nat} {e:Ex},k-j<=n->Sp T o k j0 e0 j e->∃jb b,Sp T o k j0 e0 jb b/\PX T true jb o b k
 | 0,j,e,hn,h=>by have:=(Nr (Jt3 h).1).1;omega
 | n+1,j,e,hn,h=>by
  have hp:=(Jt3 h).1;cases hp with
  | one _ _ r _ h1 h2=>exact Jih n (by omega) (Sp.one j r h h1 h2)
  | only _ _ l _ h1 h2 h3=>grind
  | two _ _ l m r _ h1 h2 h3 h4=>exact Jih n (by have:=(Nr h2).1;omega) (Sp.two j l m r h h1 h2 h3 h4)
theorem Jlw(hT:∀q ∈ T,Tk q)(h:PX T true j o e k):∃hk:k-1<T.length,funB T[k-1].t=false/\(T[k-1].t.toList == [40])=false:=by
 have:=Nr h;have hk:k-1<T.length:=by omega
 refine⟨hk,?_⟩;cases h with
 | nums _ _ _ h1 h2 h3 h4 =>
  have:=h3 (k-1) (by omega) (by omega);simp_all[Gl,Jfp]
 | name _ _ h1 =>
  have a:j<T.length:=by omega
  simp_all[Gl,Joc]
 | paren _ _ _ m h1 h2 h3 h4 =>
  have a:m<T.length:=by omega
  simp_all[Gl,Jj7]
theorem Jej(hT:∀q ∈ T,Tk q)(hb:b=1\/b=2)(h:fB (kr T) j b=true):∃hj:j<T.length,funB T[j].t=true/\(T[j].t.toList == [40])=false:=by
 grind[Jwx,Z4,kr,J1i]
def J07(T:List Tok)(j:Nat):Prop:=j=0\/∃h:j-1<T.length,0<j/\(T[j-1].t.toList == [40])=true
theorem Jkc(hT:∀q ∈ T,Tk q)(h:Sp T o k j0 e0 j e):j=j0\/(0<j/\∃hj:j-1<T.length,funB T[j-1].t=true/\(T[j-1].t.toList == [40])=false):=by
 cases h with
 | root h=>omega
 | one j r h1 h2 h3=>exact NO ⟨by omega,by simpa using Jej hT (NN rfl) h2⟩
 | two j l m r h1 h2 h3 h4 h5=>exact NO ⟨by omega,by simpa using Jej hT (NO rfl) h4⟩
theorem Qt(w)(wb)(e at_ p0)(_hw:wb<w.1.size)(c4:w.cell? (U wb 4)=some (G 0))(c5:w.cell? (U wb 5)=some (G p0))(f4:w.frozen? (U wb 4)=false)(f5:w.frozen? (U wb 5)=false)(he:e≠0):
 Calls prog 88 #[aJ wb 0,G e,G at_] w fun r w'=>r=aD (.tuple #[])/\w'=(w.setCell (U wb 4) (G e)).setCell (U wb 5) (G at_):=by
 have:(e == 0)=false:=by simp[he]
 have:(e != 0)=true:=by simp[he]
 have:(w.setCell (U wb 4) (G e)).cell? (U wb 5)=some (G p0):=celN (by omega) c5;go_enter func88,ntmps88;go_wp2;exact MI (v:=.tuple #[]) (by simp[results]) rfl ⟨rfl,rfl⟩
theorem Fi(w)(wb)(e at_ er)(_hw:wb<w.1.size)(c4:w.cell? (U wb 4)=some (G er))(he:er≠0):
 Calls prog 88 #[aJ wb 0,G e,G at_] w fun r w'=>r=aD (.tuple #[])/\w'=w:=by
 have:(er == 0)=false:=by simp[he]
 go_enter func88,ntmps88;go_wp2;exact MI (v:=.tuple #[]) (by simp[results]) rfl ⟨rfl,rfl⟩
theorem Jdk(w)(wb)(at_)(_hw:wb<w.1.size)(c4:w.cell? (U wb 4)=some (G 0)):
 Calls prog 88 #[aJ wb 0,G 0,G at_] w fun r w'=>r=aD (.tuple #[])/\w'=w:=by
 go_enter func88,ntmps88;go_wp2;exact MI (v:=.tuple #[]) (by simp[results]) rfl ⟨rfl,rfl⟩
def Jtd(w:World)(ao:Option Addr)(ns:List ByteArray):Prop:=0<ns.length->∃b off,ao=some (U b off)/\b<w.1.size/\∀i,(h:i<ns.length)->w.cell? (U b (off+i))=some (.string ns[i])
def Xe(ns:List ByteArray)(t:ByteArray):Int:=match ns.findIdx? (fun x=>x.toList == t.toList)with
 | some i=>(i:Int)
 | none=>-1
theorem Fh(w)(db)(t)(ao)(n cap)(ns)(_hw:db<w.1.size)(c0:w.cell? (U db 0)=some (E ao n cap))(hn:n=ns.length)(hT:Jtd w ao ns)(hl:n<=1000000):
 Calls prog 89 #[aJ db 0,aE t] w fun r w'=>r=aD (G (Xe ns t))/\w'=w:=by
 go_enter func89,ntmps89;go_wp2_with fail;go_loopw [5] (fun a wr=>∃k:Nat,a=G k/\k<=n/\(∀j,(c:j<ns.length)->j<k->(ns[j].toList == t.toList)=false)/\wr=w) (fun a _=>n-(intOf a).toNat)
 .grind
 obtain⟨k,rfl,m,o,g⟩:=hrel;have h:=g.symm;subst h;by_cases f:k<n
 .have e:k<ns.length:=by rw[<-hn];exact f
  obtain⟨b,s,rfl,i,d⟩:=hT (by omega);have:=d k e;have:(0:Int)<=k:=by omega
  have:(k:Int)<n:=by omega
  cases hq:(ns[k].toList == t.toList)
  .go_wp2;go_roundw
   case rel=>exact⟨k+1,by go_num,by omega,fun j c a=>by
    grind,(by simp)⟩
   simp[intOf];omega
  have a:Hid (Xe ns t=(k:Int)):=O (by
   grind[Xe,List.findIdx?_eq_some_iff_getElem])
  go_wp2;exact FR (v:=G k) (by simp[results]) rfl ⟨by rw[a],(by simp)⟩
 have a:Hid (Xe ns t=-1):=O (by
  unfold Xe;rw[List.findIdx?_eq_none_iff.2 (fun e d=>by
   obtain⟨j,c,rfl⟩:=ZS d;grind)])
 have c:¬ (k:Int)<n:=by omega
 go_wp2;exact FR (v:=G (-1)) (by simp[results]) rfl ⟨by rw[a],(by simp)⟩
def Src(w:World)(v:Value)(k size:Nat)(ys:List Value):Prop :=
 ∃xo c,v=.slice xo k c/\ys.length=k*size/\(0<k->∃b off,xo=some (U b off)/\b<w.1.size/\∀j u,ys[j]?=some u->w.cell? (U b (off+j))=some u)
theorem Jxm(b off j):(⟨b,off,none⟩:Addr).add j=⟨b,off+j,none⟩:=by
 simp[Addr.add]
theorem Src.below{w:World}(h:Src w v k size ys)(hb:J w w'):Src w' v k size ys:=by
 obtain⟨p,c,f,g,i⟩:=h;refine⟨p,c,f,g,fun d=>?_⟩;obtain⟨b,n,e,a,l⟩:=i d;exact⟨b,n,e,FT a hb.size,fun j o m=>V hb a (l j o m)⟩
theorem Jy{t e:TypeId}{i0:TypeInfo}{z:Value}{bytes:Nat}(ht:prog.underlying t=some (.slice e))(hi:prog.info? e=some i0)(hz0:i0.zero=some z)(hz1:i0.size=size)(hz2:i0.bytes=bytes)(hzs:z.cells.size=size)(hsz:0<size)
 {ops:Array Oper} {rest:List Oper} {o:Oper} {a:Act} {Q:Exit->Act->World->Prop} (hgd:o.guard=none) (s x) (ho:o.op=.call { callee:=.builtin .append,args:=#[s,x],argTypes:=#[t,t] })
 {B:Nat} {w:World} {sv:Value} {xs:List Value} (h:w.ownsRow B e size v n xs) (hN:Src w sv k size ys) (h1:∀u ∈ ys,u.oneCell'=true) (h63:n+k<=maxLen) (hby:(n+k)*bytes<=140737488355328) (hB:B<=w.1.size) (hs:a.eval s=v) (hv:a.eval x=sv)
 (hk:∀v' w',w'.ownsRow B e size v' (n+k) (xs++ys)->w.grownBy w' v.ownBlock->(v'.ownBlock=v.ownBlock\/v'.ownBlock=some w.1.size)->wpList prog ops Q rest (a.put o.dst v') w'):wpList prog ops Q (o::rest) a w:=by
 obtain⟨q,d,rfl,m,c⟩:=hN;by_cases f:k=0
 .subst f;have l:ys=[]:=NK (by omega);subst l;rw[YU,MQ]at hk;obtain⟨ao,cap,g,rfl,i,-,-⟩:=Yf h;exact Za hgd s x t ho e i0 ht hi ao n cap i hs q d hv (hk _ _ h ⟨rfl,rfl,rfl,FP _,fun _ _ _=>rfl⟩ (NN rfl))
 obtain⟨b,p,rfl,r,y⟩:=c (by omega);refine JE _ hgd s x t ho B e i0 z size bytes ht hi hz0 hz1 hz2 hzs hsz v _ _ hs h ⟨b,p,none⟩ k d ys hv m (fun j u i=>by simp_all[Jxm]) h1 h63 hby hB ?_;intro v' w' i c _ l;exact hk v' w' i c l
theorem GQ:(prog.info? 9).map (fun i=>(i.zero,i.size,i.bytes))=some (some (.string ⟨#[]⟩),1,16):=by kernel_rfl
theorem GR:(prog.info? 133).map (fun i=>(i.zero,i.size,i.bytes))=some (some (.agg aF),2,48):=by kernel_rfl
def Ye(qs:List (Value × Value)):List Value:=qs.flatMap fun q=>[q.1,q.2]
theorem Jc7(a b):Ye (a++b)=Ye a++Ye b:=by simp[Ye]
theorem Jn2(qs)(i)(h:i<qs.length):(Ye qs)[2*i]?=some qs[i].1/\(Ye qs)[2*i+1]?=some qs[i].2:=by
 induction qs generalizing i with
 | nil=>simp at h
 | cons q r ih =>
  cases i with
  | zero=>simp[Ye]
  | succ i =>
   grind[Ye]
theorem Jh7(qs)(i):(Ye qs).take (2*i)=Ye (qs.take i):=by
 induction qs generalizing i with
 | nil=>simp[Ye]
 | cons q r ih =>
  cases i with
  | zero=>simp[Ye]
  | succ i =>
   grind[Ye]
theorem Jh8(qs)(i):(Ye qs).drop (2*i)=Ye (qs.drop i):=by
 induction qs generalizing i with
 | nil=>simp[Ye]
 | cons q r ih =>
  cases i with
  | zero=>simp[Ye]
  | succ i =>
   grind[Ye]
theorem Jlq(qs)(i)(a b):((Ye qs).set (2*i) a).set (2*i+1) b=Ye (qs.set i (a,b)):=by
 induction qs generalizing i with
 | nil=>simp[Ye]
 | cons q r ih =>
  cases i with
  | zero=>simp[Ye]
  | succ i =>
   grind[Ye]
structure RDk (Y:Nat->Prop) (yb:Nat) (F:Int) (nv vv:Value) (ns:List ByteArray) (qs:List (Value × Value)) (zs:List Arr) (w:World):Prop where
 lt:yb<w.1.size
 own:Y yb
 c0:w.cell? (U yb 0)=some nv
 c1:w.cell? (U yb 1)=some vv
 c2:w.cell? (U yb 2)=some (.int .i64 F)
 fr:∀ i,w.frozen? (U yb i)=false
 nown:w.ownsRow 0 9 1 nv ns.length (ns.map Value.string)
 nY:∀ g,nv.ownBlock=some g->Y g/\g≠yb
 vown:w.ownsRow 0 133 2 vv qs.length (Ye qs)
 vY:∀ g,vv.ownBlock=some g->Y g/\g≠yb/\nv.ownBlock≠some g
 len:ns.length=qs.length
 len2:ns.length=zs.length
 arr:∀ i,(h:i<qs.length)->(h2:i<zs.length)->IsArr (fun b=>Y b/\b≠yb/\vv.ownBlock≠some b) w (.agg #[qs[i].1,qs[i].2]) zs[i]
section
variable {Y:Nat->Prop} {yb:Nat} {F:Int} {nv vv:Value} {ns:List ByteArray} {qs:List (Value × Value)} {zs:List Arr} {w:World}
theorem RDk.txts(h:RDk Y yb F nv vv ns qs zs w):∃ao cap,nv=E ao ns.length cap/\Jtd w ao ns:=by
 obtain⟨ao,cap,g,a,d,c,e⟩:=Yf h.nown;refine⟨ao,cap,a,fun b=>?_⟩;grind
theorem RDk.vals(h:RDk Y yb F nv vv ns qs zs w):∃vo cap,vv=E vo qs.length cap/\(0<qs.length->∃g,vo=some (U g 0)/\g<w.1.size/\Y g/\g≠yb/\(∀i,w.frozen? (U g i)=false)/\∀i,(hi:i<qs.length)->w.cell? (U g (2*i))=some qs[i].1/\w.cell? (U g (2*i+1))=some qs[i].2):=by
 obtain⟨j,⟨rfl,d⟩| ⟨g,cap,c,rfl,f,e,k⟩⟩:=h.vown
 .simp_all
 refine⟨_,cap,rfl,fun _=>⟨g,rfl,(h.vown.lt g rfl).2,(h.vY g rfl).1,(h.vY g rfl).2.1,fun i=>h.vown.frozenAt i,fun i hi=>?_⟩⟩;obtain⟨a,b⟩:=Jn2 qs i hi;exact⟨(h.vown.cellAt (2*i) (by omega)).trans a,(h.vown.cellAt (2*i+1) (by omega)).trans b⟩
theorem RDk.below(h:RDk Y yb F nv vv ns qs zs w)(hb:J w w'):RDk Y yb F nv vv ns qs zs w' :=
 ⟨FT h.lt hb.size,h.own,V hb h.lt h.c0,V hb h.lt h.c1,V hb h.lt h.c2,fun i=>bF hb h.lt (h.fr i),Jf h.nown hb,h.nY,Jf h.vown hb,h.vY,h.len,h.len2,fun i h1 h2=>by
  obtain⟨so,sn,sc,co,cn,cc,e,a1,a2⟩:=h.arr i h1 h2;exact⟨so,sn,sc,co,cn,cc,e,a1.below hb,a2.below hb⟩⟩
theorem RDk.imp{Y':Nat->Prop}(h:RDk Y yb F nv vv ns qs zs w)(hy:∀b,Y b->b<w.1.size->Y' b):RDk Y' yb F nv vv ns qs zs w :=
 ⟨h.lt,hy _ h.own h.lt,h.c0,h.c1,h.c2,h.fr,h.nown,fun g hg=>⟨hy g (h.nY g hg).1 (h.nown.lt g hg).2,(h.nY g hg).2⟩,h.vown,fun g hg=>⟨hy g (h.vY g hg).1 (h.vown.lt g hg).2,(h.vY g hg).2⟩,h.len,h.len2,fun i h1 h2=>by
  obtain⟨so,sn,sc,co,cn,cc,e,a1,a2⟩:=h.arr i h1 h2;exact⟨so,sn,sc,co,cn,cc,e,a1.imp (fun b hb hl=>⟨hy b hb.1 hl,hb.2⟩),a2.imp (fun b hb hl=>⟨hy b hb.1 hl,hb.2⟩)⟩⟩
end
theorem J5{w:World}(h:IsArr P w v a){b:Nat}(hb:¬ P b)(i)(u):IsArr P (w.setCell (U b i) u) v a:=by
 obtain⟨k,j,sc,e,d,c,rfl,f,g⟩:=h;exact⟨k,j,sc,e,d,c,rfl,f.set hb i u,g.set hb i u⟩
theorem J9{w:World}(h:IsArr P w v a)(hb:J w w'):IsArr P w' v a:=by
 obtain⟨i,g,sc,d,c,b,rfl,e,f⟩:=h;exact⟨i,g,sc,d,c,b,rfl,e.below hb,f.below hb⟩
theorem RDk.put{Y:Nat->Prop}{yb:Nat}{F:Int}{nv:Value}{ns:List ByteArray}{qs:List (Value × Value)}{zs:List Arr}{w:World}(h:RDk Y yb F nv (aI g 0 n cap) ns qs zs w)(i)(hi:i<qs.length)(p q)(a)(hA:IsArr (fun b=>Y b/\b≠yb/\(aI g 0 n cap).ownBlock≠some b) w (.agg #[p,q]) a):
 RDk Y yb F nv (aI g 0 n cap) ns (qs.set i (p,q)) (zs.set i a) ((w.setCell (U g (i*2)) p).setCell (U g (i*2+1)) q):=by
 obtain⟨u,s,l⟩:=h.vY g rfl;have t:n=qs.length:=by
  obtain⟨d,c,e,-⟩:=h.vals;injection e
 subst t;have m:∀b,(Y b/\b≠yb/\(aI g 0 qs.length cap).ownBlock≠some b)->b≠g:=fun b f e=>f.2.2 (by rw[e];rfl);have c:∀j k:Nat,(⟨yb,j,none⟩:Addr)≠⟨g,k,none⟩:=fun j k e=>by injection e with e;exact s e.symm
 have o:∀{v:Value} {b:Arr},IsArr (fun b=>Y b/\b≠yb/\(aI g 0 qs.length cap).ownBlock≠some b) w v b->IsArr (fun b=>Y b/\b≠yb/\(aI g 0 qs.length cap).ownBlock≠some b) ((w.setCell (U g (i*2)) p).setCell (U g (i*2+1)) q) v b:=fun f=>J5 (J5 f (fun d=>m g d rfl) _ _) (fun d=>m g d rfl) _ _;refine⟨by simpa using h.lt,h.own,?_,?_,?_,fun j=>?_,?_,h.nY,?_,h.vY,by simpa using h.len,by simpa using h.len2,fun j d r=>?_⟩
 .rw [FZ _ _ _ _ (c 0 _).symm,FZ _ _ _ _ (c 0 _).symm];exact h.c0
 .rw [FZ _ _ _ _ (c 1 _).symm,FZ _ _ _ _ (c 1 _).symm];exact h.c1
 .rw [FZ _ _ _ _ (c 2 _).symm,FZ _ _ _ _ (c 2 _).symm];exact h.c2
 .rw [NA,NA];exact h.fr j
 .exact ZH (ZH h.nown (a:=U g (i*2)) l p) (a:=U g (i*2+1)) l q
 .have d:=((h.vown.stored (i*2) p).1.stored (i*2+1) q).1;rw[List.length_set,<-Jlq,ZF 2 i];exact d
 by_cases e:j=i
 .subst e;simp only[List.getElem_set_self];exact o hA
 simp only[List.getElem_set_ne (JC e)];exact o (h.arr j (by simpa using d) (by simpa using r))
theorem Jui{Y:Nat->Prop}{yb:Nat}{F:Int}{nv vv:Value}{ns:List ByteArray}{qs:List (Value × Value)}{zs:List Arr}{w:World}(h:RDk Y yb F nv vv ns qs zs w)(hl:ns.length<=1000000)(t)(v)(a)(hA:IsArr (fun b=>Y b/\b≠yb/\vv.ownBlock≠some b) w v a)(i:Nat)(hi:Xe ns t=(i:Int))(hil:i<ns.length):
 Calls prog 67 #[aJ yb 0,aE t,v] w fun e w'=>e=aD (.tuple #[])/\(∃qs',RDk Y yb F nv vv ns qs' (zs.set i a) w')/\Bs (fun b=>vv.ownBlock=some b) w w':=by
 obtain⟨ao,cap,D,L⟩:=h.txts;obtain⟨ad,ac,q,N⟩:=h.vals;have p:i<qs.length:=by have:=h.len;omega
 obtain⟨g,rfl,B,R,T,x,u⟩:=N (by omega);have A:=hA;obtain⟨n,m,sc,f,d,c,rfl,-,-⟩:=hA;have l:J w (w.alloc (.cells (aL n m sc f d c) 133)):=belA1;have o:=h.below l;have r:=Fh _ yb t ao ns.length cap ns o.lt (by rw[<-D];exact o.c0) rfl (fun y=>by
  obtain⟨b,H,e,s,z⟩:=L y;exact⟨b,H,e,FT s l.size,fun j C=>V l s (z j C)⟩) hl
 rw[hi]at r;have c1:=o.c1;rw[q]at c1;have d0:=(u i p).1;have d1:=(u i p).2;rw[ZF]at d0 d1;have:=x (i*2);have:=x (i*2+1);obtain⟨aa,H⟩:=nm (qs[i].1);obtain⟨ab,K⟩:=nm (qs[i].2);rw[H]at d0;rw[K]at d1;have y:RDk Y yb F nv vv ns (qs.set i (E n m sc,E f d c)) (zs.set i a) ((w.setCell (U g (i*2)) (E n m sc)).setCell (U g (i*2+1)) (E f d c)):=by
  subst q;exact h.put i p _ _ a A
 have z:Bs (fun b=>vv.ownBlock=some b) w ((w.setCell (U g (i*2)) (E n m sc)).setCell (U g (i*2+1)) (E f d c)):=by
  subst q;refine⟨rfl,rfl,rfl,by simp,fun k s C=>?_⟩;have s:k≠g:=fun e=>C (by rw[e];rfl);rw[FV _ _ _ _ s,FV _ _ _ _ s]
 have:(0:Int)<=i:=by omega
 have C:(i:Int)<(qs.length:Int):=by omega
 have:=FT B l.size;have:g≠w.1.size:=by omega
 have:=h.lt;have:yb≠w.1.size:=by omega
 have:g*1=g:=by omega
 generalize qs.length=qn at c1 C;go_enter func67,ntmps67;go_wp2_with fail;refine aR r fun ae s=>?_;subst s;go_wp2_with fail;go_region
 all_goals
  go_wp2;refine FR (results_none rfl _ _ _) rfl ?_;refine ?_;refine⟨rfl,⟨_,y.below ((belA1).drew)⟩,?_⟩;exact z.trans (Bs.of ((belA1).drew)) (fun k _ h=>h)
end Go.Proofs.YtjobgpahajhbnaaGreatDoor
