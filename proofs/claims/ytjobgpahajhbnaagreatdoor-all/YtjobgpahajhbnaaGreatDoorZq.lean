import Derived.Test.YtjobgpahajhbnaaGreatDoorZj
import Derived.Test.YtjobgpahajhbnaaGreatDoorOe
namespace Go.Proofs.YtjobgpahajhbnaaGreatDoor
open Go.RowKit Go.Proofs Go.Maps Go.Proofs.Tryz
attribute [local go_sem ↓] Go.wp_at_zero Go.wp_at_succ
set_option linter.all false
set_option maxHeartbeats 1000000
set_option maxRecDepth 20000
variable {c0 s0 u:Value} {cc cn i j sc sn:Nat} {co so:Option Addr} {cs sh:List Int} {r:Rp} {s:ByteArray} {w1 w2:World}
theorem Jyp:TwoR ⟨#[99,97,116]⟩ (catP):=by
 intro Q a R ad ae n o u x C D;have h:=u;have A:=x;obtain⟨so,sn,sc,co,cn,cc,rfl,S,T⟩:=u;obtain⟨l,j,i,g,f,e,rfl,W,X⟩:=x;obtain⟨Y,Z⟩:=Jb h;have d:=Bx.n3 a (aM so sn sc co cn cc) (aM l j i g f e) aG 133 133 133;have B:a.1.size+3<=(((a.alloc (.cells (aL so sn sc co cn cc) 133)).alloc (.cells (aL l j i g f e) 133)).alloc (.cells aF 133)).1.size:=d.lt;have P:=fun w=>Va (c:=99) (r:=false) (by decide) w;have m:=Jpb (OffB a.1.size 3 Q) (((a.alloc (.cells (aL so sn sc co cn cc) 133)).alloc (.cells (aL l j i g f e) 133)).alloc (.cells aF 133)) (Vd R B) _ _ n o (Jag h d.below) (Jag A d.below) C D;obtain⟨r,F⟩:∃r,(catP) n o=r:=⟨_,rfl⟩;rw[F]at m⊢;clear F h A S T W X Y Z C D B;go_enter func86,ntmps86;go_wp2_with (first|(go_at_call 120;refine aQ (P _) ?_)| (go_at_call 126;refine m.mono ?_;rintro ac w2 ⟨H,K,L,c1,p,s,rfl,t,y⟩;have b:=d.next y;have aa:aB w2 (a.1.size+1+1) 0 aH:=(b.cell 2 0 _ rfl).1;have ab:aB w2 (a.1.size+1+1) 1 aH:=(b.cell 2 1 _ rfl).1;have af:w2.frozen? (U (a.1.size+1+1) 0)=false:=(b.cell 2 0 _ rfl).2;have ag:w2.frozen? (U (a.1.size+1+1) 1)=false:=(b.cell 2 1 _ rfl).2;have N:=t;clear t y));have z:=Jl (q:=2) (k:=3) (u0:=E H K L) (u1:=E c1 p s) b.below (by decide) N;refine FR (v:=.tuple #[aK H K L c1 p s,G r.2]) (by simp[results,results86,go_sem,aa,ab]) rfl ?_;exact⟨_,_,_,_,_,_,rfl,z.1,z.2⟩
theorem Jtr:∀q ∈ toks s (lexR s).1,(Zc q.r 1=true->OneR q.t (f1A q.t))/\(Zc q.r 2=true->TwoR q.t (f2A q.t)):=by
 intro q a;simp only[toks,NZ]at a;obtain⟨p,d,rfl⟩:=a;have c:=Jk0 s s.size 0 [] (fun q a=>by cases a) p d;exact⟨fun b=>J3l (c.one b),fun b=>J3f Jyp (c.two b)⟩
theorem Ju8{S:List Tok}(hS:∀q ∈ S,(Zc q.r 1=true->OneR q.t (f1A q.t))/\(Zc q.r 2=true->TwoR q.t (f2A q.t))){b:Bool}{o k:Nat}{x:Ex}(h:PX S b j o x k):Xw x:=by
 have a:∀{i:Nat} {v:Int},fB (kr S) i v=true->∃q ∈ S,tokAt S i=q/\Zc q.r v=true:=by
  intro i v c;by_cases d:i<S.length
  .grind [J0k,Yz]
  simp_all[fB,Jg1]
 induction h with
 | nums j o k h1 h2 h3 h4=>trivial
 | name j o h1=>trivial
 | paren j o c k h1 h2 h3 h4 ih=>exact ih
 | one j o r k h1 h2 ih =>
  obtain⟨q,d,c,e⟩:=a h1;refine⟨?_,ih⟩;simp_all
 | only j o l k h1 h2 h3 ih=>exact ih
 | two j o l k r m h1 h2 h3 h4 ih1 ih2 =>
  obtain⟨q,d,c,e⟩:=a h3;refine⟨?_,ih1,ih2⟩;simp_all
theorem Jys{w:World}(hE:Evs w)(hm:s.size<=9223372036854775807)(hp:(Jr s).1=0):Zs s (Vi s)/\Good f1A f2A (Vi s)/\Xw (Vi s):=by
 obtain⟨b,w',e,⟨q,_,_,c⟩,_⟩:=Vr s w hE hm [];obtain⟨f,a,_⟩:=c hp;have b:=G4 a;obtain⟨_,d⟩:=Qp hp;rw[<-b];exact⟨a,Jfn d a,Ju8 Jtr a⟩
def Jax:List UInt8->Nat
 | []=>0
 | c::r=>Jax r*27+(c.toNat-96)
theorem Jlh:∀(l:List UInt8),l.all lU=true->Jax l<27 ^ l.length
 | [],_=>by simp[Jax]
 | c::r,h=>by
  simp only[Ph,ZJ]at h;have:=Jlh r h.2;grind[lU,letB,Jax]
theorem Jhn:∀(l k:List UInt8),l.all lU=true->k.all lU=true->Jax l=Jax k->l=k
 | [],[],_,_,_=>rfl
 | [],c::r,_,h,e=>by
  simp_all[lU,letB,Jax];omega
 | c::r,[],h,_,e=>by
  simp_all[lU,letB,Jax];omega
 | c::r,d::t,h,h',e=>by
  simp only[Ph,ZJ]at h h';have:97<=(c.toNat:Int)/\(c.toNat:Int)<=122:=by simpa[lU,letB]using h.1
  have:97<=(d.toNat:Int)/\(d.toNat:Int)<=122:=by simpa[lU,letB]using h'.1
  simp only[Jax]at e;have a:c.toNat=d.toNat:=by omega
  have b:Jax r=Jax t:=by omega
  rw[Jhn r t h.2 h'.2 b,Mt.1 a]
theorem Jgu{α:Type}[DecidableEq α]:∀(l l':List α),l.Nodup->(∀x ∈ l,x ∈ l')->l.length<=l'.length
 | [],_,_,_=>ZL _
 | x::l,l',hn,hs=>by
  obtain⟨h1,h2⟩:=List.nodup_cons.1 hn;have:=hs x (by simp);have:=Jgu l (l'.erase x) h2 (fun y hy=>(List.mem_erase_of_ne (fun e=>h1 (by simp_all))).2 (hs y (by simp[hy])));grind
theorem Jrf{c:UInt8}{r:List UInt8}(h:Ya ⟨(c::r).toArray⟩=1):isFn (c::r)=false:=by
 obtain⟨a1,a2,a3,_⟩:=Gy h;have d:hd ⟨(c::r).toArray⟩=(c.toNat:Int):=by simp[hd]
 have a:letB (c.toNat:Int)=true:=a3;have:97<=(c.toNat:Int)/\(c.toNat:Int)<=122:=by simpa[letB]using a
 have b:digB (c.toNat:Int)=false:=a1;unfold isFn;rw[N4];cases hw:(Zb ⟨(c::r).toArray⟩ != 0)with
 | false=>rfl
 | true =>
  exfalso;unfold Ya at h;rw[d,show((c.toNat:Int)== 40)=false from ZD (by omega),show((c.toNat:Int)== 41)=false from ZD (by omega),show((c.toNat:Int)== 95)=false from ZD (by omega),b,a]at h;simp_all[Q9]
theorem Jce{t:ByteArray}(h:NmT t):t.data.toList.all lU=true/\t.data.toList.length<=4:=by
 have a:=h.tl;have b:=h.kind;have i:t.size=t.data.toList.length:=by rw[JX];rfl
 rw[i]at a;have j:t=⟨t.data.toList.toArray⟩:=ByteArray.ext (by simp);rw[j]at b;generalize t.data.toList=l at a b;cases l with
 | nil=>simp[tl]at a
 | cons c r =>
  obtain⟨a1,a2,a3,_⟩:=Gy b;have f:tl (c::r)=wrdE (c::r):=by simp only[tl,a1,a2,a3,NP,NX]
  rw[f]at a;unfold wrdE at a;by_cases d:4<((c::r).takeWhile lU).length/\isFn ((c::r).take ((c::r).takeWhile lU).length)=false
  .simp only[d,and_self,Pt]at a;cases a
  simp only[FU d]at a;have e:=NS a;have g:(c::r).takeWhile lU=c::r:=by
   have:=Nk (p:=lU) (c::r);rw[e,JV]at this;exact this.symm
  refine⟨?_,?_⟩
  .have:=(Jfh lU (c::r)).1;rw[g]at this;exact this
  rcases YS 4 (c::r).length with h4|h4
  .exfalso;refine d ⟨by rw[e];exact h4,?_⟩;rw[e,JV];exact Jrf b
  exact h4
theorem Fo{env:ByteArray->Option Arr}{ns:List ByteArray}{zs:List Arr}(h:REn env ns zs)(hn:EnvN env):ns.length<=531441:=by
 have a:∀t ∈ ns,NmT t:=fun t b=>by
  obtain⟨i,c,rfl⟩:=Hc.1 b;exact hn _ _ (h.at_ i c (by rw[<-h.len];exact c))
 have:=Jgu (ns.map (fun t=>Jax t.data.toList)) (List.range 531441) (by
  refine Pg.2 (h.srt.imp_of_mem ?_);intro c d g k j e;have f:=Jhn _ _ (Jce (a c g)).1 (Jce (a d k)).1 e;rw[Js4]at j;have:=ByteArray.ext (Array.ext' f);grind) (fun j e=>by
  obtain⟨t,b,rfl⟩:=NZ.1 e;obtain⟨c,d⟩:=Jce (a t b);have f:=Jlh _ c;have g:27 ^ t.data.toList.length<=27 ^ 4:=Mb (by decide) d;simp;omega)
 simp_all
theorem NumsW.self{t:TypeId}{P:Nat->Prop}{w:World}{v:Value}{xs:List Int}(h:NumsW t P w v xs):NumsW t (fun b=>v.ownBlock=some b/\P b) w v xs :=
 ⟨(Jgp h.own).imp (fun b hb _=>⟨hb,h.blk b hb⟩),h.soft,h.own,fun g hg=>⟨hg,h.blk g hg⟩⟩
structure PendR (t:Nat) (col:Nat->Nat) (w:World) (v:Value) (rs:List Rp) (xs:List Rv):Prop where
 len:rs.length=xs.length
 pw:(Rv.all xs).Pairwise DisV
 own:w.ownsRow 0 47 5 v rs.length (rowC rs xs)
 blk:∀ g,v.ownBlock=some g->col g=7
 ns:∀ j,(hi:j<rs.length)->(hx:j<xs.length)->t<=2*j->NumsW 3 (fun b=>col b=7/\v.ownBlock≠some b) w xs[j].vs rs[j].sh
 nc:∀ j,(hi:j<rs.length)->(hx:j<xs.length)->t<=2*j+1->NumsW 2 (fun b=>col b=7/\v.ownBlock≠some b) w xs[j].vc rs[j].cs
theorem NumsW.pass{t:TypeId}{Z:Nat->Prop}{col col':Nat->Nat}{w w':World}{v:Value}{xs:List Int}(h:NumsW t (fun b=>col b=7/\v.ownBlock≠some b) w u xs)(hp:Pass Z col col' w w')(hz:∀b,b<w.1.size->u.ownBlock=some b->¬ Z b):NumsW t (fun b=>col' b=7/\v.ownBlock≠some b) w' u xs:=by
 refine((h.self.imp (Q:=fun b=>(u.ownBlock=some b/\col b=7/\v.ownBlock≠some b)/\b<w.1.size) (fun b a c=>⟨a,c⟩)).keep hp.bs.size (fun b a c=>hp.bs.block b c (hz b c a.1.1))).imp (fun b a _=>?_);exact⟨(hp.same b a.2 (hz b a.2 a.1.1)).trans a.1.2.1,a.1.2.2⟩
theorem Jh1:∀(xs:List Rv) (j:Nat),(hx:j<xs.length)->(Rv.all xs)[2*j]?=some xs[j].vs/\(Rv.all xs)[2*j+1]?=some xs[j].vc
 | [],j,hx=>by simp at hx
 | x::xs,0,_=>⟨rfl,rfl⟩
 | x::xs,j+1,hx=>by
  obtain⟨h1,h2⟩:=Jh1 xs j (by simp_all);have:Rv.all (x::xs)=x.vs::x.vc::Rv.all xs:=rfl;grind
theorem J11{l:List Value}(h:l.Pairwise DisV){v:Value}(hi:l[i]?=some u)(hj:l[j]?=some v)(hij:i<j):DisV u v:=by
 obtain⟨a,rfl⟩:=YO.1 hi;obtain⟨b,rfl⟩:=YO.1 hj;simp_all[Hj]
section
variable {t:Nat} {Z:Nat->Prop} {col col':Nat->Nat} {w w':World} {v:Value} {rs:List Rp} {xs:List Rv}
theorem PendR.pass(h:PendR t col w v rs xs)(hp:Pass Z col col' w w')(hz:∀b,b<w.1.size->Z b->col b≠7):PendR t col' w' v rs xs:=by
 obtain⟨i,k⟩:=V6 h.own h.blk hp hz;exact⟨h.len,h.pw,i,k,fun j a d c=>(h.ns j a d c).pass hp (fun b e f g=>hz b e g ((h.ns j a d c).blk b f).1),fun j a d c=>(h.nc j a d c).pass hp (fun b e f g=>hz b e g ((h.nc j a d c).blk b f).1)⟩
theorem PendR.take(h:PendR t col w v rs xs)(hp:Pass Z col col' w w')(hu:(Rv.all xs)[t]?=some u)(hv:∀g,v.ownBlock=some g->u.ownBlock≠some g)(hz:∀b,b<w.1.size->Z b->u.ownBlock=some b\/(1<=col b/\col b<=6)):PendR (t+1) col' w' v rs xs:=by
 have l:∀b,b<w.1.size->v.ownBlock=some b->¬ Z b:=fun b d a k=>by
  rcases hz b d k with e|e
  .simp_all
  have:=h.blk b a;omega
 refine⟨h.len,h.pw,Ka h.own (fun g a=>hp.bs.block g (h.own.lt g a).2 (l g (h.own.lt g a).2 a)),fun g a=>(hp.same g (h.own.lt g a).2 (l g (h.own.lt g a).2 a)).trans (h.blk g a),fun j f c i=>?_,fun j f c i=>?_⟩
 .refine (h.ns j f c (by omega)).pass hp (fun b d i k=>?_);rcases hz b d k with e|e
  .exact J11 h.pw hu (Jh1 xs j c).1 (by omega) b e i
  have:=((h.ns j f c (by omega)).blk b i).1;omega
 refine(h.nc j f c (by omega)).pass hp (fun b d i k=>?_);rcases hz b d k with e|e
 .exact J11 h.pw hu (Jh1 xs j c).2 (by omega) b e i
 have:=((h.nc j f c (by omega)).blk b i).1;omega
end
open Classical in
noncomputable def colR (col:Nat->Nat) (n κ:Nat) (T:Nat->Prop) (b:Nat):Nat:=if b<n then col b else if T b then 7 else κ
theorem LawP.low6{lb:Nat}{xv yv:Value}{m:Nat}{D:Nat->DS}{col:Nat->Nat}{w:World}(h:LawP lb xv yv m D col w){b:Nat}(hb:col b≠0):6<=b:=by
 rcases YS b 6 with h1|h1
 .exact absurd (h.low b h1) hb
 exact h1
section
variable {lb:Nat} {xv yv:Value} {m:Nat} {D:Nat->DS} {p q:Nat} {col:Nat->Nat} {w:World}
theorem Jzb(h:LSt lb xv yv m D p q col w){k:Nat}(hk:k<m)(ao)(cap)(ls)(hn50:ls.length<=50)(hp:p+ls.length<4000000)(hm:∀s ∈ ls,s.size<=9223372036854775807)(hT:Txts (fun b=>6<=b->NotK (10+2*k) col w b) w ao ls):
 Calls prog 33 #[aJ (D k).db 0,E ao ls.length cap] w fun e w'=>∃v xs col',e=aD v/\Pass (fun b=>col b=10+2*k) col col' w w' /\
  LSt lb xv yv m (upD D k { D k with ce:=Kr (D k).F (D k).ce ls,N:=(D k).N+ls.length }) (p+ls.length) q col' w'/\PendR 0 col' w' v (Qn (D k).F (D k).ce ls) xs:=by
 have c:=h.ok k hk;have:=c.few;refine(Jug c.f0 c.f1 c.cok w ao ls.length cap ls rfl hn50 (by omega) hm hT (h.code k hk)).mono ?_;rintro e w' ⟨v,d,rfl,A,z,f,xs,B,K,u,C,t⟩;have H:∀b,b<w.1.size->colR col w.1.size (10+2*k) d b=col b:=fun b a=>FY a;have r:∀b,w.1.size<=b->d b->colR col w.1.size (10+2*k) d b=7:=fun b a P=>by simp_all[colR,FU]
 have x:Pass (fun b=>col b=10+2*k) col (colR col w.1.size (10+2*k) d) w w':=by
  refine⟨⟨f.os,f.tape,f.output,f.size,fun b a i=>Bs.block f b a (fun g=>i ?_)⟩,fun b a _=>H b a,fun b _ g=>h.law.low6 (by omega)⟩;rcases Nat.decEq (col b) (10+2*k)with e|e
  .exact absurd ⟨g.2,a,e⟩ g.1
  exact e
 have y:Jtf k { D k with ce:=Kr (D k).F (D k).ce ls,N:=(D k).N+ls.length } (colR col w.1.size (10+2*k) d) w':=by
  refine z.less (fun b a=>?_);obtain⟨b1,i,l⟩:=a;by_cases g:b<w.1.size
  .exact A b ⟨b1,g,by simp_all⟩
  simp_all[colR]
 have n:∀b,(d b/\w.1.size<=b/\v.ownBlock≠some b)->colR col w.1.size (10+2*k) d b=7/\v.ownBlock≠some b:=fun b a=>⟨r b a.2.1 a.1,a.2.2⟩
 refine⟨v,xs,_,rfl,x,h.codes hk x (fun _ _ g=>g) rfl rfl rfl rfl rfl ⟨c.f0,c.f1,Gd c.f0 _ _ c.cok,Jr6 _ _ c.cn,c.dok,c.dn,by simp;omega⟩ (by omega) y,B,K,Nu u,fun g o=>r g (u.lt g o).1 (C g o),fun j i l _=>(t j i l).1.imp (fun b a _=>n b a),fun j i l _=>(t j i l).2.imp (fun b a _=>n b a)⟩
theorem J2p(h:LSt lb xv yv m D p q col w){k:Nat}(hk:k<m)(s)(hm:s.size<=9223372036854775807):
 Calls prog 50 #[aJ (D k).yb 0,aE s] w fun e w'=>∃so sn sc co cn cc ns',e=aD (.agg #[G (ansR (D k).de (D k).F s).er,G (ansR (D k).de (D k).F s).at_,E so sn sc,E co cn cc,G (ansR (D k).de (D k).F s).cost]) /\
  Nums (fun b=>colN col w.1.size (11+2*k) b=11+2*k) w' (E so sn sc) (ansR (D k).de (D k).F s).sh/\Nums (fun b=>colN col w.1.size (11+2*k) b=11+2*k) w' (E co cn cc) (ansR (D k).de (D k).F s).cs/\Pass (fun b=>col b=11+2*k) col (colN col w.1.size (11+2*k)) w w' /\
  LSt lb xv yv m (upD D k { D k with de:=envA (D k).de (D k).F s,ns:=ns' }) p q (colN col w.1.size (11+2*k)) w':=by
 have a:=h.ok k hk;obtain⟨t,x,u,y,o,j⟩:=id (h.doc k hk);have:=Fo j a.dn;have l:Evs w:=by
  obtain⟨d,f,c,-⟩:=h.code k hk;exact c.evs
 refine(Jzn (h.doc k hk) a.dok a.f0 a.f1 (by omega) s hm (Jys l hm)).mono ?_;rintro e w' ⟨so,sn,sc,co,cn,cc,ns',rfl,n1,n2,i,c⟩;have d:∀b,(col b=11+2*k\/w.1.size<=b)->colN col w.1.size (11+2*k) b=11+2*k:=fun b c=>by
  grind[Kt,Ku]
 have f:Pass (fun b=>col b=11+2*k) col (colN col w.1.size (11+2*k)) w w':=⟨c,fun b n _=>Kt n,fun b _ g=>h.law.low6 (by omega)⟩;exact⟨so,sn,sc,co,cn,cc,ns',rfl,n1.imp (fun b c _=>d b c),n2.imp (fun b c _=>d b c),f,h.docs hk f (fun _ _ g=>g) rfl rfl rfl rfl rfl ⟨a.f0,a.f1,a.cok,a.cn,Jr7 a.f0 a.dok,Jx7 a.dn,a.few⟩ (i.imp (fun b c _=>d b c))⟩
theorem Jqq(h:LSt lb xv yv m D p q col w){k:Nat}(hk:k<m)(hs:(D k).ce=(D k).de):
 Calls prog 31 #[aJ (D k).db 0] w fun e w'=>∃v,e=aD v/\w'.ownsRow w.1.size 9 1 v (D k).ns.length ((D k).ns.map Value.string)/\J w w':=by
 obtain⟨n,r,o,s,j,a⟩:=id (h.doc k hk);have:=Fo a (h.ok k hk).dn;have f:Ks (D k).ce (D k).ns.length ((D k).ns.map (fun t=>t.data.toList)):=by
  refine⟨?_,fun g=>?_,by simp⟩
  .refine Pg.2 (a.srt.imp ?_);grind[ByteArray.ext,Array.ext',Jyf]
  rw[hs];constructor
  .intro b;obtain⟨t,c,rfl⟩:=NZ.1 b;obtain⟨i,d,rfl⟩:=Hc.1 c;have:=a.at_ i d (by rw[<-a.len];exact d);simp_all
  intro b;refine JJ (fun d=>?_);rw[a.out ⟨List.toArray g⟩ (fun t c e=>d (NZ.2 ⟨t,c,by rw[e]⟩))]at b;cases b
 have c:((D k).ns.map (fun t=>t.data.toList)).mergeSort leB=(D k).ns.map (fun t=>t.data.toList):=by
  refine List.mergeSort_of_pairwise (Pg.2 (a.srt.imp ?_));intro d g b;rw[Js4,YC,YC]at b;exact MV (List.le_of_lt (YB b))
 refine(Jz4 (h.code k hk) f c (by omega)).mono ?_;rintro e w' ⟨v,rfl,d,b⟩;refine⟨v,rfl,?_,b⟩;simp_all[YZ]
end
theorem Juf(db)(ao)(n cap)(w)(hn:50<n):Calls prog 33 #[aJ db 0,E ao n cap] w fun e w'=>e=aD aH/\w'=w:=by
 have:(50:Int)<n:=by omega
 go_enter func33,ntmps33;go_wp2;go_ret;simp
def runs(ls:List ByteArray):List ByteArray:=if ls.length<=50 then ls else[]
section
variable {lb:Nat} {xv yv:Value} {m:Nat} {D:Nat->DS} {p q:Nat} {col:Nat->Nat} {w:World}
theorem Juh(h:LSt lb xv yv m D p q col w){k:Nat}(hk:k<m)(ao)(cap)(ls)(hp:p+ls.length<4000000)(hm:∀s ∈ ls,s.size<=9223372036854775807)(hT:Txts (fun b=>6<=b->NotK (10+2*k) col w b) w ao ls):
 Calls prog 33 #[aJ (D k).db 0,E ao ls.length cap] w fun e w'=>∃v xs col',e=aD v/\Pass (fun b=>col b=10+2*k) col col' w w' /\
  LSt lb xv yv m (upD D k { D k with ce:=Kr (D k).F (D k).ce (runs ls),N:=(D k).N+(runs ls).length }) (p+ls.length) q col' w'/\PendR 0 col' w' v (Qn (D k).F (D k).ce (runs ls)) xs:=by
 by_cases c:ls.length<=50
 .have e:runs ls=ls:=FY c;rw[e];exact Jzb h hk ao cap ls c hp hm hT
 have e:runs ls=[]:=FU c;rw[e];have a:=h.ok k hk;have:=a.few;refine(Juf _ ao ls.length cap w (by omega)).mono ?_;rintro e w' ⟨rfl,rfl⟩;have f:Pass (fun b=>col b=10+2*k) col col w' w':=⟨Bs.of aS,fun _ _ _=>rfl,fun b _ d=>h.law.low6 (by omega)⟩;refine⟨_,[],col,rfl,f,h.codes hk f (fun _ _ d=>d) rfl rfl rfl rfl rfl ⟨a.f0,a.f1,a.cok,a.cn,a.dok,a.dn,by simp;omega⟩ (by omega) (h.code k hk),rfl,PF,NW _ _ _ _,(fun g d=>by cases d),(fun j d=>absurd d (JR j)),(fun j d=>absurd d (JR j))⟩
end
theorem Jp9{w:World}{g n:Nat}{e:TypeId}{xs:List Value}(h:w.heap[g]?=some (.cells xs.toArray e (0,0)))(hl:xs.length=n)(hn:n<=maxLen):w.ownsRow 0 e 1 (aI g 0 n n) n xs :=
 ⟨by omega,NO ⟨g,n,xs.toArray,rfl,ZL _,h,FP _,hn,by simp[hl],by grind⟩⟩
theorem Zv{Z:Nat->Prop}{κ:Nat}{col col':Nat->Nat}{w w':World}{ao:Option Addr}{ls:List ByteArray}(h:Txts (fun b=>col b=κ) w ao ls)(hp:Pass Z col col' w w')(hz:∀b,b<w.1.size->Z b->col b≠κ):Txts (fun b=>col' b=κ) w' ao ls:=fun h0=>by
 obtain⟨b,off,e,hc,hl,hcell⟩:=h h0;obtain⟨h3,h4⟩:=hp.block hz hl hc;grind[World.cell?_of_block]
theorem Pass.zero{Z:Nat->Prop}{col col':Nat->Nat}{w w':World}(hp:Pass Z col col' w w')(hz:∀b,b<w.1.size->Z b->col b≠0)(h6:∀b,b<6->col b=0):Pass (fun b=>col b≠0) col col' w w':=by
 refine⟨⟨hp.bs.os,hp.bs.tape,hp.bs.output,hp.bs.size,fun b a c=>hp.bs.block b a (fun d=>c (hz b a d))⟩,fun b a c=>hp.same b a (fun d=>c (hz b a d)),fun b _ c=>?_⟩;grind
theorem Pass.trans{col col1 col2:Nat->Nat}{w:World}(h:Pass (fun b=>col b≠0) col col1 w w1)(h':Pass (fun b=>col1 b≠0) col1 col2 w1 w2):Pass (fun b=>col b≠0) col col2 w w2:=by
 have g:=h.bs.size;have d:∀b,b<w.1.size->¬ col b≠0->¬ col1 b≠0:=fun b c a f=>f ((h.same b c a).trans (JJ (fun e=>a e)));exact⟨⟨h'.bs.os.trans h.bs.os,h'.bs.tape.trans h.bs.tape,h'.bs.output.trans h.bs.output,NE g h'.bs.size,fun b c a=>(h'.bs.block b (by omega) (d b c a)).trans (h.bs.block b c a)⟩,fun b c a=>(h'.same b (by omega) (d b c a)).trans (h.same b c a),h.low⟩
theorem Pass.id(col)(w)(h6:∀b,b<6->col b=0):Pass (fun b=>col b≠0) col col w w:=(⟨Bs.of aS,fun _ _ _=>rfl,fun _ _ h=>h.elim⟩:Pass (fun _=>False) col col w w).zero (fun _ _ h=>h.elim) h6
theorem FJ:(prog.info? 9).map (·.size)=some 1:=by kernel_rfl
def tNy:ByteArray:=⟨#[110,111,116,32,121,111,117,114,115]⟩
noncomputable def afD (D:Nat->DS) (k:Nat) (ls:List ByteArray):Nat->DS:=upD D k { D k with ce:=Kr (D k).F (D k).ce (runs ls),N:=(D k).N+(runs ls).length }
def rowL(i:Nat)(ls:List ByteArray):List Value:=List.replicate i (.string ⟨#[49]⟩)++((ls.drop i).map Value.string++[.string tNy,.string ⟨#[]⟩])
theorem Jzd{ls:List ByteArray}(h:i<ls.length):(rowL i ls)[i]?=some (aE ls[i]):=by
 unfold rowL;grind
theorem Jo5{ls:List ByteArray}(h:i<=ls.length):(rowL i ls)[ls.length]?=some (aE tNy)/\(rowL i ls)[ls.length+1]?=some (.string ⟨#[]⟩):=by
 grind[rowL]
theorem Jun{ls:List ByteArray}(h:i<ls.length):(rowL i ls).set i (.string ⟨#[49]⟩)=rowL (i+1) ls:=by
 unfold rowL;rw[MG _ _ (by simp),YI,Ps,ZC h,Mv,Mk,List.set_cons_zero,List.replicate_succ',M6];rfl
def AftR(lb:Nat)(xv yv:Value)(m:Nat)(D:Nat->DS)(k p q:Nat)(ls:List ByteArray)(lo:Option Addr)(col:Nat->Nat)(w:World)(i:Nat)(v:Value)(w':World):Prop :=
 ∃xs col1,LSt lb xv yv m (afD D k ls) (p+ls.length) q col1 w'/\PendR 0 col1 w' v (Qn (D k).F (D k).ce (runs ls)) xs/\Txts (fun b=>col1 b=0) w' lo ls/\Pass (fun b=>col b≠0) col col1 w w'/\col1 w.1.size=16/\w'.ownsRow 0 9 1 (aI w.1.size 0 (ls.length+2) (ls.length+2)) (ls.length+2) (rowL i ls)
section
variable {lb:Nat} {xv yv:Value} {m:Nat} {D:Nat->DS} {p q:Nat} {col:Nat->Nat} {w:World} {k:Nat} {ls:List ByteArray} {lo:Option Addr}
theorem J05(h:LSt lb xv yv m D p q col w)(hk:k<m)(hp:p+ls.length<4000000)(hm:∀s ∈ ls,s.size<=9223372036854775807)(hT:Txts (fun b=>col b=0) w lo ls){w':World}(hb:J w w')(hA:w'.ownsRow 0 9 1 (aI w.1.size 0 (ls.length+2) (ls.length+2)) (ls.length+2) (rowL 0 ls)):
 Calls prog 33 #[aJ (D k).db 0,aI w.1.size 0 ls.length (ls.length+2)] w' fun e w''=>∃ao cap,e=aD (E ao (runs ls).length cap)/\AftR lb xv yv m D k p q ls lo col w 0 (E ao (runs ls).length cap) w'':=by
 have d:=h.below hb 16;have few:=h.law.few;have:=h.law.six;have:=h.law.lt;have j:=Pass.new (col:=col) hb 16;refine(Juh d hk (some (adP0 w)) (ls.length+2) ls hp hm (fun a=>⟨w.1.size,0,rfl,fun _=>⟨by omega,(hA.lt _ rfl).2,by simp[Ku];omega⟩,(hA.lt _ rfl).2,fun i c=>?_⟩)).mono ?_
 .rw [ZY,hA.cellAt i (by omega)];simp_all[rowL,ZU]
 rintro e w'' ⟨v,xs,o,rfl,c,x,f⟩;have y:=Qb (D k).F (runs ls) (D k).ce;obtain⟨ao,cap,r,l,-⟩:=Yf f.own;rw[y]at l;subst l;have n:∀a,a≠10+2*k->∀b,b<w'.1.size->colN col w.1.size 16 b=10+2*k->colN col w.1.size 16 b≠a:=fun a A b _ e=>by omega
 obtain⟨t,u⟩:=V6 (κ:=16) hA (fun r g=>by injection g with g;simp_all[Ku]) c (n 16 (by omega));exact⟨ao,cap,rfl,xs,o,x,f,Zv (Zv hT j (fun _ _ h=>h.elim)) c (n 0 (by omega)),(j.zero (fun _ _ h=>h.elim) h.law.low).trans (c.zero (fun b _ e=>by omega) d.law.low),u _ rfl,t⟩
theorem Jxl{v:Value}{wr w':World}(h:AftR lb xv yv m D k p q ls lo col w i v wr)(hi:i<ls.length)(hb:J wr w')(h6:6<=w.1.size):AftR lb xv yv m D k p q ls lo col w (i+1) v (w'.setCell (U w.1.size i) (.string ⟨#[49]⟩)):=by
 obtain⟨xs,e,g,l,n,o,r,f⟩:=h;have:=(f.lt _ rfl).2;have d:Pass (fun a=>a=w.1.size) e (colN e wr.1.size 0) wr (w'.setCell (U w.1.size i) (.string ⟨#[49]⟩)):=by
  refine⟨⟨hb.os,hb.tape,hb.output,by simpa using hb.size,fun a b c=>?_⟩,fun a b _=>Kt b,fun a _ c=>by omega⟩;rw[FV _ _ _ _ c];exact hb.block a b
 have j:∀a,a<wr.1.size->a=w.1.size->e a=16:=fun a _ c=>by simp_all
 refine⟨xs,_,g.pass d (fun a b c=>NO (NO (j a b c))),l.pass d (fun a b c=>by grind),Zv n d (fun a b c=>by grind),o.trans (d.zero (fun a b c=>by grind) g.law.low),?_,?_⟩
 .grind [Kt]
 have:=((Jf f hb).stored i (.string ⟨#[49]⟩)).1;simp_all[Jun]
end
theorem Nh(F):∀(l:List ByteArray) (env:ByteArray->Option Arr) (i:Nat) (hi:i<l.length),(Qn F env l)[i]?=some (ansR (Kr F env (l.take i)) F l[i])
 | [],_,i,hi=>by simp at hi
 | s::r,env,0,_=>rfl
 | s::r,env,i+1,hi=>by
  show(ansR env F s::Qn F (envA env F s) r)[i+1]?=_;rw[List.getElem?_cons_succ,Nh F r (envA env F s) i (by simp_all)];rfl
structure DkI (D D1:Nat->DS) (k:Nat) (ls:List ByteArray) (E':ByteArray->Option Arr):Prop where
 oth:∀ j,j≠k->D1 j=D j
 db:(D1 k).db=(D k).db
 yb:(D1 k).yb=(D k).yb
 F:(D1 k).F=(D k).F
 ce:(D1 k).ce=Kr (D k).F (D k).ce ls
 de:(D1 k).de=E'
def AftG(lb:Nat)(xv yv:Value)(m:Nat)(D:Nat->DS)(k p:Nat)(ls:List ByteArray)(lo:Option Addr)(col:Nat->Nat)(w:World)(v:Value)(xs:List Rv)(t qq:Nat)(E':ByteArray->Option Arr)(w':World):Prop :=
 ∃col1 D1,LSt lb xv yv m D1 (p+ls.length) qq col1 w'/\PendR t col1 w' v (Qn (D k).F (D k).ce ls) xs/\Txts (fun b=>col1 b=0) w' lo ls/\Pass (fun b=>col b≠0) col col1 w w'/\DkI D D1 k ls E'
section
variable {lb:Nat} {xv yv:Value} {m:Nat} {D:Nat->DS} {p:Nat} {col:Nat->Nat} {w:World} {k:Nat} {ls:List ByteArray} {lo:Option Addr} {v:Value} {xs:List Rv} {t qq:Nat} {E':ByteArray->Option Arr} {wr:World}
theorem AftG.below(h:AftG lb xv yv m D k p ls lo col w v xs t qq E' wr){w':World}(hb:J wr w'):AftG lb xv yv m D k p ls lo col w v xs t qq E' w':=by
 obtain⟨c,D1,b,e,f,g,d⟩:=h;have a:=Pass.new (col:=c) hb 0;exact⟨_,D1,b.pass a (fun _ _ h=>h.elim),e.pass a (fun _ _ h=>h.elim),Zv f a (fun _ _ h=>h.elim),g.trans (a.zero (fun _ _ h=>h.elim) b.law.low),d⟩
structure RdS (lb:Nat) (gy m yc:Nat) (yb k:Nat) (lo:Option Addr) (ls:List ByteArray) (i:Nat) (w':World):Prop where
 c1:w'.cell? (U lb 1)=some (aI gy 0 m yc)
 c2:w'.cell? (U gy k)=some (aJ yb 0)
 c3:∃ b off,lo=some (U b off)/\∃ h:i<ls.length,w'.cell? (U b (off+i))=some (.string ls[i])
theorem AftG.reads{gy yc:Nat}(h:AftG lb xv (aI gy 0 m yc) m D k p ls lo col w v xs t qq E' wr)(hk:k<m)(hi:i<ls.length):RdS lb gy m yc (D k).yb k lo ls i wr:=by
 obtain⟨j,D1,a,l,e,n,d⟩:=h;obtain⟨b,g,c,-,-,f⟩:=e (by omega);refine⟨a.law.c1,?_,b,g,c,hi,f i hi⟩;rw[a.law.yrow.cellAt k (by omega),Jb2 hk,d.yb]
theorem AftG.row{gv cap:Nat}(h:AftG lb xv yv m D k p ls lo col w (aI gv 0 ls.length cap) xs t qq E' wr)(hi:i<ls.length):
 ∃hx:i<xs.length,wr.cell? (U gv (i*5))=some (G (ansR (Kr (D k).F (D k).ce (ls.take i)) (D k).F ls[i]).er)/\wr.cell? (U gv (i*5+1))=some (G (ansR (Kr (D k).F (D k).ce (ls.take i)) (D k).F ls[i]).at_)/\wr.cell? (U gv (i*5+2))=some (.slice xs[i].so xs[i].sn xs[i].sc)/\wr.cell? (U gv (i*5+3))=some (.slice xs[i].co xs[i].cn xs[i].cc)/\wr.cell? (U gv (i*5+4))=some (G (ansR (Kr (D k).F (D k).ce (ls.take i)) (D k).F ls[i]).cost):=by
 obtain⟨l,D1,o,c,q,r,n⟩:=h;have g:=Qb (D k).F ls (D k).ce;have d:i<(Qn (D k).F (D k).ce ls).length:=by omega
 have hx:i<xs.length:=by rw[<-c.len];exact d
 have b:=Nh (D k).F ls (D k).ce i hi;rw[FX d]at b;injection b with b;have a:∀j,j<5->wr.cell? (U gv (i*5+j))=(Gq (Qn (D k).F (D k).ce ls)[i] xs[i])[j]?:=fun j f=>by
  have e:=c.own;rw[g]at e;rw[e.cellAt _ (by omega),ZF i 5];exact Jo6 _ _ c.len i d hx j f
 rw[b]at a;have e:=a 0 (by omega);rw[MQ]at e;exact⟨hx,e,a 1 (by omega),a 2 (by omega),a 3 (by omega),a 4 (by omega)⟩
theorem AftG.lists(h:AftG lb xv yv m D k p ls lo col w v xs t qq E' wr)(hi:i<ls.length)(hx:i<xs.length)(ht:t<=2*i):Nums (fun _=>True) wr (.slice xs[i].so xs[i].sn xs[i].sc) (ansR (Kr (D k).F (D k).ce (ls.take i)) (D k).F ls[i]).sh/\Nums (fun _=>True) wr (.slice xs[i].co xs[i].cn xs[i].cc) (ansR (Kr (D k).F (D k).ce (ls.take i)) (D k).F ls[i]).cs:=by
 obtain⟨f,D1,j,e,l,o,g⟩:=h;have:=Qb (D k).F ls (D k).ce;have b:i<(Qn (D k).F (D k).ce ls).length:=by omega
 have a:=Nh (D k).F ls (D k).ce i hi;rw[FX b]at a;injection a with a;have c:=e.ns i b hx ht;have d:=e.nc i b hx (by omega);rw[a]at c d;exact⟨c.nums.imp (fun _ _ _=>trivial),d.nums.imp (fun _ _ _=>trivial)⟩
def MidW(lb:Nat)(xv yv:Value)(m:Nat)(D:Nat->DS)(k p:Nat)(ls:List ByteArray)(lo:Option Addr)(col:Nat->Nat)(w:World)(v:Value)(xs:List Rv)(t qq:Nat)(E':ByteArray->Option Arr)(wr w1:World)(s0 c0:Value)(sh cs:List Int)(w2:World):Prop :=
 ∃col1 D1,LSt lb xv yv m D1 (p+ls.length) qq col1 w2/\PendR t col1 w2 v (Qn (D k).F (D k).ce ls) xs/\Txts (fun b=>col1 b=0) w2 lo ls/\Pass (fun b=>col b≠0) col col1 w w2/\DkI D D1 k ls E'/\Nums (fun b=>col1 b=11+2*k) w2 s0 sh/\Nums (fun b=>col1 b=11+2*k) w2 c0 cs/\(∀b,wr.1.size<=b->b<w1.1.size->col1 b=16/\w2.heap[b]?=w1.heap[b]?)/\w1.1.size<=w2.1.size
theorem J2o(h:AftG lb xv yv m D k p ls lo col w v xs t qq E' wr)(hk:k<m)(s)(hm:s.size<=9223372036854775807)(hb:J wr w1):
 Calls prog 50 #[aJ (D k).yb 0,aE s] w1 fun e w2=>∃so sn sc co cn cc,e=aD (.agg #[G (ansR E' (D k).F s).er,G (ansR E' (D k).F s).at_,E so sn sc,E co cn cc,G (ansR E' (D k).F s).cost])/\MidW lb xv yv m D k p ls lo col w v xs t qq (envA E' (D k).F s) wr w1 (E so sn sc) (E co cn cc) (ansR E' (D k).F s).sh (ansR E' (D k).F s).cs w2:=by
 obtain⟨d,D1,i,x,z,B,a⟩:=h;have f:=Pass.new (col:=d) hb 16;have n:=i.pass f (fun _ _ h=>h.elim);have y:=x.pass f (fun _ _ h=>h.elim);have A:=Zv z f (fun _ _ h=>h.elim);have few:=i.law.few;have:=J2p n hk s hm;rw[a.yb,a.F,a.de]at this;refine this.mono ?_;rintro e w2 ⟨so,sn,sc,co,cn,cc,L,rfl,n1,n2,c,u⟩;have l:∀g,g≠11+2*k->∀b,b<w1.1.size->colN d wr.1.size 16 b=11+2*k->colN d wr.1.size 16 b≠g:=fun g K b _ e=>by omega
 refine⟨so,sn,sc,co,cn,cc,rfl,_,_,u,y.pass c (l 7 (by omega)),Zv A c (l 0 (by omega)),(B.trans (f.zero (fun _ _ h=>h.elim) i.law.low)).trans (c.zero (fun b _ e=>by omega) n.law.low),⟨fun j o=>(Zu o).trans (a.oth j o),by rw[Yo];exact a.db,by rw[Yo];exact a.yb,by rw[Yo];exact a.F,by rw[Yo];exact a.ce,by rw[Yo]⟩,n1,n2,fun b q r=>?_,c.bs.size⟩;have o:colN d wr.1.size 16 b=16:=Ku q;obtain⟨C,H⟩:=c.block (l 16 (by omega)) r o;simp_all
theorem MidW.aft(h:MidW lb xv yv m D k p ls lo col w v xs t qq E' wr w1 s0 c0 sh cs w2):AftG lb xv yv m D k p ls lo col w v xs t qq E' w2:=by
 obtain⟨a,D1,c,d,e,f,b,-⟩:=h;exact⟨a,D1,c,d,e,f,b⟩
theorem MidW.box(h:MidW lb xv yv m D k p ls lo col w v xs t qq E' wr w1 s0 c0 sh cs w2):(∀b o,wr.1.size<=b->b<w1.1.size->w2.cell? (U b o)=w1.cell? (U b o))/\(∀b o,wr.1.size<=b->b<w1.1.size->w2.frozen? (U b o)=w1.frozen? (U b o))/\w1.1.size<=w2.1.size:=by
 obtain⟨a,D1,d,e,f,g,c,-,-,j,i⟩:=h;grind[World.cell?_of_block,World.frozen?_of_block]
def MidF(lb:Nat)(xv yv:Value)(m:Nat)(D:Nat->DS)(k p:Nat)(ls:List ByteArray)(lo:Option Addr)(col:Nat->Nat)(w:World)(v:Value)(xs:List Rv)(t qq:Nat)(E':ByteArray->Option Arr)(r:Rp)(X:Nat)(w3:World):Prop :=
 ∃so sn sc co cn cc,AftG lb xv yv m D k p ls lo col w v xs t qq E' w3/\Nums (fun _=>True) w3 (.slice so sn sc) r.sh/\Nums (fun _=>True) w3 (.slice co cn cc) r.cs/\X<w3.1.size/\w3.cell? (U X 0)=some (.int .i64 r.er)/\w3.cell? (U X 1)=some (.int .i64 r.at_)/\w3.cell? (U X 2)=some (.slice so sn sc)/\w3.cell? (U X 3)=some (.slice co cn cc)/\w3.cell? (U X 4)=some (.int .i64 r.cost)
theorem J3n(h:MidW lb xv yv m D k p ls lo col w v xs t qq E' wr w1 (E so sn sc) (E co cn cc) r.sh r.cs w2):MidF lb xv yv m D k p ls lo col w v xs t qq E' r w2.1.size (w2.alloc (.cells #[G r.er,G r.at_,E so sn sc,E co cn cc,G r.cost] 47)):=by
 obtain⟨b,D1,d,e,f,g,c,n1,n2,-,-⟩:=h;have a:J w2 (w2.alloc (.cells #[G r.er,G r.at_,E so sn sc,E co cn cc,G r.cost] 47)):=belA1;exact⟨so,sn,sc,co,cn,cc,AftG.below ⟨b,D1,d,e,f,g,c⟩ a,(n1.imp (fun _ _ _=>trivial)).below a,(n2.imp (fun _ _ _=>trivial)).below a,by simp,by simp,by simp,by simp,by simp,by simp⟩
theorem J3o{X:Nat}(h:MidW lb xv yv m D k p ls lo col w v xs t qq E' wr w1 (E so sn sc) (E co cn cc) r.sh r.cs w2)(h1:wr.1.size<=X)(h2:X<w1.1.size)(z0 z1 z2 z3 z4)(b0:w1.cell? (U X 0)=some z0)(b1:w1.cell? (U X 1)=some z1)(b2:w1.cell? (U X 2)=some z2)(b3:w1.cell? (U X 3)=some z3)(b4:w1.cell? (U X 4)=some z4)(h6:6<=wr.1.size):
 MidF lb xv yv m D k p ls lo col w v xs t qq E' r X (((((w2.setCell (U X 0) (G r.er)).setCell (U X 1) (G r.at_)).setCell (U X 2) (E so sn sc)).setCell (U X 3) (E co cn cc)).setCell (U X 4) (G r.cost)):=by
 obtain⟨e,D1,n,u,x,y,s,n1,n2,z,C⟩:=h;obtain⟨B,c⟩:=z X h1 h2;have few:=n.law.few;obtain⟨A,f⟩:=nm (((((w2.setCell (U X 0) (G r.er)).setCell (U X 1) (G r.at_)).setCell (U X 2) (E so sn sc)).setCell (U X 3) (E co cn cc)).setCell (U X 4) (G r.cost));have b:Pass (fun a=>a=X) e e w2 A:=by
  obtain⟨g,o,q⟩:=Jhe (w:=w2) (R:=X) (G r.er) (G r.at_) (E so sn sc) (E co cn cc) (G r.cost);rw[f]at g o q;refine⟨⟨g,o,q,by rw[<-f];simp,fun a _ d=>?_⟩,fun _ _ _=>rfl,fun a _ l=>by omega⟩;rw[<-f,FV _ _ _ _ d,FV _ _ _ _ d,FV _ _ _ _ d,FV _ _ _ _ d,FV _ _ _ _ d]
 have d:∀g,g≠16->∀a,a<w2.1.size->a=X->e a≠g:=fun g q a _ l=>by grind
 have:=(WA c).trans b0;have:=(WA c).trans b1;have:=(WA c).trans b2;have:=(WA c).trans b3;have o:=(WA c).trans b4;have:∀{i j:Nat},i≠j->(⟨X,i,none⟩:Addr)≠⟨X,j,none⟩:=fun h l=>by simp_all
 refine⟨so,sn,sc,co,cn,cc,?_⟩;rw[f];refine⟨⟨e,D1,n.pass b (fun a _ l=>NO (NO (by simp_all))),u.pass b (d 7 (by omega)),Zv x b (d 0 (by omega)),y.trans (b.zero (d 0 (by omega)) n.law.low),s⟩,(n1.pass b (d _ (by omega))).imp (fun _ _ _=>trivial),(n2.pass b (d _ (by omega))).imp (fun _ _ _=>trivial),by have:=b.bs.size;omega,?_,?_,?_,?_,?_⟩
 .grind [World.cell?_setCell_other,World.cell?_setCell_same]
 .grind [World.cell?_setCell_other,World.cell?_setCell_same]
 .grind [World.cell?_setCell_other,World.cell?_setCell_same]
 .grind [World.cell?_setCell_other,World.cell?_setCell_same]
 grind[World.cell?_setCell_same,World.cell?_setCell_other]
end
end Go.Proofs.YtjobgpahajhbnaaGreatDoor
