import Derived.Test.YtjobgpahajhbnaaGreatDoorZra
import Derived.Test.YtjobgpahajhbnaaGreatDoorZrb
namespace Go.Proofs.YtjobgpahajhbnaaGreatDoor
open Go.RowKit Go.Proofs Go.Maps Go.Proofs.Tryz
attribute [local go_sem ↓] Go.wp_at_zero Go.wp_at_succ
set_option linter.all false
set_option maxHeartbeats 40000000
set_option maxRecDepth 20000
variable {F:Int} {P PD Y:Nat->Prop} {R d2 d3 i k s2 s3 yb:Nat} {T:List Tok} {W0 w w':World} {a:Arr} {ao d1 s1:Option Addr} {env:ByteArray->Option Arr} {ns:List ByteArray} {nv vv:Value} {qs:List (Value × Value)} {s t:ByteArray} {x y:List UInt8} {zs:List Arr} {α:Type}
theorem Jpg(hC:Ctx W0 yb F env T ao PD)(cap)(o k j0)(e0)(hX0:PX T false j0 o e0 k)(hB0:J07 T j0)(hG:Good f1A f2A e0)(hGR:Xw e0)(c:Nat)(hcF:(c:Int)<=F)
 (hTh:∀j l m c' w',j0<=j->m<=k->PX T true j o l m->(j=0\/∃h:j-1<T.length,0<j/\numB T[j-1].t=false)->Good f1A f2A l->Xw l->((c':Nat):Int)<=F->J W0 w'->Wok W0.1.size yb ao T.length cap ((m:Int)-1) c' 0 0 w'->Calls prog 84 #[aJ W0.1.size 0] w' (WRes W0 yb ao T.length cap PD j w' (Js env F f1A f2A l c')))
 (w) (hb:J W0 w) (hW:Wok W0.1.size yb ao T.length cap ((k:Int)-1) c 0 0 w):
 Calls prog 66 #[aJ W0.1.size 0] w (WRes W0 yb ao T.length cap PD j0 w (Js env F f1A f2A e0 c)):=by
 obtain⟨S,n,H,an⟩:=Jih (k-j0) aT (Sp.root hX0);obtain⟨am,al⟩:=Jii H hG hGR;have ar:∀(j:Nat) (z:Ex),Sp T o k j0 e0 j z->(j=0\/∃h:j-1<T.length,0<j/\numB T[j-1].t=false):=fun j z aZ=>by
  rcases Jkc hC.tk aZ with rfl|⟨d,e,b,q⟩
  .rcases hB0 with h|⟨d,e,b⟩
   .exact NN h
   refine NO ⟨d,e,?_⟩;have f:hd T[j-1].t=40:=Vj _ 40 [] (NQ.1 b);unfold numB;rw[f];decide
  refine NO ⟨e,d,?_⟩;cases hn:numB T[j-1].t with
  | false=>rfl
  | true =>
   obtain⟨_,s,f,g⟩:=Ji0 hn;rw[Jqm f g]at b;cases b
 have aX:=hW.lt;have B:J w (w.alloc (.cells aF 133)):=aS.alloc aT _;have Z:=hTh S n k c (w.alloc (.cells aF 133)) (Jt3 H).2 aT an (ar _ _ H) am al hcF (hb.trans (B.mono hb.size)) (hW.below B);obtain⟨D,u⟩:=nm (w.alloc (.cells aF 133));have a0:D.cell? (U w.1.size 0)=some aH:=by rw[<-u];simp
 have a1:D.cell? (U w.1.size 1)=some aH:=by rw[<-u];simp
 have a2:∀i,D.frozen? (U w.1.size i)=false:=fun i=>by rw[<-u];exact NL _ _ _ _ rfl
 have au:D.1.size=w.1.size+1:=by rw[<-u];simp
 rw[u]at Z B;clear an am al;go_enter func66,ntmps66;go_upto_region 1 with fail;try rw[u]
 clear u;go_wp2_with (go_at_call 84;refine Z.mono ?_;rintro z d ⟨s,s1,s2,s3,d1,d2,d3,rfl,K⟩);have Y:∀i y aa at_,Wok W0.1.size yb ao T.length cap i y aa at_ d->ESt W0 yb ao T.length cap w d.1.size i y aa at_ s1 s2 s3 d1 d2 d3 (d.alloc (.cells (aL s1 s2 s3 d1 d2 d3) 133)):=fun i y aa at_ L=>by
  have q:=s.size;have g:w.1.size≠W0.1.size:=by omega
  have e:w.1.size<D.1.size:=by omega
  have b:J d (d.alloc (.cells (aL s1 s2 s3 d1 d2 d3) 133)):=aS.alloc aT _;have f:w.1.size<d.1.size:=by omega
  exact⟨((Bs.of B).trans s (fun _ _ h=>h)).trans (Bs.of b) (fun _ _ h=>h),L.below b,(Nd (hb.trans (B.mono hb.size)) s).trans (b.mono (by have:=hb.size;omega)),aX,by omega,by simp,V b f ((s.cell e g).trans a0),V b f ((s.cell e g).trans a1),bF b f ((s.frozen e g).trans (a2 0)),bF b f ((s.frozen e g).trans (a2 1)),by simp,by simp,NL _ _ _ _ rfl,NL _ _ _ _ rfl⟩
 have af:ERel env F T o k j0 e0 c W0 yb ao cap PD w d.1.size S (d.alloc (.cells (aL s1 s2 s3 d1 d2 d3) 133)):=by
  refine⟨s1,s2,s3,d1,d2,d3,?_⟩;cases f:Js env F f1A f2A n c with
  | inl x =>
   rw[f]at K;obtain⟨i,y,L⟩:=K;exact NO ⟨i,y,x,Jam H f,Jbi _ _ _ f,Y _ _ _ _ L⟩
  | inr x =>
   rw[f]at K;obtain⟨A,L⟩:=K;refine NN ⟨S,n,x.1,x.2,H,f,FP _,Y _ _ _ _ L,?_⟩;obtain⟨W,P,Q,C,R,X,z,g,q⟩:=A;have b:J d (d.alloc (.cells (aL s1 s2 s3 d1 d2 d3) 133)):=aS.alloc aT _;have e:∀n,PW D PD n->n<d.1.size->PE w d.1.size PD n:=fun n h ab=>h.imp id (fun h=>⟨by have:=au;omega,by omega⟩);exact⟨W,P,Q,C,R,X,z,(g.imp e).below b,(q.imp e).below b⟩
 obtain⟨az,ab⟩:=nm d.1.size;obtain⟨bd,ac⟩:=nm (d.alloc (.cells (aL s1 s2 s3 d1 d2 d3) 133));rw[ab,ac]at af;rw[ab,ac];clear ab ac Y s K Z a0 a1 a2 au B hb hW;go_loopg [5] S (fun b e wr=>ERel env F T o k j0 e0 c W0 yb ao cap PD w az b wr)
 .exact af
 obtain⟨s1,s2,s3,d1,d2,d3,⟨j,z,a,c',aV,f,R,g,A⟩| ⟨i,y,x,f,ax,g⟩⟩:=hrel
 .have:=f;have:=hC.few;cases aV with
  | root hpx =>
   obtain⟨X,ad⟩:∃X:Int,X=0:=⟨0,rfl⟩;have C:wr.cell? (U W0.1.size 4)=some (G X):=by rw[ad];exact g.wok.c4
   have:(X == 0)=true:=by rw[ad];rfl
   clear ad;have Q:=g.wok.c2;rcases hB0 with aj|⟨ap,a6,ak⟩
   have P:wr.cell? (U W0.1.size 2)=some (G (-1)):=by rw[aj]at Q;exact Q
   clear Q R hpx aj;go_wp2_with fail;go_quiet (fail);obtain⟨ay,e⟩:=nm (wr.drewN nq);have b:=e▸g.below (Below.drewN aS nq);have ae:=e▸J9 A (Below.drewN aS nq);rw[e];have x0:=b.x0;have x1:=b.x1;have r0:=b.r0;have r1:=b.r1;have ah:=b.e0;have ai:=b.e1;clear e P C;rotate_left;obtain⟨q,aW⟩:∃q,j0=q+1:=⟨j0-1,by omega⟩;have aq:j0-1=q:=by omega
   simp only[aq]at ak ap;have P:wr.cell? (U W0.1.size 2)=some (G q):=by rw[Q];congr 2;omega
   clear Q;obtain⟨a5,ba,rfl,aw⟩:=hC.tokAt ap;obtain⟨a8,ag,aU⟩:=aw wr g.bel;have W:=g.wok.c1;generalize hN:T.length=N at W;obtain⟨bc,av⟩:=nm (T[q].t);obtain⟨bb,aY⟩:=nm (T[q].p);rw[av]at ag ak;have:(0:Int)<=(q:Int):=by omega
   have:(q:Int)<(N:Int):=by omega
   clear R hpx aW aq aw hN av aY aU;go_wp2_with fail;go_quiet (fail);obtain⟨ay,e⟩:=nm (wr.drewN nq);have b:=e▸g.below (Below.drewN aS nq);have ae:=e▸J9 A (Below.drewN aS nq);rw[e];have x0:=b.x0;have x1:=b.x1;have r0:=b.r0;have r1:=b.r1;have ah:=b.e0;have ai:=b.e1;clear e P C W ag
   all_goals
    go_wp2_with fail;refine FR (v:=aK s1 s2 s3 d1 d2 d3) (by simp[results,results66,go_sem,r0,r1]) rfl ?_;rw[f];exact b.fin hC.pd ae
  | one j1 r hSp1 hf1 hpx =>
   clear hpx;exact Jpf hC hG hGR hcF (by assumption) (by assumption) f A hB0 R g hSp1 hf1
  | two j1 l m r hSp1 hf1 hpl hf2 hpx =>
   exact Jpe hC hG hGR hcF (by assumption) (by assumption) f A hTh ar R g hSp1 hpl hf2 hpx
 have C:=g.wok.c4;have q:(x.1 == 0)=false:=by simp[ax]
 clear ax;go_wp2_with fail;go_quiet (fail);obtain⟨ay,e⟩:=nm (wr.drewN nq);have b:=e▸g.below (Below.drewN aS nq);rw[e];have x0:=b.x0;have x1:=b.x1;have r0:=b.r0;have r1:=b.r1;have ah:=b.e0;have ai:=b.e1;clear e C q;go_wp2_with fail;refine FR (v:=aK s1 s2 s3 d1 d2 d3) (by simp[results,results66,go_sem,r0,r1]) rfl ?_;rw[f];exact b.err rfl rfl _ _ _ _ _ _
theorem Jj4{W0:World}{yb:Nat}{F:Int}{env:ByteArray->Option Arr}{T:List Tok}{ao:Option Addr}{PD:Nat->Prop}(hC:Ctx W0 yb F env T ao PD)(cap):∀n:Nat,
 (∀j o l m c w,m-j<=n->PX T true j o l m->(j=0\/∃h:j-1<T.length,0<j/\numB T[j-1].t=false)->Good f1A f2A l->Xw l->((c:Nat):Int)<=F->J W0 w->Wok W0.1.size yb ao T.length cap ((m:Int)-1) c 0 0 w->Calls prog 84 #[aJ W0.1.size 0] w (WRes W0 yb ao T.length cap PD j w (Js env F f1A f2A l c))) /\
 (∀j o e k c w,k-j<=n->PX T false j o e k->J07 T j->Good f1A f2A e->Xw e->((c:Nat):Int)<=F->J W0 w->Wok W0.1.size yb ao T.length cap ((k:Int)-1) c 0 0 w->Calls prog 66 #[aJ W0.1.size 0] w (WRes W0 yb ao T.length cap PD j w (Js env F f1A f2A e c)))
 | 0=>⟨fun j o l m c w hn hp=>by have:=(Nr hp).1;omega,fun j o e k c w hn hp=>by have:=(Nr hp).1;omega⟩
 | n+1=>by
  obtain⟨-,ihE⟩:=Jj4 hC cap n;have hT:∀j o l m c w,m-j<=n+1->PX T true j o l m->(j=0\/∃h:j-1<T.length,0<j/\numB T[j-1].t=false)->Good f1A f2A l->Xw l->((c:Nat):Int)<=F->J W0 w->Wok W0.1.size yb ao T.length cap ((m:Int)-1) c 0 0 w->Calls prog 84 #[.pointer (some (adP0 W0))] w (WRes W0 yb ao T.length cap PD j w (Js env F f1A f2A l c)):=by
   intro j o l m c w hn hp y r s q f b;have B:=Nr hp;have A:=hC.few;cases hp with
   | nums _ _ _ h1 h2 h3 h4 =>
    exact Jl7 hC cap j m h1 h2 (fun i g a d=>by
     have:=h3 i a d;rw[Gl g]at this;simp_all) y c w f b
   | name _ _ h1 =>
    have a:j<T.length:=by omega
    have d:T[j].k=1:=by
     rw[Gl a]at h1;exact NQ.1 h1
    have g:Wok W0.1.size yb ao T.length cap (j:Int) c 0 0 w:=by
     have e:((j+1:Nat):Int)-1=(j:Int):=by omega
     rw[e]at b;exact b
    have:=Jim hC cap j a d c w f g;rw[Yz a];exact this
   | paren _ _ e k h1 h2 h3 h4 =>
    have d:k<T.length:=by omega
    have x:T[k].k=5:=by
     rw[Gl d]at h4;exact NQ.1 h4
    have a:j<T.length:=by omega
    have u:T[j].k=4:=by
     rw[Gl a]at h1;exact NQ.1 h1
    have g:Wok W0.1.size yb ao T.length cap (k:Int) c 0 0 w:=by
     have e:((k+1:Nat):Int)-1=(k:Int):=by omega
     rw[e]at b;exact b
    refine Jf1 hC cap k d x c j _ (fun w' p z=>ihE (j+1) (o+1) l k c w' (by omega) h3 (NO ⟨by omega,by omega,?_⟩) r s q p z) (by omega) w f g;have:=(Jyy (hC.tk _ (ND a)) u).1;simp_all
  grind[Jpg]
theorem Jzs{S:List Tok}{d:Nat}:∀{b:Bool} {j o:Nat} {e:Ex} {k:Nat},PX S b j o e k->d<=j->PX (S.drop d) b (j-d) o e (k-d):=by
 have q:∀i a,d<=i->kB (kr (S.drop d)) (i-d) a=kB (kr S) i a:=fun i a f=>by
  simp_all[kB,kr]
 have p:∀i a,d<=i->fB (kr (S.drop d)) (i-d) a=fB (kr S) i a:=fun i a f=>by
  simp_all[fB,kr]
 have h:∀i,d<=i->tokAt (S.drop d) (i-d)=tokAt S i:=fun i f=>by
  simp_all[tokAt]
 intro b j o e k f;induction f with
 | nums j o k h1 h2 h3 h4 =>
  intro hd;have c:Yu (S.drop d) (j-d) (k-d)=Yu S j k:=by
   unfold Yu;rw[<-List.drop_take,List.drop_drop,Nat.add_sub_cancel' hd]
  rw[<-c];refine PX.nums _ _ _ (by omega) (by simp;omega) (fun i g n=>?_) (by grind);have:=h3 (i+d) (by omega) (by omega);grind
 | name j o h1 =>
  intro hd;have g:j+1-d=j-d+1:=by omega
  rw[g,<-h j hd];exact PX.name _ _ (by simp_all)
 | paren j o e k h1 h2 h3 h4 ih =>
  intro hd;have n:=(Nr h3).1;have g:k+1-d=k-d+1:=by omega
  rw[g];have:=ih (by omega);have c:j+1-d=j-d+1:=by omega
  rw[c]at this;exact PX.paren _ _ _ _ (by simp_all) h2 this (by grind)
 | one j o r k h1 h2 ih =>
  intro hd;have:=ih (by omega);have c:j+1-d=j-d+1:=by omega
  rw[c]at this;rw[<-h j hd];exact PX.one _ _ _ _ (by simp_all) this
 | only j o l k h1 h2 h3 ih =>
  intro hd;have n:=(Nr h2).1;exact PX.only _ _ _ _ (by simp_all) (ih hd) (by grind)
 | two j o l k r m h1 h2 h3 h4 ih1 ih2 =>
  intro hd;have n:=(Nr h2).1;have:=ih2 (by omega);have c:k+1-d=k-d+1:=by omega
  rw[c]at this;rw[<-h k (by omega)];exact PX.two _ _ _ _ _ _ (by simp_all) (ih1 hd) (by grind) this
noncomputable def envA (env:ByteArray->Option Arr) (F:Int) (s:ByteArray):ByteArray->Option Arr :=
 match ans env F s with
 | .inl _=>env
 | .inr x=>if(Z2 s).size=0 then env else upd env (Z2 s) x.1
structure Rp where
 er:Int
 at_:Int
 sh:List Int
 cs:List Int
 cost:Int
noncomputable def ansR (env:ByteArray->Option Arr) (F:Int) (s:ByteArray):Rp:=match ans env F s with
 | .inl e=>⟨e.1,e.2,[],[],0⟩
 | .inr x=>⟨0,0,x.1.shape.map Int.ofNat,x.1.cells,x.2⟩
def Srt(ns:List ByteArray):Prop:=ns.Pairwise (fun x y=>Op.bytesLess x.toList y.toList=true)
theorem Js4:∀(x y:List UInt8),Op.bytesLess x y=decide (x<y)
 | x,[]=>by simp[Op.bytesLess]
 | [],b::y=>by simp[Op.bytesLess]
 | a::x,b::y=>by
  have ih:=Js4 x y;unfold Op.bytesLess;rw[ih];rcases Decidable.em (a<b)with h|h<;>rcases Decidable.em (a=b)with h'|h'<;>simp[List.cons_lt_cons_iff,h,h']
theorem J0z:Op.bytesLess x y=true↔x<y:=by
 simp[Js4]
theorem Jyf(x):Op.bytesLess x x=false:=by
 simp[Js4]
theorem Jh0{x y:ByteArray}(h:x.toList=y.toList):x=y:=by
 rw[YC,YC]at h;obtain⟨⟨a⟩⟩:=x;simp_all
theorem Je2(h:Xe ns t=(i:Int)):∃hi:i<ns.length,ns[i]=t:=by
 unfold Xe at h;cases hf:ns.findIdx? (fun x=>x.toList == t.toList)with
 | none=>simp_all
 | some k =>
  rw[hf]at h;obtain⟨b,a,_⟩:=Hs.1 hf;have:k=i:=Int.ofNat.inj h;subst this;exact⟨b,Jh0 (NQ.1 a)⟩
theorem Jdy(h:Xe ns t=-1):∀x ∈ ns,x≠t:=by
 grind[Xe]
theorem Jlb(ns)(t):Xe ns t=-1\/∃i:Nat,Xe ns t=(i:Int):=by
 unfold Xe;grind
theorem Jy5(h:Srt ns){j:Nat}(hi:i<ns.length)(hj:j<ns.length)(e:ns[i]=ns[j]):i=j:=by
 have:=Hj.1 h;grind[Jyf]
structure REn (env:ByteArray->Option Arr) (ns:List ByteArray) (zs:List Arr):Prop where
 srt:Srt ns
 len:ns.length=zs.length
 at_:∀ i,(h:i<ns.length)->(h2:i<zs.length)->env ns[i]=some zs[i]
 out:∀ t,(∀ x ∈ ns,x≠t)->env t=none
theorem REn.renv(h:REn env ns zs):REnv env ns zs:=by
 intro t;rcases Jlb ns t with a|⟨i,a⟩
 .exact NN ⟨a,h.out t (Jdy a)⟩
 obtain⟨b,c⟩:=Je2 a;exact NO ⟨i,by rw[<-h.len];exact b,a,by rw[<-c];exact h.at_ i b (by rw[<-h.len];exact b)⟩
theorem Jzi(h:REn env ns zs)(hi:Xe ns t=(i:Int))(a):REn (upd env t a) ns (zs.set i a):=by
 obtain⟨d,e⟩:=Je2 hi;refine⟨h.srt,by simpa using h.len,fun g c b=>?_,fun x f=>?_⟩
 .unfold upd;by_cases b:g=i
  .simp_all
  rw[FU (fun f=>b (Jy5 h.srt c d (f.trans e.symm))),List.getElem_set_ne (JC b)];exact h.at_ g c (by simp_all)
 unfold upd;have c:x≠t:=fun b=>f ns[i] (ND d) (e.trans b.symm);rw[FU c];exact h.out x f
theorem Jc8{α:Type}(p):∀(l:List α) (j:Nat) (h:j<l.length),j<(l.takeWhile p).length->p l[j]=true
 | [],j,h,_=>by simp at h
 | a::l,j,h,hj=>by
  cases ha:p a with
  | false=>simp_all
  | true =>
   cases j with
   | zero=>exact ha
   | succ j=>exact Jc8 p l j (by simpa using h) (by simp_all)
theorem J1c{α:Type}(p):∀(l:List α) (h:(l.takeWhile p).length<l.length),p l[(l.takeWhile p).length]=false
 | [],h=>by simp at h
 | a::l,h=>by
  cases ha:p a with
  | false=>simp[ha]
  | true =>
   have:=J1c p l (by simp_all);simp_all
theorem Jk4(l)(k)(x)(y:α):y ∈ insA l k x↔y=x\/y ∈ l:=by
 grind[insA,List.take_append_drop]
theorem Jxc(h1:Op.bytesLess x y=false)(h2:x≠y):Op.bytesLess y x=true:=by
 rw[J0z];have:¬ x<y:=fun a=>by grind[J0z]
 grind
theorem Jll{z:List UInt8}(h1:Op.bytesLess x y=true)(h2:Op.bytesLess y z=true):Op.bytesLess x z=true:=by
 grind[J0z]
theorem Jy4(h:Srt ns)(hno:∀x ∈ ns,x≠t):Srt (insA ns (rkAt ns t) t):=by
 have:=Jpa ns t;have:=Hj.1 h;have:∀x ∈ ns.take (rkAt ns t),Op.bytesLess x.toList t.toList=true:=fun x a=>by
  obtain⟨c,b,rfl⟩:=ZS a;grind[rkAt,Jc8]
 have:∀x ∈ ns.drop (rkAt ns t),Op.bytesLess t.toList x.toList=true:=fun x a=>by
  obtain⟨c,b,rfl⟩:=ZS a;rw[Pf];have:rkAt ns t<ns.length:=by simp at b;omega
  grind[J1c,rkAt,Jxc,Jh0,Jll]
 unfold Srt insA;rw[PN];refine⟨?_,h.sublist (List.drop_sublist _ _),fun x a y b=>?_⟩
 .rw [PN];exact⟨h.sublist (List.take_sublist _ _),by simp,fun x a y b=>by simp_all⟩
 grind[Jll]
theorem Jpq(h:REn env ns zs)(hf:Xe ns t=-1)(a):REn (upd env t a) (insA ns (rkAt ns t) t) (insA zs (rkAt ns t) a):=by
 have d:=Jdy hf;have b:=Jpa ns t;have f:rkAt ns t<=zs.length:=by rw[<-h.len];exact b
 refine⟨Jy4 h.srt d,by rw[Q3 _ _ _ b,Q3 _ _ _ f,h.len],?_,fun x c=>?_⟩
 .exact Jk5 (fun(x:ByteArray) (c:Arr)=>upd env t a x=some c) ns zs (rkAt ns t) t a h.len b (fun i c e=>by
   unfold upd;rw[FU (d _ (ND c))];exact h.at_ i c e) (by unfold upd;simp)
 unfold upd;rw[FU (fun e=>c t ((Jk4 _ _ _ _).2 (NN rfl)) e.symm)];exact h.out x (fun y e=>c y ((Jk4 _ _ _ _).2 (NO e)))
def RD(Y:Nat->Prop)(yb:Nat)(F:Int)(env:ByteArray->Option Arr)(ns:List ByteArray)(w:World):Prop:=∃nv vv qs zs,RDk Y yb F nv vv ns qs zs w/\REn env ns zs
theorem Jul(h:RDk Y yb F nv vv ns qs zs w)(hE:REn env ns zs)(hY:∀b,w.1.size<=b->Y b)(hl:ns.length<=1000000)(t)(v)(a)(hA:IsArr (fun b=>Y b/\b≠yb/\vv.ownBlock≠some b) w v a):
 Calls prog 67 #[aJ yb 0,aE t,v] w fun e w'=>e=aD (.tuple #[])/\(∃ns',RD Y yb F (upd env t a) ns' w')/\Bs (fun b=>b=yb\/vv.ownBlock=some b) w w':=by
 rcases Jlb ns t with d|⟨i,d⟩
 .by_cases o:0<ns.length
  .refine aR (Juk h hY hl t v a hA d o) ?_;rintro w' ⟨⟨m,n,l,g⟩,c⟩;exact⟨rfl,⟨_,m,n,l,_,g,Jpq hE d a⟩,⟨c.os,c.tape,c.output,c.size,fun k j f=>c.block k j (fun e=>f (NN e))⟩⟩
  have f:ns=[]:=NK (by omega);subst f;have p:=NK (by rw[<-h.len];rfl);subst p;refine aR (Juj h hY t v a hA) ?_;rintro w' ⟨⟨m,n,l,g⟩,c⟩;have:=Jpq hE d a;exact⟨rfl,⟨_,m,n,l,_,g,this⟩,⟨c.os,c.tape,c.output,c.size,fun k j f=>c.block k j (fun e=>f (NN e))⟩⟩
 obtain⟨m,-⟩:=Je2 d;refine aR (Jui h hl t v a hA i d m) ?_;rintro w' ⟨⟨l,g⟩,c⟩;exact⟨rfl,⟨ns,nv,vv,l,_,g,Jzi hE d a⟩,⟨c.os,c.tape,c.output,c.size,fun k j f=>c.block k j (fun e=>f (NO e))⟩⟩
def DoR(Y:Nat->Prop)(yb:Nat)(F:Int)(env:ByteArray->Option Arr)(s:ByteArray)(w:World)(e:Ending)(w':World):Prop :=
 ∃so sn sc co cn cc ns',e=.returned (.agg #[.int .i64 (ansR env F s).er,.int .i64 (ansR env F s).at_,.slice so sn sc,.slice co cn cc,.int .i64 (ansR env F s).cost])/\Nums (fun b=>Y b\/w.1.size<=b) w' (.slice so sn sc) (ansR env F s).sh/\Nums (fun b=>Y b\/w.1.size<=b) w' (.slice co cn cc) (ansR env F s).cs/\RD (fun b=>Y b\/w.1.size<=b) yb F (envA env F s) ns' w'/\Bs Y w w'
theorem RD.below(h:RD Y yb F env ns w)(hb:J w w'):RD Y yb F env ns w':=by
 obtain⟨nv,vv,qs,zs,a,b⟩:=h;exact⟨nv,vv,qs,zs,a.below hb,b⟩
theorem RD.imp{Y':Nat->Prop}(h:RD Y yb F env ns w)(hy:∀b,Y b->b<w.1.size->Y' b):RD Y' yb F env ns w:=by
 obtain⟨nv,vv,qs,zs,a,c⟩:=h;exact⟨nv,vv,qs,zs,a.imp hy,c⟩
theorem Jd2(h:J w w')(hR:w.1.size<=R)(u0 u1 u2 u3 u4):J w (((((w'.setCell (U R 0) u0).setCell (U R 1) u1).setCell (U R 2) u2).setCell (U R 3) u3).setCell (U R 4) u4):=
 ((((h.setCell (p:=U R 0) hR _).setCell (p:=U R 1) hR _).setCell (p:=U R 2) hR _).setCell (p:=U R 3) hR _).setCell (p:=U R 4) hR _
theorem Jzm(hD:RD Y yb F env ns w)(s)(hm:s.size<=9223372036854775807)(hp:(Jr s).1≠0):
 Calls prog 50 #[aJ yb 0,aE s] w (DoR Y yb F env s w):=by
 have h:ans env F s=.inl (Jr s):=by unfold ans;rw[FU hp]
 have r:ansR env F s=⟨(Jr s).1,(Jr s).2,[],[],0⟩:=by unfold ansR;rw[h]
 have p:envA env F s=env:=by unfold envA;rw[h]
 unfold DoR;rw[r,p];have f:=fun A=>Jem s A hm;unfold RTok at f;obtain⟨g,q⟩:=nm ((Jr s).1);obtain⟨at_,o⟩:=nm ((Jr s).2);simp only[q,o]at f hp⊢;have:(g != 0)=true:=by simp[hp]
 obtain⟨d,c⟩:=nm (w.alloc (.cells #[G 0,G 0,aH,aH,G 0] 47));have j:J w d:=c▸belA1;have a0:d.cell? (adP0 w)=some (G 0):=by rw[<-c];simp
 have a1:d.cell? (adP1 w)=some (G 0):=by rw[<-c];simp
 have a2:d.cell? (U w.1.size 2)=some M:=by rw[<-c];simp
 have a3:d.cell? (U w.1.size 3)=some M:=by rw[<-c];simp
 have m:d.cell? (U w.1.size 4)=some (G 0):=by rw[<-c];simp
 have e:∀i,d.frozen? (U w.1.size i)=false:=fun i=>by rw[<-c];exact NL _ _ _ _ rfl
 have b:w.1.size<d.1.size:=by rw[<-c];simp
 go_enter func50,ntmps50;go_upto_region 1 with fail;try rw[c]
 go_wp2_with (go_at_call 65;refine(f _).mono ?_;rintro C S ⟨Q,R,rfl,a,-⟩;have t:=V a b a0;have u:=V a b a1;have x:=V a b a2;have y:=V a b a3;have z:=V a b m;have:=bF a b (e 0);have:=bF a b (e 1);have:=bF a b (e 2);have:=bF a b (e 3);have:=bF a b (e 4);have l:=j.trans (a.mono j.size));have k:=Jd2 l (FP w.1.size) (G g) (G at_) M M (G 0);refine FR (v:=.agg #[G g,G at_,M,M,G 0]) (by simp[results,results50,go_sem,t,u,x,y,z]) rfl ?_;exact⟨none,0,0,none,0,0,ns,rfl,Ym _ _,Ym _ _,(hD.below k).imp (fun B n _=>NN n),Bs.of k⟩
theorem Jdp{B:Nat}{t:TypeId}{size:Nat}{v:Value}{n:Nat}{xs:List Value}(h:w.ownsRow B t size v n xs)(hk:∀g,v.ownBlock=some g->w'.heap[g]?=w.heap[g]?):w'.ownsRow B t size v n xs:=by
 obtain⟨a,⟨rfl,d⟩| ⟨g,b,c,rfl,f,e,i⟩⟩:=h
 .exact ⟨a,NN ⟨rfl,d⟩⟩
 exact⟨a,NO ⟨g,b,c,rfl,f,(hk g rfl).trans e,i⟩⟩
theorem RDk.stay(h:RDk Y yb F nv vv ns qs zs w)(hs:w.1.size<=w'.1.size)(hk:∀b,Y b->b<w.1.size->w'.heap[b]?=w.heap[b]?):RDk Y yb F nv vv ns qs zs w':=by
 have e:=hk yb h.own h.lt;refine⟨FT h.lt hs,h.own,(WA e).trans h.c0,(WA e).trans h.c1,(WA e).trans h.c2,fun i=>(NI (a:=U yb i) e).trans (h.fr i),Jdp h.nown (fun c d=>hk c (h.nY c d).1 (h.nown.lt c d).2),h.nY,Jdp h.vown (fun c d=>hk c (h.vY c d).1 (h.vown.lt c d).2),h.vY,h.len,h.len2,fun i l m=>?_⟩;obtain⟨o,n,sc,j,g,f,k,a1,a2⟩:=h.arr i l m;exact⟨o,n,sc,j,g,f,k,a1.keep hs (fun b c d=>hk b c.1 d),a2.keep hs (fun b c d=>hk b c.1 d)⟩
theorem RD.stay(h:RD Y yb F env ns w)(hs:w.1.size<=w'.1.size)(hk:∀b,Y b->b<w.1.size->w'.heap[b]?=w.heap[b]?):RD Y yb F env ns w':=by
 obtain⟨nv,vv,qs,zs,a,c⟩:=h;exact⟨nv,vv,qs,zs,a.stay hs hk,c⟩
theorem Jnd(hk:k≠R)(u0 u1 u2 u3 u4):(((((w.setCell (U R 0) u0).setCell (U R 1) u1).setCell (U R 2) u2).setCell (U R 3) u3).setCell (U R 4) u4).heap[k]?=w.heap[k]?:=by
 rw[FV _ _ _ _ hk,FV _ _ _ _ hk,FV _ _ _ _ hk,FV _ _ _ _ hk,FV _ _ _ _ hk]
theorem Jjd(h:IsArr P w (aK s1 s2 s3 d1 d2 d3) a):Nums P w (E s1 s2 s3) (a.shape.map Int.ofNat)/\Nums P w (E d1 d2 d3) a.cells:=by
 obtain⟨j,k,l,m,n,o,f,g,i⟩:=h;have c:=NM (fun v=>match v with|Value.agg b=>b|_=>#[]) f;have d:=NM (fun b=>b[0]?) c;have e:=NM (fun b=>b[1]?) c;simp at d e;obtain⟨rfl,rfl,rfl⟩:=d;obtain⟨rfl,rfl,rfl⟩:=e;exact⟨g,i⟩
theorem Jsg(w:World):w.drew.heap=w.heap:=rfl
theorem Jsf(w:World):w.drew.os=w.os/\w.drew.tape=w.tape/\w.drew.output=w.output:=⟨rfl,rfl,rfl⟩
theorem Yk(w:World)(p)(u):(w.setCell p u).os=w.os/\(w.setCell p u).tape=w.tape/\(w.setCell p u).output=w.output:=⟨rfl,rfl,rfl⟩
theorem Jhe(u0 u1 u2 u3 u4):(((((w.setCell (U R 0) u0).setCell (U R 1) u1).setCell (U R 2) u2).setCell (U R 3) u3).setCell (U R 4) u4).os=w.os/\(((((w.setCell (U R 0) u0).setCell (U R 1) u1).setCell (U R 2) u2).setCell (U R 3) u3).setCell (U R 4) u4).tape=w.tape/\(((((w.setCell (U R 0) u0).setCell (U R 1) u1).setCell (U R 2) u2).setCell (U R 3) u3).setCell (U R 4) u4).output=w.output:=by
 refine⟨?_,?_,?_⟩
 .rw [(Yk _ _ _).1,(Yk _ _ _).1,(Yk _ _ _).1,(Yk _ _ _).1,(Yk _ _ _).1]
 .rw [(Yk _ _ _).2.1,(Yk _ _ _).2.1,(Yk _ _ _).2.1,(Yk _ _ _).2.1,(Yk _ _ _).2.1]
 rw[(Yk _ _ _).2.2,(Yk _ _ _).2.2,(Yk _ _ _).2.2,(Yk _ _ _).2.2,(Yk _ _ _).2.2]
theorem Jx8{w4:World}{W:Nat}(hW:w.1.size<W){c:Nat}(hr:ansR env F s=⟨0,0,a.shape.map Int.ofNat,a.cells,c⟩)(hA:IsArr (fun b=>((Y b/\b<w.1.size)\/W<=b)/\b≠yb/\vv.ownBlock≠some b) w4 (aK s1 s2 s3 d1 d2 d3) a){ns':List ByteArray}(hR:RD (fun b=>(Y b/\b<w.1.size)\/W<=b) yb F (envA env F s) ns' w4)(hb:Bs Y w w4):
 DoR Y yb F env s w (aD (.agg #[G 0,G 0,E s1 s2 s3,E d1 d2 d3,G c])) (((((w4.setCell (U w.1.size 0) (G 0)).setCell (U w.1.size 1) (G 0)).setCell (U w.1.size 2) (E s1 s2 s3)).setCell (U w.1.size 3) (E d1 d2 d3)).setCell (U w.1.size 4) (G c)).drew:=by
 obtain⟨n1,n2⟩:=Jjd hA;obtain⟨e,f⟩:∃e,(((((w4.setCell (U w.1.size 0) (G 0)).setCell (U w.1.size 1) (G 0)).setCell (U w.1.size 2) (E s1 s2 s3)).setCell (U w.1.size 3) (E d1 d2 d3)).setCell (U w.1.size 4) (G c)).drew=e:=⟨_,rfl⟩;have g:∀b,b≠w.1.size->e.heap[b]?=w4.heap[b]?:=fun b hb=>by
  rw[<-f,Jsg];exact Jnd (w:=w4) hb _ _ _ _ _
 have h:w4.1.size<=e.1.size:=by rw[<-f];simp
 have j:e.os=w4.os/\e.tape=w4.tape/\e.output=w4.output:=by
  rw[<-f];obtain⟨d,i,l⟩:=Jsf (((((w4.setCell (U w.1.size 0) (G 0)).setCell (U w.1.size 1) (G 0)).setCell (U w.1.size 2) (E s1 s2 s3)).setCell (U w.1.size 3) (E d1 d2 d3)).setCell (U w.1.size 4) (G c));obtain⟨m,n,o⟩:=Jhe (w:=w4) (R:=w.1.size) (G 0) (G 0) (E s1 s2 s3) (E d1 d2 d3) (G c);exact⟨d.trans m,i.trans n,l.trans o⟩
 rw[f];clear f;have i:∀b,(Y b/\b<w.1.size)\/W<=b->b≠w.1.size:=fun b d=>by omega
 unfold DoR;rw[hr];refine⟨s1,s2,s3,d1,d2,d3,ns',rfl,(n1.keep h (fun b d _=>g b (i b d.1))).imp (fun b d _=>d.1.imp (fun d=>d.1) (fun d=>by omega)),(n2.keep h (fun b d _=>g b (i b d.1))).imp (fun b d _=>d.1.imp (fun d=>d.1) (fun d=>by omega)),(hR.stay h (fun b d _=>g b (i b d))).imp (fun b d _=>d.imp (fun d=>d.1) (fun d=>by omega)),?_⟩;exact⟨j.1.trans hb.os,j.2.1.trans hb.tape,j.2.2.trans hb.output,NE hb.size h,fun k l m=>(g k (by omega)).trans (hb.block k l m)⟩
theorem Jyu{A:List (Nat × Nat)}{v0:Value}(h:TokR s A k w v0):∃ao cap,v0=E ao ((toks s A).drop k).length cap/\TokM w ao ((toks s A).drop k):=by
 obtain⟨ao,e,cap,n,l,g,j⟩:=h;have a:((toks s A).drop k).length=A.length-k:=by simp[toks]
 refine⟨ao,cap,by rw[a];exact n,fun f=>?_⟩;rw[a]at f;obtain⟨d,m⟩:=l (by omega);refine⟨e,2*k,d,m,fun i c=>?_,fun i c=>?_⟩
 .rw [a]at c;have:=g (k+i) (by omega);have b:2*k+i*2=(k+i)*2:=by omega
  rw[b,this];simp[toks]
 rw[a]at c;have:=j (k+i) (by omega);have b:2*k+i*2+1=(k+i)*2+1:=by omega
 rw[b,this];simp[toks]
theorem J0a(s)(hs:s.size<=200):(lexR s).1.length<=200:=by
 have:=Jcf s s.size 0 [] (by simp) (by omega);unfold lexR;omega
theorem J1y(hD:RD Y yb F env ns w)(hE:EnvOk env)(h0:0<=F)(h1:F<=1000)(hl:ns.length<=1000000)(s)(hp:(Jr s).1=0)(htr:Zs s (Vi s))(hg:Good f1A f2A (Vi s))(hgr:Xw (Vi s)):
 Calls prog 50 #[aJ yb 0,aE s] w (DoR Y yb F env s w):=by
 obtain⟨bL,a8⟩:=Qp hp;obtain⟨l,o⟩:∃l,w.alloc (.cells #[G 0,G 0,aH,aH,G 0] 47)=l:=⟨_,rfl⟩;have bK:J w l:=o▸aS.alloc aT _;have a0:l.cell? (U w.1.size 0)=some (G 0):=by rw[<-o];simp
 have a1:l.cell? (U w.1.size 1)=some (G 0):=by rw[<-o];simp
 have a2:l.cell? (U w.1.size 2)=some aH:=by rw[<-o];simp
 have a3:l.cell? (U w.1.size 3)=some aH:=by rw[<-o];simp
 have bx:l.cell? (U w.1.size 4)=some (G 0):=by rw[<-o];simp
 have bz:∀i,l.frozen? (U w.1.size i)=false:=fun i=>by rw[<-o];exact NL _ _ _ _ rfl
 have z:w.1.size<l.1.size:=by rw[<-o];simp
 have ah:Hid (Calls prog 65 #[aE s] l fun e w'=>∃ao P L,e=aD (.tuple #[E ao P L,G 0,G 0,aE (Z2 s)])/\J l w'/\P=((toks s (lexR s).1).drop (beg (tks s (lexR s).1))).length/\TokM w' ao ((toks s (lexR s).1).drop (beg (tks s (lexR s).1)))):=O ((Jem s l (by omega)).mono (by
  rintro e w' ⟨g,j,rfl,d,b⟩;obtain⟨rfl,f⟩:=b hp;obtain⟨ao,L,rfl,c⟩:=Jyu f;exact⟨ao,_,L,by rw[hp,bL],d,rfl,c⟩))
 have b6:=J0a s a8;have bO:=Jyt a8;have X:=Jzs htr aT;rw[Ps]at X;have aW:((toks s (lexR s).1).drop (beg (tks s (lexR s).1))).length=(lexR s).1.length-beg (tks s (lexR s).1):=by simp[toks]
 rw[<-aW]at X;obtain⟨T,aV⟩:∃T,(toks s (lexR s).1).drop (beg (tks s (lexR s).1))=T:=⟨_,rfl⟩;have bP:∀bc ∈ T,Tk bc:=fun bc bM=>bO bc (by rw[<-aV]at bM;exact ZX bM);rw[aV]at ah X aW;have b4:T.length<=200:=by omega
 have:=(Nr X).1;have bp:=O hD;have bo:=O bK;have bq:=O hl;have:yb<w.1.size:=by obtain⟨_,_,_,_,h,_⟩:=hD;exact h.lt
 obtain⟨nm,ae⟩:∃nm,Z2 s=nm:=⟨_,rfl⟩;rw[ae]at ah;have br:=O ae;have bW:=O h1;clear hD bK hl bL a8 b6 bO aW aV htr ae h1;change Hid _ at h0 hp bz hgr hg X bP hE;go_enter func50,ntmps50;go_upto_region 1 with fail;try rw[o]
 clear o;go_upto_region 4 with(go_at_call 65;refine ah.mono ?_;rintro e W0 ⟨ao,P,L,rfl,u,W,bQ⟩;have B:=V u z a0;have C:=V u z a1;have D:=V u z a2;have H:=V u z a3;have K:=V u z bx;have bV:Hid (∀i,W0.frozen? (U w.1.size i)=false):=O (fun i=>bF u z (I bz i));have au:=O ((I bo).trans (u.mono bo.size));have ak:w.1.size<W0.1.size:=FT z u.size;have b3:=O bQ;have bt:=O W;clear u bQ W);clear a0 a1 a2 a3 bx ah z;have b7:=I bt;have bR:wrap64 ((P:Int)-1)=(P:Int)-1:=by unfold wrap64;omega
 obtain⟨y,ap⟩:∃y,W0.alloc (.cells #[aJ yb 0,E ao P L,G ((P:Int)-1),G 0,G 0,G 0] 131)=y:=⟨_,rfl⟩;clear b7;go_upto_region 5 with fail;try rw[bR]
 try rw[ap]
 obtain⟨nv,vv,qs,zs,aj,ai⟩:=I bp;have aU:RDk (fun b=>Y b/\b<w.1.size) yb F nv vv ns qs zs W0:=(aj.imp (fun b h hl=>⟨h,hl⟩)).below au;have bI:Ctx W0 yb F env T ao (fun b=>(Y b/\b<w.1.size)/\b≠yb/\vv.ownBlock≠some b):=⟨⟨_,nv,vv,ns,qs,zs,aU,ai.renv,fun b h _=>h,bq⟩,b3,b4,bP,fun b h=>by have:=h.1.2;omega,h0,bW,hE⟩;have a4:J W0 y:=ap▸aS.alloc aT _;have aX:Wok W0.1.size yb ao T.length L ((T.length:Int)-1) ((0:Nat):Int) 0 0 y:=by
  rw[<-ap,<-bt];exact⟨by simp,by simp,by simp,by simp,by simp,by simp,by simp,fun b=>NL _ _ _ _ rfl⟩
 have ab:=O ((Jj4 bI L T.length).2 0 0 (Vi s) T.length 0 y (by omega) X (NN rfl) hg hgr h0 a4 aX);have:W0.1.size<y.1.size:=aX.lt;have bZ:=O aU;have bu:=O aj;have aa:=O a4;have af:∀b,vv.ownBlock=some b->b<w.1.size:=fun b h=>(aj.vown.lt b h).2;clear ap aj aU bI a4 aX bR;change Hid _ at af ai;obtain⟨bd,A⟩:∃bd,Js env F f1A f2A (Vi s) 0=bd:=⟨_,rfl⟩;rw[A]at ab;have bS:w.1.size≠W0.1.size:=by omega
 have ba:w.1.size<y.1.size:=by omega
 have ag:Hid (∀w',Bs (fun b=>b=W0.1.size) y w'->∀t,J w' t->t.cell? (U w.1.size 0)=some (G 0)/\t.cell? (U w.1.size 1)=some (G 0)/\t.cell? (U w.1.size 2)=some aH/\t.cell? (U w.1.size 3)=some aH/\t.cell? (U w.1.size 4)=some (G 0)/\∀i,t.frozen? (U w.1.size i)=false):=O (fun w' d t g=>by
  have j:w.1.size<w'.1.size:=FT ba d.size;have f:∀c,t.cell? (U w.1.size c)=W0.cell? (U w.1.size c):=fun c=>V g j ((d.cell ba bS).trans (aa.cell (p:=U w.1.size c) ak));have m:∀c,t.frozen? (U w.1.size c)=W0.frozen? (U w.1.size c):=fun c=>bF g j ((d.frozen ba bS).trans (aa.frozen (p:=U w.1.size c) ak));exact⟨(f 0).trans B,(f 1).trans C,(f 2).trans D,(f 3).trans H,(f 4).trans K,fun i=>(m i).trans (I bV i)⟩)
 clear B C D H K;cases bd with
 | inl x =>
  have Q:Hid (ans env F s=.inl (x.1,(x.2:Int))):=O (by unfold ans;rw[FY (I hp),A]);have r:x.1≠0:=Jbi _ _ _ A;have ad:(x.1 != 0)=true:=by simp[r]
  clear A r;go_upto_region 7 with(go_at_call 66;refine ab.mono ?_;rintro e j ⟨N,s1,s2,s3,d1,d2,d3,rfl,al,c5,q⟩;have c4:=q.c4;have d:=q.c5;have S:=q.lt;have a5:=N.size;have R:=O N;have bw:=O q;clear N q);obtain⟨c,n⟩:∃c,j.alloc (.cells (aL s1 s2 s3 d1 d2 d3) 133)=c:=⟨_,rfl⟩;have g:J j c:=n▸aS.alloc aT _;obtain⟨B,C,D,H,K,f⟩:=ag j R c g;have bA:=f 0;have bB:=f 1;have bD:=f 2;have bE:=f 3;have bG:=f 4;have am:aB c W0.1.size 4 (G x.1):=V g S c4;have an:aB c W0.1.size 5 (G ((x.2:Nat):Int)):=V g S d;have Z:Hid (J w c):=O ((I au).trans (((Nd aa R).mono (by omega)).trans (g.mono (by omega))));try rw[n]
  clear n g f c4 d S a5 ag ab;go_region
  all_goals
   go_wp2_with fail;have m:=Jd2 (Z.trans aS.drew) (FP w.1.size) (G x.1) (G ((x.2:Nat):Int)) aH aH (G 0);refine FR (v:=.agg #[G x.1,G ((x.2:Nat):Int),aH,aH,G 0]) (by simp[results,results50,go_sem,B,C,D,H,K]) rfl ?_;have A:ansR env F s=⟨x.1,x.2,[],[],0⟩:=by unfold ansR;rw[Q]
   have ac:envA env F s=env:=by unfold envA;rw[Q]
   unfold DoR;rw[A,ac];exact⟨none,0,0,none,0,0,ns,rfl,Ym _ _,Ym _ _,(bp.below m).imp (fun b h _=>NN h),Bs.of m⟩
 | inr x =>
  obtain⟨a,ad⟩:=x;have Q:Hid (ans env F s=.inr (a,ad)):=O (by unfold ans;rw[FY (I hp),A]);clear A;obtain⟨aq,a9⟩:∃aq:Int,aq=0:=⟨0,rfl⟩;have:(aq != 0)=false:=by rw[a9];rfl
  change Hid _ at a9;go_upto_region 8 with(go_at_call 66;refine ab.mono ?_;rintro e j ⟨N,s1,s2,s3,d1,d2,d3,rfl,bH,q⟩;have c4:j.cell? (U W0.1.size 4)=some (G aq):=(by rw[a9];exact q.c4);have S:=q.lt;have a5:=N.size;have R:=O N;have bw:=O q;have bX:=O bH;clear N q bH);obtain⟨c,n⟩:∃c,j.alloc (.cells (aL s1 s2 s3 d1 d2 d3) 133)=c:=⟨_,rfl⟩;have g:J j c:=n▸aS.alloc aT _;obtain⟨B,C,D,H,K,f⟩:=ag j R c g;have bf:c.cell? (U j.1.size 0)=some (E s1 s2 s3):=by rw[<-n];simp
  have bg:c.cell? (U j.1.size 1)=some (E d1 d2 d3):=by rw[<-n];simp
  have bU:aB c W0.1.size 3 (G ((ad:Nat):Int)):=V g S bw.c3;have aZ:J w c:=au.trans (((Nd aa R).mono (by omega)).trans (g.mono (by omega)));have Z:=O aZ;have av:Hid (J W0 c):=O ((Nd aa R).trans (g.mono (by omega)));have aY:j.1.size<c.1.size:=by rw[<-n];simp
  obtain⟨ac,bJ⟩:∃ac,j.1.size=ac:=⟨_,rfl⟩;have:W0.1.size<ac:=by omega
  have az:∀b,PW y (fun b=>(Y b/\b<w.1.size)/\b≠yb/\vv.ownBlock≠some b) b->b<j.1.size->((Y b/\b<w.1.size)\/W0.1.size<=b)/\b≠yb/\vv.ownBlock≠some b:=fun b h _=>by
   rcases h with h|h
   .exact ⟨NN h.1,h.2⟩
   exact⟨NO (by omega),by omega,fun e=>by have:=af b e;omega⟩
  have ar:Hid (IsArr (fun b=>((Y b/\b<w.1.size)\/W0.1.size<=b)/\b≠yb/\vv.ownBlock≠some b) c (aK s1 s2 s3 d1 d2 d3) a):=O (by
   obtain⟨bh,bi,bj,bl,bm,bn,e,ax,ay⟩:=bX;exact⟨bh,bi,bj,bl,bm,bn,e,(ax.imp az).below g,(ay.imp az).below g⟩)
  have bv:Hid (RDk (fun b=>(Y b/\b<w.1.size)\/W0.1.size<=b) yb F nv vv ns qs zs c):=O ((bZ.below av).imp (fun b h _=>NN h));rw[bJ]at bf bg aY⊢;try rw[n]
  clear n g az bJ c4 S a5 ag ab;have a7:ansR env F s=⟨0,0,a.shape.map Int.ofNat,a.cells,ad⟩:=by unfold ansR;rw[Q]
  change Hid _ at a7;by_cases am:nm.size=0
  .have ae:nm=⟨#[]⟩:=ByteArray.size_eq_zero_iff.1 am;subst ae;have aw:Hid (envA env F s=env):=O (by unfold envA;rw[Q];simp only[I br];rfl);have bA:=f 0;have bB:=f 1;have bD:=f 2;have bE:=f 3;have bG:=f 4;clear f aZ am;go_wp2_with fail;go_region
   all_goals
    go_wp2_with fail;refine FR (v:=.agg #[G 0,G 0,E s1 s2 s3,E d1 d2 d3,G ((ad:Nat):Int)]) (by simp[results,results50,go_sem,B,C,D,H,K]) rfl ?_;exact Jx8 ak a7 ar (ns':=ns) (by rw[aw];exact⟨nv,vv,qs,zs,bv,ai⟩) (Bs.of Z)
  have a6:0<nm.size:=by omega
  have n1:=ne1 nm a6;have n2:=ne2 nm a6;have b2:=O (Jul bv ai (fun b d=>NO (by have:=av.size;omega)) bq nm _ a ar);have aw:Hid (envA env F s=upd env nm a):=O (by unfold envA;rw[Q];simp only[I br];rw[FU am]);clear am a6 aZ;change Hid _ at f;go_upto_region 10 with(go_at_call 67;refine aR b2 ?_;rintro be ⟨an,d⟩);obtain⟨ns',an⟩:=an;have bN:=d.size;have b8:=Z.size;have b5:=av.size;have m:¬ (w.1.size=yb\/vv.ownBlock=some w.1.size):=fun h=>by
   rcases h with h|h
   .omega
   have:=af _ h;omega
  have bb:¬ (ac=yb\/vv.ownBlock=some ac):=fun h=>by
   rcases h with h|h
   .omega
   have:=af _ h;omega
  have bT:¬ (W0.1.size=yb\/vv.ownBlock=some W0.1.size):=fun h=>by
   rcases h with h|h
   .omega
   have:=af _ h;omega
  have r:w.1.size<c.1.size:=by omega
  have b9:W0.1.size<c.1.size:=by omega
  have ca:=(d.cell r m).trans B;have cb:=(d.cell r m).trans C;have cc:=(d.cell r m).trans D;have cd:=(d.cell r m).trans H;have ce:=(d.cell r m).trans K;have bA:=(d.frozen r m).trans (I f 0);have bB:=(d.frozen r m).trans (I f 1);have bD:=(d.frozen r m).trans (I f 2);have bE:=(d.frozen r m).trans (I f 3);have bG:=(d.frozen r m).trans (I f 4);have:=(d.cell aY bb).trans bf;have:=(d.cell aY bb).trans bg;have:=(d.cell b9 bT).trans bU;have bY:Hid (IsArr (fun b=>((Y b/\b<w.1.size)\/W0.1.size<=b)/\b≠yb/\vv.ownBlock≠some b) be (aK s1 s2 s3 d1 d2 d3) a):=O (by
   obtain⟨bh,bi,bj,bl,bm,bn,e,ax,ay⟩:=ar;have al:∀b,(((Y b/\b<w.1.size)\/W0.1.size<=b)/\b≠yb/\vv.ownBlock≠some b)->b<c.1.size->be.heap[b]?=c.heap[b]?:=fun b h hl=>d.block b hl (fun e=>by
    rcases e with e|e
    .exact h.2.1 e
    exact h.2.2 e)
   exact⟨bh,bi,bj,bl,bm,bn,e,ax.keep bN al,ay.keep bN al⟩)
  have ax:Hid (Bs Y w be):=O (by
   have h1:Bs Y w c:=Bs.of Z;refine⟨d.os.trans h1.os,d.tape.trans h1.tape,d.output.trans h1.output,by omega,fun k al W=>?_⟩;rw[d.block k (by omega) (fun e=>by
    rcases e with e|e
    .exact W (e▸bu.own)
    exact W (bu.vY k e).1)]
   exact h1.block k al W)
  clear d m bb bT B C D H K bf bg bU b8 b5 n1 n2;change Hid _ at an;go_region
  all_goals
   go_wp2_with fail;refine FR (v:=.agg #[G 0,G 0,E s1 s2 s3,E d1 d2 d3,G ((ad:Nat):Int)]) (by simp[results,results50,go_sem,ca,cb,cc,cd,ce]) rfl ?_;exact Jx8 ak a7 bY (ns':=ns') (by rw[aw];exact an) ax
theorem Jzn(hD:RD Y yb F env ns w)(hE:EnvOk env)(h0:0<=F)(h1:F<=1000)(hl:ns.length<=1000000)(s)(hm:s.size<=9223372036854775807)(htr:(Jr s).1=0->Zs s (Vi s)/\Good f1A f2A (Vi s)/\Xw (Vi s)):
 Calls prog 50 #[aJ yb 0,aE s] w (DoR Y yb F env s w):=by
 by_cases a:(Jr s).1=0
 .obtain ⟨b,c,d⟩:=htr a;exact J1y hD hE h0 h1 hl s a b c d
 exact Jzm hD s hm a
theorem Jry(w)(ao)(n cap)(xs)(m)(h:Nums P w (E ao n cap) xs)(hl:n<=1000000):
 Calls prog 45 #[E ao n cap,G m] w fun r w'=>r=aD (.bool (xs.all (fun x=>x == m)))/\w'=w:=by
 have o:=Je h;have g:=h;obtain⟨r,e⟩:=nm (xs.all (fun x=>x == m));rw[e];go_enter func45,ntmps45;go_wp2_with fail;go_loopw [5] (fun b wr=>∃k:Nat,b=G k/\k<=n/\(∀a,(d:a<xs.length)->a<k->xs[a]=m)/\wr=w) (fun b _=>n-(intOf b).toNat)
 .grind
 obtain⟨k,rfl,u,y,p⟩:=hrel;have q:=p.symm;subst q;by_cases l:k<n
 .have j:k<xs.length:=by rw[<-o];exact l
  obtain⟨s,B,rfl,t,i,-⟩:=g.at (k:=k) j;generalize f:xs[k]=x at i;have:(0:Int)<=k:=by omega
  have:(k:Int)<n:=by omega
  by_cases b:x=m
  .have d1:(x == m)=true:=by simpa using b
   have d2:(x != m)=false:=by simpa using b
   go_wp2;go_roundw
   case rel=>exact⟨k+1,by go_num,by omega,fun a d h=>by
    grind,(by simp)⟩
   simp[intOf];omega
  have d1:(x == m)=false:=by simpa using b
  have d2:(x != m)=true:=by simpa using b
  have c:Hid (r=false):=O (by
   grind[List.getElem_mem])
  go_wp2;exact FR (v:=.bool false) (by simp[results]) rfl ⟨by rw[c],(by simp)⟩
 have c:Hid (r=true):=O (by
  rw[<-e,YL];intro x f;obtain⟨a,d,rfl⟩:=ZS f;grind)
 have a:¬ (k:Int)<n:=by omega
 go_wp2;exact FR (v:=.bool true) (by simp[results]) rfl ⟨by rw[c],(by simp)⟩
theorem Jna(w)(ao)(n cap)(xs)(m)(h:Nums P w (E ao n cap) xs)(hl:n<=1000000):
 Calls prog 46 #[E ao n cap,G m] w fun r w'=>r=aD (.bool (xs.all (fun x=>x == m)))/\w'=w:=by
 have o:=Je h;have g:=h;obtain⟨r,e⟩:=nm (xs.all (fun x=>x == m));rw[e];go_enter func46,ntmps46;go_wp2_with fail;go_loopw [5] (fun b wr=>∃k:Nat,b=G k/\k<=n/\(∀a,(d:a<xs.length)->a<k->xs[a]=m)/\wr=w) (fun b _=>n-(intOf b).toNat)
 .grind
 obtain⟨k,rfl,u,y,p⟩:=hrel;have q:=p.symm;subst q;by_cases l:k<n
 .have j:k<xs.length:=by rw[<-o];exact l
  obtain⟨s,B,rfl,t,i,-⟩:=g.at (k:=k) j;generalize f:xs[k]=x at i;have:(0:Int)<=k:=by omega
  have:(k:Int)<n:=by omega
  by_cases b:x=m
  .have d1:(x == m)=true:=by simpa using b
   have d2:(x != m)=false:=by simpa using b
   go_wp2;go_roundw
   case rel=>exact⟨k+1,by go_num,by omega,fun a d h=>by
    grind,(by simp)⟩
   simp[intOf];omega
  have d1:(x == m)=false:=by simpa using b
  have d2:(x != m)=true:=by simpa using b
  have c:Hid (r=false):=O (by
   grind[List.getElem_mem])
  go_wp2;exact FR (v:=.bool false) (by simp[results]) rfl ⟨by rw[c],(by simp)⟩
 have c:Hid (r=true):=O (by
  rw[<-e,YL];intro x f;obtain⟨a,d,rfl⟩:=ZS f;grind)
 have a:¬ (k:Int)<n:=by omega
 go_wp2;exact FR (v:=.bool true) (by simp[results]) rfl ⟨by rw[c],(by simp)⟩
theorem Jqx(c)(n:Nat)(hc:Jk c)(hn:0<n)(hn2:n<=1000)(w):
 Calls prog 44 #[G c,G n] w fun e w'=>(∃k:Nat,e=aD (G k)/\k<n)/\w'=w:=by
 have:¬ n=0:=by omega
 have:¬ (n:Int)=0:=by omega
 have:((n:Int)== 0)=false:=by simp;omega
 have:=hc.1;have:=hc.2;by_cases m:c<0
 .obtain ⟨a,f⟩:∃a:Nat,-(c+1)=(a:Int):=⟨(-(c+1)).toNat,by omega⟩;have h:c=-1-(a:Int):=by omega
  have:(a:Int)<=9223372036854775807:=by omega
  subst h;have d:((a:Int)).tmod (n:Int)=((a % n:Nat):Int):=by rw[ZE (by omega)];rfl
  have b:=YR a hn;generalize hk:(a % n)=k at d b;have g:Hid (-((-1-(a:Int)+1).tmod (n:Int))=(k:Int)):=O (by
   have e:-1-(a:Int)+1=-(a:Int):=by omega
   simp_all)
  clear hk f hc d;go_enter func44,ntmps44;go_wp2;exact FR (v:=G (-((-1-(a:Int)+1).tmod (n:Int)))) (by simp[results]) rfl ⟨⟨k,by rw[g],b⟩,rfl⟩
 obtain⟨a,f⟩:∃a:Nat,c=(a:Int):=⟨c.toNat,by omega⟩;subst f;have d:((a:Int)).tmod (n:Int)=((a % n:Nat):Int):=by rw[ZE (by omega)];rfl
 have b:=YR a hn;generalize(a % n)=k at d b;go_enter func44,ntmps44;go_wp2;go_ret;exact⟨⟨k,rfl,b⟩,rfl⟩
end Go.Proofs.YtjobgpahajhbnaaGreatDoor
