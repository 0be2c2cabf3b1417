import Derived.Test.YtjobgpahajhbnaaGreatDoorWn
namespace Go.Proofs.YtjobgpahajhbnaaGreatDoor
open Go.RowKit Go.Proofs Go.Proofs.Tryz
attribute [local go_sem ↓] Go.wp_at_zero Go.wp_at_succ
set_option linter.all false
set_option maxHeartbeats 40000000
set_option maxRecDepth 20000
variable {P:Nat->Prop} {W W0 w w' w1 w4:World} {a:Arr} {env:ByteArray->Option Arr} {fuel:Int} {g k n p:Nat} {lb:Array Value} {mv s0 s1 v:Value} {o1 o2:Obj}
def FnOne(g:Nat)(lb:Array Value)(w:World)(f:Arr->Arr × Int):Prop:=∀(W:World) (P:Nat->Prop) (v:Value) (a:Arr),J w W->(∀b,W.1.size<=b->P b)->IsArr P W v a->a.ok ->
 Calls prog g (#[v]++lb) W fun e W'=>∃so sn sc co cn cc,e=.returned (.tuple #[aK so sn sc co cn cc,.int .i64 (f a).2])/\IsArr P W' (aK so sn sc co cn cc) (f a).1/\J W W'
def FnTwo(g:Nat)(lb:Array Value)(w:World)(f:Arr->Arr->Arr × Int):Prop:=∀(W:World) (P:Nat->Prop) (u v:Value) (a b:Arr),J w W->(∀b,W.1.size<=b->P b)->IsArr P W u a->IsArr P W v b->a.ok->b.ok ->
 Calls prog g (#[u,v]++lb) W fun e W'=>∃so sn sc co cn cc,e=.returned (.tuple #[aK so sn sc co cn cc,.int .i64 (f a b).2])/\IsArr P W' (aK so sn sc co cn cc) (f a b).1/\J W W'
structure OneC (t:ByteArray) (f:Arr->Arr × Int):Prop where
 finds:∀ w,Calls prog 109 #[.string t] w fun e w'=>∃ g lb,e=.returned (.func (.func g) #[] lb)/\Enters prog g/\J w w'/\FnOne g lb w' f
 ok:∀ a,a.ok->(f a).1.cells.length<=200/\((f a).2=0->(f a).1.ok)
structure TwoC (t:ByteArray) (f:Arr->Arr->Arr × Int):Prop where
 finds:∀ w,Calls prog 111 #[.string t] w fun e w'=>∃ g lb,e=.returned (.func (.func g) #[] lb)/\Enters prog g/\J w w'/\FnTwo g lb w' f
 ok:∀ a b,a.ok->b.ok->(f a b).1.cells.length<=200/\((f a b).2=0->(f a b).1.ok)
def Good(f1:ByteArray->Arr->Arr × Int)(f2:ByteArray->Arr->Arr->Arr × Int):Ex->Prop
 | .num ws=>0<ws.length/\ws.length<=200/\∀c ∈ ws,Jk c
 | .name t _=>t.size<=200
 | .one t _ r=>OneC t (f1 t)/\Good f1 f2 r
 | .two t _ l r=>TwoC t (f2 t)/\Good f1 f2 l/\Good f1 f2 r
theorem Jxj{ws:List Int}(h1:ws.length<=200)(hf:∀c ∈ ws,Jk c):(Jc2 ws).ok:=by
 unfold Jc2;by_cases a:ws.length=1
 .rw [FY a];exact⟨by simp,by simp,by simp_all[Jd],h1,hf⟩
 rw[FU a];exact⟨by simp,by simp;omega,by simp[Jd],h1,hf⟩
theorem Jp0{r:Arr × Int}{c:Nat}{x:Arr × Nat}(h:payP fuel r p c=.inr x):x.1=r.1/\(x.2:Int)<=fuel/\r.2=0:=by
 unfold payP at h;grind
theorem Vf{env:ByteArray->Option Arr}{fuel:Int}{f1:ByteArray->Arr->Arr × Int}{f2:ByteArray->Arr->Arr->Arr × Int}(he:∀t a,env t=some a->a.ok):∀(x:Ex) (c:Nat) (r:Arr × Nat),Good f1 f2 x->(c:Int)<=fuel->Js env fuel f1 f2 x c=.inr r->r.1.ok/\(r.2:Int)<=fuel
 | .num ws,c,r,hg,hc,h=>by
  simp only[Js]at h;cases h;exact⟨Jxj hg.2.1 hg.2.2,hc⟩
 | .name t p,c,r,hg,hc,h=>by
  grind[Js]
 | .one t p e,c,r,hg,hc,h=>by
  simp only[Js]at h;cases h1:Js env fuel f1 f2 e c with
  | inl e=>simp_all
  | inr y =>
   rw[h1]at h;obtain⟨k1,_⟩:=Vf he e c y hg.2 hc h1;obtain⟨k3,k4,k5⟩:=Jp0 h;exact⟨by rw[k3];exact(hg.1.ok _ k1).2 k5,k4⟩
 | .two t p l e,c,r,hg,hc,h=>by
  simp only[Js]at h;cases h1:Js env fuel f1 f2 e c with
  | inl e=>simp_all
  | inr y =>
   rw[h1]at h;simp only at h;obtain⟨k1,k2⟩:=Vf he e c y hg.2.2 hc h1;cases h2:Js env fuel f1 f2 l y.2 with
   | inl e=>simp_all
   | inr z =>
    rw[h2]at h;obtain⟨m1,_⟩:=Vf he l y.2 z hg.2.1 k2 h2;obtain⟨k3,k4,k5⟩:=Jp0 h;exact⟨by rw[k3];exact(hg.1.ok _ _ m1 k1).2 k5,k4⟩
theorem Look.imp{Q:Nat->Prop}(h:Look P W0 mv env)(hq:∀b,P b->b<W0.1.size->Q b):Look Q W0 mv env:=by
 intro d c;obtain⟨v,a,e⟩:=h d c;refine⟨v,a,?_⟩;grind[IsArr.imp]
def ExC(env:ByteArray->Option Arr)(fuel:Int)(f1:ByteArray->Arr->Arr × Int)(f2:ByteArray->Arr->Arr->Arr × Int)(B:Nat)(W0:World)(mv:Value)(x:Ex):Prop :=
 ∀(P:Nat->Prop) (w:World) (c:Nat) (q:Option Addr),Wk W0 mv fuel c w->(c:Int)<=fuel->(∀b,w.1.size<=b->P b)->¬ P W0.1.size->Look P W0 mv env->IsEx B W0 q x ->
  Calls prog 77 #[aJ W0.1.size 0,.pointer q] w (Jcy P W0 mv fuel w (Js env fuel f1 f2 x c))
theorem J2m(env)(fuel)(f1)(f2)(B)(W0)(mv)(ws):ExC env fuel f1 f2 B W0 mv (.num ws):=by
 intro P w S ae g K F Z Y N;obtain⟨b,n,rfl,X,f,c0,r,p,C,D⟩:=N;have L:=g.lt;have c:=g.below;have:=V c f c0;have:=V c f r;have:b<w.1.size:=FT f c.size;have h:=Jqj (P:=fun _=>True) (p.keep (Behind.of_below c)) (fun _ _ _=>trivial);have:=h;obtain⟨ac,ad,rfl,_,_,_,_⟩:=p;have q:∀b,w.1.size<=b->P b:=F;go_enter func77,ntmps77;go_wp2_with fail;refine(J17 (fun b=>P b/\b≠w.1.size/\b≠w.1.size+1) _ (fun b a=>⟨q b (by simp at a;omega),by simp at a;omega,by simp at a;omega⟩) _ ws (h.below (belA2)) C D).mono ?_;rintro W w1 ⟨R,Q,sc,u,t,s,rfl,H,m⟩;obtain⟨d,e⟩:=Yy m;have i:=d w.1.size 0 (by simp;omega);have j:=d w.1.size 1 (by simp;omega);have k:=d (w.1.size+1) 0 (by simp);have l:=d (w.1.size+1) 1 (by simp);have x:=e w.1.size 0 (by simp;omega);have y:=e w.1.size 1 (by simp;omega);have z:=e (w.1.size+1) 0 (by simp);have A:=e (w.1.size+1) 1 (by simp);simp at i j k l x y z A;go_wp2_with fail;refine FR (v:=.tuple #[(agV R Q sc u t s),.agg #[G 0,G 0]]) (by simp[results,He,go_sem,i,j,k,l]) rfl ?_;have o:J w w1:=(belA2).trans (m.mono (by simp;omega));refine⟨(Kp.of_below o).four aT _ _ _ _,_,rfl,?_,(g.keep o).four L _ _ _ _,K⟩;exact((((H.set (fun a=>a.2.1 rfl) 0 _).set (fun a=>a.2.1 rfl) 1 _).set (fun a=>a.2.2 rfl) 0 _).set (fun a=>a.2.2 rfl) 1 _).imp (fun b a _=>a.1)
theorem Vn(hlt:W0.1.size<w.1.size)(hk:Kp W0 ((w.alloc (.cells aF 89)).alloc (.cells #[G 0,G 0] 117)) w1):
 (w1.cell? (U w.1.size 0)=some aH/\w1.cell? (U w.1.size 1)=some aH/\w1.cell? (U (w.1.size+1) 0)=some (G 0)/\w1.cell? (U (w.1.size+1) 1)=some (G 0)) /\
 (w1.frozen? (U w.1.size 0)=false/\w1.frozen? (U w.1.size 1)=false/\w1.frozen? (U (w.1.size+1) 0)=false/\w1.frozen? (U (w.1.size+1) 1)=false):=by
 have:=fun a=>hk.cell (b:=w.1.size) (by simp;omega) (by omega) a;have:=fun a=>hk.cell (b:=w.1.size+1) (by simp) (by omega) a;have:=fun a=>hk.frozen (b:=w.1.size) (by simp;omega) (by omega) a;have:=fun a=>hk.frozen (b:=w.1.size+1) (by simp) (by omega) a;simp_all
def But(P:Nat->Prop)(n:Nat)(b:Nat):Prop:=P b/\b≠n/\b≠n+1
theorem Jjt(hP:∀b,w.1.size<=b->P b):∀b,((w.alloc o1).alloc o2).1.size<=b->But P w.1.size b:=by
 intro b a;simp at a;exact⟨hP b (by omega),by omega,by omega⟩
theorem Jju(h:IsArr (But P n) w v a)(v0 v1 v2 v3):IsArr P ((((w.setCell (U n 0) v0).setCell (U n 1) v1).setCell (U (n+1) 0) v2).setCell (U (n+1) 1) v3) v a :=
 ((((h.set (fun h=>h.2.1 rfl) 0 _).set (fun h=>h.2.1 rfl) 1 _).set (fun h=>h.2.2 rfl) 0 _).set (fun h=>h.2.2 rfl) 1 _).imp (fun _ h _=>h.1)
theorem Nc(h:Look P W0 mv env)(hn:W0.1.size<=n):Look (But P n) W0 mv env:=h.imp (fun _ hb hl=>⟨hb,by omega,by omega⟩)
theorem Jc6{er:Int}(h1:Kp W0 w w')(h2:Wk W0 mv fuel k w')(hn:er≠0):Jcy P W0 mv fuel w (.inl (er,p)) (aD (.tuple #[zArr,.agg #[G er,G p]])) w':=⟨h1,rfl,hn,k,h2⟩
theorem Jnw(h1:Kp W0 w w')(h2:Wk W0 mv fuel k w')(h3:IsArr P w' v a)(hf:(k:Int)<=fuel):Jcy P W0 mv fuel w (.inr (a,k)) (aD (.tuple #[v,.agg #[G 0,G 0]])) w':=⟨h1,v,rfl,h3,h2,hf⟩
theorem Jap(h:Kp W0 ((w.alloc o1).alloc o2) w1):Kp W0 w w1:=(((Kp.refl W0 w).alloc o1).alloc o2).trans h
theorem J0l(env)(fuel)(f1)(f2)(B)(W0)(mv)(t)(ht:t.size<=200)(p):ExC env fuel f1 f2 B W0 mv (.name t p):=by
 intro P w f ai o R af Q N T;obtain⟨u,W,Z,rfl,ae,b,c0,c1,x,y,z⟩:=T;have h:=o.lt;have c:=o.below;have:=V c b c0;have:=V c b c1;have:=V c b x;have:=V c b y;have:=V c b z;have:=FT b c.size;have:u<w.1.size+1:=by omega
 have s:=fun w' e=>Jn0 (But P w.1.size) W0 mv fuel f w' e 1 W Z t ht p env (Nc N (by omega)) (fun d=>Q d.1) R;go_enter func77,ntmps77;go_wp2_with fail;refine(s _ ((o.alloc _).alloc _)).mono ?_;intro ad w1 g;cases he:env t with
 | none =>
  rw[he]at g;have i:Js env fuel f1 f2 (.name t p) f=.inl (4,p):=by simp[Js,he]
  obtain⟨d,rfl,_,q,e⟩:=g;obtain⟨⟨k,l,m,n⟩,F,H,K,L⟩:=Vn h d;have j:=Jap d;unfold zArr;go_wp2;refine FR (v:=.tuple #[zArr,.agg #[G 4,G p]]) (by simp[results,He,go_sem,zArr,k,l,m,n]) rfl ?_;rw[i];exact Jc6 (j.four aT _ _ _ _) (e.four h _ _ _ _) (by decide)
 | some a =>
  rw[he]at g;have i:Js env fuel f1 f2 (.name t p) f=.inr (a,f):=by simp[Js,he]
  obtain⟨d,v,rfl,q,e,S⟩:=g;obtain⟨⟨k,l,m,n⟩,F,H,K,L⟩:=Vn h d;have j:=Jap d;have r:=q;obtain⟨Y,X,sc,D,C,A,rfl,_,_⟩:=q;go_wp2;refine FR (v:=.tuple #[(agV Y X sc D C A),.agg #[G 0,G 0]]) (by simp[results,He,go_sem,k,l,m,n]) rfl ?_;rw[i];exact Jnw (j.four aT _ _ _ _) (e.four h _ _ _ _) (Jju r _ _ _ _) S
def New(P:Nat->Prop)(W:World)(b:Nat):Prop:=(P b/\b<W.1.size)\/W.1.size<=b
theorem Ji1(h:IsArr P w v a)(hs:w.1.size<=W.1.size):IsArr (New P W) w v a:=h.imp (fun _ hb hl=>.inl ⟨hb,FT hl hs⟩)
theorem FnOne.call{f:Arr->Arr × Int}(h:FnOne g lb w f)(hb:J w W)(ha:IsArr P W v a)(hok:a.ok):
 Calls prog g (#[v]++lb) W fun e W'=>∃so sn sc co cn cc,e=aD (.tuple #[aK so sn sc co cn cc,G (f a).2])/\IsArr (New P W) W' (aK so sn sc co cn cc) (f a).1/\J W W' :=
 h W (New P W) v a hb (fun _ h=>.inr h) (Ji1 ha aT) hok
theorem FnTwo.call{f:Arr->Arr->Arr × Int}(h:FnTwo g lb w f){u:Value}{b:Arr}(hb:J w W)(ha:IsArr P W u a)(hb':IsArr P W v b)(hok:a.ok)(hok':b.ok):
 Calls prog g (#[u,v]++lb) W fun e W'=>∃so sn sc co cn cc,e=aD (.tuple #[aK so sn sc co cn cc,G (f a b).2])/\IsArr (New P W) W' (aK so sn sc co cn cc) (f a b).1/\J W W' :=
 h W (New P W) u v a b hb (fun _ h=>.inr h) (Ji1 ha aT) (Ji1 hb' aT) hok hok'
theorem Vm{W5 w6:World}(hlt:W0.1.size<w.1.size)(hs:w.1.size+1<w1.1.size)(hb:J w1 W5)(hk:Kp W0 W5 w6)
 (e:w1.cell? (U w.1.size 0)=some aH/\w1.cell? (U w.1.size 1)=some aH/\w1.cell? (U (w.1.size+1) 0)=some (G 0)/\w1.cell? (U (w.1.size+1) 1)=some (G 0))
 (g:w1.frozen? (U w.1.size 0)=false/\w1.frozen? (U w.1.size 1)=false/\w1.frozen? (U (w.1.size+1) 0)=false/\w1.frozen? (U (w.1.size+1) 1)=false):
 (w6.cell? (U w.1.size 0)=some aH/\w6.cell? (U w.1.size 1)=some aH/\w6.cell? (U (w.1.size+1) 0)=some (G 0)/\w6.cell? (U (w.1.size+1) 1)=some (G 0)) /\
 (w6.frozen? (U w.1.size 0)=false/\w6.frozen? (U w.1.size 1)=false/\w6.frozen? (U (w.1.size+1) 0)=false/\w6.frozen? (U (w.1.size+1) 1)=false):=by
 have:=hb.size;have f:=fun a=>(hk.cell (b:=w.1.size) (by omega) (by omega) a).trans (hb.cell (p:=U w.1.size a) (by show w.1.size<w1.1.size;omega));have h:=fun a=>(hk.cell (b:=w.1.size+1) (by omega) (by omega) a).trans (hb.cell (p:=U (w.1.size+1) a) (by show w.1.size+1<w1.1.size;omega));have c:=fun a=>(hk.frozen (b:=w.1.size) (by omega) (by omega) a).trans (hb.frozen (p:=U w.1.size a) (by show w.1.size<w1.1.size;omega));have d:=fun a=>(hk.frozen (b:=w.1.size+1) (by omega) (by omega) a).trans (hb.frozen (p:=U (w.1.size+1) a) (by show w.1.size+1<w1.1.size;omega));rw[f,f,h,h,c,c,d,d];exact⟨e,g⟩
structure Aft (P:Nat->Prop) (n:Nat) (w1 W5:World) (n8:Nat) (s0 s1:Value) (a:Arr):Prop where
 bel:J w1 W5
 c0:W5.cell? (U n8 0)=some s0
 c1:W5.cell? (U n8 1)=some s1
 arr:IsArr (But P n) W5 (.agg #[s0,s1]) a
 lo:w1.1.size<=n8
 hi:n8<W5.1.size
theorem Jqp(h:IsArr (New (fun b'=>But P n b'/\b'<w1.1.size) W) w4 v a)(hP:∀b,n<=b->P b)(hn:n+1<W.1.size):IsArr (But P n) w4 v a :=
 h.imp (fun b hb _=>by
  rcases hb with hb|hb
  .exact hb.1.1
  exact⟨hP b (by omega),by omega,by omega⟩)
theorem Jlm(hb:J w1 w4)(h:IsArr (New (fun b'=>But P n b'/\b'<w1.1.size) W) w4 (.agg #[s0,s1]) a)(hP:∀b,n<=b->P b)(hn:n+1<W.1.size):Aft P n w1 (w4.alloc (.cells #[s0,s1] 89)) w4.1.size s0 s1 a :=
 ⟨hb.alloc hb.size _,by simp,by simp,(Jqp h hP hn).below (aS.alloc aT _),hb.size,by simp⟩
theorem Jbn{n8:Nat}{u0 u1:Value}(hb:J w1 w4)(h:IsArr (New (fun b'=>But P n b'/\b'<w1.1.size) W) w4 (.agg #[s0,s1]) a)(hP:∀b,n<=b->P b)(hn:n+1<W.1.size)(hlo:w1.1.size<=n8)(hhi:n8<W.1.size)(hW:W.1.size<=w4.1.size)(c0:w4.cell? (U n8 0)=some u0)(c1:w4.cell? (U n8 1)=some u1):
 Aft P n w1 ((w4.setCell (U n8 0) s0).setCell (U n8 1) s1) n8 s0 s1 a:=by
 have c:¬ New (fun b'=>But P n b'/\b'<w1.1.size) W n8:=by
  rintro(h|h)
  .have:=h.1.2;omega
  omega
 refine⟨(hb.setCell hlo _).setCell hlo _,?_,?_,Jqp ((h.set c 0 _).set c 1 _) hP hn,hlo,?_⟩
 .rw [celO (by omega)];exact FW _ _ _ c0
 .exact FW _ _ _ (celN (by omega) c1)
 simp;omega
theorem J2l(env)(fuel)(f1)(f2)(B)(W0)(mv)(t)(p)(r)(hfl:fuel<=1000)(he:∀t a,env t=some a->a.ok)(hf:OneC t (f1 t))(hg:Good f1 f2 r)(ih:ExC env fuel f1 f2 B W0 mv r):ExC env fuel f1 f2 B W0 mv (.one t p r):=by
 intro P w L bR ar bi Y bh bg bG;obtain⟨C,k,bH,rfl,bv,q,c0,bl,bm,bd,be,bf,aj,bj⟩:=bG;have A:=ar.lt;have ap:=ar.below;have d0:=V ap q c0;have bu:=V ap q aj;have bP:=NT.2 bl;have bQ:=NT.2 bm;have bw:=FT q ap.size;have bx:C<w.1.size+1:=by omega
 have az:=O (ih (But P w.1.size) ((w.alloc (.cells aF 89)).alloc (.cells #[G 0,G 0] 117)) L bH ((ar.alloc _).alloc _) bi (Jjt Y) (fun y=>bh y.1) (Nc bg (by omega)) bj);have bp:=O (fun H=>Vf he r L H hg bi);have ba:=O hf;clear ar bg c0 aj ap bj ih bl bm he hf hg;change Hid _ at bf be bd q Y;go_enter func77,ntmps77;go_wp2_with fail;refine az.mono ?_;intro an w1 D;cases hev:Js env fuel f1 f2 r L with
 | inl er =>
  rw[hev]at D;have x:Hid (Js env fuel f1 f2 (.one t p r) L=.inl er):=O (by simp[Js,hev]);obtain⟨ao,a7⟩:=er;obtain⟨i,rfl,b,c,h⟩:=D;obtain⟨⟨j,l,m,o⟩,S,T,W,X⟩:=Vn A i;have d:(ao != 0)=true:=by simpa using b
  have ah:=O (Jap i);have aV:=O h;have aq:w.1.size+1<w1.1.size:=by have:=i.size;simp at this;omega
  have a5:w.1.size<w1.1.size:=by omega
  clear i h hev az;unfold zArr;go_wp2_with fail;go_region
  all_goals
   go_wp2_with fail;refine FR (v:=.tuple #[zArr,.agg #[G ao,G a7]]) (by simp[results,He,go_sem,zArr,j,l,m,o,aq,a5]) rfl ?_;rw[x];exact Jc6 (((ah.four aT _ _ _ _).alloc _).alloc _).drew (((aV.four A _ _ _ _).alloc _).alloc _).drew b
 | inr H =>
  rw[hev]at D;have au:=bp H hev;have x:Hid (Js env fuel f1 f2 (.one t p r) L=payP fuel (f1 t H.1) p H.2):=O (by simp[Js,hev]);obtain⟨a,c1⟩:=H;obtain⟨i,v,rfl,aX,h,a4⟩:=D;simp only at au aX h a4 x;obtain⟨⟨j,l,m,o⟩,S,T,W,X⟩:=Vn A i;have ah:=O (Jap i);have aV:=O h;have bo:=O aX;obtain⟨af,ae,sc,R,Q,N,rfl,_,_⟩:=aX;have aq:w.1.size+1<w1.1.size:=by have:=i.size;simp at this;omega
  have a5:w.1.size<w1.1.size:=by omega
  have aY:=FT q h.below.size;have bO:C<w1.1.size+1:=by omega
  have bn:=V h.below q bd;have a8:=V h.below q be;have bM:=V h.below q bf;have bc:=O a8;have e:Hid (∀w',Below ((w1.alloc (.cells (aL af ae sc R Q N) 89)).alloc (.cells #[G 0,G 0] 117)).1.size ((w1.alloc (.cells (aL af ae sc R Q N) 89)).alloc (.cells #[G 0,G 0] 117)) w'->w'.cell? (U C 3)=some (aE t)/\w'.cell? (U C 4)=some (G p)/\w'.cell? (U w1.1.size 0)=some (E af ae sc)/\w'.cell? (U w1.1.size 1)=some (E R Q N)):=by
   intro w' b;have d:=((FQ w1.1.size w1).alloc aT (.cells (aL af ae sc R Q N) 89)).alloc (by simp) (.cells #[G 0,G 0] 117);have c:=(d.trans (b.mono (by simp;omega)));exact⟨V c aY bn,V c aY bc,(b.cell (p:=U w1.1.size 0) (by simp;omega)).trans (by simp),(b.cell (p:=U w1.1.size 1) (by simp;omega)).trans (by simp)⟩
  clear i h hev az bn a8 a5 d0 bu bw bx bv;change Hid _ at a4 au;go_wp2_with fail;go_region_held3 (fun w'=>w'.cell? (U C 3)=some (aE t)/\w'.cell? (U C 4)=some (G p)/\w'.cell? (U w1.1.size 0)=some (E af ae sc)/\w'.cell? (U w1.1.size 1)=some (E R Q N))
   (first|exact e _ aS.drew|exact e _ (aS.alloc aT _).drew|exact e _ (aS.drew.trans b)| exact e _ ((aS.drew.trans b).alloc b.size _)| exact e _ ((aS.alloc aT _).drew.trans (b.mono (by simp)))| exact e _ (aS.drew.trans (b.trans (d.mono b.size)))| exact e _ (((aS.drew.trans b).alloc b.size _).trans (d.mono (NE b.size (by simp))))| exact e _ ((aS.alloc aT _).drew.trans ((b.mono (by simp)).trans (d.mono (NE (by simp) b.size))))| exact e _ ((aS.drew.trans (b.trans (d.mono b.size))).alloc (NE b.size d.size) _)| exact e _ (((((aS.drew.trans b).alloc b.size _).trans (d.mono (NE b.size (by simp)))).setCell b.size _).setCell b.size _)| exact e _ ((((aS.alloc aT _).drew.trans ((b.mono (by simp)).trans (d.mono (NE (by simp) b.size)))).setCell (by simp) _).setCell (by simp) _)| (trace_state;fail))
   (first|(go_at_call 109;refine(ba.finds _).mono ?_;rintro an F ⟨g,lb,rfl,K,c,aa⟩;have bz:∀args w,(callFunc g args).run prog w=.ok (.enter g args) w:=K;have b:=O c;have ab:=O aa;obtain⟨aZ,bA⟩:=Yy c;have a6:=c.size;(simp at a6);have bE:=Nat.lt_of_succ_le a6;clear c aa K)| (go_at_fn g;refine(FnOne.call ab (P:=fun s=>But P w.1.size s/\s<w1.1.size) (a:=a) ?_ ?_ au.1).mono ?_;(first|exact FQ _ _|exact aS.alloc aT _);(refine(bo.imp (fun _ y D=>⟨y,D⟩)).below ?_;first|exact(((FQ w1.1.size w1).alloc aT _).alloc (by simp) _).drew.trans (b.mono (by simp;omega))| exact((((FQ w1.1.size w1).alloc aT _).alloc (by simp) _).drew.trans (b.mono (by simp;omega))).alloc (NE (by simp;omega) b.size) _|exact((((FQ w1.1.size w1).alloc aT _).alloc (by simp) _).alloc (by simp;omega) _).drew.trans (b.mono (by simp;omega)));rintro an w4 ⟨ax,aw,av,am,al,ak,rfl,u,f⟩;have d:=O f;have ay:=O u;obtain⟨Z,bB⟩:=Yy f;clear f u))
  have s:=Jlm (P:=P) (n:=w.1.size) (w1:=w1) ((((FQ w1.1.size w1).alloc aT _).alloc (by simp) _).drew.trans ((b.mono (by simp;omega)).trans (d.mono (by omega)))) ay Y (by omega);have c:=O s;obtain⟨K,f⟩:=nm (w4.alloc (.cells (aL ax aw av am al ak) 89));obtain⟨n8,u⟩:=nm w4.1.size;simp only[f,u]at c⊢;clear f u s;rotate_left;have aa:w4.cell? (U F.1.size 0)=some aH:=by rw[Z _ _ (by simp)];simp
  have ab:w4.cell? (U F.1.size 1)=some aH:=by rw[Z _ _ (by simp)];simp
  have s:=Jbn (P:=P) (n:=w.1.size) (n8:=F.1.size) (w1:=w1) (((((FQ w1.1.size w1).alloc aT _).alloc (by simp) _).drew.trans (b.mono (by simp;omega))).alloc (by omega) _ |>.trans (d.mono (by simp;omega))) ay Y (by simp;omega) (by omega) (by simp) d.size aa ab;have c:=O s;obtain⟨K,f⟩:=nm ((w4.setCell (U F.1.size 0) (E ax aw av)).setCell (U F.1.size 1) (E am al ak));obtain⟨n8,u⟩:=nm F.1.size;rw[f]at c⊢;simp only[u]at c⊢;clear f u s aa ab;rotate_left;have aa:w4.cell? (U (w1.1.size+1+1) 0)=some aH:=by rw[Z _ _ (by omega),aZ _ _ (by simp)];simp[NH]
  have ab:w4.cell? (U (w1.1.size+1+1) 1)=some aH:=by rw[Z _ _ (by omega),aZ _ _ (by simp)];simp[NH]
  have s:=Jbn (P:=P) (n:=w.1.size) (n8:=w1.1.size+1+1) (w1:=w1) (((((FQ w1.1.size w1).alloc aT _).alloc (by simp) _).alloc (by simp;omega) _).drew.trans ((b.mono (by simp;omega)).trans (d.mono (by omega)))) ay Y (by omega) (by omega) (by omega) d.size aa ab;have c:=O s;obtain⟨K,f⟩:=nm ((w4.setCell (U (w1.1.size+1+1) 0) (E ax aw av)).setCell (U (w1.1.size+1+1) 1) (E am al ak));obtain⟨n8,u⟩:=nm (w1.1.size+1+1);rw[f]at c⊢;simp only[u]at c⊢;clear f u s aa ab;rotate_left
  all_goals
   have s0:=c.c0;have s1:=c.c1;have a8:=V c.bel aY bc;have f:=aV.keep (c.bel);have ai:=O (Jpz (But P w.1.size) W0 mv fuel c1 K.drew f.drew (aK ax aw av am al ak) (f1 t a) p a4 hfl (c.arr.below aS.drew) (ba.ok a au.1).1 (fun y=>bh y.1));have a9:=O (show _/\_/\_/\_ from⟨j,l,m,o⟩);have bb:=O (show _/\_/\_/\_ from⟨S,T,W,X⟩);have ag:=O (I c).bel;clear f j l m o S T W X aZ bA Z bB a6 bE bz bM;cases hpay:payP fuel (f1 t a) p c1 with
   | inl er =>
    obtain⟨ao,a7⟩:=er;rw[hpay]at ai x;clear hpay;go_wp2_with fail;go_region_with (first|(go_at_call 110;refine ai.mono ?_;rintro an bL ⟨ac,rfl,bq,aj,ad⟩;have y:=(Kp.refl W0 K).drew.trans ac;obtain⟨⟨j,l,m,o⟩,S,T,W,X⟩:=Vm A aq ag y a9 bb;have aU:=O y;have aW:=O ad;clear ac y ad;unfold zArr))
    all_goals
     go_wp2_with fail;refine FR (v:=.tuple #[zArr,.agg #[G ao,G a7]]) (by simp[results,He,go_sem,zArr,j,l,m,o]) rfl ?_;rw[x];exact Jc6 (((ah.trans (Kp.of_below ag)).trans aU).four aT _ _ _ _) (aW.four A _ _ _ _) bq
   | inr z =>
    obtain⟨bN,aj⟩:=z;rw[hpay]at ai x;clear hpay;go_wp2_with fail;go_region_with (first|(go_at_call 110;refine ai.mono ?_;rintro an bL ⟨ac,bS,rfl,ao,ad,bD⟩;have y:=(Kp.refl W0 K).drew.trans ac;obtain⟨⟨j,l,m,o⟩,S,T,W,X⟩:=Vm A aq ag y a9 bb;have aU:=O y;have aW:=O ad;have a7:=O ao;obtain⟨bK,bJ,bI,bt,br,bq,rfl,_,_⟩:=ao;clear ac y ad))
    all_goals
     go_wp2_with fail;refine FR (v:=.tuple #[aK bK bJ bI bt br bq,.agg #[G 0,G 0]]) (by simp[results,He,go_sem,j,l,m,o]) rfl ?_;rw[x];exact Jnw (((ah.trans (Kp.of_below ag)).trans aU).four aT _ _ _ _) (aW.four A _ _ _ _) (Jju a7 _ _ _ _) bD
end Go.Proofs.YtjobgpahajhbnaaGreatDoor
