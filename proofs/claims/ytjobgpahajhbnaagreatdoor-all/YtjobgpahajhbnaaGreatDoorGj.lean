import Derived.Test.YtjobgpahajhbnaaGreatDoorDh
namespace Go.Proofs.YtjobgpahajhbnaaGreatDoor
open Go.RowKit Go.Proofs Go.Maps Go.Proofs.Tryz
attribute [local go_sem ↓] Go.wp_at_zero Go.wp_at_succ
set_option linter.all false
set_option maxRecDepth 20000
set_option maxHeartbeats 1000000
variable {A:List (Nat × Nat)} {B N a b db e i j m mid n op st:Nat} {S:Nat->Prop} {c:UInt8} {d d':List Int} {t:List UInt8} {v:Value} {w w' w1 w2 wr:World} {x:Ex} {y:Int}
theorem Jke:∀(s k:Nat) (d:List Int),(shUp s k d).length=d.length
 | 0,_,_=>rfl
 | s+1,k,d=>by rw[shUp,Jke,Yn]
theorem Jkg:∀(s k:Nat) (d:List Int),(shDn s k d).length=d.length
 | 0,_,_=>rfl
 | s+1,k,d=>by rw[shDn,Jkg,Yn]
theorem Gu{a b:Nat}:∀(s i:Nat) (d:List Int),(swR a b s i d).length=d.length
 | 0,_,_=>rfl
 | s+1,i,d=>by rw[swR,Gu,Yn]
theorem Jeh{m:Nat}:∀(f i j:Nat) (d:List Int),(rotP m f i j d).length=d.length
 | 0,_,_,_=>Gu _ _ _
 | f+1,i,j,d=>by
  rw[rotP];split
  .simp [Gu]
  split
  .rw [Jeh,Gu]
  rw[Jeh,Gu]
section
variable {cf:Int->Int->Int} {lt:Int->Int->Prop}
theorem Ord.back(hO:Ord cf lt){x:Int}(h:lt x y)(hp:y<x):cf x y<0:=by
 by_cases a:cf x y<0
 .exact a
 exact absurd (hO.trans h (hO.more a hp)) (hO.irr x)
theorem Ord.not(hO:Ord cf lt){x:Int}(h:lt x y):¬ cf y x<0:=fun hc=>hO.irr x (hO.trans h (hO.less hc))
theorem Jy2(hO:Ord cf lt)(hm:m=a+1)(hl:b<=d.length)(hmb:m<b)(h2:J2 lt d m b)(h3:Jak d a m b):J2 lt (shUp (bsF (fun h=>decide (cf (d.getD h 0) (d.getD a 0)<0)) m b-1-a) a d) a b/\From d (shUp (bsF (fun h=>decide (cf (d.getD h 0) (d.getD a 0)<0)) m b-1-a) a d) a b:=by
 have w:=Qf (p:=fun h=>decide (cf (d.getD h 0) (d.getD a 0)<0)) (b-m) (i:=m) (j:=b) aT (by omega);obtain⟨o,q⟩:=Jhw (p:=fun h=>decide (cf (d.getD h 0) (d.getD a 0)<0)) (b-m) (i:=m) (j:=b) aT (by omega) (by
  intro c k f g n l;have r:lt (ix d k) (ix d a):=hO.less (YB l);have s:=hO.back (hO.trans (h2 c k f g n) r) (h3 a c (by omega) (by omega) f (by omega));exact MV s)
 generalize(bsF (fun h=>decide (cf (d.getD h 0) (d.getD a 0)<0)) m b)=B at w o q⊢;have o:∀c,m<=c->c<B->lt (ix d c) (ix d a):=fun c f g=>hO.less (YB (o c f g));have q:∀c,B<=c->c<b->lt (ix d a) (ix d c):=fun c f g=>hO.more (Hq (q c f g)) (h3 a c (by omega) (by omega) (by omega) g);have r:=Joq (B-1-a) a d (by omega);have w1:∀t,a<=t->t<B-1->ix (shUp (B-1-a) a d) t=ix d (t+1):=fun t f g=>by rw[r,FY (by omega)]
 have w2:ix (shUp (B-1-a) a d) (B-1)=ix d a:=by rw[r,FU (by omega),FY (by omega)]
 have l:∀t,t<a\/B<=t->ix (shUp (B-1-a) a d) t=ix d t:=fun t e=>by rw[r,FU (by omega),FU (by omega)]
 refine⟨fun i j f g n=>?_,Jke _ _ _,fun k e=>l k (by omega),fun k f g=>?_⟩
 .by_cases s:i<B-1
  .rw [w1 i f s];by_cases k:j<B-1
   .rw [w1 j (by omega) k];exact h2 (i+1) (j+1) (by omega) (by omega) (by omega)
   by_cases u:j=B-1
   .rw [u,w2];exact o (i+1) (by omega) (by omega)
   rw[l j (by omega)];exact h2 (i+1) j (by omega) (by omega) n
  by_cases u:i=B-1
  .rw [u,w2,l j (by omega)];exact q j (by omega) n
  rw[l i (by omega),l j (by omega)];exact h2 i j (by omega) g n
 by_cases s:k<B-1
 .exact ⟨k+1,by omega,by omega,w1 k f s⟩
 by_cases u:k=B-1
 .exact ⟨a,FP _,by omega,by rw[u,w2]⟩
 exact⟨k,f,g,l k (by omega)⟩
theorem Jy1(hO:Ord cf lt)(hb:b=m+1)(hl:b<=d.length)(ham:a<m)(h1:J2 lt d a m)(h3:Jak d a m b):J2 lt (shDn (m-bsF (fun h=>decide (¬ cf (d.getD m 0) (d.getD h 0)<0)) a m) m d) a b/\From d (shDn (m-bsF (fun h=>decide (¬ cf (d.getD m 0) (d.getD h 0)<0)) a m) m d) a b:=by
 have u:=Qf (p:=fun h=>decide (¬ cf (d.getD m 0) (d.getD h 0)<0)) (m-a) (i:=a) (j:=m) aT (by omega);obtain⟨l,n⟩:=Jhw (p:=fun h=>decide (¬ cf (d.getD m 0) (d.getD h 0)<0)) (m-a) (i:=a) (j:=m) aT (by omega) (by
  intro c k f g q o;have r:lt (ix d k) (ix d m):=hO.more (YB o) (h3 k m (by omega) q aT (by omega));exact MV (hO.not (hO.trans (h1 c k f g q) r)))
 generalize(bsF (fun h=>decide (¬ cf (d.getD m 0) (d.getD h 0)<0)) a m)=B at u l n⊢;have l:∀c,a<=c->c<B->lt (ix d c) (ix d m):=fun c f g=>hO.more (YB (l c f g)) (h3 c m f (by omega) aT (by omega));have n:∀c,B<=c->c<m->lt (ix d m) (ix d c):=fun c f g=>hO.less (Decidable.not_not.1 (Hq (n c f g)));have r:=Jor (m-B) m d (by omega) (by omega);have w1:ix (shDn (m-B) m d) B=ix d m:=by rw[r,FY (by omega)]
 have w2:∀t,B<t->t<=m->ix (shDn (m-B) m d) t=ix d (t-1):=fun t f g=>by rw[r,FU (by omega),FY (by omega)]
 have o:∀t,t<B\/m<t->ix (shDn (m-B) m d) t=ix d t:=fun t e=>by rw[r,FU (by omega),FU (by omega)]
 refine⟨fun i j f g q=>?_,Jkg _ _ _,fun k e=>o k (by omega),fun k f g=>?_⟩
 .by_cases s:i<B
  .rw [o i (by omega)];by_cases q:j<B
   .rw [o j (by omega)];exact h1 i j f g (by omega)
   by_cases k:j=B
   .rw [k,w1];exact l i f s
   rw[w2 j (by omega) (by omega)];exact h1 i (j-1) f (by omega) (by omega)
  by_cases q:i=B
  .rw [q,w1,w2 j (by omega) (by omega)];exact n (j-1) (by omega) (by omega)
  rw[w2 i (by omega) (by omega),w2 j (by omega) (by omega)];exact h1 (i-1) (j-1) (by omega) (by omega) (by omega)
 by_cases s:k<B
 .exact ⟨k,f,g,o k (by omega)⟩
 by_cases q:k=B
 .exact ⟨m,by omega,by omega,by rw[q,w1]⟩
 exact⟨k-1,by omega,by omega,w2 k (by omega) (by omega)⟩
structure RotX (d d1:List Int) (a s m e mid b:Nat):Prop where
 len:d1.length=d.length
 lo:∀ t,t<s\/e<=t->ix d1 t=ix d t
 one:∀ t,s<=t->t<mid->ix d1 t=ix d (t+m-s)
 two:∀ t,mid<=t->t<e->ix d1 t=ix d (t+s-mid)
theorem J3j{s:Nat}(hb:b<=d.length)(h1:s<=m)(h2:m<=e)(h3:e<=b)(he:e+s=mid+m):RotX d (if s<m/\m<e then rotF s m e d else d) a s m e mid b:=by
 by_cases g:s<m/\m<e
 .rw [FY g];have h:=Jip (m:=m) (m-s+(e-m)) (m-s) (e-m) d aT (by omega) (by omega) (by omega) (by omega);refine⟨Jeh _ _ _ _,fun t i=>?_,fun t c f=>?_,fun t c f=>?_⟩
  .simp_all [rotF];omega
  .unfold rotF;rw[h,FY (by omega)];congr 1;omega
  unfold rotF;rw[h,FU (by omega),FY (by omega)];congr 1;omega
 rw[FU g];refine⟨rfl,fun t _=>rfl,fun t c f=>?_,fun t c f=>?_⟩
 .grind
 grind
theorem Jt1(hO:Ord cf lt)(ham:a<m)(hmb:m<b)(h1:J2 lt d a m)(h2:J2 lt d m b)(h3:Jak d a m b){s:Nat}(hs:Q2 cf a m b d=s)(hmid:(a+b) / 2=mid)(he:mid+m-s=e):(∀i j,a<=i->i<s->e<=j->j<b->lt (ix d i) (ix d j))/\(∀i j,s<=i->i<m->m<=j->j<e->lt (ix d j) (ix d i)):=by
 have:=G8 (cf:=cf) (d:=d) ham hmb;unfold Q2 at hs;rw[hmid]at hs;obtain⟨h,y⟩:=nm (if mid<m then mid+m-b else a);obtain⟨g,x⟩:=nm (if mid<m then mid else m);rw[y,x]at hs;have B:a<=h/\h<=g/\g<=m/\g<=mid/\mid+m<=h+b/\(h=a\/h+b=mid+m)/\(g=m\/g=mid):=by
  by_cases n:mid<m
  .rw [FY n]at y x;omega
  rw[FU n]at y x;omega
 obtain⟨L,z,N,P,Q,R,S⟩:=B;have C:=Qf (p:=fun c=>decide (¬ cf (d.getD (mid+m-1-c) 0) (d.getD c 0)<0)) (g-h) (i:=h) (j:=g) aT z;obtain⟨u,w⟩:=Jhw (p:=fun c=>decide (¬ cf (d.getD (mid+m-1-c) 0) (d.getD c 0)<0)) (g-h) (i:=h) (j:=g) aT z (by
  intro c n f k l r;have o:lt (ix d n) (ix d (mid+m-1-n)):=hO.more (YB r) (h3 n (mid+m-1-n) (by omega) (by omega) (by omega) (by omega));have t:lt (ix d (mid+m-1-n)) (ix d (mid+m-1-c)):=h2 _ _ (by omega) (by omega) (by omega);exact MV (hO.not (hO.trans (hO.trans (h1 c n (by omega) k (by omega)) o) t)))
 rw[hs]at C u w;have u:∀c,h<=c->c<s->lt (ix d c) (ix d (mid+m-1-c)):=fun c f k=>hO.more (YB (u c f k)) (h3 c _ (by omega) (by omega) (by omega) (by omega));have w:∀c,s<=c->c<g->lt (ix d (mid+m-1-c)) (ix d c):=fun c f k=>hO.less (Decidable.not_not.1 (Hq (w c f k)));have F:∀{i j},a<=i->i<=j->j<m->∀{o},lt (ix d j) o->lt (ix d i) o:=fun{i j} f k l {o} n=>by
  by_cases q:i=j
  .rw [q];exact n
  exact hO.trans (h1 i j f (by omega) l) n
 have H:∀{i j},m<=i->i<=j->j<b->∀{o},lt o (ix d i)->lt o (ix d j):=fun{i j} f k l {o} n=>by
  by_cases q:i=j
  .rw [<-q];exact n
  exact hO.trans n (h2 i j f (by omega) l)
 constructor
 .intro i j f k l r;have t:h<s:=by omega
  have q:=u (s-1) (by omega) (by omega);rw[show mid+m-1-(s-1)=e by omega]at q;exact H (by omega) l r (F f (by omega) (by omega) q)
 intro i j f k l r;have D:s<g:=by omega
 have q:=w s aT D;rw[show mid+m-1-s=e-1 by omega]at q;have t:lt (ix d j) (ix d s):=by
  by_cases A:j=e-1
  .rw [A];exact q
  exact hO.trans (h2 j (e-1) l (by omega) (by omega)) q
 by_cases A:i=s
 .rw [A];exact t
 exact hO.trans t (h1 s i (by omega) (by omega) k)
theorem Jea(hO:Ord cf lt):∀(f a m b:Nat) (d:List Int),b<=d.length->a<m->m<b->b-a<=f->J2 lt d a m->J2 lt d m b->Jak d a m b->J2 lt (symP cf f a m b d) a b/\From d (symP cf f a m b d) a b
 | 0,a,m,b,d,_,h1,h2,h3,_,_,_=>absurd h3 (by omega)
 | f+1,a,m,b,d,hl,ham,hmb,hf,h1,h2,h3=>by
  by_cases e1:m=a+1
  .rw [symP,FY e1];exact Jy2 hO e1 hl hmb h2 h3
  by_cases e2:b=m+1
  .rw [symP,FU e1,FY e2];exact Jy1 hO e2 hl ham h1 h3
  rw[Ja0 e1 e2];have hr:=G8 (cf:=cf) (d:=d) ham hmb;obtain⟨s,hs⟩:=nm (Q2 cf a m b d);obtain⟨mid,hmid⟩:=nm ((a+b) / 2);obtain⟨e,he⟩:=nm (mid+m-s);obtain⟨g1,g2⟩:=Jt1 hO ham hmb h1 h2 h3 hs hmid he;rw[hs,hmid]at hr⊢;simp only;rw[he];have hx:=J3j (a:=a) (mid:=mid) hl (s:=s) (m:=m) (e:=e) (by omega) (by omega) (by omega) (by omega);generalize(if s<m/\m<e then rotF s m e d else d)=d1 at hx⊢;have c1:∀t,a<=t->t<s->ix d1 t=ix d t:=fun t _ e=>hx.lo t (by omega);have c4:∀t,e<=t->t<b->ix d1 t=ix d t:=fun t e _=>hx.lo t (by omega);have fr1:From d d1 a b:=⟨hx.len,fun k hk=>hx.lo k (by omega),fun k k1 k2=>by
   by_cases p1:k<s
   .exact ⟨k,k1,k2,c1 k k1 p1⟩
   by_cases p2:k<mid
   .exact ⟨k+m-s,by omega,by omega,hx.one k (by omega) p2⟩
   by_cases p3:k<e
   .exact ⟨k+s-mid,by omega,by omega,hx.two k (by omega) p3⟩
   exact⟨k,k1,k2,c4 k (by omega) k2⟩⟩
  -- the halves stand right
  have hh:∀i j,a<=i->i<mid->mid<=j->j<b->lt (ix d1 i) (ix d1 j):=by
   intro i j c g n h;by_cases p1:i<s
   .rw [c1 i c p1];by_cases l:j<e
    .rw [hx.two j n l];exact h1 i _ c (by omega) (by omega)
    rw[c4 j (by omega) h];exact g1 i j c p1 (by omega) h
   rw[hx.one i (by omega) g];by_cases l:j<e
   .rw [hx.two j n l];exact g2 _ _ (by omega) (by omega) (by omega) (by omega)
   rw[c4 j (by omega) h];exact h2 _ j (by omega) (by omega) h
  have y:J2 lt d1 a s:=fun i j c g h=>by rw[c1 i c (by omega),c1 j (by omega) h];exact h1 i j c g (by omega)
  have w:J2 lt d1 s mid:=fun i j c g h=>by rw[hx.one i c (by omega),hx.one j (by omega) h];exact h2 _ _ (by omega) (by omega) (by omega)
  have z:J2 lt d1 mid e:=fun i j c g h=>by rw[hx.two i c (by omega),hx.two j (by omega) h];exact h1 _ _ (by omega) (by omega) (by omega)
  have A:J2 lt d1 e b:=fun i j c g h=>by rw[c4 i c (by omega),c4 j (by omega) h];exact h2 i j (by omega) g h
  have H:Jak d1 a s mid:=fun i j c g h o=>by rw[c1 i c g,hx.one j h o];exact h3 _ _ c (by omega) (by omega) (by omega)
  have K:Jak d1 mid e b:=fun i j c g h o=>by rw[hx.two i c g,c4 j h o];exact h3 _ _ (by omega) (by omega) (by omega) o
  -- the first half
  have r:J2 lt (if a<s/\s<mid then symP cf f a s mid d1 else d1) a mid/\From d1 (if a<s/\s<mid then symP cf f a s mid d1 else d1) a mid:=by
   by_cases l:a<s/\s<mid
   .rw [FY l];exact Jea hO f a s mid d1 (by rw[hx.len];omega) l.1 l.2 (by omega) y w H
   rw[FU l];refine⟨?_,From.refl _ _ _⟩;by_cases n:a<s
   .rw [show mid=s by omega];exact y
   have:s=a:=by omega
   rw[this]at w;exact w
  generalize(if a<s/\s<mid then symP cf f a s mid d1 else d1)=d2 at r⊢;obtain⟨r,q⟩:=r;have n:=fun k hk=>q.out k (NO hk);have u:J2 lt (if mid<e/\e<b then symP cf f mid e b d2 else d2) mid b/\From d2 (if mid<e/\e<b then symP cf f mid e b d2 else d2) mid b:=by
   by_cases l:mid<e/\e<b
   .rw [FY l];exact Jea hO f mid e b d2 (by rw[q.len,hx.len];exact hl) l.1 l.2 (by omega) (fun i j c g h=>by rw[n i c,n j (by omega)];exact z i j c g h) (fun i j c g h=>by rw[n i (by omega),n j (by omega)];exact A i j c g h) (fun i j c g h o=>by rw[n i c,n j (by omega)];exact K i j c g h o)
   rw[FU l];refine⟨fun i j c g h=>?_,From.refl _ _ _⟩;rw[n i c,n j (by omega)];by_cases p:mid<e
   .exact z i j c g (by omega)
   exact A i j (by omega) g h
  generalize(if mid<e/\e<b then symP cf f mid e b d2 else d2)=d3 at u⊢;obtain⟨u,p⟩:=u;refine⟨fun i j c g h=>?_,(fr1.trans (q.mono aT (by omega))).trans (p.mono (by omega) aT)⟩;by_cases p1:i<mid
  .by_cases l:j<mid
   .rw [p.out i (NN p1),p.out j (NN l)];exact r i j c g l
   rw[p.out i (NN p1)];obtain⟨C,u1,u2,u3⟩:=q.inn i c p1;obtain⟨x,B,D,F⟩:=p.inn j (by omega) h;rw[u3,F,n x B];exact hh C x u1 u2 B D
  exact u i j (by omega) g h
end
theorem G7(hi:i<d.length)(hj:j<d.length):(Qc d i j).Perm d:=by
 rw[List.perm_iff_count];intro x;unfold Qc;grind
theorem Jdv{cf:Int->Int->Int}{a:Nat}:∀{k:Nat} {d:List Int},a+k<d.length->(Gn cf a k d).Perm d
 | 0,_,_=>JG _
 | k+1,d,h=>by
  rw[Gn];split
  .exact (Jdv (by grind[Yn])).trans (G7 (by omega) (by omega))
  simp
theorem G0{cf:Int->Int->Int}{a:Nat}:∀{s i:Nat} {d:List Int},a<=i->i+s<=d.length->(Zr cf a s i d).Perm d
 | 0,_,_,_,_=>JG _
 | s+1,i,d,h1,h2=>by
  rw[Zr];have hp:=Jdv (cf:=cf) (a:=a) (k:=i-a) (d:=d) (by omega);exact(G0 (by omega) (by rw[hp.length_eq];omega)).trans hp
theorem Jfw:∀{s k:Nat} {d:List Int},k+s<d.length->(shUp s k d).Perm d
 | 0,_,_,_=>JG _
 | s+1,k,d,h=>by rw[shUp];exact(Jfw (by grind[Yn])).trans (G7 (by omega) (by omega))
theorem Jfx:∀{s k:Nat} {d:List Int},k<d.length->(shDn s k d).Perm d
 | 0,_,_,_=>JG _
 | s+1,k,d,h=>by rw[shDn];exact(Jfx (by grind[Yn])).trans (G7 (by omega) (by omega))
theorem Ja1{a b:Nat}:∀{s i:Nat} {d:List Int},a+i+s<=d.length->b+i+s<=d.length->(swR a b s i d).Perm d
 | 0,_,_,_,_=>JG _
 | s+1,i,d,h1,h2=>by rw[swR];exact(Ja1 (by grind[Yn]) (by grind[Yn])).trans (G7 (by omega) (by omega))
theorem Jb0{m:Nat}:∀{f i j:Nat} {d:List Int},i+j<=f->0<i->0<j->i<=m->m+j<=d.length->(rotP m f i j d).Perm d
 | 0,i,j,d,h,h1,_,_,_=>absurd h (by omega)
 | f+1,i,j,d,h,h1,h2,h3,h4=>by
  rw[rotP];split
  .grind [Ja1]
  split
  .exact (Jb0 (by omega) (by omega) h2 (by omega) (by simp_all[Gu])).trans (Ja1 (by omega) (by omega))
  exact(Jb0 (by omega) h1 (by omega) h3 (by grind[Gu])).trans (Ja1 (by omega) (by omega))
theorem G6{cf:Int->Int->Int}:∀{f a m b:Nat} {d:List Int},b<=d.length->a<m->m<b->(symP cf f a m b d).Perm d
 | 0,_,_,_,_,_,_,_=>JG _
 | f+1,a,m,b,d,hl,h1,h2=>by
  by_cases e1:m=a+1
  .rw [symP,FY e1];have:=Qf (p:=fun h=>decide (cf (d.getD h 0) (d.getD a 0)<0)) _ (i:=m) (j:=b) aT (by omega);grind[Jfw]
  by_cases e2:b=m+1
  .rw [symP,FU e1,FY e2];grind[Jfx]
  rw[Ja0 e1 e2];have hs:=G8 (cf:=cf) (d:=d) h1 h2;generalize Q2 cf a m b d=s at hs⊢;simp only;obtain⟨e,he⟩:=nm ((a+b) / 2+m-s);rw[he];have i1:(if s<m/\m<e then rotF s m e d else d).Perm d:=by
   split
   .exact Jb0 aT (by omega) (by omega) (by omega) (by omega)
   exact JG _
  generalize(if s<m/\m<e then rotF s m e d else d)=d1 at i1⊢;have c:(if a<s/\s<(a+b) / 2 then symP cf f a s ((a+b) / 2) d1 else d1).Perm d:=by
   split
   .rename_i hh;exact(G6 (by rw[i1.length_eq];omega) hh.1 hh.2).trans i1
   exact i1
  generalize(if a<s/\s<(a+b) / 2 then symP cf f a s ((a+b) / 2) d1 else d1)=d2 at c⊢;split
  .rename_i hh;exact(G6 (by rw[c.length_eq];exact hl) hh.1 hh.2).trans c
  exact c
section
variable {cf:Int->Int->Int} {lt:Int->Int->Prop}
def Blk(lt:Int->Int->Prop)(n s:Nat)(d:List Int)(q:Nat):Prop:=J2 lt d (q*s) (min (q*s+s) n)/\∀k,q*s<=k->k<min (q*s+s) n->((q*s:Nat):Int)<=ix d k/\ix d k<((min (q*s+s) n:Nat):Int)
theorem Blk.keep{s q:Nat}(h:Blk lt n s d q)(hk:∀k,q*s<=k->k<q*s+s->ix d' k=ix d k):Blk lt n s d' q :=
 ⟨fun i j h1 h2 h3=>by rw[hk i h1 (by omega),hk j (by omega) (by omega)];exact h.1 i j h1 h2 h3,fun k h1 h2=>by rw[hk k h1 (by omega)];exact h.2 k h1 h2⟩
theorem Jbb(h:From d d' a b)(hv:∀k,a<=k->k<b->(a:Int)<=ix d k/\ix d k<(b:Int)):∀k,a<=k->k<b->(a:Int)<=ix d' k/\ix d' k<(b:Int):=fun k h1 h2=>by
 obtain⟨k',e1,e2,e3⟩:=h.inn k h1 h2;simp_all
theorem Jxr(hO:Ord cf lt){n:Nat}:∀(f q:Nat) (d:List Int),d.length=n->n<q*20+f->q*20<=n->(∀p,p<q->Blk lt n 20 d p)->(∀k,q*20<=k->k<n->ix d k=(k:Int))->(∀p,Blk lt n 20 (st1 cf n f (q*20) d) p)/\(st1 cf n f (q*20) d).Perm d
 | 0,q,d,_,h1,h2,_,_=>absurd h1 (by omega)
 | f+1,q,d,hl,h1,h2,h3,h4=>by
  rw[st1];by_cases hb:q*20+20<=n
  .rw [FY hb];obtain⟨r1,r2⟩:=Jch hO (a:=q*20) (b:=q*20+20) (q*20+20-(q*20+1)) (q*20+1) d (by omega) (by omega) (by omega) (fun i j e1 e2 e3=>by omega) (fun p t e1 e2 e3 e4=>by grind);have hp:=G0 (cf:=cf) (a:=q*20) (s:=q*20+20-(q*20+1)) (i:=q*20+1) (d:=d) (by omega) (by omega);have hr:=Jbb r2 (fun k e1 e2=>by grind);generalize Zr cf (q*20) (q*20+20-(q*20+1)) (q*20+1) d=d1 at r1 r2 hp hr⊢;have hq:q*20+20=(q+1)*20:=by omega
   rw[hq];obtain⟨g,h⟩:=Jxr hO (n:=n) f (q+1) d1 (by rw[hp.length_eq];exact hl) (by omega) (by omega) (by
    intro p l;by_cases e:p=q
    .subst e;have c:min (p*20+20) n=p*20+20:=by omega
     unfold Blk;rw[c];exact⟨r1,hr⟩
    exact(h3 p (by omega)).keep (fun k e1 e2=>r2.out k (NN (by omega)))) (fun k e1 e2=>by rw[r2.out k (NO (by omega))];exact h4 k (by omega) e2)
   exact⟨g,h.trans hp⟩
  rw[FU hb];have h:J2 lt (Zr cf (q*20) (n-(q*20+1)) (q*20+1) d) (q*20) n/\From d (Zr cf (q*20) (n-(q*20+1)) (q*20+1) d) (q*20) n/\(Zr cf (q*20) (n-(q*20+1)) (q*20+1) d).Perm d:=by
   by_cases e:q*20<n
   .obtain ⟨r1,r2⟩:=Jch hO (a:=q*20) (b:=n) (n-(q*20+1)) (q*20+1) d (by omega) (by omega) (by omega) (fun i j e1 e2 e3=>by omega) (fun p t e1 e2 e3 e4=>by rw[h4 p (by omega) (by omega),h4 t (by omega) (by omega)];omega);exact⟨r1,r2,G0 (by omega) (by omega)⟩
   rw[show n-(q*20+1)=0 by omega,Zr];exact⟨fun i j e1 e2 e3=>by omega,From.refl _ _ _,JG _⟩
  obtain⟨r1,r2,l⟩:=h;refine⟨fun p=>?_,l⟩;by_cases e:p<q
  .exact (h3 p e).keep (fun k e1 e2=>r2.out k (NN (by omega)))
  by_cases g:p=q
  .subst g;have c:min (p*20+20) n=n:=by omega
   unfold Blk;rw[c];exact⟨r1,Jbb r2 (fun k e1 e2=>by rw[h4 k e1 e2];omega)⟩
  have c:min (p*20+20) n<=p*20:=by omega
  exact⟨fun i j e1 e2 e3=>by omega,fun k e1 e2=>by omega⟩
theorem Jx3(hO:Ord cf lt){n s:Nat}(hs:0<s):∀(f q:Nat) (d:List Int),d.length=n->n<q*(2*s)+f->(∀p,p<q->Blk lt n (2*s) d p)->(∀p,2*q<=p->Blk lt n s d p)->(∀p,Blk lt n (2*s) (mrg cf n s f (q*(2*s)) d) p)/\(mrg cf n s f (q*(2*s)) d).Perm d
 | 0,q,d,_,h1,h3,_=>⟨fun p=>by
  by_cases e:p<q
  .exact h3 p e
  have:q*(2*s)<=p*(2*s):=NR _ (by omega);exact⟨fun i j e1 e2 e3=>by omega,fun k e1 e2=>by omega⟩,JG _⟩
 | f+1,q,d,hl,h1,h3,h4=>by
  rw[mrg];obtain⟨a,ha⟩:=nm (q*(2*s));have ha1:(2*q)*s=a:=by rw[<-ha,ZF 2 q,Pi]
  have y:(2*q+1)*s=a+s:=by rw[ZG,ha1,YA]
  have z:(q+1)*(2*s)=a+2*s:=by rw[ZG,ha,YA]
  have b1:=h4 (2*q) (by omega);have c:=h4 (2*q+1) (by omega);unfold Blk at b1 c;rw[ha1]at b1;rw[y]at c;rw[ha]at h1⊢;by_cases x:a+2*s<=n
  .rw [FY x];have u:min (a+s) n=a+s:=by omega
   have w:min (a+s+s) n=a+2*s:=by omega
   rw[u]at b1;rw[w]at c;obtain⟨l,g⟩:=Jea hO (2*s) a (a+s) (a+2*s) d (by omega) (by omega) (by omega) (by omega) b1.1 c.1 (fun i j h o r t=>by have:=b1.2 i h o;have:=c.2 j r t;omega);have o:=G6 (cf:=cf) (f:=2*s) (a:=a) (m:=a+s) (b:=a+2*s) (d:=d) (by omega) (by omega) (by omega);have r:=Jbb g (fun k e1 e2=>by
    by_cases e:k<a+s
    .have:=b1.2 k e1 e;omega
    have:=c.2 k (by omega) e2;omega)
   generalize symP cf (2*s) a (a+s) (a+2*s) d=d1 at l g o r⊢;rw[<-z];obtain⟨A,B⟩:=Jx3 hO (n:=n) hs f (q+1) d1 (by rw[o.length_eq];exact hl) (by omega) (by
    intro p t;by_cases e:p=q
    .subst e;have h:min (a+2*s) n=a+2*s:=by omega
     unfold Blk;rw[ha,h];exact⟨l,r⟩
    .have h:(p+1)*(2*s)<=q*(2*s):=NR _ (by omega);rw[ZG,YA]at h;exact(h3 p (by omega)).keep (fun k e1 e2=>g.out k (NN (by omega)))) (by
    intro p t;have h:(2*q+2)*s<=p*s:=NR _ (by omega);rw[ZG,ha1]at h;exact(h4 p (by omega)).keep (fun k e1 e2=>g.out k (NO (by omega))))
   exact⟨A,B.trans o⟩
  rw[FU x];have A:J2 lt (if a+s<n then symP cf (n-a) a (a+s) n d else d) a n/\From d (if a+s<n then symP cf (n-a) a (a+s) n d else d) a n/\(if a+s<n then symP cf (n-a) a (a+s) n d else d).Perm d:=by
   by_cases e:a+s<n
   .rw [FY e];have u:min (a+s) n=a+s:=by omega
    have w:min (a+s+s) n=n:=by omega
    rw[u]at b1;rw[w]at c;obtain⟨l,g⟩:=Jea hO (n-a) a (a+s) n d (by omega) (by omega) e (by omega) b1.1 c.1 (fun i j h o r t=>by have:=b1.2 i h o;have:=c.2 j r t;omega);exact⟨l,g,G6 (by omega) (by omega) e⟩
   rw[FU e];refine⟨fun i j e1 e2 e3=>b1.1 i j e1 e2 (by omega),From.refl _ _ _,JG _⟩
  have r:∀k,a<=k->k<n->(a:Int)<=ix d k/\ix d k<(n:Int):=fun k e1 e2=>by
   by_cases e:k<a+s
   .have:=b1.2 k e1 (by omega);omega
   have:=c.2 k (by omega) (by omega);omega
  obtain⟨l,g,t⟩:=A;refine⟨fun p=>?_,t⟩;by_cases e:p<q
  .have h:(p+1)*(2*s)<=q*(2*s):=NR _ (by omega);rw[ZG,YA]at h;exact(h3 p e).keep (fun k e1 e2=>g.out k (NN (by omega)))
  by_cases o:p=q
  .subst o;have h:min (a+2*s) n=n:=by omega
   unfold Blk;rw[ha,h];exact⟨l,Jbb g r⟩
  have h:(q+1)*(2*s)<=p*(2*s):=NR _ (by omega);exact⟨fun i j e1 e2 e3=>by omega,fun k e1 e2=>by omega⟩
theorem Jqt(hO:Ord cf lt){n:Nat}:∀(f s:Nat) (d:List Int),d.length=n->0<s->n<s+f->(∀p,Blk lt n s d p)->J2 lt (mrgs cf n f s d) 0 n/\(mrgs cf n f s d).Perm d
 | 0,s,d,_,_,h1,h2=>⟨fun i j e1 e2 e3=>(h2 0).1 i j (by omega) e2 (by omega),JG _⟩
 | f+1,s,d,hl,hs,h1,h2=>by
  rw[mrgs];by_cases hb:s<n
  .rw [FY hb];have:=Jx3 hO (n:=n) hs (n+1) 0 d hl (by omega) (fun p hp=>by omega) (fun p _=>h2 p);rw[Nat.zero_mul]at this;obtain⟨r1,r2⟩:=this;obtain⟨t1,t2⟩:=Jqt hO (n:=n) f (2*s) (mrg cf n s (n+1) 0 d) (by rw[r2.length_eq];exact hl) (by omega) (by omega) r1;exact⟨t1,t2.trans r2⟩
  rw[FU hb];exact⟨fun i j e1 e2 e3=>(h2 0).1 i j (by omega) e2 (by omega),JG _⟩
theorem Jfs(hO:Ord cf lt)(n):J2 lt (Z0 cf n (Ql n)) 0 n/\(Z0 cf n (Ql n)).Perm (Ql n):=by
 have c:∀a,a<n->ix (Ql n) a=(a:Int):=fun a g=>by simp_all[ix,Ql]
 have b:=Jxr hO (n:=n) (n+1) 0 (Ql n) (by simp[Ql]) (by omega) (by omega) (fun f d=>by omega) (fun a _ e=>c a e);rw[Nat.zero_mul]at b;obtain⟨d,f⟩:=Jqt hO (n:=n) (n+1) 20 (st1 cf n (n+1) 0 (Ql n)) (by rw[b.2.length_eq];simp[Ql]) (by omega) (by omega) b.1;exact⟨d,f.trans b.2⟩
end
def upL(l:List Int):List Int:=Z0 (Qx Qw l) l.length (Ql l.length)
def dnL(l:List Int):List Int:=Z0 (Qx (fun x y=>Qw y x) l) l.length (Ql l.length)
def ltU(l:List Int)(x y:Int):Prop:=ix l x.toNat<ix l y.toNat\/(ix l x.toNat=ix l y.toNat/\x<y)
def ltD(l:List Int)(x y:Int):Prop:=ix l y.toNat<ix l x.toNat\/(ix l x.toNat=ix l y.toNat/\x<y)
theorem Jqf(l):Ord (Qx Qw l) (ltU l) where
 trans:=by simp[ltU];omega
 irr:=by simp[ltU]
 less:=by
  intro x y a;have a:Qw (ix l x.toNat) (ix l y.toNat)<0:=a;grind[Qw,ltU]
 more:=by
  intro x y a b;have a:¬ Qw (ix l y.toNat) (ix l x.toNat)<0:=a;grind[Qw,ltU]
theorem Jqg(l):Ord (Qx (fun x y=>Qw y x) l) (ltD l) where
 trans:=by simp[ltD];omega
 irr:=by simp[ltD]
 less:=by
  intro x y a;have a:Qw (ix l y.toNat) (ix l x.toNat)<0:=a;grind[Qw,ltD]
 more:=by
  intro x y a b;have a:¬ Qw (ix l x.toNat) (ix l y.toNat)<0:=a;grind[Qw,ltD]
section
variable {env:ByteArray->Option Arr} {l:List Int}
end
theorem GP:(prog.info? 166).map (fun i=>(i.zero,i.size,i.bytes))=some (some (.agg #[.string ⟨#[]⟩,G 0]),2,24):=by kernel_rfl
theorem Jzj{s:ByteArray}{v':Value}{p:Nat}{o:Obj}
 (hb:J w wr) (hb1:J wr w1) (hown:wr.ownsRow w.1.size 166 2 v A.length (Na s A))
 (h2:w2.ownsRow w.1.size 166 2 v' (A.length+1) (Na s A++[aE (s.extract p (p+n)),G p])) (hg:(w1.alloc o).grownBy w2 v.ownBlock):
 w2.ownsRow w.1.size 166 2 v' (A++[(p,p+n)]).length (Na s (A++[(p,p+n)]))/\J w w2:=by
 have a:=hb.trans (hb1.mono hb.size);have c:=a.size;constructor
 .simp [Jjr];omega
 exact(a.alloc c o).grown hg (by simp;omega) (fun d b=>(hown.lt d b).1)
theorem Jdb(s)(w)(hs:s.size<=200):
 Calls prog 81 #[aE s] w fun e w'=>∃v,e=aD (.tuple #[v,G (lexR s).2])/\w'.ownsRow w.1.size 166 2 v (lexR s).1.length (Na s (lexR s).1)/\J w w':=by
 obtain⟨F,y,B,C,D⟩:=NY GP;obtain⟨o,p⟩:=nm (lexS s s.size 0 []);have u:lexR s=o:=p;rw[u];go_enter func81,ntmps81;go_wp2_with fail;go_loopw [4,5] (fun v i wr=>∃(a b:Nat) (A:List (Nat × Nat)),a<=s.size/\i=G a/\A.length<=a/\wr.ownsRow w.1.size 166 2 v A.length (Na s A)/\J w wr/\s.size<=b+a/\lexS s b a A=o) (fun _ i _=>s.size-(intOf i).toNat)
 .exact ⟨0,s.size,[],by omega,rfl,by simp,NW _ _ _ _,FQ _ _,by omega,p⟩
 obtain⟨a,b,A,R,rfl,L,r,h,N,k⟩:=hrel;by_cases g:a<s.size
 .obtain ⟨d,rfl⟩:∃d,b=d+1:=⟨b-1,by omega⟩;cases h32:((s[a].toNat:Int)== 32)
  .cases ht:tl (s.data.toList.drop a)with
   | none =>
    have l:=Ju5 ht;have c:=k.symm.trans (Jq8 s d a A g h32 ht);go_wp2_with fail;refine aR (Jga s a _ hs g) fun w1 f=>?_;rw[l];go_wp2;go_ret2;refine⟨M,?_,?_,h.trans (f.mono h.size)⟩
    .rw [c];rfl
    rw[c];exact NW _ _ _ _
   | some n =>
    have q:=Jls ht;rw[Fu]at q;have:=q.1;have:a+n<=s.size:=by omega
    have l:=Ju4 ht;have c:=(Jq5 s d a n A g h32 ht).symm.trans k;go_wp2_with fail;refine aR (Jga s a _ hs g) fun w1 f=>?_;rw[l];have t:=Jf r f;go_wp2_with (at_builtin;refine JA _ rfl _ _ 125 rfl w.1.size 166 F (.agg #[.string ⟨#[]⟩,G 0]) 2 24 underlying125 y B C D rfl (by decide) _ _ _ rfl (t.alloc _) (adP0 w1) 1 1 [aE (s.extract a (a+n)),G a] rfl rfl ?c1 ?c2 ?c3 ?c4 ?c5 ?_)
    case c1 =>
     intro j H m;match j,m with
     | 0,m=>simp_all[Addr.add]
     | 1,m=>simp_all[Addr.add]
    case c2=>intro H m;simp at m;rcases m with rfl|rfl<;>rfl
    case c3=>grind[maxLen]
    case c4=>omega
    case c5 =>
     have x:=h.size;have z:=f.size;simp;omega
    intro S w2 z x _;have:=Jzj (n:=n) h f r z x;go_wp2;go_roundw
    .grind
    simp[intOf];omega
  have c:=(Jgz s d a A g h32).symm.trans k;go_wp2;go_roundw
  .grind
  simp[intOf];omega
 have c:=k.symm.trans (Jq7 s b a A (by omega));go_wp2;go_ret2;simp_all
structure RefIn (w:World) (ao:Option Addr) (g cap:Nat) (s:ByteArray) (A:List (Nat × Nat)):Prop where
 few:A.length<=200
 cp:A.length<=cap
 addr:0<A.length->ao=some (U g 0)/\g<w.1.size
 txt:∀ i,(h:i<A.length)->w.cell? (U g (i*2))=some (.string (s.extract A[i].1 A[i].2))
 plc:∀ i,(h:i<A.length)->w.cell? (U g (i*2+1))=some (.int .i64 A[i].1)
 ok:AllV s A
theorem Juz{s:ByteArray}(hs:s.size<=200)(h:w.ownsRow B 166 2 v (lexR s).1.length (Na s (lexR s).1)):
 ∃ao g cap,v=E ao (lexR s).1.length cap/\RefIn w ao g cap s (lexR s).1:=by
 obtain⟨ao,cap,g,f,e,d,c⟩:=Yf h;have:=Jcf s s.size 0 [] (by simp) (by omega);refine⟨ao,g,cap,f,⟨by grind[lexR],e,d,?_,?_,Je0 s hs⟩⟩
 .intro i b;rw[c (i*2) (by omega)];exact(J0i (fun a:Nat × Nat=>Value.string (s.extract a.1 a.2)) (fun a=>G a.1) _ i b).1
 intro i b;rw[c (i*2+1) (by omega)];exact(J0i (fun a:Nat × Nat=>Value.string (s.extract a.1 a.2)) (fun a=>G a.1) _ i b).2
theorem Jpr(s)(w)(h:200<s.size)(hm:s.size<=9223372036854775807):
 Calls prog 65 #[aE s] w fun e w'=>∃v0 v3,e=aD (.tuple #[v0,G 1,G 0,v3])/\J w w':=by
 go_enter func65,ntmps65;go_wp2;refine FR (by simp[results,results65,go_sem];try rfl) rfl ?_;refine⟨_,_,rfl,FQ _ _⟩
theorem Ju0(s)(w)(hs:s.size<=200)(hx:¬ (lexR s).2=-1):
 Calls prog 65 #[aE s] w fun e w'=>∃v0 v3,e=aD (.tuple #[v0,G 2,G (lexR s).2,v3])/\J w w':=by
 have a:0<=(lexR s).2:=by
  have:=Jez s s.size 0 [];unfold lexR at hx⊢;omega
 go_enter func65,ntmps65;go_wp2_with fail;refine(Jdb s _ hs).mono ?_;rintro e w1 ⟨v,rfl,_,b⟩;generalize hxx:(lexR s).2=x at a⊢;go_wp2;refine FR (by simp[results,results65,go_sem];try rfl) rfl ?_;refine⟨M,.string ⟨#[]⟩,by rw[hxx],b⟩
theorem J00{a:World}(h:Below B a w)(n):Below B a (w.drewN n):=⟨h.os,h.tape,h.output,h.size,h.block⟩
theorem Jcv(h:J w w1)(h1:J w1 wr):J w wr:=h.trans (h1.mono h.size)
theorem J2v(h:J w w1)(h1:J w1 wr)(h2:J wr w2):J w w2:=Jcv (Jcv h h1) h2
theorem J0j{s:ByteArray}(h:i<A.length):pFin s A (i,st,op)=(3,(A[i].1:Int)):=by
 simp_all[pFin,plc];omega
theorem Jlc{s:ByteArray}(h:st=0\/0<op):pFin s A (A.length,st,op)=(3,(s.size:Int)):=by
 simp[pFin,plc];omega
theorem Jze{s:ByteArray}(h:st≠0)(ho:op=0):pFin s A (A.length,st,op)=(0,0):=by
 unfold pFin;simp;omega
theorem J1r{s:ByteArray}(hA:AllV s A)(h:i<A.length)(hst:st<=2)(t)(ht:s.extract A[i].1 A[i].2=t):
 (nxB st t op=false->sc (tks s A) i st op=(i,st,op)) /\
 (nxB st t op=true->∃st':Nat,nxS st t=(st':Int)/\st'<=2/\sc (tks s A) i st op=sc (tks s A) (i+1) st' (bif t.toList == [40]then op+1 else bif t.toList == [41]then op-1 else op)/\((t.toList == [41])=true->0<op)):=by
 have:=ht▸hA _ (ND h);grind[Qr,Jxo,Jqn,Jil,Gv]
theorem Jxh{s:ByteArray}(h:1<A.length){t0 t1:ByteArray}(h0:s.extract (A[0]).1 (A[0]).2=t0)(h1:s.extract (A[1]).1 (A[1]).2=t1):beg (tks s A)=bif namB t0 && t1.toList == [105,115]then 2 else 0:=by
 grind[Qr,kB,Jxo,Jcg,Jrg,beg]
def env0:ByteArray->Option Arr:=fun _=>none
theorem Jr8:EnvOk env0:=fun _ _ h=>by cases h
variable {F:Int}
structure DkSF (F:Int) (S X:Nat->Prop) (db:Nat) (env:ByteArray->Option Arr) (N:Nat) (mo:Option Nat) (w:World):Prop where
 dsk:DskN X db F env N mo w
 xlt:∀ b,X b->b<w.1.size
 s:∀ b,S b->6<=b/\b<w.1.size/\¬ X b/\b≠db/\mo≠some b
def DkF(F:Int)(S:Nat->Prop)(db:Nat)(env:ByteArray->Option Arr)(N:Nat)(w:World):Prop:=∃X mo,DkSF F S X db env N mo w
theorem DkF.below{env:ByteArray->Option Arr}(h:DkF F S db env N w)(hb:J w w'):DkF F S db env N w':=by
 obtain⟨a,e,c,d,f⟩:=h;have:=hb.size;exact⟨a,e,c.below hb,fun b h=>FT (d b h) this,fun b h=>by grind⟩
theorem DkF.lt{env:ByteArray->Option Arr}(h:DkF F S db env N w)(hb:S b):6<=b/\b<w.1.size/\b≠db:=by
 obtain⟨a,f,c,d,e⟩:=h;simp_all
theorem DkF.more{env:ByteArray->Option Arr}(h:DkF F S db env N w)(hb:J w w'):DkF F (fun b=>S b\/(w.1.size<=b/\b<w'.1.size)) db env N w':=by
 obtain⟨c,i,a,d,j⟩:=h;have f:=hb.size;refine⟨c,i,a.below hb,fun b h=>FT (d b h) f,fun b h=>?_⟩;rcases h with h|⟨l,g⟩
 .grind
 have:=a.low;have:=a.lt;exact⟨by omega,g,fun k=>by grind,by omega,fun e=>by have:=a.moLt b e;omega⟩
theorem DkF.less{S':Nat->Prop}{env:ByteArray->Option Arr}(h:DkF F S db env N w)(hs:∀b,S' b->S b):DkF F S' db env N w:=by
 obtain⟨a,g,c,d,e⟩:=h;exact⟨a,g,c,d,fun b f=>e b (hs b f)⟩
structure TkL (t:List UInt8):Prop where
 pos:0<t.length
 fit:Jk (Yq ⟨t.toArray⟩)
 one:Zc (Zt ⟨t.toArray⟩) 1=true->t ∈ tab1.map (·.1)
 two:Zc (Zt ⟨t.toArray⟩) 2=true->t ∈ tab2.map (·.1)
def signsL:List UInt8:=[43,45,42,37,124,38,33,61,60]
theorem Jkd(h:gU c=true):c ∈ signsL:=by
 have a:∀n:Nat,n<256->sgnB (n:Int)=true->UInt8.ofNat n ∈ signsL:=by decide +kernel
 have:=a c.toNat (UInt8.toNat_lt c) h;simp_all
theorem Jok{d:UInt8}(h:Gt d=true):d ∈ ([47,92,46]:List UInt8):=by
 simp only[Gt,Bool.or_eq_true,NQ]at h;grind
def okL(t:List UInt8):Bool:=(!(Zc (Zt ⟨t.toArray⟩) 1)|| decide (t ∈ tab1.map (·.1))) && (!(Zc (Zt ⟨t.toArray⟩) 2)|| decide (t ∈ tab2.map (·.1))) && decide (Yq ⟨t.toArray⟩=0)
theorem Jx1(h:okL t=true)(h0:0<t.length):TkL t:=by
 simp only[okL,ZJ,Bool.or_eq_true,JM,Bool.not_eq_true']at h;obtain⟨⟨a,b⟩,c⟩:=h;exact⟨h0,by simp[Jk];omega,fun e=>by simp_all,fun e=>by simp_all⟩
theorem Jvr:(signsL.all fun c=>okL [c])=true:=by decide +kernel
theorem Jvs:(signsL.all fun c=>([47,92,46]:List UInt8).all fun d=>okL [c,d])=true:=by decide +kernel
theorem Jon(h:gU c=true):TkL [c]:=Jx1 (YL.1 Jvr c (Jkd h)) (by simp)
theorem J0f{d:UInt8}(h:gU c=true)(hdt:Gt d=true):TkL [c,d]:=Jx1 (YL.1 (YL.1 Jvs c (Jkd h)) d (Jok hdt)) (by simp)
theorem Ja8(h0:0<t.length)(hf:Jk (Yq ⟨t.toArray⟩))(hr:Zt ⟨t.toArray⟩=0):TkL t :=
 ⟨h0,hf,fun e=>by rw[hr]at e;exact absurd e (by decide),fun e=>by rw[hr]at e;exact absurd e (by decide)⟩
theorem Jx2{ds:List UInt8}(h:t=ds\/t=95::ds)(h0:0<ds.length)(hds:ds.all dU=true)(hv:val ds<=9223372036854775807):TkL t:=by
 obtain⟨c,a,rfl⟩:∃c a,ds=c::a:=by
  cases ds with
  | nil=>simp at h0
  | cons c a=>simp
 have e:dU c=true:=by simp at hds;exact hds.1
 have b:digB (c.toNat:Int)=true:=e;have:48<=(c.toNat:Int)/\(c.toNat:Int)<=57:=by simpa[digB]using b
 rcases h with rfl|rfl
 .have d:hd ⟨(c::a).toArray⟩=(c.toNat:Int):=rfl;refine Ja8 (by simp) ?_ ?_
  .have:Yq ⟨(c::a).toArray⟩=(val (c::a):Int):=by
    unfold Yq;rw[d,show((c.toNat:Int)== 95)=false from ZD (by omega),NP,b,NX]
   simp[Jk];omega
  simp_all[Zt]
 have d:hd ⟨(95::c::a).toArray⟩=95:=rfl;grind[Ja8,Yq,Jk,Zt]
theorem Jfh(p):∀l:List UInt8,(l.takeWhile p).all p=true/\l.take (l.takeWhile p).length=l.takeWhile p
 | []=>by simp
 | c::l=>by
  have:=Jfh p l;cases h:p c
  .simp [h]
  simp_all
def words1:List (List UInt8):=[[105,111,116,97],[117,112],[100,111,119,110],[102,108,105,112],[114,97,118,101,108],[114,104,111],[114,101,118]]
def words2:List (List UInt8):=[[114,104,111],[114,101,118],[116,97,107,101],[100,114,111,112],[99,97,116],[105,110],[97,116],[107,101,101,112]]
theorem Jlp(t):(Zc (Zb t) 1=true->t.toList ∈ words1)/\(Zc (Zb t) 2=true->t.toList ∈ words2):=by
 have i:¬ Zc 0 1=true:=by decide
 have j:¬ Zc 0 2=true:=by decide
 have d:¬ Zc 1 2=true:=by decide
 have b:¬ Zc 2 1=true:=by decide
 unfold Zb;generalize t.toList=l;have step:∀(c:List UInt8) (v:Int) (f:Int),((l == c)=true->(Zc v 1=true->l ∈ words1)/\(Zc v 2=true->l ∈ words2))->((Zc f 1=true->l ∈ words1)/\(Zc f 2=true->l ∈ words2))->(Zc (bif l == c then v else f) 1=true->l ∈ words1)/\(Zc (bif l == c then v else f) 2=true->l ∈ words2):=by
  intro c v f g h;cases a:(l == c)
  .exact h
  exact g a
 refine step _ _ _ (fun a=>by rw[NQ.1 a];exact⟨fun _=>by decide,fun e=>absurd e d⟩) ?_;refine step _ _ _ (fun a=>by rw[NQ.1 a];exact⟨fun _=>by decide,fun e=>absurd e d⟩) ?_;refine step _ _ _ (fun a=>by rw[NQ.1 a];exact⟨fun _=>by decide,fun e=>absurd e d⟩) ?_;refine step _ _ _ (fun a=>by rw[NQ.1 a];exact⟨fun _=>by decide,fun e=>absurd e d⟩) ?_;refine step _ _ _ (fun a=>by rw[NQ.1 a];exact⟨fun _=>by decide,fun e=>absurd e d⟩) ?_;refine step _ _ _ (fun a=>by rw[NQ.1 a];exact⟨fun _=>by decide,fun _=>by decide⟩) ?_;refine step _ _ _ (fun a=>by rw[NQ.1 a];exact⟨fun _=>by decide,fun _=>by decide⟩) ?_;refine step _ _ _ (fun a=>by rw[NQ.1 a];exact⟨fun e=>absurd e b,fun _=>by decide⟩) ?_;refine step _ _ _ (fun a=>by rw[NQ.1 a];exact⟨fun e=>absurd e b,fun _=>by decide⟩) ?_;refine step _ _ _ (fun a=>by rw[NQ.1 a];exact⟨fun e=>absurd e b,fun _=>by decide⟩) ?_;refine step _ _ _ (fun a=>by rw[NQ.1 a];exact⟨fun e=>absurd e b,fun _=>by decide⟩) ?_;refine step _ _ _ (fun a=>by rw[NQ.1 a];exact⟨fun e=>absurd e b,fun _=>by decide⟩) ?_;refine step _ _ _ (fun a=>by rw[NQ.1 a];exact⟨fun e=>absurd e b,fun _=>by decide⟩) ?_;exact⟨fun e=>absurd e i,fun e=>absurd e j⟩
theorem Jlo:∀t ∈ words1,t ∈ tab1.map (·.1):=by
 have:(words1.all fun t=>decide (t ∈ tab1.map (·.1)))=true:=by decide +kernel
 simp_all
theorem Jln:∀t ∈ words2,t ∈ tab2.map (·.1):=by
 have:(words2.all fun t=>decide (t ∈ tab2.map (·.1)))=true:=by decide +kernel
 simp_all
theorem Jym{r:List UInt8}(h:lU c=true):TkL (c::r):=by
 have a:letB (c.toNat:Int)=true:=h;have:97<=(c.toNat:Int)/\(c.toNat:Int)<=122:=by simpa[letB]using a
 have f:hd ⟨(c::r).toArray⟩=(c.toNat:Int):=rfl;have d:digB (c.toNat:Int)=false:=by unfold digB;exact Mu (by omega)
 have b:((c.toNat:Int)== 95)=false:=ZD (by omega);have g:Zt ⟨(c::r).toArray⟩=Zb ⟨(c::r).toArray⟩:=by
  unfold Zt;rw[f,show((c.toNat:Int)== 40)=false from ZD (by omega),show((c.toNat:Int)== 41)=false from ZD (by omega),b,d,a];rfl
 have l:Yq ⟨(c::r).toArray⟩=0:=by
  unfold Yq;rw[f,b,d];rfl
 have k:(⟨(c::r).toArray⟩:ByteArray).toList=c::r:=by rw[YC]
 obtain⟨i,j⟩:=Jlp ⟨(c::r).toArray⟩;rw[k]at i j;exact⟨by simp,by rw[l];unfold Jk;omega,fun e=>Jlo _ (i (by rw[<-g];exact e)),fun e=>Jln _ (j (by rw[<-g];exact e))⟩
theorem J3h{l:List UInt8}(h:tl l=some n):TkL (l.take n):=by
 cases l with
 | nil=>cases h
 | cons c r =>
  simp only[tl]at h;cases h1:dU c
  .rw [h1,NP]at h;cases h2:(c == 95)
   .rw [h2,NP]at h;cases h3:lU c
    .rw [h3,NP]at h;cases h4:(c == 40 || c == 41)
     .rw [h4,NP]at h;cases h5:gU c
      .simp_all
      rw[h5,NX]at h;injection h with h;subst h;cases r with
      | nil=>exact Jon h5
      | cons d r =>
       grind[sgnE,J0f,Jon]
     rw[h4,NX]at h;injection h with h;subst h;simp only[Bool.or_eq_true,NQ]at h4;rcases h4 with rfl|rfl
     .exact Ja8 (by simp) (by show Jk 0;simp[Jk]) rfl
     exact Ja8 (by simp) (by show Jk 0;simp[Jk]) rfl
    rw[h3,NX]at h;grind[wrdE,List.takeWhile_cons,Jym]
   rw[h2,NX]at h;have a:=NQ.1 h2;subst a;unfold numE at h;simp only at h;split at h
   .cases h
   rename_i hb;injection h with h;subst h;have e:=Jfh dU r;rw[Hg,JK,e.2];exact Jx2 (NO rfl) (by omega) e.1 (by omega)
  rw[h1,NX]at h;unfold numE at h;simp only at h;split at h
  .cases h
  rename_i hb;injection h with h;subst h;have e:=Jfh dU (c::r);rw[ZY,e.2];exact Jx2 (NN rfl) (by omega) e.1 (by omega)
def AllK(s:ByteArray)(A:List (Nat × Nat)):Prop:=∀q ∈ A,TkL (s.extract q.1 q.2).data.toList
theorem Jk0(s):∀(f p:Nat) (A:List (Nat × Nat)),AllK s A->AllK s (lexS s f p A).1
 | 0,_,_,h=>h
 | f+1,p,A,h=>by
  unfold lexS;split
  .rename_i hp;cases hb:((s[p].toNat:Int)== 32)
   .rw [NP];cases ht:tl (s.data.toList.drop p)with
    | none=>intro q hq;cases hq
    | some n =>
     apply Jk0 s f;intro q hq;rcases ZK.1 hq with hq|hq
     .exact h q hq
     simp_all[J3h]
   rw[NX];exact Jk0 s f _ _ h
  exact h
def J26(q:Tok):Prop:=Jk q.x/\q.t.size<=200/\(Zc q.r 1=true->OneC q.t (f1A q.t))/\(Zc q.r 2=true->TwoC q.t (f2A q.t))
theorem Job{s:ByteArray}(hs:s.size<=200):∀q ∈ toks s (lexR s).1,J26 q:=by
 intro q a;simp only[toks,NZ]at a;obtain⟨d,c,rfl⟩:=a;have b:=Jk0 s s.size 0 [] (fun q a=>by cases a) d c;exact⟨b.fit,by simp;omega,fun e=>J3m (b.one e),fun e=>J3g (b.two e)⟩
theorem Jzr{S:List Tok}(hS:∀q ∈ S,J26 q)(hl:S.length<=200){b:Bool}{o k:Nat}(h:PX S b j o x k):Good f1A f2A x:=by
 have f:∀{i:Nat} {v:Int},fB (kr S) i v=true->∃q ∈ S,tokAt S i=q/\Zc q.r v=true:=by
  intro i v d;by_cases a:i<S.length
  .grind [J0k,Yz]
  simp_all[fB,Jg1]
 induction h with
 | nums j o k h1 h2 h3 h4 =>
  refine⟨by grind[Zx],by grind[Zx],fun c d=>?_⟩;simp only[Yu,NZ]at d;obtain⟨q,a,rfl⟩:=d;exact(hS q (ZM (ZX a))).1
 | name j o h1 =>
  show(tokAt S j).t.size<=200;by_cases a:j<S.length
  .rw [Yz a];exact(hS _ (ND a)).2.1
  simp_all[kB,Jg1]
 | paren j o e k h1 h2 h3 h4 ih=>exact ih
 | one j o r k h1 h2 ih =>
  obtain⟨q,a,e,d⟩:=f h1;refine⟨?_,ih⟩;rw[e];exact(hS q a).2.2.1 d
 | only j o l k h1 h2 h3 ih=>exact ih
 | two j o l k r m h1 h2 h3 h4 ih1 ih2 =>
  obtain⟨q,a,e,d⟩:=f h3;refine⟨?_,ih1,ih2⟩;rw[e];exact(hS q a).2.2.2 d
theorem Jfn{s:ByteArray}(hs:s.size<=200)(h:Zs s x):Good f1A f2A x :=
 Jzr (Job hs) (by simp_all[Z6,Jk1]) h
theorem Jme(s)(hs:s.size<=9223372036854775807)(w)(hE:Evs w)(db)(er at_)(hp:Jr s=(er,at_))(hne:er≠0):
 Calls prog 42 #[aJ db 0,aE s] w (RepE w er at_):=by
 have d:J w (w.alloc (.cells #[G 0,G 0,aH,aH,G 0] 47)):=aS.alloc aT _;have j:Evs (w.alloc (.cells #[G 0,G 0,aH,aH,G 0] 47)):=hE.alloc _;have h:=Vr s _ j hs;obtain⟨nm,l⟩:=nm (Z2 s);have f:(Jr s).1=er:=by rw[hp]
 have g:(Jr s).2=at_:=by rw[hp]
 have A:(er != 0)=true:=by simpa using hne
 clear j hE hs hp hne;go_enter func42,ntmps42;go_wp2_with fail;refine h.mono ?_;rintro e w2 ⟨B,rfl,c,-⟩;rw[f,g,l];obtain⟨b,k⟩:=Yy c;have d0:=(b w.1.size 0 (by simp)).trans (alA);have d1:=(b w.1.size 1 (by simp)).trans (alA);have n:=(b w.1.size 2 (by simp)).trans (alA);have o:=(b w.1.size 3 (by simp)).trans (alA);have q:=(b w.1.size 4 (by simp)).trans (alA);have a:=fun i=>(k w.1.size i (by simp)).trans (NL _ _ _ _ rfl);have t:=a 0;have u:=a 1;have x:=a 2;have y:=a 3;have z:=a 4;have r:w.1.size<w2.1.size:=by have:=c.size;simp at this;omega
 have m:=d.trans (c.mono d.size);clear b k a c h f g l d;go_wp2_with fail;refine FR (by simp[results,results42,go_sem,d0,d1,n,o,q,r]) rfl ⟨rfl,?_⟩;exact(((((m.setCell (p:=U w.1.size 0) aT _).setCell (p:=U w.1.size 1) aT _).setCell (p:=U w.1.size 2) aT _).setCell (p:=U w.1.size 3) aT _).setCell (p:=U w.1.size 4) aT _).alloc (by simp;omega) _
open Classical in
noncomputable def Vi (s:ByteArray):Ex:=if h:∃x,Zs s x then Classical.choose h else .num [0]
theorem G4{s:ByteArray}(h:Zs s x):x=Vi s:=by
 have a:∃x,Zs s x:=⟨x,h⟩;unfold Vi;rw[dif_pos a];exact Joa h (Classical.choose_spec a)
theorem Nj{s:ByteArray}(hs:s.size<=200):Good f1A f2A (Vi s):=by
 unfold Vi;by_cases a:∃x,Zs s x
 .rw [dif_pos a];exact Jfn hs (Classical.choose_spec a)
 rw[dif_neg a];exact⟨by simp,by simp,by intro c b;simp at b;subst b;unfold Jk;omega⟩
noncomputable def ans (env:ByteArray->Option Arr) (F:Int) (s:ByteArray):Sum (Int × Int) (Arr × Nat):=
 if(Jr s).1=0 then match Js env F f1A f2A (Vi s) 0 with
  | .inl e=>.inl (e.1,(e.2:Int))
  | .inr x=>.inr x
 else .inl (Jr s)
theorem Qp{s:ByteArray}(h:(Jr s).1=0):(Jr s).2=0/\s.size<=200:=by
 unfold Jr at h⊢;by_cases a:200<s.size
 .rw [FY a]at h;exact absurd h (by decide)
 rw[FU a]at h⊢;by_cases b:(lexR s).2=-1
 .rw [FY b]at h⊢;unfold pFin at h⊢;split at h
  .rename_i h3;rw[FY h3];exact⟨rfl,by omega⟩
  exact absurd h (show ¬ (3:Int)=0 by decide)
 rw[FU b]at h;exact absurd h (show ¬ (2:Int)=0 by decide)
theorem Jbi{env:ByteArray->Option Arr}{F:Int}{f1:ByteArray->Arr->Arr × Int}{f2:ByteArray->Arr->Arr->Arr × Int}:∀(x:Ex) (c:Nat) (e:Int × Nat),Js env F f1 f2 x c=.inl e->e.1≠0:=by
 have g:∀(d:Arr × Int) (f c:Nat) (e:Int × Nat),payP F d f c=.inl e->e.1≠0:=by
  intro d f c e b;unfold payP at b;split at b
  .rename_i h1;injection b with b;subst b;exact h1
  split at b
  .injection b with b;subst b;exact(show(10:Int)≠0 by decide)
  cases b
 intro x;induction x with
 | num ws=>intro c e b;simp only[Js]at b;cases b
 | name t f =>
  intro c e b;simp only[Js]at b;cases he:env t with
  | none=>rw[he]at b;injection b with b;subst b;exact(show(4:Int)≠0 by decide)
  | some a=>rw[he]at b;cases b
 | one t f d ih =>
  intro c e b;simp only[Js]at b;cases hr:Js env F f1 f2 d c with
  | inl e'=>rw[hr]at b;injection b with b;subst b;exact ih c _ hr
  | inr y=>rw[hr]at b;exact g _ _ _ _ b
 | two t f l d ih1 ih2 =>
  intro c e b;simp only[Js]at b;cases hr:Js env F f1 f2 d c with
  | inl e'=>rw[hr]at b;injection b with b;subst b;exact ih2 c _ hr
  | inr y =>
   rw[hr]at b;cases hl:Js env F f1 f2 l y.2 with
   | inl e'=>simp only[hl]at b;injection b with b;subst b;exact ih1 _ _ hl
   | inr z=>simp only[hl]at b;exact g _ _ _ _ b
section
variable {F:Int} {env:ByteArray->Option Arr} {s:ByteArray}
theorem Jjz{x:Arr × Nat}(h:ans env F s=.inr x):(Jr s).1=0/\Js env F f1A f2A (Vi s) 0=.inr x:=by
 unfold ans at h;split at h
 .rename_i hp;cases he:Js env F f1A f2A (Vi s) 0 with
  | inl e=>rw[he]at h;cases h
  | inr y=>rw[he]at h;injection h with h;subst h;exact⟨hp,rfl⟩
 cases h
theorem Js9{x:Arr × Nat}(h0:0<=F)(he:EnvOk env)(h:ans env F s=.inr x):x.1.ok/\(x.2:Int)<=F:=by
 obtain⟨a,b⟩:=Jjz h;exact Vf he (Vi s) 0 x (Nj (Qp a).2) (by simpa using h0) b
theorem Jq3(h0:0<=F)(hF:F<=1000)(he:EnvOk env)(hm:s.size<=9223372036854775807){er at_:Int}(h:ans env F s=.inl (er,at_)):er≠0/\(∀w,DkF F S db env N w->Calls prog 42 #[aJ db 0,aE s] w (RepE w er at_)):=by
 unfold ans at h;split at h
 .rename_i hp;obtain⟨k,l⟩:=Qp hp;cases hv:Js env F f1A f2A (Vi s) 0 with
  | inr y=>rw[hv]at h;cases h
  | inl e =>
   rw[hv]at h;injection h with h;injection h with a c;subst a;subst c;have b:=Jbi _ _ _ hv;refine⟨b,fun w d=>?_⟩;obtain⟨i,g,a,c,j⟩:=d;exact Jmf env F f1A f2A db w g s hm ⟨a.lt,a.evs,a.c0,a.c1⟩ h0 hF he (a.look.imp (fun _ _ _=>trivial)) hp k (fun x f=>by rw[G4 f];exact Nj l) e.1 e.2 (fun x f=>by rw[G4 f];exact hv) b
 rename_i hp;injection h with h;have b:er≠0:=by rw[h]at hp;exact hp
 refine⟨b,fun w d=>?_⟩;obtain⟨i,g,a,c,j⟩:=d;exact Jme s hm w a.evs db er at_ h b
end
end Go.Proofs.YtjobgpahajhbnaaGreatDoor
