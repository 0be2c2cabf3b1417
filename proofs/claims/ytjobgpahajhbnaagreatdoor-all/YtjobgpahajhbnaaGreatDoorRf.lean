import Derived.Test.YtjobgpahajhbnaaGreatDoorUa
namespace Go.Proofs.YtjobgpahajhbnaaGreatDoor
open Go.RowKit Go.Proofs Go.Proofs.Tryz
attribute [local go_sem ↓] Go.wp_at_zero Go.wp_at_succ
set_option linter.all false
set_option maxRecDepth 20000
set_option maxHeartbeats 20000000
variable {B cc cc2 cc5 cn cn2 cn5 k n sc sc2 sn sn2:Nat} {P:Nat->Prop} {W W3 w w2:World} {a b:Arr} {a0 a1 b0 b1 v:Value} {co co2 co5 so so2:Option Addr} {e:TypeId} {f:Int->Int->Int × Int} {l xs ys:List Int} {sh:List Nat} {x0:Int}
structure PairS (n:Nat) (wS:World) (so:Option Addr) (sn sc:Nat) (xo:Option Addr) (xc:Nat) (y0:Value) (yo:Option Addr) (yc N:Nat) (xs ys:List Int):Prop where
 a0:wS.cell? (U n 0)=some (.slice so sn sc)
 a1:wS.cell? (U n 1)=some (.slice xo N xc)
 b1:wS.cell? (U (n+1) 1)=some (.slice yo N yc)
 b0:wS.cell? (U (n+1) 0)=some y0
 r0:wS.cell? (U (n+2) 0)=some aH
 r1:wS.cell? (U (n+2) 1)=some aH
 f0:wS.frozen? (U (n+2) 0)=false
 f1:wS.frozen? (U (n+2) 1)=false
 lt:n+2<wS.1.size
 xl:xs.length=N
 yl:ys.length=N
 few:N<=200
 xfit:∀ c ∈ xs,Jk c
 yfit:∀ c ∈ ys,Jk c
 x:0<N->∃ b off,xo=some (U b off)/\b<wS.1.size/\∀ i,(h:i<xs.length)->wS.cell? (U b (off+i))=some (.int .i64 xs[i])
 y:0<N->∃ b off,yo=some (U b off)/\b<wS.1.size/\∀ i,(h:i<ys.length)->wS.cell? (U b (off+i))=some (.int .i64 ys[i])
structure Box3 (w W:World) (a0 a1 b0 b1:Value):Prop where
 bel:J w W
 sz:w.1.size+2<W.1.size
 c0:W.cell? (U w.1.size 0)=some a0
 c1:W.cell? (U w.1.size 1)=some a1
 d0:W.cell? (U (w.1.size+1) 0)=some b0
 d1:W.cell? (U (w.1.size+1) 1)=some b1
 r0:W.cell? (U (w.1.size+2) 0)=some aH
 r1:W.cell? (U (w.1.size+2) 1)=some aH
 fc0:W.frozen? (U w.1.size 0)=false
 fc1:W.frozen? (U w.1.size 1)=false
 fd0:W.frozen? (U (w.1.size+1) 0)=false
 fd1:W.frozen? (U (w.1.size+1) 1)=false
 fr0:W.frozen? (U (w.1.size+2) 0)=false
 fr1:W.frozen? (U (w.1.size+2) 1)=false
theorem Jjv(hb:Below (w.1.size+3) (((w.alloc (.cells #[a0,a1] 89)).alloc (.cells #[b0,b1] 89)).alloc (.cells aF 89)) W):Box3 w W a0 a1 b0 b1:=by
 have i:=hb.size;simp at i;have c:∀b,W.cell? (U w.1.size b)=(w.alloc (.cells #[a0,a1] 89)).cell? (U w.1.size b):=fun b=>by
  rw[hb.cell (p:=U w.1.size b) (show w.1.size<w.1.size+3 by omega),NV _ _ _ (by simp;omega),NV _ _ _ (by simp)]
 have d:∀b,W.cell? (U (w.1.size+1) b)=((w.alloc (.cells #[a0,a1] 89)).alloc (.cells #[b0,b1] 89)).cell? (U (w.1.size+1) b):=fun b=>by
  rw[hb.cell (p:=U (w.1.size+1) b) (show w.1.size+1<w.1.size+3 by omega),NV _ _ _ (by simp)]
 have e:∀b,W.cell? (U (w.1.size+2) b)=(#[aH,aH]:Array Value)[b]?:=fun b=>by
  rw[hb.cell (p:=U (w.1.size+2) b) (show w.1.size+2<w.1.size+3 by omega),NH _ _ _ _ (by simp)]
 have f:∀b,W.frozen? (U w.1.size b)=false:=fun b=>by
  rw[hb.frozen (p:=U w.1.size b) (show w.1.size<w.1.size+3 by omega),NI (a:=U w.1.size b) (NB _ _ _ (by simp;omega)),NI (a:=U w.1.size b) (NB _ _ _ (by simp))];exact NL _ _ _ _ rfl
 have g:∀b,W.frozen? (U (w.1.size+1) b)=false:=fun b=>by
  rw[hb.frozen (p:=U (w.1.size+1) b) (show w.1.size+1<w.1.size+3 by omega),NI (a:=U (w.1.size+1) b) (NB _ _ _ (by simp))];exact NL _ _ _ _ (by simp)
 have h:∀b,W.frozen? (U (w.1.size+2) b)=false:=fun b=>by
  rw[hb.frozen (p:=U (w.1.size+2) b) (show w.1.size+2<w.1.size+3 by omega)];exact NL _ _ _ _ (by simp)
 refine⟨((((FQ w.1.size w).alloc aT _).alloc (by simp) _).alloc (by simp;omega) _).trans (hb.mono (by omega)),by omega,?_,?_,?_,?_,?_,?_,f _,f _,g _,g _,h _,h _⟩
 .rw [c];simp
 .rw [c];simp
 .rw [d];simp
 .rw [d];simp
 .rw [e];rfl
 rw[e];rfl
theorem Jli(h:IsArr P w (aK so sn sc co cn cc) a){x:Int}{r:List Int}(hx:a.cells=x::r):∃b off,co=some (U b off)/\b<w.1.size/\w.cell? (U b off)=some (G x):=by
 obtain⟨s,q,p,o,n,m,d,_,⟨k,l,c,_,e,_⟩⟩:=h;injection d with d;simp at d;obtain⟨_,rfl,rfl,rfl⟩:=d;rw[hx]at e c;obtain⟨b,off,f,_,g,i⟩:=e (by simp);have j:=i 0 (by simp);injection c with c;exact⟨b,off,c.trans f,g,by simpa using j⟩
theorem Jp7(h3:Box3 w W3 a0 a1 (E so2 sn2 sc2) (E co2 cn2 cc2))(h5:J W3 w2)
 (h:IsArr (fun b'=>P b'/\(b'<w.1.size\/w.1.size+2<b')) w2 (aK so2 sn2 sc2 co5 cn5 cc5) ⟨b.shape,List.replicate b.cells.length x0⟩) (hb:IsArr P w (aK so2 sn2 sc2 co2 cn2 cc2) b) (hok:b.ok) (hx0:Jk x0):
 PairS w.1.size ((w2.setCell (U w.1.size 0) (E so2 sn2 sc2)).setCell (U w.1.size 1) (E co5 b.cells.length cc5)) so2 sn2 sc2 co5 cc5 (E so2 sn2 sc2) co2 cc2 b.cells.length (List.replicate b.cells.length x0) b.cells:=by
 have D:=h3.sz;have C:=h5.size;have x:cn5=b.cells.length:=by have:=(Jb h).1;simpa using this
 have u:=(Jb hb).1;subst x;obtain⟨_,_,_,_,_,_,j,_,y⟩:=h;injection j with j;simp at j;obtain⟨_,rfl,rfl,rfl⟩:=j;obtain⟨_,_,_,_,_,_,k,_,z⟩:=hb;injection k with k;simp at k;obtain⟨_,rfl,rfl,rfl⟩:=k;have i:∀(a c:Nat),a≠w.1.size->((w2.setCell (U w.1.size 0) (E so2 sn2 sc2)).setCell (U w.1.size 1) (E co5 b.cells.length cc5)).cell? (U a c)=w2.cell? (U a c):=fun a c d=>by
  rw[FZ,FZ]<;>(intro e;injection e;omega)
 have g:∀(a c:Nat),a<W3.1.size->w2.cell? (U a c)=W3.cell? (U a c):=fun a c d=>h5.cell (p:=U a c) d;have r:∀(a c:Nat),a<W3.1.size->((w2.setCell (U w.1.size 0) (E so2 sn2 sc2)).setCell (U w.1.size 1) (E co5 b.cells.length cc5)).frozen? (U a c)=W3.frozen? (U a c):=fun a c d=>by
  rw[NA,NA];exact h5.frozen (p:=U a c) d
 refine⟨?_,?_,?_,?_,?_,?_,?_,?_,by simp;omega,by simp,rfl,hok.few,fun a d=>by rw[(YQ.1 d).2];exact hx0,hok.fits,?_,?_⟩
 .rw [celO (by omega)];exact FW _ _ _ ((g _ _ (by omega)).trans h3.c0)
 .exact FW _ _ _ (celN (by omega) ((g _ _ (by omega)).trans h3.c1))
 .rw [i _ _ (by omega),g _ _ (by omega)];rw[u]at h3;exact h3.d1
 .rw [i _ _ (by omega),g _ _ (by omega)];exact h3.d0
 .rw [i _ _ (by omega),g _ _ (by omega)];exact h3.r0
 .rw [i _ _ (by omega),g _ _ (by omega)];exact h3.r1
 .rw [r _ _ (by omega)];exact h3.fr0
 .rw [r _ _ (by omega)];exact h3.fr1
 .intro l;obtain⟨s,t,f,_,d,_⟩:=y;obtain⟨A,B,rfl,q,o,m⟩:=d (by simpa using l);injection f with f;refine⟨A,B,f,by simpa using o,fun c n=>?_⟩;rw[i _ _ (by rcases q.2 with h|h<;>omega)];exact m c n
 intro l;obtain⟨s,t,f,_,d,_⟩:=z;obtain⟨A,B,rfl,q,o,m⟩:=d l;injection f with f;refine⟨A,B,f,by simp;omega,fun c n=>?_⟩;rw[i _ _ (by omega),g _ _ (by omega)];exact V h3.bel o (m c n)
theorem Jvg{wS wr:World}{cv:Value}{vo:Option Addr}{vc:Nat}{u0 u1:Value}(hb:IsArr P w (.agg #[E so sn sc,cv]) b)(hbel:J w wr)(hown:wr.ownsRow wS.1.size 2 1 (E vo k vc) k (l.map (Value.int .i64)))(hP:∀b,w.1.size<=b->P b)(hlt:w.1.size+2<wS.1.size):
 IsArr P ((wr.setCell (U (w.1.size+1+1) 0) u0).setCell (U (w.1.size+1+1) 1) u1) (aK so sn sc vo k vc) ⟨b.shape,l⟩:=by
 obtain⟨o,n,m,i,h,g,c,d,_⟩:=hb;injection c with c;simp at c;obtain⟨⟨rfl,rfl,rfl⟩,_⟩:=c;have f:=Jv (P:=fun b=>P b/\b≠w.1.size+1+1) hown (fun b hb=>⟨hP b (by omega),by omega⟩);have e:Nums (fun b=>P b/\b≠w.1.size+1+1) wr (E so sn sc) (b.shape.map Int.ofNat):=(d.imp (fun b a j=>⟨a,by omega⟩)).below hbel;exact⟨_,_,_,_,_,_,rfl,((e.set (fun a=>a.2 rfl) 0 u0).set (fun a=>a.2 rfl) 1 u1).imp (fun _ a _=>a.1),((f.set (fun a=>a.2 rfl) 0 u0).set (fun a=>a.2 rfl) 1 u1).imp (fun _ a _=>a.1)⟩
theorem Jp3(hx:a.cells=[x0])(hs:a.shape=[])(_:IsArr P w v b):Jh f a b=zipA f b.shape (List.replicate b.cells.length x0) b.cells:=by
 unfold Jh;rw[FY hs,hx];rfl
theorem Jtg{e:Int}(h:zipF f xs ys=.inl e):zipA f sh xs ys=(eArr,e):=by unfold zipA;rw[h]
theorem Jyk(h:zipF f xs ys=.inr l):zipA f sh xs ys=(⟨sh,l⟩,0):=by unfold zipA;rw[h]
theorem Zm{xs:List Value}(h:w.ownsRow B e 1 v n xs):∃ao cap,v=E ao n cap/\n<=cap/\True:=by
 obtain⟨_,⟨rfl,rfl⟩| ⟨c,cap,b,rfl,_,_,a,_⟩⟩:=h
 .exact ⟨none,0,rfl,FP _,trivial⟩
 exact⟨_,cap,rfl,a,trivial⟩
theorem Jqa{xs:List Value}(h:w.ownsRow B e k v n xs)(q):(w.drewN q).ownsRow B e k v n xs:=h
theorem Jp2(hx:b.cells=[x0])(hs:b.shape=[])(ha:a.shape≠[]):Jh f a b=zipA f a.shape a.cells (List.replicate a.cells.length x0):=by
 unfold Jh;rw[FU ha,FY hs,hx];rfl
theorem Jp6(h3:Box3 w W3 (E so2 sn2 sc2) (E co2 cn2 cc2) b0 b1)(h5:J W3 w2)
 (h:IsArr (fun b'=>P b'/\(b'<w.1.size\/w.1.size+2<b')) w2 (aK so2 sn2 sc2 co5 cn5 cc5) ⟨b.shape,List.replicate b.cells.length x0⟩) (hb:IsArr P w (aK so2 sn2 sc2 co2 cn2 cc2) b) (hok:b.ok) (hx0:Jk x0):
 PairS w.1.size ((w2.setCell (U (w.1.size+1) 0) (E so2 sn2 sc2)).setCell (U (w.1.size+1) 1) (E co5 b.cells.length cc5)) so2 sn2 sc2 co2 cc2 (E so2 sn2 sc2) co5 cc5 b.cells.length b.cells (List.replicate b.cells.length x0):=by
 have D:=h3.sz;have C:=h5.size;have x:cn5=b.cells.length:=by have:=(Jb h).1;simpa using this
 have u:=(Jb hb).1;subst x;obtain⟨_,_,_,_,_,_,j,_,y⟩:=h;injection j with j;simp at j;obtain⟨_,rfl,rfl,rfl⟩:=j;obtain⟨_,_,_,_,_,_,k,_,z⟩:=hb;injection k with k;simp at k;obtain⟨_,rfl,rfl,rfl⟩:=k;have i:∀(a c:Nat),a≠w.1.size+1->((w2.setCell (U (w.1.size+1) 0) (E so2 sn2 sc2)).setCell (U (w.1.size+1) 1) (E co5 b.cells.length cc5)).cell? (U a c)=w2.cell? (U a c):=fun a c d=>by
  rw[FZ,FZ]<;>(intro e;injection e;omega)
 have g:∀(a c:Nat),a<W3.1.size->w2.cell? (U a c)=W3.cell? (U a c):=fun a c d=>h5.cell (p:=U a c) d;have r:∀(a c:Nat),a<W3.1.size->((w2.setCell (U (w.1.size+1) 0) (E so2 sn2 sc2)).setCell (U (w.1.size+1) 1) (E co5 b.cells.length cc5)).frozen? (U a c)=W3.frozen? (U a c):=fun a c d=>by
  rw[NA,NA];exact h5.frozen (p:=U a c) d
 refine⟨?_,?_,?_,?_,?_,?_,?_,?_,by simp;omega,rfl,by simp,hok.few,hok.fits,fun a d=>by rw[(YQ.1 d).2];exact hx0,?_,?_⟩
 .rw [i _ _ (by omega),g _ _ (by omega)];exact h3.c0
 .rw [i _ _ (by omega),g _ _ (by omega)];rw[u]at h3;exact h3.c1
 .exact FW _ _ _ (celN (by omega) ((g _ _ (by omega)).trans h3.d1))
 .rw [celO (by omega)];exact FW _ _ _ ((g _ _ (by omega)).trans h3.d0)
 .rw [i _ _ (by omega),g _ _ (by omega)];exact h3.r0
 .rw [i _ _ (by omega),g _ _ (by omega)];exact h3.r1
 .rw [r _ _ (by omega)];exact h3.fr0
 .rw [r _ _ (by omega)];exact h3.fr1
 .intro l;obtain⟨s,t,f,_,d,_⟩:=z;obtain⟨A,B,rfl,q,o,m⟩:=d l;injection f with f;refine⟨A,B,f,by simp;omega,fun c n=>?_⟩;rw[i _ _ (by omega),g _ _ (by omega)];exact V h3.bel o (m c n)
 intro l;obtain⟨s,t,f,_,d,_⟩:=y;obtain⟨A,B,rfl,q,o,m⟩:=d (by simpa using l);injection f with f;refine⟨A,B,f,by simpa using o,fun c n=>?_⟩;rw[i _ _ (by rcases q.2 with h|h<;>omega)];exact m c n
theorem Box3.keep{W':World}(h:Box3 w W a0 a1 b0 b1)(hb:J W W'):Box3 w W' a0 a1 b0 b1:=by
 have:=h.sz;have:=hb.size;have k:∀a b,a<W.1.size->W'.cell? (U a b)=W.cell? (U a b):=fun a b d=>hb.cell (p:=U a b) d;have c:∀a b,a<W.1.size->W'.frozen? (U a b)=W.frozen? (U a b):=fun a b d=>hb.frozen (p:=U a b) d;exact⟨h.bel.trans (hb.mono h.bel.size),by omega,(k _ _ (by omega)).trans h.c0,(k _ _ (by omega)).trans h.c1,(k _ _ (by omega)).trans h.d0,(k _ _ (by omega)).trans h.d1,(k _ _ (by omega)).trans h.r0,(k _ _ (by omega)).trans h.r1,(c _ _ (by omega)).trans h.fc0,(c _ _ (by omega)).trans h.fc1,(c _ _ (by omega)).trans h.fd0,(c _ _ (by omega)).trans h.fd1,(c _ _ (by omega)).trans h.fr0,(c _ _ (by omega)).trans h.fr1⟩
theorem Ja5(h:IsArr P w (aK so sn sc co cn cc) a)(hsn:((sn:Int)== 0)=false):∃b off,so=some (U b off)/\b<w.1.size/\∀j,j<(a.shape.map Int.ofNat).length->w.cell? (U b (off+j))=some (G ((a.shape.map Int.ofNat).getD j 0)):=by
 have g:=(Jb h).2;obtain⟨u,t,s,r,q,p,d,⟨n,o,e,_,m,_⟩,_⟩:=h;injection d with d;simp at d;obtain⟨⟨rfl,rfl,rfl⟩,_⟩:=d;have c:0<(a.shape.map Int.ofNat).length:=by
  simp at hsn⊢;apply Nat.pos_of_ne_zero;intro c;simp at c;rw[c]at g;simp at g;omega
 obtain⟨b,off,i,_,k,l⟩:=m c;injection e with e;refine⟨b,off,e.trans i,k,fun j f=>?_⟩;rw[l j f];simp[NC,FX (show j<a.shape.length by simpa using f)]
theorem Fq:∀{a b:List Nat},a.map Int.ofNat=b.map Int.ofNat->a=b
 | [],[],_=>rfl
 | x::xs,y::ys,h=>by
  simp only[Mv]at h;injection h with h1 h2;injection h1 with h1;rw[h1,Fq h2]
 | [],y::ys,h=>by simp at h
 | x::xs,[],h=>by simp at h
theorem Jex{a b:List Nat}:((a.map Int.ofNat)== (b.map Int.ofNat))=decide (a=b):=by
 by_cases c:a=b
 .subst c;simp
 have:¬ (a.map Int.ofNat=b.map Int.ofNat):=fun e=>c (Fq e);simp only[c,decide_false];exact NT.2 this
theorem Jp5(h3:Box3 w W (E so sn sc) (E co cn cc) (E so2 sn2 sc2) (E co2 cn2 cc2))
 (ha:IsArr P w (aK so sn sc co cn cc) a) (hb:IsArr P w (aK so2 sn2 sc2 co2 cn2 cc2) b) (hoa:a.ok) (hob:b.ok) (hs:a.shape=b.shape):
 PairS w.1.size W so sn sc co cc (E so2 sn2 sc2) co2 cc2 cn a.cells b.cells/\cn2=cn:=by
 have:=h3.sz;have g:=(Jb ha).1;have o:=(Jb hb).1;have:a.cells.length=b.cells.length:=by rw[hoa.size,hob.size,hs]
 have k:cn2=cn:=by omega
 subst k;obtain⟨_,_,_,_,_,_,d,_,p⟩:=ha;injection d with d;simp at d;obtain⟨_,rfl,rfl,rfl⟩:=d;obtain⟨_,_,_,_,_,_,e,_,q⟩:=hb;injection e with e;simp at e;obtain⟨_,rfl,rfl,rfl⟩:=e;refine⟨⟨h3.c0,h3.c1,h3.d1,h3.d0,h3.r0,h3.r1,h3.fr0,h3.fr1,h3.sz,g.symm,o.symm,by rw[g];exact hoa.few,hoa.fits,hob.fits,?_,?_⟩,rfl⟩;intro j;obtain⟨h,i,c,_,f,_⟩:=p;rotate_left;intro j;obtain⟨h,i,c,_,f,_⟩:=q
 all_goals
  obtain⟨s,t,rfl,x,n,l⟩:=f (by omega);injection c with c;exact⟨s,t,c,by omega,fun r m=>V h3.bel n (l r m)⟩
theorem Jgn(h:a.ok)(hs:a.shape=[]):∃x,a.cells=[x]/\Jk x:=by
 have b:a.cells.length=1:=by have:=h.size;rw[hs]at this;simpa[Jd]using this
 match e:a.cells,b with
 | [x],_=>exact⟨x,rfl,h.fits x (by rw[e];simp)⟩
abbrev resV{P:Nat->Prop}{w:World}{so:Option Addr}{sn sc:Nat}{cv:Value}{b:Arr}(_:IsArr P w (.agg #[.slice so sn sc,cv]) b)(vo:Option Addr)(k vc:Nat):Value:=.tuple #[aK so sn sc vo k vc,.int .i64 0]
theorem Jvh(f)(g)(hrule:RuleC g f)(P)(w)(hP:∀b,w.1.size<=b->P b)(u v)(a b)(ha:IsArr P w u a)(hb:IsArr P w v b)(hoa:a.ok)(hob:b.ok):
 Calls prog 240 #[u,v,aC g] w fun e w'=>∃s1 s2 s3 c1 c2 c3,e=aD (.tuple #[aK s1 s2 s3 c1 c2 c3,G (Jh f a b).2])/\IsArr P w' (aK s1 s2 s3 c1 c2 c3) (Jh f a b).1/\J w w':=by
 obtain⟨cy,b7,ch,ci,aX⟩:=NY VI;have cF:∀args w,(callFunc g args).run prog w=.ok (.enter g args) w:=hrule.enters;have az:=hP;have x:=ha;have y:=hb;obtain⟨so,sn,sc,co,cn,cc,rfl,-⟩:=ha;obtain⟨so2,sn2,sc2,co2,cn2,cc2,rfl,-⟩:=hb;obtain⟨ar,K⟩:=Jb x;obtain⟨au,L⟩:=Jb y;have ax:=hoa;have ay:=hob;by_cases ad:sn=0;focus
  subst ad;have W:=NK K.symm;obtain⟨x0,B,ac⟩:=Jgn hoa W;obtain⟨d,n,rfl,ah,aa⟩:=Jli x B;have ai:cn=1:=by rw[ar,B];rfl
  subst ai;clear hP ar K au L hoa hob;have aY:d<w.1.size+1:=by omega
  have aZ:d<w.1.size+1+1:=by omega
  have a4:d<w.1.size+1+1+1:=by omega
  go_enter func240,ntmps240;go_wp2_with (go_at_call 220;refine aQ (Jo _ _ _ _ _ _ _) ?_);have c:=Jjv (w:=w) (a0:=E so 0 sc) (a1:=aI d n 1 cc) (b0:=E so2 sn2 sc2) (b1:=E co2 cn2 cc2) (((FQ (w.1.size+3) _).alloc (by simp) (.cells #[E so 0 sc,aI d n 1 cc] 89)).alloc (by simp<;>omega) (.cells #[E so 0 sc,aI d n 1 cc] 89));generalize hW3:(((((w.alloc (.cells #[E so 0 sc,aI d n 1 cc] 89)).alloc (.cells (aL so2 sn2 sc2 co2 cn2 cc2) 89)).alloc (.cells aF 89)).alloc (.cells #[E so 0 sc,aI d n 1 cc] 89)).alloc (.cells #[E so 0 sc,aI d n 1 cc] 89))=W3 at c⊢;clear hW3;have bn:=c.c0;have bo:=c.c1;have bp:=c.d0;have bq:=c.d1;have br:=V c.bel ah aa;have aj:=ay.few;have t:w.1.size<W3.1.size:=by have:=c.sz;omega
  go_region_with (first|(go_at_call 263;refine(N8 (fun r=>P r/\(r<w.1.size\/w.1.size+2<r)) _ (fun r h=>⟨az r (by have:=c.sz;simp at h;omega),NO (by have:=c.sz;simp at h;omega)⟩) so2 sn2 sc2 co2 cn2 cc2 b ?_ aj x0).mono ?_;exact((y.imp (fun _ h bb=>⟨h,NN bb⟩)).below c.bel).below aS.drew;rintro e w2 ⟨co5,cn5,cc5,rfl,S,ag⟩;have i:=(FQ W3.1.size W3).drew.trans ag;have u0:=V i t c.c0;have u1:=V i t c.c1;have u2:=bF i t c.fc0;have u3:=bF i t c.fc1;clear ag))
  all_goals
   have o:=Jp7 c i S y ay ac;have A:=Jp3 (f:=f) (x0:=x0) B W y;obtain⟨j,s⟩:=nm b.cells.length;have a6:j=cn5:=by rw[<-s];have:=(Jb S).1;simpa using this.symm
   have a5:j=cn2:=by rw[<-s];exact(Jb y).1.symm
   rw[s]at o A;subst a6 a5;obtain⟨xs,N⟩:=nm (List.replicate j x0);obtain⟨ys,Q⟩:=nm b.cells;rw[N,Q]at o A;obtain⟨Y,C⟩:=nm ((w2.setCell (U w.1.size 0) (E so2 sn2 sc2)).setCell (U w.1.size 1) (E co5 j cc5));have D:J w Y:=by rw[<-C];exact(((c.bel.trans (i.mono c.bel.size)).setCell (p:=U w.1.size 0) aT _).setCell (p:=U w.1.size 1) aT _)
   rw[C]at o⊢;have F:=y;clear C N Q s u0 u1 u2 u3 bn bo bp bq br ah aY aZ a4 aa t aj c i S B W ac
 rotate_right
 have cl:((sn:Int)== 0)=false:=by simpa using ad
 have be:a.shape≠[]:=fun h=>ad (by rw[K,h];rfl);by_cases aq:sn2=0;rotate_left
 focus
  have cm:((sn2:Int)== 0)=false:=by simpa using aq
  have bK:b.shape≠[]:=fun h=>aq (by rw[L,h];rfl);have z:Jh f a b=if sn=sn2 then(if a.shape=b.shape then zipA f a.shape a.cells b.cells else(eArr,6))else(eArr,5):=by
   unfold Jh;rw[FU be,FU bK,K,L];by_cases h:a.shape.length=b.shape.length<;>by_cases cE:a.shape=b.shape<;>simp_all
  obtain⟨b2,b4,rfl,bB,cq⟩:=Ja5 x cl;obtain⟨b3,b5,rfl,bD,cr⟩:=Ja5 y cm;have bt:sn<=9223372036854775807:=by rw[K];exact NE hoa.rank (by decide)
  have bu:sn2<=9223372036854775807:=by rw[L];exact NE hob.rank (by decide)
  have bv:=O K;have bw:=O L;clear hP ar K au L hoa hob ad aq be bK;go_enter func240,ntmps240;go_wp2_with (go_at_call 220;refine aQ (Jo _ _ _ _ _ _ _) ?_);obtain⟨so,bL⟩:=nm (some (Addr.mk b2 b4 none));obtain⟨so2,bM⟩:=nm (some (Addr.mk b3 b5 none));rw[bL]at x⊢;rw[bM]at y⊢;have X:=Jjv (w:=w) (a0:=E so sn sc) (a1:=E co cn cc) (b0:=E so2 sn2 sc2) (b1:=E co2 cn2 cc2) (((((FQ (w.1.size+3) _).alloc (by simp) (.cells (aL so sn sc co cn cc) 89)).alloc (by simp<;>omega) (.cells (aL so sn sc co cn cc) 89)).alloc (by simp<;>omega) (.cells (aL so2 sn2 sc2 co2 cn2 cc2) 89)).alloc (by simp<;>omega) (.cells (aL so2 sn2 sc2 co2 cn2 cc2) 89));generalize hW3:(((((((w.alloc (.cells (aL so sn sc co cn cc) 89)).alloc (.cells (aL so2 sn2 sc2 co2 cn2 cc2) 89)).alloc (.cells aF 89)).alloc (.cells (aL so sn sc co cn cc) 89)).alloc (.cells (aL so sn sc co cn cc) 89)).alloc (.cells (aL so2 sn2 sc2 co2 cn2 cc2) 89)).alloc (.cells (aL so2 sn2 sc2 co2 cn2 cc2) 89))=W3 at X⊢;clear hW3;have an:∀w',J W3 w'->w'.cell? (U w.1.size 0)=some (E so sn sc)/\w'.cell? (U w.1.size 1)=some (E co cn cc)/\w'.cell? (U (w.1.size+1) 0)=some (E so2 sn2 sc2)/\w'.cell? (U (w.1.size+1) 1)=some (E co2 cn2 cc2):=fun w' hb=>⟨(X.keep hb).c0,(X.keep hb).c1,(X.keep hb).d0,(X.keep hb).d1⟩
  go_region_held3 (fun w'=>w'.cell? (U w.1.size 0)=some (E so sn sc)/\w'.cell? (U w.1.size 1)=some (E co cn cc)/\w'.cell? (U (w.1.size+1) 0)=some (E so2 sn2 sc2)/\w'.cell? (U (w.1.size+1) 1)=some (E co2 cn2 cc2))
   (first|exact an _ aS.drew|exact an _ (aS.drew.alloc aT _)| exact an _ ((aS.drew.alloc aT _).alloc (by simp) _))
   ((go_at_call 221;refine aQ (Z7 _ _ _ _ _ _ _) ?_))
  rename_i hHeld;clear hHeld;have m:=X.keep ((aS.alloc aT (.cells (aL so sn sc co cn cc) 89)).alloc (by simp) (.cells (aL so2 sn2 sc2 co2 cn2 cc2) 89)).drew;generalize hW4:(((W3.alloc (.cells (aL so sn sc co cn cc) 89)).alloc (.cells (aL so2 sn2 sc2 co2 cn2 cc2) 89)).drew)=W4 at m⊢;clear hW4 an X;have a0:=m.c0;have a1:=m.c1;have b0:=m.d0;have b1:=m.d1;have r0:=m.r0;have r1:=m.r1;have bh:=m.fr0;have bi:=m.fr1;have ab:∀(e:Int) w',Jh f a b=(eArr,e)->J w w'->∃s1 s2 s3 c1 c2 c3,Ending.returned (.tuple #[.agg aF,G e])=aD (.tuple #[aK s1 s2 s3 c1 c2 c3,G (Jh f a b).2])/\IsArr P ((w'.setCell (U (w.1.size+1+1) 0) aH).setCell (U (w.1.size+1+1) 1) aH) (aK s1 s2 s3 c1 c2 c3) (Jh f a b).1/\J w ((w'.setCell (U (w.1.size+1+1) 0) aH).setCell (U (w.1.size+1+1) 1) aH):=fun e w' h hb=>by
   rw[h];exact⟨none,0,0,none,0,0,rfl,⟨_,_,_,_,_,_,rfl,Ym _ _,Ym _ _⟩,(hb.setCell (p:=U (w.1.size+1+1) 0) (by show w.1.size<=w.1.size+1+1;omega) _).setCell (p:=U (w.1.size+1+1) 1) (by show w.1.size<=w.1.size+1+1;omega) _⟩
  by_cases ae:sn=sn2;rotate_left
  .have cp:=bne_iff_ne.2 (fun h=>ae (Int.ofNat_inj.1 h));rw[FU ae]at z;have F:=O (ab 5 _ z m.bel);clear z ab;go_wp2_with fail;exact FR (by simp[results,results240,go_sem,r0,r1]) rfl F
  have cp:((sn:Int) != (sn2:Int))=false:=by simp[ae]
  rw[FY ae]at z;subst bL bM;have Z:=QU b2 b4 sn sc b3 b5 sn2 sc2 (a.shape.map Int.ofNat) (b.shape.map Int.ofNat) W4 (by simp[I bv]) (by simp[I bw]) bt bu (fun al H=>V m.bel bB (cq al H)) (fun al H=>V m.bel bD (cr al H));rw[NJ (by simp[I bv]),NJ (by simp[I bw]),Jex]at Z;clear bt bu ae;by_cases af:a.shape=b.shape;rotate_left
  .rw [Mu af]at Z;rw[FU af]at z;have F:=O (fun R=>ab 6 _ z (Gh m.bel R));clear z ab;go_wp2_with (go_at_call 256;refine aR Z ?_;rintro w' ⟨R,rfl⟩);exact FR (by simp[results,results240,go_sem,r0,r1]) rfl (I F R)
  rw[MV af]at Z;rw[FY af]at z;clear ab;go_wp2_with (go_at_call 256;refine aR Z ?_;rintro w' ⟨R,rfl⟩;have ao:=m.keep (Gh aS R);generalize C:W4.drewN R=Y at ao⊢;clear a0 a1 b0 b1 r0 r1 bh bi Z C m;obtain⟨o,ai⟩:=Jp5 ao x y ax ay af;subst ai;have D:=ao.bel;clear ao;have a1:=o.a1);obtain⟨xs,N⟩:=nm a.cells;obtain⟨ys,Q⟩:=nm b.cells;have A:=z;rw[N,Q]at o A;generalize s:cn2=j at o⊢;have F:=x;clear z N Q a1 bB bD s
 rotate_right
 focus
  subst aq;have W:=NK L.symm;obtain⟨x0,B,ac⟩:=Jgn hob W;obtain⟨d,n,rfl,ah,aa⟩:=Jli y B;have ai:cn2=1:=by rw[au,B];rfl
  subst ai;clear hP ar K au L hoa hob ad;have aY:d<w.1.size+1:=by omega
  have aZ:d<w.1.size+1+1:=by omega
  have a4:d<w.1.size+1+1+1:=by omega
  go_enter func240,ntmps240;go_wp2_with (go_at_call 220;refine aQ (Jo _ _ _ _ _ _ _) ?_);have c:=Jjv (w:=w) (a0:=E so sn sc) (a1:=E co cn cc) (b0:=E so2 0 sc2) (b1:=aI d n 1 cc2) (((((FQ (w.1.size+3) _).alloc (by simp) (.cells (aL so sn sc co cn cc) 89)).alloc (by simp<;>omega) (.cells (aL so sn sc co cn cc) 89)).alloc (by simp<;>omega) (.cells #[E so2 0 sc2,aI d n 1 cc2] 89)).alloc (by simp<;>omega) (.cells #[E so2 0 sc2,aI d n 1 cc2] 89));generalize hW3:(((((((w.alloc (.cells (aL so sn sc co cn cc) 89)).alloc (.cells #[E so2 0 sc2,aI d n 1 cc2] 89)).alloc (.cells aF 89)).alloc (.cells (aL so sn sc co cn cc) 89)).alloc (.cells (aL so sn sc co cn cc) 89)).alloc (.cells #[E so2 0 sc2,aI d n 1 cc2] 89)).alloc (.cells #[E so2 0 sc2,aI d n 1 cc2] 89))=W3 at c⊢;clear hW3;have bn:=c.c0;have bo:=c.c1;have bp:=c.d0;have bq:=c.d1;have br:=V c.bel ah aa;have aj:=ax.few;have t:w.1.size+1<W3.1.size:=by have:=c.sz;omega
  go_region_with (first|(go_at_call 263;refine(N8 (fun r=>P r/\(r<w.1.size\/w.1.size+2<r)) _ (fun r h=>⟨az r (by have:=c.sz;simp at h;omega),NO (by have:=c.sz;simp at h;omega)⟩) so sn sc co cn cc a ?_ aj x0).mono ?_;exact((x.imp (fun _ h bb=>⟨h,NN bb⟩)).below c.bel).below aS.drew;rintro e w2 ⟨co5,cn5,cc5,rfl,S,ag⟩;have i:=(FQ W3.1.size W3).drew.trans ag;have u0:=V i t c.d0;have u1:=V i t c.d1;have u2:=bF i t c.fd0;have u3:=bF i t c.fd1;clear ag))
  all_goals
   have o:=Jp6 c i S x ax ac;have A:=Jp2 (f:=f) (x0:=x0) B W be;obtain⟨j,s⟩:=nm a.cells.length;have a6:j=cn5:=by rw[<-s];have:=(Jb S).1;simpa using this.symm
   have a5:j=cn:=by rw[<-s];exact(Jb x).1.symm
   rw[s]at o A;subst a6 a5;obtain⟨xs,N⟩:=nm a.cells;obtain⟨ys,Q⟩:=nm (List.replicate j x0);rw[N,Q]at o A;obtain⟨Y,C⟩:=nm ((w2.setCell (U (w.1.size+1) 0) (E so sn sc)).setCell (U (w.1.size+1) 1) (E co5 j cc5));have D:J w Y:=by rw[<-C];exact(((c.bel.trans (i.mono c.bel.size)).setCell (p:=U (w.1.size+1) 0) (ZO _) _).setCell (p:=U (w.1.size+1) 1) (ZO _) _)
   rw[C]at o⊢;have F:=x;clear C N Q s u0 u1 u2 u3 bn bo bp bq br ah aY aZ a4 aa t aj c i S B W ac
 all_goals
  obtain⟨a0,a1,b1,b0,r0,r1,bh,bi,ak,bS,bW,cG,bR,bV,bz,bA⟩:=o;have aV:=bS;have aW:=bW;have cd:=bR;have cf:=bV;have cb:=bz;have ce:=bA;have bJ:=hrule.call;have ca:=bJ;clear bS bW bR bV bz bA bJ hrule;go_wp2_with fail;go_loopw [8,48] (fun cz bj wr=>∃(k:Nat) (l:List Int),bj=G k/\k<=j/\zipF f (xs.take k) (ys.take k)=.inr l/\l.length=k/\wr.ownsRow Y.1.size 2 1 cz k (l.map (Value.int .i64))/\J Y wr) (fun _ bj _=>j-(intOf bj).toNat)
  .exact ⟨0,[],rfl,ZL _,by simp[zipF],rfl,NW _ _ _ _,FQ _ _⟩
  obtain⟨k,l,rfl,cJ,av,bc,bd,q⟩:=hrel;have cB:=V q (by omega) a0;have cC:=V q (by omega) a1;have cD:=V q (by omega) b1;have bY:=V q ak r0;have bZ:=V q ak r1;have cL:=bF q ak bh;have cM:=bF q ak bi;have cg:=av;have b8:=bc;have am:=bd;have T:=q;by_cases bH:k<j
  .obtain ⟨cP,cQ,rfl,bP,bQ⟩:=cb (by omega);obtain⟨cR,cS,rfl,bT,bU⟩:=ce (by omega);have a9:k<xs.length:=by rw[aV];exact bH
   have ba:k<ys.length:=by rw[aW];exact bH
   have cj:=V q bP (bQ k a9);have ck:=V q bT (bU k ba);have aw:=Jj1 (f:=f) k xs ys (by rw[aV,aW]) a9 ba l av;have a7:=cd _ (ND a9);have a8:=cf _ (ND ba);obtain⟨bl,bf⟩:=nm (xs[k]);obtain⟨bm,bg⟩:=nm (ys[k]);rw[bf]at cj a7;rw[bg]at ck a8;rw[bf,bg]at aw;have aU:=fun w=>ca bl bm w a7 a8;obtain⟨u,bN⟩:=nm ((f bl bm).1);obtain⟨ap,bE⟩:=nm ((f bl bm).2);simp only[bN,bE]at aU aw;have bx:=aw;have cH:(0:Int)<=(k:Int):=by omega
   have cI:(k:Int)<(j:Int):=by omega
   clear av bc bd q bQ bU aw bf bg bN bE a7 a8 bP bT;cases hee:(ap != 0)
   .have ct:ap=0:=by simpa using hee
    subst ct;clear hee;go_wp2_with fail;go_quiet ((go_at_fn g;exact JL (aU _)));go_wp2_with (at_builtin;refine JA _ rfl _ _ 32 rfl Y.1.size 2 cy (G 0) 1 8 ZP b7 ch ci aX rfl (by decide) _ _ _ rfl (((Jqa am _)).alloc _) ⟨wr.1.size,0,none⟩ 1 1 [G u] rfl rfl ?c1 ?c2 ?c3 ?c4 ?c5 ?_)
    case c1=>intro al v H;match al,H with|0,H=>simp at H;subst H;exact alA
    case c2=>intro v bO;simp at bO;subst bO;rfl
    case c3=>unfold maxLen;omega
    case c4=>omega
    case c5=>have:=T.size;simp;omega
    intro cN cO bI bG _;have b6:=(Gh T _ |>.alloc (by have:=T.size;simpa using this) _).grown bG (by have:=T.size;simp;omega) (fun R cw=>(am.lt R cw).1);have b9:=bI;clear bI bG;go_wp2_with fail;go_roundw
    .exact ⟨k+1,l++[u],by go_num,by omega,bx.2 trivial,by simp[b8],by rw[NU];exact b9,b6⟩
    simp[intOf];omega
   have cv:ap≠0:=by simpa using hee
   go_wp2_with fail;go_quiet ((go_at_fn g;exact JL (aU _)));go_wp2_with fail;refine FR (v:=.tuple #[.agg aF,G ap]) (by simp[results,results240,go_sem,bY,bZ]) rfl ?_;rw[A,Jtg (bx.1 cv)];exact⟨_,_,_,_,_,_,rfl,⟨_,_,_,_,_,_,rfl,Ym _ _,Ym _ _⟩,((D.trans ((Gh T _).mono D.size)).setCell (p:=U (w.1.size+1+1) 0) (by show w.1.size<=w.1.size+1+1;omega) _).setCell (p:=U (w.1.size+1+1) 1) (by show w.1.size<=w.1.size+1+1;omega) _⟩
  have cu:k=j:=by omega
  subst cu;have bX:zipF f xs ys=.inr l:=by have:=cg;rwa [NJ (by rw[aV];omega),NJ (by rw[aW];omega)]at this
  have aX:=bX;obtain⟨cA,vc,cx,cK,cs⟩:=Zm am;subst cx;clear av bc bd q bX cs;go_wp2_with fail;refine FR (v:=resV F cA k vc) (by simp[results,results240,go_sem,resV,bY,bZ]) rfl ?_;rw[A,Jyk aX];exact⟨_,_,_,_,_,_,rfl,Jvg F (D.trans (T.mono D.size)) am az ak,((D.trans (T.mono D.size)).setCell (p:=U (w.1.size+1+1) 0) (by show w.1.size<=w.1.size+1+1;omega) _).setCell (p:=U (w.1.size+1+1) 1) (by show w.1.size<=w.1.size+1+1;omega) _⟩
end Go.Proofs.YtjobgpahajhbnaaGreatDoor
