import Derived.Test.YtjobgpahajhbnaaGreatDoorDg
namespace Go.Proofs.YtjobgpahajhbnaaGreatDoor
open Go.RowKit Go.Proofs Go.Proofs.Tryz
attribute [local go_sem ↓] Go.wp_at_zero Go.wp_at_succ
set_option linter.all false
set_option maxHeartbeats 8000000
set_option maxRecDepth 20000
theorem Jg7{cf:Int->Int->Int}{a n:Nat}:∀{k:Nat} {d:List Int},InR n d->a+k<n->InR n (Gn cf a k d)
 | 0,_,h,_=>h
 | k+1,d,h,hk=>by
  rw[Gn];split
  .exact Jg7 (h.swap hk (by omega)) (by omega)
  exact h
theorem Jdu(g n b3 b2 cap a b)(W0)(cf)(hC:CmpC g n b3 b2 W0 cf)(hn:n<=1000)(hab:a<=b)(hb:b<=n)(W)(d)(hS:SAt g n W0 W d):
 Calls prog 294 #[aI g 0 n cap,G a,G b,.func (.func 276) #[] #[aJ b3 0,aJ b2 0]] W fun e W'=>e=aD (.tuple #[])/\SAt g n W0 W' (Zr cf a (b-(a+1)) (a+1) d):=by
 have r:=hS;obtain⟨D,F⟩:=nm (Zr cf a (b-(a+1)) (a+1) d);rw[F];go_enter func294,ntmps294;go_wp2_with fail;go_loopw [8] (fun y wr=>∃(i:Nat) (d:List Int),y=G i/\a+1<=i/\i<=n+1/\SAt g n W0 wr d/\Hid (Zr cf a (b-i) i d=D)) (fun y _=>b-(intOf y).toNat)
 .exact ⟨a+1,d,by go_num,by omega,by omega,r,F⟩
 obtain⟨i,d,rfl,ad,ae,hS,k⟩:=hrel;rename World=>wr;have r:=hS;by_cases af:i<b
 .have Y:(i:Int)<b:=by omega
  have w:=by
   have h:=I k;rw[show b-i=(b-(i+1))+1 by omega,Zr]at h;exact h
  generalize hR2:Gn cf a (i-a) d=R2 at w;go_wp2_with fail;go_loopw [9] (fun A B=>∃(c:Nat) (d:List Int),A=G c/\a<=c/\c<=i/\SAt g n W0 B d/\Hid (Gn cf a (c-a) d=R2)) (fun A _=>(intOf A).toNat)
  .exact ⟨i,d,rfl,by omega,by omega,r,hR2⟩
  obtain⟨c,d,rfl,ag,ah,hS,k⟩:=hrel;rename World=>B;have C:=hS;by_cases ai:a<c
  .obtain ⟨f,m⟩:∃f,c=f+1:=⟨c-1,by omega⟩;have c1:=(hS.row c (by omega)).1;have s:=(hS.row f (by omega)).1;have x:=hC B.drew hS.only.drew (d.getD c 0) (d.getD f 0) (hS.inr.at (by omega)) (hS.inr.at (by omega));have q:Gn cf a (c-a) d=if cf (d.getD c 0) (d.getD f 0)<0 then Gn cf a (f-a) (Qc d c f)else d:=by
    rw[show c-a=(f-a)+1 by omega,Gn,show a+(f-a)+1=c by omega,show a+(f-a)=f by omega]
   obtain⟨L,o⟩:=nm (d.getD c 0);obtain⟨N,p⟩:=nm (d.getD f 0);rw[o,p]at x q;rw[o]at c1;rw[p]at s;generalize hz:cf L N=z at x q;have aj:IntKind.i64.wrap ((c:Int)-1)=(f:Int):=by
    have e:(c:Int)-1=(f:Int):=by omega
    rw[e];exact Jg (by omega) (by omega)
   have ab:=hS.lt;have R:(a:Int)<c:=by omega
   have ak:(0:Int)<=c:=by omega
   have al:(c:Int)<n:=by omega
   have ao:(0:Int)<=f:=by omega
   have ap:(f:Int)<n:=by omega
   have u:f<n:=by omega
   have t:c<n:=by omega
   clear hS hz;change Hid _ at m;go_wp2_with fail;go_region_held3 (fun K=>K.cell? (U g c)=some (G L)/\K.cell? (U g f)=some (G N))
    (first
     | exact⟨c1,s⟩
     | exact⟨by rw[<-o];exact(j.row c t).1,by rw[<-p];exact(j.row f u).1⟩
     | (trace_state;fail))
    ((go_at_call 276;refine aR x ?_;rintro aq ⟨S,T⟩;have j:=C.drew.next S T))
   by_cases H:z<0
   .have P:=by
     have h:=I q;rw[FY H,k]at h;exact h.symm
    have c1:=(j.row c t).1;have s:=(j.row f u).1;have Z:=(j.row c t).2;have aa:=(j.row f u).2;rw[o]at c1;rw[p]at s;have ac:=j.lt;have am:c≠f:=by have:=I m;omega
    have an:f≠c:=by omega
    go_wp2_with fail;go_region;have Q:=by
     have h:=j.swap t u;rw[o,p]at h;exact h.drew
    go_wp2_with fail;go_roundw
    .exact ⟨f,Qc d c f,rfl,by have:=I m;omega,by have:=I m;omega,Q,P⟩
    simp[intOf];have:=I m;omega
   have l:d=R2:=by
    have h:=I q;rw[FU H,k]at h;exact h.symm
   subst l;go_wp2_with fail;go_roundw
   .exact ⟨i+1,d,by go_num,by omega,by omega,j,w⟩
   simp[intOf];omega
  have X:c=a:=by omega
  subst X;have l:d=R2:=by
   have h:=I k;rw[Ps,Gn]at h;exact h
  subst l;have R:¬ (c:Int)<c:=by omega
  go_wp2_with fail;go_region;go_wp2_with fail;go_roundw
  .exact ⟨i+1,d,by go_num,by omega,by omega,C.drew,w⟩
  simp[intOf];omega
 have l:d=D:=by
  have h:=I k;rw[show b-i=0 by omega,Zr]at h;exact h
 subst l;have Y:¬ (i:Int)<b:=by omega
 go_wp2_with fail;first
 | (go_end0;exact⟨rfl,r⟩)
 | (trace_state;fail)
theorem Jbt(g n cap a b c:Nat)(fv)(W0)(hn:n<=1000)(hab:a<b)(hb:b+c<=n)(W)(d)(hS:SAt g n W0 W d):
 Calls prog 298 #[aI g 0 n cap,G a,G b,G c,fv] W fun e W'=>e=aD (.tuple #[])/\SAt g n W0 W' (swR a b c 0 d):=by
 have u:=hS;obtain⟨p,r⟩:=nm (swR a b c 0 d);rw[r];go_enter func298,ntmps298;go_wp2_with fail;go_loopw [10] (fun f wr=>∃(i:Nat) (d:List Int),f=G i/\i<=c/\SAt g n W0 wr d/\Hid (swR a b (c-i) i d=p)) (fun f _=>c-(intOf f).toNat)
 .exact ⟨0,d,rfl,by omega,u,r⟩
 obtain⟨i,d,rfl,H,hS,q⟩:=hrel;rename World=>wr;by_cases K:i<c
 .have m:=by
   have k:=I q;rw[show c-i=(c-(i+1))+1 by omega,swR]at k;exact k
  obtain⟨f,s⟩:=nm (a+i);obtain⟨h,t⟩:=nm (b+i);rw[s,t]at m;have c1:=(hS.row f (by omega)).1;have w:=(hS.row h (by omega)).1;have:=(hS.row f (by omega)).2;have:=(hS.row h (by omega)).2;have:=hS.lt;obtain⟨A,y⟩:=nm (d.getD f 0);obtain⟨B,z⟩:=nm (d.getD h 0);rw[y]at c1;rw[z]at w;have o:∀l,SAt g n W0 l d->SAt g n W0 ((l.setCell (U g f) (G B)).setCell (U g h) (G A)) (Qc d f h):=fun l x=>by
   have k:=x.swap (i:=f) (j:=h) (by omega) (by omega);simp_all
  have:IntKind.i64.wrap ((a:Int)+(i:Int))=(f:Int):=by
   rw[<-MM,s];exact Jg (by omega) (by omega)
  have:IntKind.i64.wrap ((b:Int)+(i:Int))=(h:Int):=by
   rw[<-MM,t];exact Jg (by omega) (by omega)
  have k:(i:Int)<c:=by omega
  have:(0:Int)<=f:=by omega
  have:(f:Int)<n:=by omega
  have:(0:Int)<=h:=by omega
  have:(h:Int)<n:=by omega
  have:f≠h:=by omega
  have:h≠f:=by omega
  go_wp2_with fail;go_region;go_wp2;go_roundw
  .exact ⟨i+1,Qc d f h,by go_num,by omega,by first|exact(o _ hS).drew|exact o _ hS.drew,m⟩
  simp[intOf];omega
 have f:d=p:=by
  have k:=I q;rw[show c-i=0 by omega,swR]at k;exact k
 subst f;have k:¬ (i:Int)<c:=by omega
 go_wp2_with fail;go_end0;simp;omega
theorem Jl9(g n cap a m b)(fv)(W0)(hn:n<=1000)(ham:a<m)(hmb:m<b)(hb:b<=n)(W)(d)(hS:SAt g n W0 W d):
 Calls prog 297 #[aI g 0 n cap,G a,G m,G b,fv] W fun e W'=>e=aD (.tuple #[])/\SAt g n W0 W' (rotF a m b d):=by
 have B:=hS;obtain⟨x,y⟩:=nm (rotF a m b d);rw[y];have:IntKind.i64.wrap ((m:Int)-(a:Int))=((m-a:Nat):Int):=by
  have e:(m:Int)-(a:Int)=((m-a:Nat):Int):=by omega
  rw[e];exact Jg (by omega) (by omega)
 have:IntKind.i64.wrap ((b:Int)-(m:Int))=((b-m:Nat):Int):=by
  have e:(b:Int)-(m:Int)=((b-m:Nat):Int):=by omega
  rw[e];exact Jg (by omega) (by omega)
 go_enter func297,ntmps297;go_wp2_with fail;go_loopw [10,11] (fun i j wr=>∃(c f h:Nat) (d:List Int),i=G c/\j=G f/\0<c/\0<f/\c<=m/\m+f<=n/\c+f<=h/\SAt g n W0 wr d/\Hid (rotP m h c f d=x)) (fun i j _=>(intOf i).toNat+(intOf j).toNat)
 case atStart=>exact⟨m-a,b-m,m-a+(b-m),d,by simp,by simp,by omega,by omega,by omega,by omega,by omega,B,y⟩
 case round =>
  obtain⟨c,f,h,d,rfl,rfl,P,R,Q,z,N,hS,p⟩:=hrel;rename World=>wr;obtain⟨h,rfl⟩:∃f',h=f'+1:=⟨h-1,by omega⟩;obtain⟨k,r⟩:=nm (m-c);have:IntKind.i64.wrap ((m:Int)-(c:Int))=(k:Int):=by
   have e:(m:Int)-(c:Int)=k:=by omega
   rw[e];exact Jg (by omega) (by omega)
  by_cases q:c=f
  .subst q;have l:=Jbt g n cap k m c fv W0 hn (by omega) z wr d hS;have j:=by
    have i:=I p;rw[rotP,FY rfl,r]at i;exact i
   have C:((c:Int) != c)=false:=by simp
   go_wp2_with fail;refine aR l fun w i=>?_;have o:SAt g n W0 w x:=by rw[<-j];exact i
   go_wp2_with fail;go_end0;simp;omega
  .have C:((c:Int) != f)=true:=by simp;omega
   by_cases A:f<c
   .have l:=Jbt g n cap k m f fv W0 hn (by omega) z wr d hS;have j:=by
     have i:=I p;rw[rotP,FU q,FY A,r]at i;exact i
    obtain⟨s,t⟩:=nm (c-f);rw[t]at j;have L:IntKind.i64.wrap ((c:Int)-(f:Int))=(s:Int):=by
     have e:(c:Int)-(f:Int)=(s:Int):=by omega
     rw[e];exact Jg (by omega) (by omega)
    have D:(f:Int)<c:=by omega
    go_wp2_with fail;refine aR l fun w i=>?_;have o:=i;go_wp2;go_roundw
    case rel=>exact⟨s,f,h,_,by simp,by simp,by omega,by omega,by omega,by omega,by omega,o,j⟩
    simp[intOf];omega
   .have:k+f<n:=by omega
    obtain⟨t,H⟩:=nm (m+f-c);have l:=Jbt g n cap k t c fv W0 hn (by omega) (by omega) wr d hS;have j:=by
     have i:=I p;rw[rotP,FU q,FU A,r,H]at i;exact i
    obtain⟨s,F⟩:=nm (f-c);rw[F]at j;obtain⟨u,K⟩:=nm (m+f);have L:IntKind.i64.wrap ((f:Int)-(c:Int))=(s:Int):=by
     have e:(f:Int)-(c:Int)=(s:Int):=by omega
     rw[e];exact Jg (by omega) (by omega)
    have:IntKind.i64.wrap ((m:Int)+(f:Int))=(u:Int):=by
     rw[<-MM,K];exact Jg (by omega) (by omega)
    have:IntKind.i64.wrap ((u:Int)-(c:Int))=(t:Int):=by
     have e:(u:Int)-(c:Int)=t:=by omega
     rw[e];exact Jg (by omega) (by omega)
    have D:¬ (f:Int)<c:=by omega
    go_wp2_with fail;refine aR l fun w i=>?_;have o:=i;go_wp2;go_roundw
    case rel=>exact⟨c,s,h,_,by simp,by simp,by omega,by omega,by omega,by omega,by omega,o,j⟩
    simp[intOf];omega
theorem Jty(g n b3 b2 cap a m b:Nat)(W0)(cf)(hC:CmpC g n b3 b2 W0 cf)(hn:n<=1000)(ham:m=a+1)(hmb:m<b)(hb:b<=n)(W)(d)(hS:SAt g n W0 W d):
 Calls prog 295 #[aI g 0 n cap,G a,G m,G b,.func (.func 276) #[] #[aJ b3 0,aJ b2 0]] W fun e W'=>e=aD (.tuple #[])/\SAt g n W0 W' (shUp (bsF (fun h=>decide (cf (d.getD h 0) (d.getD a 0)<0)) m b-1-a) a d):=by
 have ao:=O hS;obtain⟨N,Q⟩:=nm ((fun h=>decide (cf (d.getD h 0) (d.getD a 0)<0)):Nat->Bool);rw[Q];obtain⟨K,B⟩:=nm (bsF N m b);rw[B];have am:=B;have aj:=Qf (p:=N) (b-m) (i:=m) (j:=b) aT (by omega);rw[B]at aj;obtain⟨aW,aX⟩:=aj;obtain⟨af,R⟩:=nm (shUp (K-1-a) a d);rw[R];have bc:IntKind.i64.wrap ((m:Int)-(a:Int))=1:=by
  have e:(m:Int)-(a:Int)=((1:Nat):Int):=by omega
  rw[e];exact Jg (by omega) (by omega)
 have aY:a<m:=by omega
 clear hS B ham;change Hid _ at R Q;go_enter func295,ntmps295;go_wp2_with fail;go_loopw [10,11] (fun Z aa wr=>∃(i j:Nat),Z=G i/\aa=G j/\m<=i/\i<=j/\j<=b/\SAt g n W0 wr d/\Hid (bsF N i j=K)) (fun Z aa _=>(intOf aa).toNat-(intOf Z).toNat)
 .exact ⟨m,b,by first|rfl|go_num,by first|rfl|go_num,by omega,by omega,by omega,ao,am⟩
 obtain⟨i,j,rfl,rfl,bb,a6,a7,hS,s⟩:=hrel;rename World=>wr;have ae:=O hS;by_cases X:i<j
 .have az:(i:Int)<(j:Int):=by omega
  obtain⟨h,w⟩:=nm ((i+j) / 2);have a5:i<=h:=by omega
  have aZ:h<j:=by omega
  have ai:((i:Int)+(j:Int)) / 2=(h:Int):=by omega
  have D:h<n:=by omega
  have F:a<n:=by omega
  have c1:=(hS.row (h) D).1;have t:=(hS.row (a) F).1;have S:=hC wr.drew hS.only.drew (d.getD (h) 0) (d.getD (a) 0) (hS.inr.at D) (hS.inr.at F);have r:=congrFun Q h;obtain⟨ac,o⟩:=nm (d.getD (h) 0);obtain⟨ad,q⟩:=nm (d.getD (a) 0);simp only[o,q]at S r;rw[o]at c1;rw[q]at t;generalize hz:cf ac ad=z at S r;have ax:=hS.lt;have aU:(0:Int)<=((h:Nat):Int):=by omega
  have ar:((h:Nat):Int)<(n:Int):=by omega
  have bm:(0:Int)<=((a:Nat):Int):=by omega
  have bn:((a:Nat):Int)<(n:Int):=by omega
  clear hS hz;change Hid _ at F D w r q o;go_wp2_with fail;go_region_held3 (fun ak=>ak.cell? (U g h)=some (G ac)/\ak.cell? (U g a)=some (G ad))
   (first
    | exact⟨c1,t⟩
    | exact⟨by rw[<-o];exact(A.row _ D).1,by rw[<-q];exact(A.row _ F).1⟩
    | (trace_state;fail))
   ((go_at_call 276;refine aR S ?_;rintro bo ⟨ag,ah⟩;have A:=O ((I ae).drew.next ag ah);clear ag ah))
  clear c1 t;by_cases ay:z<0
  .have L:=by
    have f:=I s;have P:=I r;have u:=I w;rw[Jcu X (by rw[u,<-P];simp;omega),u]at f;exact f
   have y:(!decide (z<0))=false:=by simp[ay]
   try rw[y]
   clear s r w ai y;go_wp2_with fail;go_roundw
   .exact ⟨h+1,j,by first|rfl|go_num,by first|rfl|go_num,by omega,by omega,by omega,A,L⟩
   simp[intOf];omega
  have L:=by
   have f:=I s;have P:=I r;have u:=I w;rw[Jhx X (by rw[u,<-P];simp;omega),u]at f;exact f
  have y:(!decide (z<0))=true:=by simp;omega
  try rw[y]
  clear s r w ai y;go_wp2_with fail;go_roundw
  .exact ⟨i,h,by first|rfl|go_num,by first|rfl|go_num,by omega,by omega,by omega,A,L⟩
  simp[intOf];omega
 have av:i=K:=by
  have f:=I s;rw[Xc X]at f;exact f
 subst av;have az:¬ (i:Int)<(j:Int):=by omega
 obtain⟨H,a4⟩:=nm (i-1);have bd:IntKind.i64.wrap ((i:Int)-1)=(H:Int):=by
  have e:(i:Int)-1=(H:Int):=by omega
  rw[e];exact Jg (by omega) (by omega)
 clear hS s;go_wp2_with fail;go_loopw [13] (fun ab al=>∃(c:Nat) (d:List Int),ab=G c/\a<=c/\c<=i-1/\SAt g n W0 al d/\Hid (shUp (i-1-c) c d=af)) (fun ab _=>i-1-(intOf ab).toNat)
 .exact ⟨a,d,rfl,by omega,by omega,ae,R⟩
 obtain⟨c,d,rfl,a9,ba,l,C⟩:=hrel;rename World=>al;have ap:=O l;by_cases a8:c<i-1
 .obtain ⟨k,x⟩:=nm (c+1);have an:=O (by
   have f:=I C;rw[show i-1-c=(i-1-k)+1 by omega,shUp,x]at f;exact f)
  have T:c<n:=by omega
  have Y:k<n:=by omega
  have c1:=(l.row c T).1;have t:=(l.row k Y).1;have ar:=(l.row c T).2;have aV:=(l.row k Y).2;have ax:=l.lt;obtain⟨ac,o⟩:=nm (d.getD c 0);obtain⟨ad,q⟩:=nm (d.getD k 0);rw[o]at c1;rw[q]at t;have aq:=O (by
   have f:=l.swap T Y;rw[o,q]at f;exact f.drew)
  have be:IntKind.i64.wrap ((c:Int)+1)=(k:Int):=by
   have e:(c:Int)+1=(k:Int):=by omega
   rw[e];exact Jg (by omega) (by omega)
  have au:(c:Int)<(H:Int):=by omega
  have bf:(0:Int)<=(c:Int):=by omega
  have bg:(c:Int)<(n:Int):=by omega
  have bj:(0:Int)<=(k:Int):=by omega
  have bl:(k:Int)<(n:Int):=by omega
  have bh:c≠k:=by omega
  have bi:k≠c:=by omega
  clear l C o q;change Hid _ at x;go_wp2_with fail;go_region;go_wp2_with fail;go_roundw
  .exact ⟨k,Qc d c k,by first|rfl|go_num,by have:=I x;omega,by have:=I x;omega,aq,an⟩
  simp[intOf];have:=I x;omega
 have aw:d=af:=by
  have f:=I C;rw[show i-1-c=0 by omega,shUp]at f;exact f
 subst aw;have au:¬ (c:Int)<(H:Int):=by omega
 clear l C;go_wp2_with fail;refine FR (results_none rfl _ _ _) rfl ?_;exact⟨rfl,ap⟩
theorem Jtx(g n b3 b2 cap a m b:Nat)(W0)(cf)(hC:CmpC g n b3 b2 W0 cf)(hn:n<=1000)(ham:m≠a+1)(hal:a<m)(hmb:b=m+1)(hb:b<=n)(W)(d)(hS:SAt g n W0 W d):
 Calls prog 295 #[aI g 0 n cap,G a,G m,G b,.func (.func 276) #[] #[aJ b3 0,aJ b2 0]] W fun e W'=>e=aD (.tuple #[])/\SAt g n W0 W' (shDn (m-bsF (fun h=>decide (¬ cf (d.getD m 0) (d.getD h 0)<0)) a m) m d):=by
 have am:=hS;obtain⟨F,ac⟩:=nm ((fun h=>decide (¬ cf (d.getD m 0) (d.getD h 0)<0)):Nat->Bool);rw[ac];obtain⟨C,y⟩:=nm (bsF F a m);rw[y];have ak:=y;have ah:=Qf (p:=F) (m-a) (i:=a) (j:=m) aT (by omega);rw[y]at ah;obtain⟨aV,aW⟩:=ah;obtain⟨ab,ad⟩:=nm (shDn (m-C) m d);rw[ad];obtain⟨R,aw⟩:=nm (m-a);have bb:IntKind.i64.wrap ((m:Int)-(a:Int))=(R:Int):=by
  have e:(m:Int)-(a:Int)=(R:Int):=by omega
  rw[e];exact Jg (by omega) (by omega)
 have a8:((R:Int)== 1)=false:=ZD (by omega);have bc:IntKind.i64.wrap ((b:Int)-(m:Int))=1:=by
  have e:(b:Int)-(m:Int)=((1:Nat):Int):=by omega
  rw[e];exact Jg (by omega) (by omega)
 have ba:m<n:=by omega
 clear hS y ham hmb aw;go_enter func295,ntmps295;go_wp2_with fail;go_loopw [14,15] (fun S T wr=>∃(i j:Nat),S=G i/\T=G j/\a<=i/\i<=j/\j<=m/\SAt g n W0 wr d/\Hid (bsF F i j=C)) (fun S T _=>(intOf T).toNat-(intOf S).toNat)
 .exact ⟨a,m,by first|rfl|go_num,by first|rfl|go_num,by omega,by omega,by omega,am,ak⟩
 obtain⟨i,j,rfl,rfl,a9,aZ,a4,hS,r⟩:=hrel;rename World=>wr;have aa:=hS;by_cases N:i<j
 .have ay:(i:Int)<(j:Int):=by omega
  obtain⟨h,t⟩:=nm ((i+j) / 2);have aY:i<=h:=by omega
  have aX:h<j:=by omega
  have ag:((i:Int)+(j:Int)) / 2=(h:Int):=by omega
  have K:m<n:=by omega
  have Q:h<n:=by omega
  have c1:=(hS.row (m) K).1;have u:=(hS.row (h) Q).1;have H:=hC wr.drew hS.only.drew (d.getD (m) 0) (d.getD (h) 0) (hS.inr.at K) (hS.inr.at Q);have s:=congrFun ac h;obtain⟨Y,o⟩:=nm (d.getD (m) 0);obtain⟨Z,q⟩:=nm (d.getD (h) 0);simp only[o,q]at H s;rw[o]at c1;rw[q]at u;generalize hz:cf Y Z=z at H s;have av:=hS.lt;have az:(0:Int)<=((m:Nat):Int):=by omega
  have ap:((m:Nat):Int)<(n:Int):=by omega
  have bl:(0:Int)<=((h:Nat):Int):=by omega
  have bm:((h:Nat):Int)<(n:Int):=by omega
  clear hS hz;go_wp2_with fail;go_region_held3 (fun ai=>ai.cell? (U g m)=some (G Y)/\ai.cell? (U g h)=some (G Z))
   (first
    | exact⟨c1,u⟩
    | exact⟨by rw[<-o];exact(x.row _ K).1,by rw[<-q];exact(x.row _ Q).1⟩
    | (trace_state;fail))
   ((go_at_call 276;refine aR H ?_;rintro bn ⟨ae,af⟩;have x:=aa.drew.next ae af;clear ae af))
  clear c1 u;by_cases ax:z<0
  .have D:=by
    have f:=I r;rw[Jhx N (by rw[t,<-s];simp;omega),t]at f;exact f
   have w:(!decide (z<0))=false:=by simp[ax]
   try rw[w]
   clear r s t ag w;go_wp2_with fail;go_roundw
   .exact ⟨i,h,by first|rfl|go_num,by first|rfl|go_num,by omega,by omega,by omega,x,D⟩
   simp[intOf];omega
  have D:=by
   have f:=I r;rw[Jcu N (by rw[t,<-s];simp;omega),t]at f;exact f
  have w:(!decide (z<0))=true:=by simp;omega
  try rw[w]
  clear r s t ag w;go_wp2_with fail;go_roundw
  .exact ⟨h+1,j,by first|rfl|go_num,by first|rfl|go_num,by omega,by omega,by omega,x,D⟩
  simp[intOf];omega
 have ar:i=C:=by
  have f:=I r;rw[Xc N]at f;exact f
 subst ar;have ay:¬ (i:Int)<(j:Int):=by omega
 clear hS r;go_wp2_with fail;go_loopw [17] (fun X aj=>∃(c:Nat) (d:List Int),X=G c/\i<=c/\c<=m/\SAt g n W0 aj d/\Hid (shDn (c-i) c d=ab)) (fun X _=>(intOf X).toNat)
 .exact ⟨m,d,rfl,by omega,by omega,aa,ad⟩
 obtain⟨c,d,rfl,a6,a7,l,A⟩:=hrel;rename World=>aj;have an:=l;by_cases a5:i<c
 .obtain ⟨k,B⟩:=nm (c-1);have al:=by
   have f:=I A;rw[show c-i=(k-i)+1 by omega,shDn,B]at f;exact f
  have L:c<n:=by omega
  have P:k<n:=by omega
  have c1:=(l.row c L).1;have u:=(l.row k P).1;have ap:=(l.row c L).2;have aU:=(l.row k P).2;have av:=l.lt;obtain⟨Y,o⟩:=nm (d.getD c 0);obtain⟨Z,q⟩:=nm (d.getD k 0);rw[o]at c1;rw[q]at u;have ao:=by
   have f:=l.swap L P;rw[o,q]at f;exact f.drew
  have bd:IntKind.i64.wrap ((c:Int)-1)=(k:Int):=by
   have e:(c:Int)-1=(k:Int):=by omega
   rw[e];exact Jg (by omega) (by omega)
  have aq:(i:Int)<(c:Int):=by omega
  have be:(0:Int)<=(c:Int):=by omega
  have bf:(c:Int)<(n:Int):=by omega
  have bi:(0:Int)<=(k:Int):=by omega
  have bj:(k:Int)<(n:Int):=by omega
  have bg:c≠k:=by omega
  have bh:k≠c:=by omega
  clear l A o q;go_wp2_with fail;go_region;go_wp2_with fail;go_roundw
  .exact ⟨k,Qc d c k,by first|rfl|go_num,by have:=B;omega,by have:=B;omega,ao,al⟩
  simp[intOf];have:=B;omega
 have au:d=ab:=by
  have f:=I A;rw[show c-i=0 by omega,shDn]at f;exact f
 subst au;have aq:¬ (i:Int)<(c:Int):=by omega
 clear l A;go_wp2_with fail;refine FR (results_none rfl _ _ _) rfl ?_;exact⟨rfl,an⟩
theorem Ja0{cf:Int->Int->Int}{f a m b:Nat}{d:List Int}(h1:m≠a+1)(h2:b≠m+1):symP cf (f+1) a m b d=(let s:=Q2 cf a m b d
 let e:=(a+b) / 2+m-s
 let d1:=if s<m/\m<e then rotF s m e d else d
 let d2:=if a<s/\s<(a+b) / 2 then symP cf f a s ((a+b) / 2) d1 else d1
 if(a+b) / 2<e/\e<b then symP cf f ((a+b) / 2) e b d2 else d2):=by
 rw[symP,FU h1,FU h2]
theorem Jtw(g n b3 b2 cap f a m b:Nat)(W0)(cf)(hC:CmpC g n b3 b2 W0 cf)(hn:n<=1000)(hI:∀(a m b:Nat) (W:World) (d:List Int),a<m->m<b->b<=n->b-a<=f->SAt g n W0 W d->Calls prog 295 #[aI g 0 n cap,G a,G m,G b,.func (.func 276) #[] #[aJ b3 0,aJ b2 0]] W fun e W'=>e=aD (.tuple #[])/\SAt g n W0 W' (symP cf f a m b d))(hal:a+1<m)(hmb:m+1<b)(hb:b<=n)(hf:b-a<=f+1)(W)(d)(hS:SAt g n W0 W d):
 Calls prog 295 #[aI g 0 n cap,G a,G m,G b,.func (.func 276) #[] #[aJ b3 0,aJ b2 0]] W fun e W'=>e=aD (.tuple #[])/\SAt g n W0 W' (symP cf (f+1) a m b d):=by
 have bc:=O hS;obtain⟨h,aq⟩:=nm ((a+b) / 2);have bO:a<h:=by omega
 have bP:h<b:=by omega
 have bQ:2*h<=a+b:=by omega
 obtain⟨ah,al⟩:=nm ((fun aV=>decide (¬ cf (d.getD (h+m-1-aV) 0) (d.getD aV 0)<0)):Nat->Bool);obtain⟨q,K⟩:=nm (if h<m then h+m-b else a);obtain⟨t,H⟩:=nm (if h<m then h else m);have bo:a<=q/\q<=t/\t<=m/\t<=h/\h+m<=q+b:=by
  by_cases k:h<m
  .rw [FY k]at K H;omega
  rw[FU k]at K H;omega
 obtain⟨bW,bv,bX,bY,bZ⟩:=bo;obtain⟨s,ak⟩:=nm (bsF ah q t);have a6:Q2 cf a m b d=s:=by
  unfold Q2;rw[aq,al,K,H,ak]
 have a5:=Qf (p:=ah) (t-q) (i:=q) (j:=t) aT bv;rw[ak]at a5;obtain⟨bD,bE⟩:=a5;have ba:=O K;obtain⟨bd,am⟩:=nm (symP cf (f+1) a m b d);have bb:Hid ((let e:=h+m-s
  let d1:=if s<m/\m<e then rotF s m e d else d
  let d2:=if a<s/\s<h then symP cf f a s h d1 else d1
  if h<e/\e<b then symP cf f h e b d2 else d2)=bd):=O (by
  have k:=Ja0 (cf:=cf) (f:=f) (d:=d) (a:=a) (m:=m) (b:=b) (by omega) (by omega);rw[a6,aq,am]at k;exact k.symm)
 rw[am];obtain⟨u,au⟩:=nm (h+m);obtain⟨S,bS⟩:=nm (u-1);obtain⟨aw,bj⟩:=nm (m-a);obtain⟨ai,bh⟩:=nm (b-m);have bp:IntKind.i64.wrap ((m:Int)-(a:Int))=(aw:Int):=by
  have e:(m:Int)-(a:Int)=(aw:Int):=by omega
  rw[e];exact Jg (by omega) (by omega)
 have bl:((aw:Int)== 1)=false:=ZD (by omega);have bq:IntKind.i64.wrap ((b:Int)-(m:Int))=(ai:Int):=by
  have e:(b:Int)-(m:Int)=(ai:Int):=by omega
  rw[e];exact Jg (by omega) (by omega)
 have bi:((ai:Int)== 1)=false:=ZD (by omega);have bm:((a:Int)+(b:Int)) / 2=(h:Int):=by omega
 have br:IntKind.i64.wrap ((h:Int)+(m:Int))=(u:Int):=by
  rw[<-MM,au];exact Jg (by omega) (by omega)
 have bT:IntKind.i64.wrap ((u:Int)-1)=(S:Int):=by
  have e:(u:Int)-1=(S:Int):=by omega
  rw[e];exact Jg (by omega) (by omega)
 have av:h<m->IntKind.i64.wrap ((u:Int)-(b:Int))=(q:Int):=fun k=>by
  rw[FY k]at K;have e:(u:Int)-(b:Int)=(q:Int):=by omega
  rw[e];exact Jg (by omega) (by omega)
 have bz:=O au;clear hS am a6 K aq bj bh;change Hid _ at av H al hI;go_enter func295,ntmps295;go_upto_if 140 with fail;go_cut [20,21]from 138 to 146 (fun T X w=>T=G q/\X=G t/\w=W)
 .by_cases ar:h<m
  .have l:=av ar;have o:=I H;rw[FY ar]at o;have bf:(h:Int)<(m:Int):=by omega
   change Hid _ at o;go_wp2_with fail;go_meet;exact⟨rfl,by rw[o],rfl⟩
  have l:=I ba;have o:=I H;rw[FU ar]at l o;have bf:¬ (h:Int)<(m:Int):=by omega
  change Hid _ at o l;go_wp2_with fail;go_meet;exact⟨by rw[l],by rw[o],rfl⟩
 obtain⟨rfl,rfl,B⟩:=hcut;have Q:=B.symm;subst Q;clear B bp bq br av bl bi bm;go_wp2_with fail;go_loopw [20,21] (fun T X wr=>∃(i j:Nat),T=G i/\X=G j/\q<=i/\i<=j/\j<=t/\SAt g n W0 wr d/\Hid (bsF ah i j=s)) (fun T X _=>(intOf X).toNat-(intOf T).toNat)
 .exact ⟨q,t,by first|rfl|go_num,by first|rfl|go_num,by omega,by omega,by omega,bc,ak⟩
 obtain⟨i,j,rfl,rfl,bR,bM,bN,hS,D⟩:=hrel;rename World=>wr;have Z:=O hS;by_cases ap:i<j
 .have bu:(i:Int)<(j:Int):=by omega
  obtain⟨k,F⟩:=nm ((i+j) / 2);have bL:i<=k:=by omega
  have bK:k<j:=by omega
  have aZ:((i:Int)+(j:Int)) / 2=(k:Int):=by omega
  obtain⟨r,bn⟩:=nm (S-k);have bU:IntKind.i64.wrap ((S:Int)-(k:Int))=(r:Int):=by
   have e:(S:Int)-(k:Int)=(r:Int):=by omega
   rw[e];exact Jg (by omega) (by omega)
  have a4:h+m-1-k=r:=by omega
  have ao:r<n:=by omega
  have ad:k<n:=by omega
  have c1:=(hS.row (r) ao).1;have aj:=(hS.row (k) ad).1;have an:=hC wr.drew hS.only.drew (d.getD (r) 0) (d.getD (k) 0) (hS.inr.at ao) (hS.inr.at ad);have y:=congrFun al k;simp only[a4]at y;obtain⟨a8,ae⟩:=nm (d.getD (r) 0);obtain⟨a9,af⟩:=nm (d.getD (k) 0);simp only[ae,af]at an y;rw[ae]at c1;rw[af]at aj;generalize hz:cf a8 a9=z at an y;have bJ:=hS.lt;have bA:(0:Int)<=((r:Nat):Int):=by omega
  have bB:((r:Nat):Int)<(n:Int):=by omega
  have b4:(0:Int)<=((k:Nat):Int):=by omega
  have b5:((k:Nat):Int)<(n:Int):=by omega
  clear hS hz bn a4;change Hid _ at ad y af ae;go_wp2_with fail;go_region_held3 (fun a7=>a7.cell? (U g r)=some (G a8)/\a7.cell? (U g k)=some (G a9))
   (first
    | exact⟨c1,aj⟩
    | exact⟨by rw[<-ae];exact(Y.row _ ao).1,by rw[<-af];exact(Y.row _ ad).1⟩
    | (trace_state;fail))
   ((go_at_call 276;refine aR an ?_;rintro ay ⟨aW,aY⟩;have Y:=O ((I Z).drew.next aW aY);clear aW aY))
  clear c1 aj;by_cases bt:z<0
  .have ag:=by
    have l:=I D;have o:=I y;rw[Jhx ap (by rw[F,<-o];simp;omega),F]at l;exact l
   have R:(!decide (z<0))=false:=by simp[bt]
   try rw[R]
   clear D y F aZ R;go_wp2_with fail;go_roundw
   .exact ⟨i,k,by first|rfl|go_num,by first|rfl|go_num,by omega,by omega,by omega,Y,ag⟩
   simp[intOf];omega
  have ag:=by
   have l:=I D;have o:=I y;rw[Jcu ap (by rw[F,<-o];simp;omega),F]at l;exact l
  have R:(!decide (z<0))=true:=by simp;omega
  try rw[R]
  clear D y F aZ R;go_wp2_with fail;go_roundw
  .exact ⟨k+1,j,by first|rfl|go_num,by first|rfl|go_num,by omega,by omega,by omega,Y,ag⟩
  simp[intOf];omega
 have bg:i=s:=by
  have l:=I D;rw[Xc ap]at l;exact l
 subst bg;have bu:¬ (i:Int)<(j:Int):=by omega
 obtain⟨e,aX⟩:=nm (u-i);have bV:IntKind.i64.wrap ((u:Int)-(i:Int))=(e:Int):=by
  have be:(u:Int)-(i:Int)=(e:Int):=by omega
  rw[be];exact Jg (by omega) (by omega)
 have bG:e<=b:=by omega
 have bH:m<=e:=by omega
 have bI:h<=e:=by omega
 have C:=I bb;simp only[au,aX]at C;generalize hd1:(if i<m/\m<e then rotF i m e d else d)=d1 at C;generalize hd2:(if a<i/\i<h then symP cf f a i h d1 else d1)=d2 at C;clear hS D aX;change Hid _ at C;obtain⟨az,P⟩:=nm (decide (i<m) && decide (m<e));obtain⟨aU,ac⟩:=nm (decide (a<i) && decide (i<h));change Hid _ at ac P;go_upto_region 39 with fail;go_cut [185]from 178 to 184 (fun bw w=>bw=.bool az/\w=wr)
 .have c:=I P;by_cases l:i<m
  .have L:(i:Int)<(m:Int):=by omega
   by_cases o:m<e;have N:(m:Int)<(e:Int):=by omega
   rotate_left;have N:¬ (m:Int)<(e:Int):=by omega
   all_goals
    simp[l,o]at c;go_wp2_with fail;go_meet;exact⟨by rw[c],rfl⟩
  have L:¬ (i:Int)<(m:Int):=by omega
  simp[l]at c;go_wp2_with fail;go_meet;exact⟨by rw[c],rfl⟩
 case rest =>
 obtain⟨rfl,B⟩:=hcut;have Q:=B.symm;subst Q;clear B;go_upto_if 185 with fail;go_cut [24]from 186 to 191 (fun ax w=>ax=G e/\SAt g n W0 w d1)
 .cases az with
  | true =>
   have c:=I P;simp only[ZJ,JM]at c;have x:=O (Jl9 g n cap i m e (.func (.func 276) #[] #[aJ b3 0,aJ b2 0]) W0 hn c.1 c.2 (by omega) wr d Z);rw[FY c]at hd1;rw[hd1]at x;clear c hd1;go_wp2_with fail;refine aR x fun ay A=>?_;change Hid _ at A;go_wp2_with fail;go_meet;exact⟨rfl,A⟩
  | false =>
   have c:=I P;simp only[Mx,Ml]at c;rw[FU (by omega)]at hd1;clear c;go_wp2_with fail;go_meet;exact⟨rfl,by rw[<-hd1];exact Z⟩
 obtain⟨rfl,aa⟩:=hcut;rename World=>w1;clear Z P hd1;change Hid _ at aa;go_upto_region 41 with fail;go_cut [199]from 192 to 198 (fun bx w=>bx=.bool aU/\w=w1)
 .have c:=I ac;by_cases l:a<i
  .have L:(a:Int)<(i:Int):=by omega
   by_cases o:i<h;have N:(i:Int)<(h:Int):=by omega
   rotate_left;have N:¬ (i:Int)<(h:Int):=by omega
   all_goals
    simp[l,o]at c;go_wp2_with fail;go_meet;exact⟨by rw[c],rfl⟩
  have L:¬ (a:Int)<(i:Int):=by omega
  simp[l]at c;go_wp2_with fail;go_meet;exact⟨by rw[c],rfl⟩
 case rest =>
 obtain⟨rfl,B⟩:=hcut;have Q:=B.symm;subst Q;clear B;go_upto_if 199 with fail;go_cut [24]from 200 to 205 (fun ax w=>ax=G e/\SAt g n W0 w d2)
 .cases aU with
  | true =>
   have c:=I ac;simp only[ZJ,JM]at c;have x:=O (I hI a i h w1 d1 c.1 c.2 (by omega) (by omega) aa);rw[FY c]at hd2;rw[hd2]at x;clear c hd2;go_wp2_with fail;refine aR x fun ay A=>?_;change Hid _ at A;go_wp2_with fail;go_meet;exact⟨rfl,A⟩
  | false =>
   have c:=I ac;simp only[Mx,Ml]at c;rw[FU (by omega)]at hd2;clear c;go_wp2_with fail;go_meet;exact⟨rfl,by rw[<-hd2];exact aa⟩
 obtain⟨rfl,ab⟩:=hcut;rename World=>w2;clear aa;change Hid _ at ab;by_cases l:h<e
 .have L:(h:Int)<(e:Int):=by omega
  by_cases o:e<b
  .have N:(e:Int)<(b:Int):=by omega
   have x:=O (I hI h e b w2 d2 l o (by omega) (by omega) ab);have c:=I C;rw[FY ⟨l,o⟩]at c;rw[c]at x;clear c;go_wp2_with fail;refine aR x fun ay A=>?_;change Hid _ at A;go_wp2_with fail;go_end0;exact⟨rfl,A⟩
  have N:¬ (e:Int)<(b:Int):=by omega
  have c:=I C;rw[FU (by omega)]at c;go_wp2_with fail;go_end0;exact⟨rfl,by rw[<-c];exact ab⟩
 have L:¬ (h:Int)<(e:Int):=by omega
 have c:=I C;rw[FU (by omega)]at c;go_wp2_with fail;go_end0;exact⟨rfl,by rw[<-c];exact ab⟩
theorem Jid(g n b3 b2 cap)(W0)(cf)(hC:CmpC g n b3 b2 W0 cf)(hn:n<=1000):∀(f a m b:Nat) (W:World) (d:List Int),a<m->m<b->b<=n->b-a<=f->SAt g n W0 W d->Calls prog 295 #[aI g 0 n cap,G a,G m,G b,.func (.func 276) #[] #[aJ b3 0,aJ b2 0]] W fun e W'=>e=aD (.tuple #[])/\SAt g n W0 W' (symP cf f a m b d)
 | 0,a,m,b,W,d,h1,h2,_,h4,_=>absurd h4 (by omega)
 | f+1,a,m,b,W,d,h1,h2,h3,h4,hS=>by
  by_cases e1:m=a+1
  .rw [symP,FY e1];exact Jty g n b3 b2 cap a m b W0 cf hC hn e1 h2 h3 W d hS
  by_cases e2:b=m+1
  .rw [symP,FU e1,FY e2];exact Jtx g n b3 b2 cap a m b W0 cf hC hn e1 h1 e2 h3 W d hS
  exact Jtw g n b3 b2 cap f a m b W0 cf hC hn (Jid g n b3 b2 cap W0 cf hC hn f) (by omega) (by omega) h3 h4 W d hS
def st1(cf:Int->Int->Int)(n:Nat):Nat->Nat->List Int->List Int
 | 0,a,d=>Zr cf a (n-(a+1)) (a+1) d
 | f+1,a,d=>if a+20<=n then st1 cf n f (a+20) (Zr cf a (a+20-(a+1)) (a+1) d)else Zr cf a (n-(a+1)) (a+1) d
def mrg(cf:Int->Int->Int)(n s:Nat):Nat->Nat->List Int->List Int
 | 0,_,d=>d
 | f+1,a,d=>if a+2*s<=n then mrg cf n s f (a+2*s) (symP cf (2*s) a (a+s) (a+2*s) d)else if a+s<n then symP cf (n-a) a (a+s) n d else d
def mrgs(cf:Int->Int->Int)(n:Nat):Nat->Nat->List Int->List Int
 | 0,_,d=>d
 | f+1,s,d=>if s<n then mrgs cf n f (2*s) (mrg cf n s (n+1) 0 d)else d
def Z0(cf:Int->Int->Int)(n:Nat)(d:List Int):List Int:=mrgs cf n (n+1) 20 (st1 cf n (n+1) 0 d)
theorem Jlz(g n b3 b2 cap)(W0)(cf)(hC:CmpC g n b3 b2 W0 cf)(hn:n<=1000)(W)(d)(hS:SAt g n W0 W d):
 Calls prog 288 #[aI g 0 n cap,G n,.func (.func 276) #[] #[aJ b3 0,aJ b2 0]] W fun e W'=>e=aD (.tuple #[])/\SAt g n W0 W' (Z0 cf n d):=by
 have P:=hS;obtain⟨p,H⟩:=nm (st1 cf n (n+1) 0 d);obtain⟨y,F⟩:=nm (mrgs cf n (n+1) 20 p);have X:Z0 cf n d=y:=by unfold Z0;rw[H,F]
 rw[X];go_enter func288,ntmps288;go_wp2_with fail;go_loopw [7,8] (fun j c wr=>∃(a b:Nat) (d:List Int),j=G a/\c=G (a+20:Nat)/\a<=n/\n<a+b/\SAt g n W0 wr d/\Hid (st1 cf n b a d=p)) (fun _ c _=>n+20-(intOf c).toNat)
 .exact ⟨0,n+1,d,rfl,rfl,by omega,by omega,P,H⟩
 obtain⟨a,b,d,rfl,rfl,L,Y,hS,i⟩:=hrel;rename World=>wr;have:=hS;obtain⟨b,rfl⟩:∃f',b=f'+1:=⟨b-1,by omega⟩;obtain⟨a2,B⟩:=nm (a+20);rw[B];by_cases C:a2<=n
 .have m:=Jdu g n b3 b2 cap a a2 W0 cf hC hn (by omega) C wr d hS;have l:=by
   have c:=I i;rw[st1,B,FY C]at c;exact c
  have z:(a2:Int)<=n:=by omega
  go_wp2_with fail;refine aR m fun aa A=>?_;go_wp2;go_roundw
  .exact ⟨a2,b,_,by simp,by simp,by omega,by omega,A,l⟩
  simp[intOf];omega
 have m:=Jdu g n b3 b2 cap a n W0 cf hC hn L aT wr d hS;have hd:Zr cf a (n-(a+1)) (a+1) d=p:=by
  have c:=I i;rw[st1,B,FU C]at c;exact c
 rw[hd]at m;have z:¬ (a2:Int)<=n:=by omega
 go_wp2_with fail;refine aR m fun aa A=>?_;go_wp2_with fail;go_loopw [6] (fun c N=>∃(f b:Nat) (d:List Int),c=G f/\0<f/\f<=2020/\n<f+b/\SAt g n W0 N d/\Hid (mrgs cf n b f d=y)) (fun c _=>n+1-(intOf c).toNat)
 .exact ⟨20,n+1,p,rfl,by omega,by omega,by omega,A,F⟩
 obtain⟨f,b,d,rfl,ae,af,Y,hS,i⟩:=hrel;rename World=>N;have Q:=hS;by_cases Z:f<n
 .obtain ⟨b,rfl⟩:∃f',b=f'+1:=⟨b-1,by omega⟩;obtain⟨h,u⟩:=nm (2*f);obtain⟨q,K⟩:=nm (mrg cf n f (n+1) 0 d);have l:=by
   have c:=I i;rw[mrgs,FY Z,u,K]at c;exact c
  have:IntKind.i64.wrap (2*(f:Int))=(h:Int):=by
   have e:2*(f:Int)=h:=by omega
   rw[e];exact Jg (by omega) (by omega)
  have:IntKind.i64.wrap ((f:Int)*2)=(h:Int):=by
   have e:(f:Int)*2=(h:Int):=by omega
   rw[e];exact Jg (by omega) (by omega)
  have z:(f:Int)<n:=by omega
  go_wp2_with fail;go_loopw [7,8] (fun j c x=>∃(a b:Nat) (d:List Int),j=G a/\c=G (a+h:Nat)/\a<=n/\n<a+b/\SAt g n W0 x d/\Hid (mrg cf n f b a d=q)) (fun _ c _=>n+h-(intOf c).toNat)
  .exact ⟨0,n+1,d,rfl,by simp,by omega,by omega,Q,K⟩
  obtain⟨a,w,d,rfl,rfl,L,ad,hS,i⟩:=hrel;rename World=>x;have R:=hS;obtain⟨w,rfl⟩:∃k',w=k'+1:=⟨w-1,by omega⟩;obtain⟨j,r⟩:=nm (a+h);obtain⟨k,s⟩:=nm (a+f);rw[r];have:IntKind.i64.wrap ((a:Int)+(f:Int))=(k:Int):=by
   rw[<-MM,s];exact Jg (by omega) (by omega)
  by_cases t:j<=n
  .have o:=Jid g n b3 b2 cap W0 cf hC hn h a k j x d (by omega) (by omega) t (by omega) hS;have D:=by
    have c:=I i;rw[mrg,u,r,s,FY t]at c;exact c
   have S:(j:Int)<=n:=by omega
   have T:IntKind.i64.wrap ((j:Int)+(h:Int))=((j+h:Nat):Int):=by
    rw[<-MM];exact Jg (by omega) (by omega)
   go_wp2_with fail;refine aR o fun ab c=>?_;go_wp2;go_roundw
   .exact ⟨j,w,_,by simp,by simp,by omega,by omega,c,D⟩
   simp[intOf];omega
  have S:¬ (j:Int)<=n:=by omega
  by_cases D:k<n
  .have o:=Jid g n b3 b2 cap W0 cf hC hn (n-a) a k n x d (by omega) D aT aT hS;have hd:symP cf (n-a) a k n d=q:=by
    have c:=I i;rw[mrg,u,r,s,FU t,FY D]at c;exact c
   rw[hd]at o;have T:(k:Int)<n:=by omega
   go_wp2_with fail;refine aR o fun ab c=>?_;go_wp2;go_roundw
   .exact ⟨h,b,q,by simp,by omega,by omega,by omega,c,l⟩
   simp[intOf];omega
  have hd:d=q:=by
   have c:=I i;rw[mrg,u,r,s,FU t,FU D]at c;exact c
  subst hd;have T:¬ (k:Int)<n:=by omega
  go_wp2;go_roundw
  .exact ⟨h,b,d,by simp,by omega,by omega,by omega,R,l⟩
  simp[intOf];omega
 have hd:d=y:=by
  have c:=I i;cases b with
  | zero=>simp_all[mrgs]
  | succ b=>simp_all[mrgs,FU]
 subst hd;have z:¬ (f:Int)<n:=by omega
 go_wp2_with fail;go_end0;simp;omega
theorem Jc0(g n b3 b2 cap)(W0)(cf)(hC:CmpC g n b3 b2 W0 cf)(hn:n<=1000)(W)(d)(hS:SAt g n W0 W d):
 Calls prog 275 #[aI g 0 n cap,.func (.func 276) #[] #[aJ b3 0,aJ b2 0]] W fun e W'=>e=aD (.tuple #[])/\SAt g n W0 W' (Z0 cf n d):=by
 have a:=Jlz g n b3 b2 cap W0 cf hC hn W d hS;generalize Z0 cf n d=R at a⊢;go_enter func275,ntmps275;go_wp2_with (go_at_call 288;refine aR a fun f b=>?_;have:=b);go_end0;simp;omega
end Go.Proofs.YtjobgpahajhbnaaGreatDoor
