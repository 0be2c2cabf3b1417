import Derived.Test.YtjobgpahajhbnaaGreatDoorGc
namespace Go.Proofs.YtjobgpahajhbnaaGreatDoor
open Go.RowKit Go.Proofs Go.Maps Go.Proofs.Tryz
attribute [local go_sem ↓] Go.wp_at_zero Go.wp_at_succ
set_option linter.all false
set_option maxHeartbeats 4000000
set_option maxRecDepth 20000
variable {P:Nat->Prop} {a b g h m n:Nat} {cf:Int->Int->Int} {d:List Int} {f:Arr->Arr->Arr × Int} {ks:Lit} {t:ByteArray} {z:Int}
def Ql(n:Nat):List Int:=(List.range n).map Int.ofNat
theorem Jg6(n):InR n (Ql n):=⟨by simp[Ql],fun x hx=>by
 simp only[Ql,NZ,MX]at hx;grind⟩
def Kl(kf:Int->Int->Int)(a:Arr):Arr × Int:=if a.shape.length≠1 then(eArr,5)else(⟨[a.cells.length],Z0 (Qx kf a.cells) a.cells.length (Ql a.cells.length)⟩,0)
theorem Ga{cf:Int->Int->Int}{a n:Nat}:∀{s i:Nat} {d:List Int},InR n d->a<=i->i+s<=n->InR n (Zr cf a s i d)
 | 0,_,_,h,_,_=>h
 | s+1,i,d,h,h1,h2=>by
  rw[Zr];exact Ga (Jg7 h (by omega)) (by omega) (by omega)
theorem Jkf{n:Nat}:∀{s k:Nat} {d:List Int},InR n d->k+s<n->InR n (shUp s k d)
 | 0,_,_,h,_=>h
 | s+1,k,d,h,h1=>by rw[shUp];exact Jkf (h.swap (by omega) (by omega)) (by omega)
theorem Jkh{n:Nat}:∀{s k:Nat} {d:List Int},InR n d->k<n->InR n (shDn s k d)
 | 0,_,_,h,_=>h
 | s+1,k,d,h,h1=>by rw[shDn];exact Jkh (h.swap (by omega) (by omega)) (by omega)
theorem Jeb{n a b:Nat}:∀{s i:Nat} {d:List Int},InR n d->a+i+s<=n->b+i+s<=n->InR n (swR a b s i d)
 | 0,_,_,h,_,_=>h
 | s+1,i,d,h,h1,h2=>by rw[swR];exact Jeb (h.swap (by omega) (by omega)) (by omega) (by omega)
theorem Jei{n m:Nat}:∀{f i j:Nat} {d:List Int},InR n d->i+j<=f->i<=m->m+j<=n->0<i->0<j->InR n (rotP m f i j d)
 | 0,i,j,d,h,h1,h2,h3,h4,h5=>absurd h1 (by omega)
 | f+1,i,j,d,h,h1,h2,h3,h4,h5=>by
  rw[rotP];split
  .grind [Jeb]
  split
  .exact Jei (Jeb h (by omega) (by omega)) (by omega) (by omega) h3 (by omega) h5
  exact Jei (Jeb h (by omega) (by omega)) (by omega) h2 (by omega) h4 (by omega)
theorem G8(h1:a<m)(h2:m<b):a<=Q2 cf a m b d/\Q2 cf a m b d<=m/\Q2 cf a m b d<=(a+b) / 2/\(a+b) / 2+m<=Q2 cf a m b d+b:=by
 unfold Q2;by_cases h:(a+b) / 2<m
 .rw [FY h,FY h];have:=Qf (p:=fun c=>decide (¬ cf (d.getD ((a+b) / 2+m-1-c) 0) (d.getD c 0)<0)) _ (i:=(a+b) / 2+m-b) (j:=(a+b) / 2) aT (by omega);omega
 rw[FU h,FU h];have:=Qf (p:=fun c=>decide (¬ cf (d.getD ((a+b) / 2+m-1-c) 0) (d.getD c 0)<0)) _ (i:=a) (j:=m) aT (by omega);omega
theorem Jaz{cf:Int->Int->Int}{n:Nat}:∀{f a m b:Nat} {d:List Int},InR n d->a<m->m<b->b<=n->InR n (symP cf f a m b d)
 | 0,_,_,_,_,h,_,_,_=>h
 | f+1,a,m,b,d,h,h1,h2,h3=>by
  by_cases e1:m=a+1
  .rw [symP,FY e1];have:=Qf (p:=fun h=>decide (cf (d.getD h 0) (d.getD a 0)<0)) _ (i:=m) (j:=b) aT (by omega);grind[Jkf]
  by_cases e2:b=m+1
  .rw [symP,FU e1,FY e2];grind[Jkh]
  rw[Ja0 e1 e2];have hs:=G8 (cf:=cf) (d:=d) h1 h2;generalize Q2 cf a m b d=s at hs⊢;simp only;obtain⟨e,he⟩:=nm ((a+b) / 2+m-s);rw[he];have i1:InR n (if s<m/\m<e then rotF s m e d else d):=by
   split
   .exact Jei h (by omega) (by omega) (by omega) (by omega) (by omega)
   exact h
  generalize(if s<m/\m<e then rotF s m e d else d)=d1 at i1⊢;have c:InR n (if a<s/\s<(a+b) / 2 then symP cf f a s ((a+b) / 2) d1 else d1):=by
   split
   .rename_i hh;exact Jaz i1 hh.1 hh.2 (by omega)
   exact i1
  generalize(if a<s/\s<(a+b) / 2 then symP cf f a s ((a+b) / 2) d1 else d1)=d2 at c⊢;split
  .rename_i hh;exact Jaz c hh.1 hh.2 h3
  exact c
theorem Jom{cf:Int->Int->Int}{n:Nat}:∀{f a:Nat} {d:List Int},InR n d->InR n (st1 cf n f a d)
 | 0,a,d,h=>by
  rw[st1];by_cases e:a+1<=n
  .simp_all [Ga]
  rw[show n-(a+1)=0 by omega,Zr];exact h
 | f+1,a,d,h=>by
  rw[st1];split
  .exact Jom (Ga h (by omega) (by omega))
  by_cases e:a+1<=n
  .simp_all [Ga]
  rw[show n-(a+1)=0 by omega,Zr];exact h
theorem Jqu{cf:Int->Int->Int}{n s:Nat}(hs:0<s):∀{f a:Nat} {d:List Int},InR n d->InR n (mrg cf n s f a d)
 | 0,_,_,h=>h
 | f+1,a,d,h=>by
  rw[mrg];split
  .exact Jqu hs (Jaz h (by omega) (by omega) (by omega))
  split
  .simp_all [Jaz]
  exact h
theorem Jkx{cf:Int->Int->Int}{n:Nat}:∀{f s:Nat} {d:List Int},0<s->InR n d->InR n (mrgs cf n f s d)
 | 0,_,_,_,h=>h
 | f+1,s,d,hs,h=>by
  rw[mrgs];split
  .exact Jkx (by omega) (Jqu hs h)
  exact h
theorem Jif(cf)(h:InR n d):InR n (Z0 cf n d):=Jkx (by omega) (Jom h)
theorem SAt.nums{W0 W:World}(h:SAt g n W0 W d)(hP:P g){cap:Nat}(hc:n<=cap):Nums P W (aI g 0 n cap) d:=by
 have c:=h.inr.len;refine⟨_,_,by rw[c],by omega,fun _=>⟨g,0,rfl,hP,h.lt,fun e b=>?_⟩,fun a b=>by cases b;rfl⟩;rw[ZY,(h.row e (by omega)).1,NC,FX b];rfl
theorem Jgk{q:Nat}(hen:Enters prog q){kf:Int->Int->Int}(hk:∀W x y,Calls prog q #[G x,G y] W fun e W'=>e=aD (G (kf x y))/\W'=W)(P)(W)(hP:∀b,W.1.size<=b->P b)(so)(sn sc)(co)(cn cc)(a)(ha:IsArr P W (aK so sn sc co cn cc) a)(hok:a.ok):
 Calls prog 236 #[aK so sn sc co cn cc,aC q] W fun e W'=>∃so sn sc co cn cc,e=aD (.tuple #[aK so sn sc co cn cc,G (Kl kf a).2])/\IsArr P W' (aK so sn sc co cn cc) (Kl kf a).1/\J W W':=by
 have N:=(Jb ha).2;have K:=(Jb ha).1;have Q:=Bx.n3 W (aM so sn sc co cn cc) [aC q] [M,M] 89 284 89;have C:=O Q;have Y:=J8 ha;have aw:=O N;have A:=O K;have am:cn<=200:=by have:=hok.few;omega
 obtain⟨X,t⟩:=nm (Kl kf a);simp only[t];clear Q ha hok N K;go_enter func236,ntmps236;go_wp2_with fail;refine aR (Qu _ so sn sc co cn cc) fun au R=>?_;have c:Hid (Bx W au [(aM so sn sc co cn cc),[aC q],aG]):=O ((I C).next (by rw[R];exact(aS.alloc aT _).alloc (by simp) _));clear R C;by_cases L:sn=1
 .have ae:((sn:Int)== 1)=true:=by rw[L];rfl
  obtain⟨l,o⟩:=nm (Z0 (Qx kf a.cells) a.cells.length (Ql a.cells.length));have u:X=(⟨[a.cells.length],l⟩,0):=by
   rw[<-t];unfold Kl;rw[FU (by grind[I]),o]
  subst u;have aa:Z0 (Qx kf a.cells) cn (Ql cn)=l:=by rw[I A];exact o
  clear o;have b0:=(I c).a0;have b1:=(I c).a1;clear L;go_wp2_with fail;refine aR (Y0 _ so sn sc co cn cc) fun n S=>?_;have D:Hid (Bx W n [(aM so sn sc co cn cc),[aC q],aG]):=O ((I c).next (by rw[S];exact aS.alloc aT _));clear S c b0 b1;go_wp2_with fail;refine aR (Jdn cn am n) ?_;rintro d ⟨s,ak⟩;have j:=O ((I D).next ak);have r:=(I D).lt;simp at r;have ax:=(s.lt n.1.size rfl).2;obtain⟨g,p⟩:=nm n.1.size;have aj:SAt g cn d d (Ql cn):=by
   refine⟨fun T an=>⟨?_,by rw[<-p];exact s.frozenAt T⟩,OnlyB.refl _ _,Jg6 cn,by omega⟩;have H:=s.cellAt T (by omega);rw[p]at H;rw[H];simp[Ql,an]
  rw[p]at r⊢;have Z:Nums (fun b=>b≠g) d (E co cn cc) a.cells:=(Y.imp (fun b _ ay=>by omega)).below (I j).below;have ai:=J0u hen hk g cn (W.1.size+1) W.1.size d (by omega) (by omega) ((I j).cell 1 0 _ rfl).1 co cc ((I j).cell 0 1 _ rfl).1 (by omega) (by omega) a.cells Z;have ab:=O (Jc0 g cn (W.1.size+1) W.1.size cn d _ ai (by omega) d _ aj);go_wp2_with fail;refine aR (I ab) fun av m=>?_;rw[aa]at m;have F:=O ((I j).keep (m.only.below (by omega)));have B:=Vb (OffB W.1.size 3 P) av (fun b h=>OffB.new hP (by have:=(I F).lt;grind)) (aI g 0 cn cn) l (m.nums (P:=OffB W.1.size 3 P) (OffB.new hP r) aT);have ao:l.length=a.cells.length:=by rw[m.inr.len,I A]
  rw[ao]at B;go_wp2_with fail;refine B.mono ?_;rintro e az ⟨ap,aq,ar,c1,ac,ad,rfl,ah,al⟩;have f:=O ((I F).next al);have w:=(I f).c0;have z:=(I f).c1;have af:=(I f).C0;have ag:=(I f).C1;go_wp2_with fail;have i:=Ze (q:=2) (u0:=E ap aq ar) (u1:=E c1 ac ad) (I f).below (by decide) ah;exact FR (by simp[results,results236,go_sem,w,z]) rfl ⟨_,_,_,_,_,_,rfl,i.1,i.2⟩
 .have ae:((sn:Int)== 1)=false:=ZD (by omega);have u:X=(eArr,5):=by
   rw[<-t];unfold Kl;rw[FY (by grind[I])]
  subst u;have w:=(I c).c0;have z:=(I c).c1;have af:=(I c).C0;have ag:=(I c).C1;go_wp2_with fail;have i:=Ze (q:=2) (P:=P) (k:=3) (a:=eArr) (u0:=M) (u1:=M) (I c).below (by decide) (Jt _ _);exact FR (by simp[results,results236,go_sem,w,z]) rfl ⟨none,0,0,none,0,0,rfl,i.1,i.2⟩
theorem Jgj(kf){a:Arr}(h:a.ok):(Kl kf a).1.cells.length<=200/\((Kl kf a).2=0->(Kl kf a).1.ok):=by
 unfold Kl;split
 .simp [eArr]
 have b:=Jif (Qx kf a.cells) (Jg6 a.cells.length);have c:=h.few;exact⟨by show(Z0 _ _ _).length<=200;rw[b.len];exact c,fun _=>⟨by simp,by simp;omega,by show(Z0 _ _ _).length=_;rw[b.len];simp[Jd],by show(Z0 _ _ _).length<=200;rw[b.len];exact c,fun d e=>by have:=b.rng d e;grind[Jk]⟩⟩
theorem GD:Enters prog 187:=NF func187 (by decide) rfl
theorem GE:Enters prog 188:=NF func188 (by decide) rfl
theorem GF:Enters prog 230:=NF func230 (by decide) rfl
theorem GG:Enters prog 237:=NF func237 (by decide) rfl
theorem J3e(w):FnOne 187 #[] w (Kl Qw):=by
 intro d P v a _ t k z;have u:=k;obtain⟨j,i,sc,g,f,e,rfl,_,_⟩:=u;show Calls prog 187 #[(agV j i sc g f e)] d _;have m:=Bx.n2 d (aM j i sc g f e) [M,M] 89 89;have n:=Jgk GF Jsq (OffB d.1.size 2 P) _ (fun b N=>OffB.new t (by simp_all)) j i sc g f e a ((k.imp (Q:=OffB d.1.size 2 P) (fun b h y=>⟨h,NN y⟩)).below m.below) z;go_enter func187,ntmps187;go_wp2_with (go_at_call 236;refine n.mono ?_);rintro H R ⟨C,D,F,o,p,r,rfl,s,x⟩;have c:=m.next x;have A:=c.b0;have B:=c.b1;have K:=c.B0;have L:=c.B1;go_wp2_with fail;have l:=Ze (q:=1) (u0:=E C D F) (u1:=E o p r) c.below (by decide) s;exact FR (by simp[results,results187,go_sem,A,B]) rfl ⟨_,_,_,_,_,_,rfl,l.1,l.2⟩
theorem J0n(w):FnOne 188 #[] w (Kl (fun x y=>Qw y x)):=by
 intro d P v a _ t k B;have u:=k;obtain⟨j,i,sc,g,f,e,rfl,_,_⟩:=u;show Calls prog 188 #[(agV j i sc g f e)] d _;have m:=Bx.n2 d (aM j i sc g f e) [M,M] 89 89;have n:=Jgk GG Jsr (OffB d.1.size 2 P) _ (fun b S=>OffB.new t (by simp_all)) j i sc g f e a ((k.imp (Q:=OffB d.1.size 2 P) (fun b h A=>⟨h,NN A⟩)).below m.below) B;go_enter func188,ntmps188;go_wp2_with (go_at_call 236;refine n.mono ?_);rintro L T ⟨F,H,K,o,p,r,rfl,s,z⟩;have c:=m.next z;have C:=c.b0;have D:=c.b1;have N:=c.B0;have R:=c.B1;go_wp2_with fail;have l:=Ze (q:=1) (u0:=E F H K) (u1:=E o p r) c.below (by decide) s;exact FR (by simp[results,results188,go_sem,C,D]) rfl ⟨_,_,_,_,_,_,rfl,l.1,l.2⟩
theorem J1b:OneC ⟨#[117,112]⟩ (Kl Qw):=⟨fun w=>(Kq (t:=⟨#[117,112]⟩) (k1:=.string [112]) (k2:=.string [117,112]) (f:=187) (by decide) (by kernel_rfl) (by kernel_rfl) (by kernel_rfl) (by kernel_rfl) w).mono (by rintro e w' ⟨rfl,hb⟩;exact⟨187,#[],rfl,GD,hb,J3e w'⟩),fun a ha=>Jgj _ ha⟩
theorem Jw1:OneC ⟨#[100,111,119,110]⟩ (Kl (fun x y=>Qw y x)):=⟨fun w=>(Kq (t:=⟨#[100,111,119,110]⟩) (k1:=.string [111,119,110]) (k2:=.string [100,111,119,110]) (f:=188) (by decide) (by kernel_rfl) (by kernel_rfl) (by kernel_rfl) (by kernel_rfl) w).mono (by rintro e w' ⟨rfl,hb⟩;exact⟨188,#[],rfl,GE,hb,J0n w'⟩),fun a ha=>Jgj _ ha⟩
theorem GH(h)(w):(binOp .eql 235 (aC h) .nilFunc).run prog w=.ok (.bool false) w:=by kernel_rfl
theorem Jhg{k1:Lit}(h1:1<=t.size)(hk1:keyOf prog 9 (aE (t.extract 1 t.size))=some k1)(ha1:formsOneD.atKey k1 (.held .nilFunc)=.held (aC h))(hks:keyOf prog 9 (aE (t.extract 0 1))=some ks)(has:signsD.atKey ks (.held Jh5)=.held (.agg #[aC g,G z]))(w):
 Calls prog 109 #[aE t] w fun e w'=>∃b3 b4,e=aD (.func (.func 155) #[] #[aJ b3 0,aJ b4 0])/\w'.cell? (U b3 0)=some (aC h)/\b3<w'.1.size/\w'.cell? (U b4 0)=some (aC g)/\w'.cell? (U b4 1)=some (G z)/\b4<w'.1.size/\J w w':=by
 have k:∀w' b,w'.ownsMap prog 9 J0 b 2 formsOneD->(Instr.lookup 236 (.map (some b)) (aE (t.extract 1 t.size)) false).run prog w'=.ok (aC h) w':=fun w' b h=>Kd underlying236 (XN w') h hk1 ha1;have l:∀w' b,w'.ownsMap prog 9 J0 b 9 signsD->(Instr.lookup 242 (.map (some b)) (aE (t.extract 0 1)) false).run prog w'=.ok (.agg #[aC g,G z]) w':=fun w' b h=>Kd YW (VN w') h hks has;have y:=GH h;go_enter func109,ntmps109;go_upto_region 1 with fail;go_cut [3]from 5 to 8 (fun c a=>∃b3,c=aJ b3 0/\a.cell? (U b3 0)=some (aC h)/\b3<a.1.size/\J w a)
 .go_region_with (first|(go_at_call 152;refine aR (Q5 _) ?_;rintro c ⟨f,a⟩;have n:=k _ w.1.size (by exact f);have x:=k (c.alloc (.cells #[.nilFunc] 235)) w.1.size (MN (by exact f) _);have d:=a;obtain⟨j,m⟩:=Yy a;have i:=a.size;(try simp at i);(try have o:w.1.size<c.1.size:=by omega))| (go_at_call 152;refine aR (Q5 _) ?_;rintro c ⟨f,a⟩;have n:=(by have:=k _ _ f;simpa[World.drew]using this);have d:=a;obtain⟨j,m⟩:=Yy a;have i:=a.size;(try simp at i);(try have o:w.1.size<c.1.size:=by omega)))
  all_goals go_wp2_with fail
  all_goals go_meet
  all_goals first
   | exact⟨c.1.size,rfl,alA,by simp,(Jw d).alloc (Jw d).size _⟩
   | exact⟨w.1.size,rfl,FW _ _ _ (u:=.nilFunc) ((j w.1.size 0 (by simp)).trans (alA)),by simp;omega,(((belA1).drew.trans (d.mono (by simp))).setCell (p:=adP0 w) aT _)⟩
   | (trace_state;fail)
 obtain⟨b3,rfl,s,r,q⟩:=hcut;rename World=>wc;go_upto_region 4 with fail;go_cut [4]from 14 to 17 (fun c a=>∃b4,c=aJ b4 0/\a.cell? (U b4 0)=some (aC g)/\a.cell? (U b4 1)=some (G z)/\b4<a.1.size/\J wc a)
 .go_region_with (first|(go_at_call 154;refine aR (Qs _) ?_;rintro c ⟨f,a⟩;have n:=l _ wc.1.size (by exact f);have x:=l (c.alloc (.cells #[.nilFunc,G 0] 241)) wc.1.size (MN (by exact f) _);have d:=a;obtain⟨j,m⟩:=Yy a;have i:=a.size;(try simp at i);(try have o:wc.1.size<c.1.size:=by omega))| (go_at_call 154;refine aR (Qs _) ?_;rintro c ⟨f,a⟩;have n:=(by have:=l _ _ f;simpa[World.drew]using this);have d:=a;obtain⟨j,m⟩:=Yy a;have i:=a.size;(try simp at i);(try have o:wc.1.size<c.1.size:=by omega)))
  all_goals go_wp2_with fail
  all_goals go_meet
  all_goals first
   | exact⟨c.1.size,rfl,alA,alA,by simp,(Jw d).alloc (Jw d).size _⟩
   | exact⟨wc.1.size,rfl,celN (by omega) (FW _ _ _ (u:=.nilFunc) ((j wc.1.size 0 (by simp)).trans (alA))),FW _ _ _ (u:=G 0) (celN (by omega) ((j wc.1.size 1 (by simp)).trans (alA))),by simp;omega,((((belA1).drew.trans (d.mono (by simp))).setCell (p:=adP0 wc) aT _).setCell (p:=adP1 wc) aT _)⟩
   | (trace_state;fail)
 obtain⟨b4,rfl,c,d,f,a⟩:=hcut;rename World=>wd;go_wp2_with fail;go_ret;exact⟨b3,b4,rfl,V a r s,FT r a.size,c,d,f,q.trans (a.mono q.size)⟩
theorem Jr0(hh:Enters prog h){F:Arr->Arr × Int}{w':World}(hF:∀(P:Nat->Prop) (W:World),J w' W->(∀b,W.1.size<=b->P b)->∀(so:Option Addr) (sn sc:Nat) (co:Option Addr) (cn cc:Nat) (a:Arr),IsArr P W (aK so sn sc co cn cc) a->a.ok->Calls prog h #[aK so sn sc co cn cc,.agg #[aC g,G z]] W fun e W'=>∃so sn sc co cn cc,e=aD (.tuple #[aK so sn sc co cn cc,G (F a).2])/\IsArr P W' (aK so sn sc co cn cc) (F a).1/\J W W')
 {b3 b4:Nat} (c3:w'.cell? (U b3 0)=some (aC h)) (l3:b3<w'.1.size) (c4:w'.cell? (U b4 0)=some (aC g)) (c5:w'.cell? (U b4 1)=some (G z)) (l4:b4<w'.1.size):FnOne 155 #[aJ b3 0,aJ b4 0] w' F:=by
 intro W P v a c l i o;have x:=i;obtain⟨so,sn,sc,co,cn,cc,rfl,_,_⟩:=x;show Calls prog 155 #[aK so sn sc co cn cc,aJ b3 0,aJ b4 0] W _;have s:=V c l3 c3;have t:=V c l4 c4;have u:=V c l4 c5;have p:=c.size;have T:b3<W.1.size:=by omega
 have X:b4<W.1.size:=by omega
 have S:∀args w,(callFunc h args).run prog w=.ok (.enter h args) w:=hh;have f:=Bx.n2 W (aM so sn sc co cn cc) aG 89 89;have k:=f;have j:=hF (OffB W.1.size 2 P) _ (c.trans (f.below.mono p)) (fun b R=>OffB.new l (by simp_all)) so sn sc co cn cc a ((i.imp (Q:=OffB W.1.size 2 P) (fun b h A=>⟨h,NN A⟩)).below f.below) o;clear f i o l hF hh c3 l3 c4 c5 l4 c p;go_enter func155,ntmps155;go_wp2_with (go_at_fn h;refine j.mono ?_);rintro e Y ⟨D,H,K,c4,c5,r,rfl,y,m⟩;have d:=k.next m;clear m k j s t u;have B:=d.b0;have C:=d.b1;have L:=d.B0;have N:=d.B1;go_wp2_with fail;have n:=Ze (q:=1) (u0:=E D H K) (u1:=E c4 c5 r) d.below (by decide) y;exact FR (by simp[results,results155,go_sem,B,C]) rfl ⟨_,_,_,_,_,_,rfl,n.1,n.2⟩
theorem GI:Enters prog 155:=NF func155 (by decide) rfl
theorem GJ:Enters prog 177:=NF func177 (by decide) rfl
theorem GK:Enters prog 178:=NF func178 (by decide) rfl
theorem Fy(h1:1<=t.size)(hk1:keyOf prog 9 (aE (t.extract 1 t.size))=some (.string [47]))(hks:keyOf prog 9 (aE (t.extract 0 1))=some ks)(has:signsD.atKey ks (.held Jh5)=.held (.agg #[aC g,G z]))(hen:Enters prog g)(hfn:∀w,FnTwo g #[] w f)(hev:Evens f)(hz:Jk z):OneC t (Zw f z) where
 finds:=fun w=>(Jhg h1 hk1 (show formsOneD.atKey (.string [47]) (.held .nilFunc)=.held (aC 177) by kernel_rfl) hks has w).mono (by
  rintro e w' ⟨b3,b4,rfl,c3,l3,c4,c5,l4,hb⟩;exact⟨155,_,rfl,GI,hb,Jr0 GJ (fun P W hW hP so sn sc co cn cc a ha hok=>Jwu z hen (hfn w') hev P W hW hP so sn sc co cn cc a ha hok) c3 l3 c4 c5 l4⟩)
 ok:=fun a ha=>J0g hev hz ha
theorem Fd(h1:1<=t.size)(hk1:keyOf prog 9 (aE (t.extract 1 t.size))=some (.string [92]))(hks:keyOf prog 9 (aE (t.extract 0 1))=some ks)(has:signsD.atKey ks (.held Jh5)=.held (.agg #[aC g,G z]))(hen:Enters prog g)(hfn:∀w,FnTwo g #[] w f)(hev:Evens f):OneC t (Z1 f) where
 finds:=fun w=>(Jhg h1 hk1 (show formsOneD.atKey (.string [92]) (.held .nilFunc)=.held (aC 178) by kernel_rfl) hks has w).mono (by
  rintro e w' ⟨b3,b4,rfl,c3,l3,c4,c5,l4,hb⟩;exact⟨155,_,rfl,GI,hb,Jr0 GK (fun P W hW hP so sn sc co cn cc a ha hok=>Jub z hen (hfn w') hev P W hW hP so sn sc co cn cc a ha hok) c3 l3 c4 c5 l4⟩)
 ok:=fun a ha=>Jy7 hev ha
theorem Jy3:OneC ⟨#[43,47]⟩ (Zw (Jh V5) 0):=Fy (by decide) (by kernel_rfl) (ks:=.string [43]) (by kernel_rfl) (by kernel_rfl) VX Jeo (J3 plus_rule.fits) (by simp[Jk])
theorem J03:OneC ⟨#[45,47]⟩ (Zw (Jh Kn) 0):=Fy (by decide) (by kernel_rfl) (ks:=.string [45]) (by kernel_rfl) (by kernel_rfl) VY Jbe (J3 minus_rule.fits) (by simp[Jk])
theorem Jva:OneC ⟨#[42,47]⟩ (Zw (Jh Kh) 1):=Fy (by decide) (by kernel_rfl) (ks:=.string [42]) (by kernel_rfl) (by kernel_rfl) VZ Jay (J3 times_rule.fits) (by simp[Jk])
theorem Ju7:OneC ⟨#[37,47]⟩ (Zw (Jh Z8) 1):=Fy (by decide) (by kernel_rfl) (ks:=.string [37]) (by kernel_rfl) (by kernel_rfl) XA Jer (J3 over_rule.fits) (by simp[Jk])
theorem Jpl:OneC ⟨#[124,47]⟩ (Zw (Jh Qi) 0):=Fy (by decide) (by kernel_rfl) (ks:=.string [124]) (by kernel_rfl) (by kernel_rfl) XB Jek (J3 rest_rule.fits) (by simp[Jk])
theorem Jrc:OneC ⟨#[38,47]⟩ (Zw (Jh Zk) 9223372036854775807):=Fy (by decide) (by kernel_rfl) (ks:=.string [38]) (by kernel_rfl) (by kernel_rfl) XC Fr (J3 lesser_rule.fits) (by simp[Jk])
theorem Jvv:OneC ⟨#[33,47]⟩ (Zw (Jh Yp) (-9223372036854775808)):=Fy (by decide) (by kernel_rfl) (ks:=.string [33]) (by kernel_rfl) (by kernel_rfl) XD Gb (J3 greater_rule.fits) (by simp[Jk])
theorem Joy:OneC ⟨#[61,47]⟩ (Zw (Jh V2) 1):=Fy (by decide) (by kernel_rfl) (ks:=.string [61]) (by kernel_rfl) (by kernel_rfl) XE Jee (J3 same_rule.fits) (by simp[Jk])
theorem Jno:OneC ⟨#[60,47]⟩ (Zw (Jh Kv) 0):=Fy (by decide) (by kernel_rfl) (ks:=.string [60]) (by kernel_rfl) (by kernel_rfl) XF Jbm (J3 below_rule.fits) (by simp[Jk])
theorem GL:Enters prog 189:=NF func189 (by decide) rfl
theorem Jpi(ao)(cap)(w):Calls prog 238 #[E ao 0 cap] w fun e w'=>e=aD (.tuple #[])/\w'=w:=by
 refine(AnyE.slices_Reverse_empty KY ao cap w).mono ?_;rintro e w' h;exact h
theorem Jnk{Q:Nat->Prop}(w)(ao)(n cap)(xs)(h:Nums Q w (E ao n cap) xs)(hx:xs.length<=200):
 Calls prog 79 #[E ao n cap] w fun e w'=>∃ao' g c,e=aD (E ao' n c)/\n<=c/\(0<n->ao'=some (U g 0)/\w.1.size<=g/\g<w'.1.size/\RowAt w' g xs)/\(∀a,ao'=some a->a.spot=none)/\J w w':=by
 have:=Je h;by_cases k:0<n
 .refine (Jhp w ao n cap xs h hx k).mono ?_;rintro e w' ⟨g,c,rfl,l,i⟩;have f:=l;obtain⟨x,⟨d,z⟩| ⟨u,s,t,d,o⟩⟩:=l
  .cases d
  injection d with b p j;injection b with b;injection b with q;subst q j;refine⟨_,g,c,rfl,o.2.2.1,fun _=>⟨rfl,o.1,(f.lt g rfl).2,fun m r=>⟨?_,f.frozenAt m⟩⟩,fun a h=>by cases h;rfl,i⟩;rw[f.cellAt m (by omega)];simp[r]
 refine(J0v (fun _=>True) w (fun _ _=>trivial) (E ao n cap) xs h hx).mono ?_;rintro e w' ⟨q,o,sc,rfl,f,i⟩;have s:=Je f;have b:o=n:=by omega
 subst b;have l:=Zp f;obtain⟨ao',r,d,_,_,m⟩:=f;injection d with b p j;subst b;exact⟨q,0,sc,rfl,l,fun h=>absurd h k,m,i⟩
theorem Jpk(L):Q0 L (0,L.length)=L.reverse:=by
 unfold Q0;simp
theorem Jia{w:World}{c:Nat}{L:List Int}(h:RowAt w g L)(hg:g<w.1.size)(hP:P g)(hc:L.length<=c):Nums P w (aI g 0 L.length c) L :=
 ⟨_,_,rfl,hc,fun _=>⟨g,0,rfl,hP,hg,fun i hi=>by rw[ZY];exact(h i hi).1⟩,fun a e=>by cases e;rfl⟩
theorem J0h(w):FnOne 189 #[] w N5:=by
 intro k P v a _ Q aj K;have D:=aj;obtain⟨m,f,sc,B,e,n,rfl,ak,bd⟩:=aj;have au:=(Jb D).2;have F:=(Jb D).1;show Calls prog 189 #[(agV m f sc B e n)] k _;have W:=Bx.n2 k (aM m f sc B e n) aG 89 89;have aq:(a.shape.map Int.ofNat).length<=200:=by have:=K.rank;simp;omega
 have az:=Jnk _ m f sc _ (ak.below W.below) aq;have ae:=O W;have y:=O K;have s:=O au;have bP:e<=200:=by have:=K.few;omega
 clear ak bd W K au aq;change Hid _ at F Q;go_enter func189,ntmps189;go_wp2_with fail;refine az.mono ?_;rintro C aa ⟨t,g,c,rfl,bg,bw,bx,be⟩;have L:=O ((I ae).next be);have br:=ae.lt;have a4:Hid (Calls prog 238 #[E t f c] aa fun C u=>C=aD (.tuple #[])/\Bx k u [(aM m f sc B e n),[M,M]]/\Nums (OffB k.1.size 2 P) u (E t f c) (a.shape.reverse.map Int.ofNat)):=O (by
  by_cases a6:f=0
  .subst a6;refine aQ (Jpi t c aa) ?_;have bz:=NK s.symm;rw[bz];exact⟨rfl,L,_,_,rfl,by simp,fun h=>absurd h (by simp),bx⟩
  obtain⟨rfl,bj,bl,bv⟩:=bw (by omega);have bp:(a.shape.map Int.ofNat).length=f:=by simp[I s]
  have:=Jf8 aa g _ bv (0,f) (by simp[I s]) (by simp;have:=y.rank;omega) c;refine aR this ?_;rintro u ⟨ap,ao⟩;rw[<-bp,Jpk,<-PI]at ap;have ai:k.1.size+2<=g:=by simp at br bj;omega
  refine⟨rfl,L.keep (ao.below ai),?_⟩;have a8:=Jia (P:=OffB k.1.size 2 P) (c:=c) ap (by rw[ao.size];exact bl) (OffB.new Q ai) (by simpa[<-I s]using bg);simpa[<-I s]using a8)
 have b0:=L.a0;go_wp2_with fail;refine aR a4 ?_;rintro u ⟨bc,ah⟩;have z:=O bc;have b0:=z.a0;have b1:=z.a1;go_wp2_with fail;refine aR (Y0 _ m f sc B e n) fun ab av=>?_;have S:J u ab:=by rw[av];exact belA1
 have af:=O ((I z).next S);have aU:=ah.below S;clear av S z ah b0 b1;go_wp2_with fail;obtain⟨i,X⟩:=nm (Jjh a);have ag:=O X;have aw:i.length=e:=by rw[<-X,Jcl,F]
 clear X;change Hid _ at aw;go_loopw [5,14] (fun bE Y wr=>∃d:Nat,Y=G d/\d<=e/\OwnL ab.1.size wr bE (i.take d)/\J ab wr) (fun _ Y _=>e-(intOf Y).toNat)
 .exact ⟨0,rfl,by omega,by simpa using OwnL.nil _ _,FQ _ _⟩
 obtain⟨d,rfl,bQ,H,p⟩:=hrel;rename World=>wr;have ac:=H;have l:=O ((I af).next p);have bS:=p.size;have bq:=af.lt;simp at bq;by_cases bn:d<e
 .have an:d<a.cells.length:=by rw[<-F];exact bn
  have a9:=D.below l.below;have T:fpl a.shape 0 d<a.cells.length:=by
   have o:=Jrz a.shape 0 d 1 (X5 (by rw[<-y.size];omega)) (by omega);rw[YA,<-y.size]at o;exact o
  generalize hq:fpl a.shape 0 d=q at T;have bt:=J8 D;obtain⟨A,N,rfl,bh,al,bO⟩:=bt.at T;generalize hx:a.cells[q]=x at al;have aZ:Hid (i.take (d+1)=i.take d++[x]):=O (by
   have a7:i[d]?=some x:=by
    rw[<-ag];unfold Jjh;rw[MK,PV an];simp[hq,T,hx]
   rw[My,a7];rfl)
  have aY:Hid (∀j,J wr j->Calls prog 239 #[(agV m f sc (some (U A N)) e n),G d] j fun C a5=>C=aD (G q)/\J j a5):=O (fun j R=>by
   rw[<-hq];exact Jpy j _ _ _ _ _ _ a (a9.below R) y d an)
  have ay:∀j,J wr j->j.cell? (adP0 k)=some (E m f sc)/\j.cell? (adP1 k)=some (aI A N e n)/\j.cell? (U A (N+q))=some (G x):=fun j R=>by
   have o:=l.next R;exact⟨(o.cell 0 0 _ rfl).1,(o.cell 0 1 _ rfl).1,V o.below bh al⟩
  have b0:=l.a0;have b1:=l.a1;have bT:(0:Int)<=d:=by omega
  have bA:(d:Int)<e:=by omega
  have bU:(0:Int)<=q:=by omega
  have bV:(q:Int)<e:=by have:=I F;omega
  have bo:(i.take d).length<=300:=by simp;omega
  have bb:k.1.size<wr.1.size:=by omega
  have bi:A<wr.1.size:=by omega
  go_wp2_with fail;go_region_law (first
   | (refine Z3 rfl _ _ rfl rfl (ac.below r) (by have:=bo;omega) (by have:=r.size;have:=p.size;omega) x rfl rfl ?_;intro bW bX bu bm;have aX:=bu;have ax:=(p.trans (r.mono p.size)).trans bm.bel)
   | (go_simp;go_at_call 239;refine aR (I aY _ (by first|exact aS.drew|exact FQ _ _)) fun bG bf=>?_;have r:=(FQ wr.1.size wr).drew.trans bf;obtain⟨bH,bI,bJ⟩:=ay bG r;have ar:=r.size;have bM:=FT bb ar;have bN:=FT bi ar))
  all_goals
   go_wp2_with fail;go_roundw
   .exact ⟨d+1,by go_num,by omega,by rw[aZ];exact aX,ax⟩
   simp[intOf];omega
 have bR:d=e:=by omega
 have ba:i.take d=i:=NJ (by rw[aw];omega);rw[ba]at H ac;have bA:¬ (d:Int)<e:=by omega
 obtain⟨Z,vc,rfl⟩:=H.shape;have ad:Hid (N5 a=(⟨a.shape.reverse,i⟩,0)):=O (by unfold N5;rw[ag]);have aW:=aU.below p;have aV:Nums (OffB k.1.size 2 P) wr (E Z i.length vc) i:=H.nums.imp (fun b h _=>OffB.new Q (by omega));have bB:=l.b0;have bD:=l.b1;have bK:=l.B0;have bL:=l.B1;go_wp2_with fail;have am:=Ze (q:=1) (u0:=E t f c) (u1:=E Z i.length vc) l.below (by decide) (Jd3 (sh:=a.shape.reverse) aW aV);exact FR (v:=.tuple #[aK t f c Z i.length vc,G 0]) (by simp[results,results189,go_sem,bB,bD]) rfl ⟨_,_,_,_,_,_,by rw[ad],by rw[ad];exact am.1,am.2⟩
theorem Jwv:OneC ⟨#[102,108,105,112]⟩ N5:=⟨fun w=>(Kq (t:=⟨#[102,108,105,112]⟩) (k1:=.string [108,105,112]) (k2:=.string [102,108,105,112]) (f:=189) (by decide) (by kernel_rfl) (by kernel_rfl) (by kernel_rfl) (by kernel_rfl) w).mono (by rintro e w' ⟨rfl,hb⟩;exact⟨189,#[],rfl,GL,hb,J0h w'⟩),fun a ha=>⟨(Jk9 ha).few,fun _=>Jk9 ha⟩⟩
theorem Jmd(w):FnTwo 200 #[] w Yd:=by
 intro o P dm v a b _ b4 b7 p ch ci;have bE:=b7;have b8:=p;obtain⟨W,B,sc,R,d,Q,rfl,cV,bG⟩:=b7;obtain⟨al,ak,aj,ao,g,Z,rfl,cW,b9⟩:=p;have cl:=(Jb bE).2;have cd:=(Jb bE).1;have ce:=(Jb b8).1;show Calls prog 200 #[aK W B sc R d Q,aK al ak aj ao g Z] o _;have bP:=Bx.n3 o (aM W B sc R d Q) (aM al ak aj ao g Z) aG 89 89 89;have bU:Hid (∀e,J o e->Calls prog 251 #[aK W B sc R d Q,aC 252] e fun bx cy=>bx=aD (.bool (a.cells.any negB))/\J e cy):=O (fun e p=>(Jjf P e e aS 252 #[] negB (Jkw e) W B sc R d Q a.cells (bG.below p) ch.few).mono (fun bx cy h=>⟨h.1,by rw[h.2];exact aS.alloc aT _⟩));have b3:=O bP;have bt:=O b4;have bW:=O bG;have bY:=O b9;have b2:=O cl;have aV:=O cd;have bf:=O ce;have df:g<=200:=by have:=ci.few;omega
 have cf:=bP.lt;simp at cf;obtain⟨ai,bO⟩:=nm (Yd a b);simp only[bO];have X:=O bO;clear bE b8 cV bG cW b9 bP b4 ch ci cl cd ce bO cf;go_enter func200,ntmps200;go_wp2_with fail;refine aR (Z7 _ W B sc R d Q) fun dd cm=>?_;have H:Hid (Bx o dd [(aM W B sc R d Q),(aM al ak aj ao g Z),aG]):=O ((I b3).next (by rw[cm];exact aS.alloc aT _));clear cm b3;by_cases aa:1<B
 .have cS:(1:Int)<(B:Int):=by omega
  have j:ai=(eArr,5):=by
   rw[<-I X];unfold Yd;rw[FY (NN (by rw[<-I b2];exact aa))]
  subst j;have t:=(I H).c0;have u:=(I H).c1;have ap:=(I H).C0;have aq:=(I H).C1;clear aa;go_wp2_with fail;have i:=Ze (q:=2) (P:=P) (k:=3) (a:=eArr) (u0:=aH) (u1:=aH) (I H).below (by decide) (Jt _ _);exact FR (by simp[results,PJ,go_sem,t,u]) rfl ⟨none,0,0,none,0,0,rfl,i.1,i.2⟩
 .have cS:¬ (1:Int)<(B:Int):=by omega
  have b0:=(I H).a0;have b1:=(I H).a1;have cK:=O aa;clear aa;go_wp2_with fail;refine aR (Y0 _ W B sc R d Q) fun de cn=>?_;have C:Hid (Bx o de [(aM W B sc R d Q),(aM al ak aj ao g Z),aG]):=O ((I H).next (by rw[cn];exact aS.alloc aT _));clear cn H b0 b1;by_cases a5:3<d
  .have cT:(3:Int)<(d:Int):=by omega
   have j:ai=(eArr,5):=by
    rw[<-I X];unfold Yd;rw[FY (NO (by rw[<-I aV];exact a5))]
   subst j;have t:=(I C).c0;have u:=(I C).c1;have ap:=(I C).C0;have aq:=(I C).C1;clear a5;go_wp2_with fail;have i:=Ze (q:=2) (P:=P) (k:=3) (a:=eArr) (u0:=aH) (u1:=aH) (I C).below (by decide) (Jt _ _);exact FR (by simp[results,PJ,go_sem,t,u]) rfl ⟨none,0,0,none,0,0,rfl,i.1,i.2⟩
  .have cT:¬ (3:Int)<(d:Int):=by omega
   have b0:=(I C).a0;have b1:=(I C).a1;have aU:¬ (1<a.shape.length\/3<a.cells.length):=by
    have:=I cK;have:=I b2;have:=I aV;omega
   have cZ:d<=3:=by omega
   clear a5;go_wp2_with fail;refine aR (I bU _ (I C).below) fun cz ca=>?_;have D:=O ((I C).next ca);clear ca C b0 b1 bU;by_cases a6:a.cells.any negB=true
   .rw [a6];have j:ai=(eArr,7):=by
     rw[<-I X];unfold Yd;rw[FU aU,FY a6]
    subst j;have t:=(I D).c0;have u:=(I D).c1;have ap:=(I D).C0;have aq:=(I D).C1;clear a6;go_wp2_with fail;have i:=Ze (q:=2) (P:=P) (k:=3) (a:=eArr) (u0:=aH) (u1:=aH) (I D).below (by decide) (Jt _ _);exact FR (by simp[results,PJ,go_sem,t,u]) rfl ⟨none,0,0,none,0,0,rfl,i.1,i.2⟩
   .have bD:a.cells.any negB=false:=by simpa using a6
    rw[bD];have aY:=O bD;have b1:=(I D).a1;clear a6 bD;obtain⟨N,az⟩:=nm (a.cells.map fun cN=>min cN 65);have bw:=O az;have cs:N.length=d:=by rw[<-az,JQ,I aV]
    have bv:=O cs;have bX:=O ((I bW).below (I D).below);clear az cs bW;go_wp2_with fail;go_loopw [6,26] (fun dc bR wr=>∃c:Nat,bR=G c/\c<=d/\OwnI cz.1.size wr dc (N.take c)/\J cz wr) (fun _ bR _=>d-(intOf bR).toNat)
    case atStart=>exact⟨0,rfl,by omega,by simpa using OwnI.nil _ _,FQ _ _⟩
    case round =>
     obtain⟨c,rfl,bm,ae,p⟩:=hrel;rename World=>wr;have bZ:=O ae;have bp:=p;by_cases bK:c<d
     .have ax:c<a.cells.length:=by rw[<-I aV];exact bK
      obtain⟨s,L,rfl,a7,ac,cY⟩:=(I bX).at ax;obtain⟨l,ah⟩:=nm (a.cells[c]);rw[ah]at ac;have c0:=V p a7 ac;have cM:Hid (N.take (c+1)=N.take c++[min l 65]):=O (by
       have a5:N[c]?=some (min l 65):=by rw[<-I bw,MK,FX ax,ah];rfl
       rw[My,a5];rfl)
      have bQ:(0:Int)<=(c:Int):=by omega
      have cx:(c:Int)<(d:Int):=by omega
      have cE:Hid ((N.take c).length<=10):=O (by simp;omega);clear ae p ac ah ax cY;go_wp2_with (at_builtin;refine Jh6 rfl _ _ rfl (I bZ) (by have:=I cE;omega) bp.size (min l 65) rfl rfl ?_);intro dn dp cg cb;have cI:=O cg;have cB:=bp.trans cb;clear cg cb;go_wp2_with fail;go_roundw
      case rel=>exact⟨c+1,by go_num,by omega,by rw[I cM];exact I cI,cB⟩
      case measure=>simp[intOf];omega
     .have bJ:c=d:=by omega
      have b5:N.take c=N:=NJ (by rw[I bv];omega);rw[b5]at ae;have cx:¬ (c:Int)<(d:Int):=by omega
      obtain⟨am,vc,rfl⟩:=ae.shape;have K:=O ((I D).next p);have c4:=(I D).lt;simp at c4;have ct:=I bv;rw[ct]at ae⊢;obtain⟨sh,bd⟩:=nm (Jp a.cells);have az:N=sh.map Int.ofNat:=by rw[<-I bw,<-bd,Jfu (I aY)]
      have bh:Hid (Nums (OffB o.1.size 3 P) wr (E am d vc) (sh.map Int.ofNat)):=O (by
       rw[<-az];exact ae.nums.imp (fun b h _=>OffB.new (I bt) (by omega)))
      have bV:Hid (Lens sh):=O ⟨by rw[<-bd,Jbw,<-I aV];exact cZ,fun n ad=>by rw[<-bd]at ad;have:=Jl0 ad;omega⟩;have a4:=O bd;clear ae p b5 bJ bZ bp D bX bw bv ct az bd bm b1 bK;go_wp2_with fail;refine aR (Jbh wr am d vc sh (I bh) (I bV)) fun dq co=>?_;have c9:=co.symm;subst c9;clear co;by_cases av:Yb sh=true
      .rw [av];have bo:¬ Yb (Jp a.cells)=false:=by rw[I a4,av];simp
       have c7:=(Jla av).2;have aW:=O (fun(e:World) (p:J wr e)=>F3 e am d vc sh ((I bh).below p) (I bV));obtain⟨n,ad⟩:=nm (Jd sh);rw[ad]at c7;simp only[ad]at aW;have br:=O ad;have b0:=(I K).b0;have b1:=(I K).b1;clear av ad;go_wp2_with fail;refine aR (Y0 _ al ak aj ao g Z) fun f cp=>?_;have bH:J wr f:=by rw[cp];exact aS.alloc aT _
       have z:=O ((I K).next bH);have an:=O bH;clear cp K b0 b1 bH;obtain⟨bQ,bm,cu,cv,cw⟩:=NY VI;have bg:=O bm;have bi:=O cu;have bj:=O cv;have bl:=O cw;clear bm cu cv cw;by_cases au:g=0
       .have cO:((g:Int)== 0)=true:=by simpa using au
        by_cases bn:0<n
        .have bz:(0:Int)<(n:Int):=by omega
         have j:ai=(eArr,6):=by
          rw[<-I X];unfold Yd;rw[FU aU,I aY,FU (by simp),FU bo,I a4,I br,FY ⟨by rw[<-I bf];exact au,bn⟩]
         subst j;have t:=(I z).c0;have u:=(I z).c1;have ap:=(I z).C0;have aq:=(I z).C1;clear au bn;go_wp2_with fail;refine aR (I aW f (I an)) fun bS A=>?_;have ag:=A.symm;subst ag;clear A;go_wp2_with fail;have i:=Ze (q:=2) (P:=P) (k:=3) (a:=eArr) (u0:=aH) (u1:=aH) (I z).below (by decide) (Jt _ _);exact FR (by simp[results,PJ,go_sem,t,u]) rfl ⟨none,0,0,none,0,0,rfl,i.1,i.2⟩
        .have bz:¬ (0:Int)<(n:Int):=by omega
         have j:ai=(⟨sh,reC n b.cells n⟩,0):=by
          rw[<-I X];unfold Yd;rw[FU aU,I aY,FU (by simp),FU bo,I a4,I br,FU (by rintro⟨_,h⟩;exact bn h)]
         subst j;have c6:n=0:=by omega
         subst c6;clear au bn;go_wp2_with fail;refine aR (I aW f (I an)) fun bS A=>?_;have ag:=A.symm;subst ag;clear A;go_wp2_with fail;refine aR (I aW f (I an)) fun bS A=>?_;have ag:=A.symm;subst ag;clear A;go_wp2_with (at_make;refine YV _ rfl _ _ 32 rfl f.1.size 2 bQ (G 0) 1 ZP (I bg) (I bi) (I bj) .i64 .i64 0 0 0 rfl rfl rfl rfl ?c1 ?c2 aT ?_)
         case c1=>rw[I bl];omega
         case c2=>unfold maxLen;omega
         intro r x a9;have x:r.ownsRow f.1.size 2 1 (aI f.1.size 0 0 0) 0 (List.replicate 0 (G 0)):=by
          have:=YN (G 0) (0*1);rw[MA]at this;rw[<-this];simpa using x
         have ab:=aS.grown a9 aT (fun _ h=>by cases h);have bb:=x.lt f.1.size rfl |>.2;have a8:∀y l,(reC 0 b.cells 0)[y]?=some l->r.cell? (U f.1.size y)=some (G l):=by
          intro y l ay;simp[reC]at ay
         have aZ:Hid (Rw r f.1.size (reC 0 b.cells 0)):=O ⟨bb,a8,fun y=>x.frozenAt y⟩;have F:=O ((I z).next ab);have bq:=O ((I bh).below (I an));have aX:Hid (Nums (fun b=>OffB o.1.size 3 P b/\b≠f.1.size) r (E am d vc) (sh.map Int.ofNat)):=O (((I bq).imp (fun b h bL=>⟨h,by omega⟩)).below ab);have aw:o.1.size+3<=f.1.size:=(I z).lt;obtain⟨gk,ba⟩:=nm f.1.size;rw[ba]at aZ aX aw bb⊢;clear a8 x a9 ab ba bg bi bj bl z;go_wp2_with fail;go_loopw [54] (fun be wr=>be=G 0/\wr=r) (fun _ _=>0)
         case atStart=>exact⟨rfl,rfl⟩
         case round =>
          obtain⟨rfl,cr⟩:=hrel;have da:=cr.symm;subst da;clear cr;have bu:=aZ;have t:=(I F).c0;have u:=(I F).c1;have ap:=(I F).C0;have aq:=(I F).C1;go_wp2_with fail;have i:=Ze (q:=2) (u0:=E am d vc) (u1:=aI gk 0 0 0) (I F).below (by decide) (Jd3 (sh:=sh) ((I aX).imp (fun b h _=>h.1)) ((I bu).nums (OffB.new (I bt) aw) (Jb1 _ _ _)));exact FR (by simp[results,PJ,go_sem,t,u]) rfl ⟨_,_,_,_,_,_,rfl,i.1,i.2⟩
       .have cO:((g:Int)== 0)=false:=ZD (by omega);have j:ai=(⟨sh,reC n b.cells n⟩,0):=by
         rw[<-I X];unfold Yd;rw[FU aU,I aY,FU (by simp),FU bo,I a4,I br,FU (by rintro⟨h,_⟩;rw[<-I bf]at h;exact au h)]
        subst j;have cX:0<g:=by omega
        clear au;go_wp2_with fail;refine aR (I aW f (I an)) fun bS A=>?_;have ag:=A.symm;subst ag;clear A;go_wp2_with (at_make;refine YV _ rfl _ _ 32 rfl f.1.size 2 bQ (G 0) 1 ZP (I bg) (I bi) (I bj) .i64 .i64 n n n rfl rfl rfl rfl ?c1 ?c2 aT ?_)
        case c1=>rw[I bl];omega
        case c2=>unfold maxLen;omega
        intro r x a9;have x:r.ownsRow f.1.size 2 1 (aI f.1.size 0 n n) n (List.replicate n (G 0)):=by
         have:=YN (G 0) (n*1);rw[MA]at this;rw[<-this];simpa using x
        have ab:=aS.grown a9 aT (fun _ h=>by cases h);have bb:=x.lt f.1.size rfl |>.2;have a8:∀y l,(reC n b.cells 0)[y]?=some l->r.cell? (U f.1.size y)=some (G l):=by
         intro y l ay;rw[Ju1,YK]at ay;split at ay
         .rename_i hpl;have aa:=x.cellAt y (by simpa using hpl);rw[YK,FY hpl]at aa;rw[<-NS ay];exact aa
         .cases ay
        have aZ:Hid (Rw r f.1.size (reC n b.cells 0)):=O ⟨bb,a8,fun y=>x.frozenAt y⟩;have F:=O ((I z).next ab);have bq:=O ((I bh).below (I an));have aX:Hid (Nums (fun b=>OffB o.1.size 3 P b/\b≠f.1.size) r (E am d vc) (sh.map Int.ofNat)):=O (((I bq).imp (fun b h bL=>⟨h,by omega⟩)).below ab);have aw:o.1.size+3<=f.1.size:=(I z).lt;obtain⟨gk,ba⟩:=nm f.1.size;rw[ba]at aZ aX aw bb⊢;clear a8 x a9 ab ba bg bi bj bl z;go_wp2_with fail;have cG:=O ((I bY).below (I F).below);go_loopw [54] (fun be wr=>∃c:Nat,be=G c/\c<=n/\Bs (fun b=>b=gk) r wr/\Rw wr gk (reC n b.cells c)) (fun be _=>n-(intOf be).toNat)
        case atStart=>exact⟨0,rfl,by omega,Bs.of aS,I aZ⟩
        case round =>
         obtain⟨c,rfl,bK,T,af⟩:=hrel;rename World=>wx;have Y:=O ((I F).bs T (by simpa using aw));have c5:=(I Y).lt;simp at c5;have c8:=T.size;by_cases ax:c<n
         .have bM:c % g<g:=YR _ cX;have hmx:c % g<b.cells.length:=by rw[<-I bf];exact bM
          obtain⟨m,bc⟩:=nm (c % g);have dg:(c:Int).tmod (g:Int)=(m:Int):=by rw[<-bc];exact(Int.ofNat_tmod c g).symm
          have dh:(c:Int) % (g:Int)=(m:Int):=by rw[<-bc];simp
          rw[bc]at bM hmx;have cH:=(I cG);obtain⟨s,L,rfl,cU,a7,ac⟩:∃s L,ao=some (U s L)/\s<o.1.size/\s<r.1.size/\r.cell? (U s (L+m))=some (G (b.cells[m]'hmx)):=by
           obtain⟨s,L,bz,bA,cP,_⟩:=(I bY).at hmx;exact⟨s,L,bz,bA,FT bA (I F).below.size,V (I F).below bA cP⟩
          obtain⟨l,ah⟩:=nm (b.cells[m]);rw[ah]at ac;have c0:=(T.cell a7 (fun(bx:s=gk)=>by omega)).trans ac;have cL:Hid ((reC n b.cells c).set c l=reC n b.cells (c+1)):=O (by
           rw[<-Jzl ax,<-I bf,bc,NC,FX hmx,ah];rfl)
          have bN:c<(reC n b.cells c).length:=by rw[Jb1];exact ax
          have bB:=af.cell c _ (FX bN);obtain⟨db,cj⟩:=nm ((reC n b.cells c)[c]);rw[cj]at bB;have cQ:=af.fr c;have cR:=af.lt;have bT:Hid (∀e,J wx e->e.cell? (U (o.1.size+1) 0)=some (E al ak aj)/\e.cell? (U (o.1.size+1) 1)=some (aI s L g Z)/\e.cell? (U s (L+m))=some (G l)/\e.cell? (U gk c)=some (G db)/\e.frozen? (U gk c)=false/\o.1.size+1<e.1.size/\s<e.1.size/\gk<e.1.size/\Rw (e.setCell (U gk c) (G l)) gk (reC n b.cells (c+1))/\Bs (fun b=>b=gk) r (e.setCell (U gk c) (G l))):=O (fun e ar=>by
           have b6:=(I Y).next ar;have di:=ar.size;have j:=af.below ar;have c3:=FT a7 c8;refine⟨(b6.cell 1 0 _ rfl).1,(b6.cell 1 1 _ rfl).1,V ar c3 c0,?_,j.fr c,by omega,by omega,j.lt,?_,Jyd (T.trans (Bs.of (S:=fun b=>b=gk) ar) (fun _ _ h=>h)) _⟩
           .exact V ar cR bB
           .rw [<-I cL];exact j.set bN l)
          obtain⟨dz,dA,dB,dC,dD,dE,dF,dG,-,-⟩:=I bT wx aS;have dH:((g:Int)== 0)=false:=ZD (by omega);have dj:(0:Int)<=(c:Int):=by omega
          have cx:(c:Int)<(n:Int):=by omega
          have dk:(0:Int)<=(m:Int):=by omega
          have dl:(m:Int)<(g:Int):=by omega
          clear T af ac ah bc bM hmx cH cj bB cQ bN c0 cU a7;go_wp2_with fail;go_region_with (go_at_call 156;refine aR (Y0 _ al ak aj (some (U s L)) g Z) fun cA cq=>?_;have cC:Hid (J wx cA):=O (by rw[cq];exact aS.drew.alloc (by simp) _);clear cq;obtain⟨dr,ds,dt,du,dv,dw,dx,dy,ck,cc⟩:=I bT cA (I cC);have cJ:=O ck;have cD:=O cc;clear ck cc)
          all_goals
           go_wp2_with fail;go_roundw
           case rel=>exact⟨c+1,by go_num,by omega,I cD,I cJ⟩
           case measure=>simp[intOf];omega
         .have bJ:c=n:=by omega
          subst bJ;have bu:=O af;have cF:=O ((I aX).keep T.size (fun b p bL=>T.block b bL p.2));clear T af;have t:=(I Y).c0;have u:=(I Y).c1;have ap:=(I Y).C0;have aq:=(I Y).C1;go_wp2_with fail;have i:=Ze (q:=2) (u0:=E am d vc) (u1:=aI gk 0 c c) (I Y).below (by decide) (Jd3 (sh:=sh) ((I cF).imp (fun b h _=>h.1)) ((I bu).nums (OffB.new (I bt) aw) (Jb1 _ _ _)));exact FR (by simp[results,PJ,go_sem,t,u]) rfl ⟨_,_,_,_,_,_,rfl,i.1,i.2⟩
      .have bI:Yb sh=false:=by simpa using av
       rw[bI];have j:ai=(eArr,9):=by
        rw[<-I X];unfold Yd;rw[FU aU,I aY,FU (by simp),I a4,FY bI]
       subst j;have t:=(I K).c0;have u:=(I K).c1;have ap:=(I K).C0;have aq:=(I K).C1;clear av bI;go_wp2_with fail;have i:=Ze (q:=2) (P:=P) (k:=3) (a:=eArr) (u0:=aH) (u1:=aH) (I K).below (by decide) (Jt _ _);exact FR (by simp[results,PJ,go_sem,t,u]) rfl ⟨none,0,0,none,0,0,rfl,i.1,i.2⟩
theorem Jir:TwoC ⟨#[114,104,111]⟩ Yd:=⟨fun w=>(Q6 (t:=⟨#[114,104,111]⟩) (k1:=.string [104,111]) (k2:=.string [114,104,111]) (f:=200) (by decide) (by kernel_rfl) (by kernel_rfl) (by kernel_rfl) (by kernel_rfl) (by kernel_rfl) w).mono (by rintro e w' ⟨rfl,hb⟩;exact⟨200,#[],rfl,KZ,hb,Jmd w'⟩),fun a b _ hb=>by
 by_cases h:(Yd a b).2=0
 .have:=Jis hb h;exact⟨this.few,fun _=>this⟩
 exact⟨by rw[Jel h];simp[eArr],fun h'=>absurd h' h⟩⟩
end Go.Proofs.YtjobgpahajhbnaaGreatDoor
