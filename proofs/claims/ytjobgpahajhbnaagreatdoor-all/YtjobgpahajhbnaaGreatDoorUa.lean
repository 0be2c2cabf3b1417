import Derived.Test.YtjobgpahajhbnaaGreatDoorWn
import Derived.Laws.CopyOwn
import Derived.Deep.RegionLaw
namespace Go.Proofs.YtjobgpahajhbnaaGreatDoor
open Go.RowKit Go.Proofs Go.Proofs.Tryz
attribute [local go_sem ↓] Go.wp_at_zero Go.wp_at_succ
set_option linter.all false
set_option maxHeartbeats 2000000
set_option maxRecDepth 10000
variable {P:Nat->Prop} {W w:World} {cs cu cur:List Value} {e:TypeId} {f:Int->Int->Int × Int} {g j k m n:Nat} {v:Value} {x:Int}
theorem Nz{T:List (Int × Int)}{a b:Int}(h:kB T j a=true)(h':kB T j b=true):a=b:=by
 obtain⟨c,e⟩:=Jau h;grind[Jau]
theorem PX.uniq{S:List Tok}{b:Bool}{o:Nat}{x:Ex}(h:PX S b j o x k):∀{x':Ex} {k':Nat},PX S b j o x' k'->x=x'/\k=k':=by
 induction h with
 | nums j o k h1 h2 h3 h4 =>
  intro x' k' a;cases a with
  | nums _ _ k2 g1 g2 g3 g4 =>
   grind
  | name _ _ g1=>exact absurd (Nz (h3 j aT h1) g1) (by decide)
  | paren _ _ e k2 g1 g2 g3 g4=>exact absurd (Nz (h3 j aT h1) g1) (by decide)
 | name j o h1 =>
  intro x' k' a;cases a with
  | nums _ _ k2 g1 g2 g3 g4=>exact absurd (Nz (g3 j aT g1) h1) (by decide)
  | name _ _ g1=>simp
  | paren _ _ e k2 g1 g2 g3 g4=>grind[Nz]
 | paren j o e k h1 h2 h3 h4 ih =>
  intro x' k' a;cases a with
  | nums _ _ k2 g1 g2 g3 g4=>exact absurd (Nz (g3 j aT g1) h1) (by decide)
  | name _ _ g1=>grind[Nz]
  | paren _ _ e k2 g1 g2 g3 g4 =>
   grind
 | one j o r k h1 h2 ih =>
  intro x' k' a;cases a with
  | one _ _ r2 k2 g1 g2 =>
   grind
  | only _ _ l k2 g1 g2 g3=>simp_all
  | two _ _ l k2 r2 m g1 g2 g3 g4=>simp_all
 | only j o l k h1 h2 h3 ih =>
  intro x' k' a;cases a with
  | one _ _ r2 k2 g1 g2=>simp_all
  | only _ _ l k2 g1 g2 g3=>exact ih g2
  | two _ _ l k2 r2 m g1 g2 g3 g4 =>
   grind
 | two j o l k r m h1 h2 h3 h4 ih1 ih2 =>
  intro x' k' a;cases a with
  | one _ _ r2 k2 g1 g2=>simp_all
  | only _ _ l k2 g1 g2 g3 =>
   grind
  | two _ _ l k2 r2 m g1 g2 g3 g4 =>
   grind
theorem Joa{s:ByteArray}{x y:Ex}(h:Zs s x)(h':Zs s y):x=y:=(PX.uniq h h').1
theorem J2w{a b:ByteArray}(h:a.data.toList=b.data.toList):a=b:=by
 cases a;simp_all
theorem VL:(prog.info? 2).map (·.size)=some 1:=by kernel_rfl
theorem Jmm{B:Nat}{xs:List Value}(h:w.ownsRow B e 1 (aI g 0 n n) n xs):∃cur:List Value,w.heap[g]?=some (.cells cur.toArray e (0,0))/\cur.length=n:=by
 obtain⟨_,⟨h,_⟩| ⟨f,d,cur,c,k,j,m,l,p,o⟩⟩:=h
 .cases h
 injection c with a i b;injection a with a;injection a with a;subst a b;exact⟨cur.toList,by omega,by simp;omega⟩
theorem Jeg{i:Nat}{u:Value}(h:w.heap[g]?=some (.cells cur.toArray e (0,0)))(hu:cur[i]?=some u):w.cell? (U g i)=some u:=by
 simp_all[World.cell?]
def Jcz(cur:List Value)(m:Nat)(v:Value):Prop:=∀i,i<m->cur[i]?=some v
theorem Jaq(h:Jcz cur m v)(hl:m+k<=cur.length):Jcz (splice cur m (List.replicate k v)) (m+k) v:=by
 intro b c;unfold splice;by_cases a:b<m
 .rw [ZU (by simp;omega),Mp,FY a];exact h b a
 grind
theorem Jmo(h:w.heap[g]?=some (.cells cur.toArray e (0,0)))(hf:Jcz cur n (G x))(hP:P g):Nums P w (aI g 0 n n) (List.replicate n x):=by
 refine⟨some (U g 0),n,by simp,by simp,fun _=>⟨g,0,rfl,hP,(YE.1 h).1,fun b a=>?_⟩,fun a h=>by cases h;rfl⟩;rw[ZY];simp at a⊢;exact Jeg h (hf b a)
theorem J2q(h:cs.length=k)(h2:Nat.min m (n-m)=k):cs.length=Nat.min m (n-m):=by rw[h,h2]
theorem J0s(hg:w.heap[g]?=some (.cells cu.toArray e (0,0)))(hf:Jcz cu m (G x))(hcs:List.replicate k (G x)=cs)(hk:k<=m):∀j v,cs[j]?=some v->w.drew.cell? ((⟨g,0,none⟩:Addr).add j)=some v:=by
 intro j v a;rw[<-hcs,YK]at a;split at a
 .rw [<-NS a];have e:(⟨g,0,none⟩:Addr).add j=⟨g,j,none⟩:=by cases j<;>simp[Addr.add]
  rw[e];exact Jeg hg (hf j (by omega))
 cases a
theorem Jyc(h:cs.length=k)(h2:cu.length=n)(h3:m+k<=n):m+cs.length<=cu.length:=by omega
theorem Jyb(hcs:List.replicate k (G x)=cs):∀v ∈ cs,v.oneCell'=true:=by
 intro v a;rw[<-hcs]at a;rw[(YQ.1 a).2];rfl
theorem Je8{w1:World}{off dLen dCap:Nat}{ad:Addr}{sLen sCap:Nat}(hg:w1.heap[g]?=some (.cells cur.toArray 2 (0,0)))(hn:cs.length=Nat.min sLen dLen)(hsrc:∀j v,cs[j]?=some v->w1.cell? (ad.add j)=some v)(hfit:off+cs.length<=cur.length)(h1:∀v ∈ cs,v.oneCell'=true)(hb:J w w1)(hBg:w.1.size<=g):
 ∃w2,(Builtin.copy_ #[32,32] 3 #[aI g off dLen dCap,E (some ad) sLen sCap]).run prog w1=.ok (G (cs.length:Int)) w2/\w2.heap[g]?=some (.cells (splice cur off cs).toArray 2 (0,0))/\J w w2:=by
 have a:=run_copy_row (P:=prog) w1 32 32 3 2 g off dLen dCap ad sLen sCap cur.toArray 2 cs ZP VL hg hn hsrc (by omega) h1;exact⟨_,a,(show _=_ by grind[splice,setRow_heap]),below_setRow hb hBg _⟩
theorem Nq(P)(w)(hP:∀b,w.1.size<=b->P b)(xb xo xc)(x)(n:Nat)(hn:n<=200)(hx:w.cell? (U xb xo)=some (G x))(hxb:xb<w.1.size):
 Calls prog 224 #[aI xb xo 1 xc,G n] w fun e w'=>∃g,e=aD (aI g 0 n n)/\Nums P w' (aI g 0 n n) (List.replicate n x)/\J w w':=by
 obtain⟨Z,D,W,X,Y⟩:=NY VI;have z:=QR 1 n (by omega) (by omega) w;rw[show(1*n / 18446744073709551616:Nat)=0 by omega,show(1*n % 18446744073709551616:Nat)=n by omega]at z;go_enter func224,ntmps224;go_wp2_with (first|(go_at_call 272;refine aR z fun w' S=>?_;have T:=S.symm;subst T)| (at_make;refine YV _ rfl _ _ 32 rfl w.1.size 2 Z (G 0) 1 ZP D W X .i64 .i64 _ _ n rfl rfl ?_ ?_ (by rw[Y];omega) (by unfold maxLen;omega) aT ?_))
 .rfl
 .rfl
 intro w1 N C;obtain⟨cur,B,H⟩:=Jmm N;have s:=aS.grown C aT (fun k c=>by cases c);have aa:=V s hxb hx;obtain⟨k,c⟩:=nm (Nat.min 1 n);have ap:k<=n:=by rw[<-c];exact Nat.min_le_right _ _
 have an:k<=1:=by rw[<-c];exact Nat.min_le_left _ _
 have am:0<n->0<k:=by intro r;rw[<-c];exact Nat.lt_min.2 ⟨by omega,r⟩
 obtain⟨cs,h⟩:=nm (List.replicate k (G x));have A:cs.length=k:=by rw[<-h];simp
 obtain⟨av,Q,u,ag⟩:=Je8 (w:=w) (w1:=w1) (g:=w.1.size) (off:=0) (dLen:=n) (dCap:=n) (ad:=⟨xb,xo,none⟩) (sLen:=1) (sCap:=xc) (cur:=cur) (cs:=cs) B (by omega) (by
  intro j v a;rw[<-h,YK]at a;split at a
  .have:j=0:=by omega
   subst this;rw[<-NS a];exact aa
  cases a) (by omega) (Jyb h) s aT
 rw[A]at Q;have u:=u;have ab:Jcz (splice cur 0 cs) k (G x):=by
  rw[<-h];have:=Jaq (cur:=cur) (m:=0) (k:=k) (v:=G x) (fun a r=>by omega) (by omega);rwa [ZY]at this
 have af:(splice cur 0 cs).length=n:=by rw[length_splice _ _ _ (by omega)];exact H
 go_wp2_with fail;go_loopw [8] (fun a wr=>∃(m:Nat) (cu:List Value),a=G m/\m<=n/\(0<n->0<m)/\wr.heap[w.1.size]?=some (.cells cu.toArray 2 (0,0))/\cu.length=n/\Jcz cu m (G x)/\J w wr) (fun a _=>n-(intOf a).toNat)
 .grind
 obtain⟨m,cu,rfl,ar,K,o,q,l,t⟩:=hrel;by_cases aq:m<n
 .have L:=K (by omega);obtain⟨a,p⟩:=nm (Nat.min m (n-m));have F:a<=m:=by rw[<-p];exact Nat.min_le_left _ _
  have y:m+a<=n:=by have:a<=n-m:=(by grind);omega
  have ao:0<a:=by rw[<-p];exact Nat.lt_min.2 ⟨L,by omega⟩
  obtain⟨d,i⟩:=nm (List.replicate a (G x));have f:d.length=a:=by rw[<-i];simp
  have aj:(0:Int)<=m:=by omega
  have ak:(m:Int)<=n:=by omega
  have al:(m:Int)<n:=by omega
  have au:¬ n=m:=by omega
  obtain⟨aw,R,ai,ah⟩:=Je8 (w:=w) (w1:=wr.drew) (g:=w.1.size) (off:=m) (dLen:=n-m) (dCap:=n-m) (ad:=adP0 w) (sLen:=m) (sCap:=n) (cur:=cu) (cs:=d) o (J2q f p) (J0s o l i F) (Jyc f q y) (Jyb i) t.drew aT;rw[f]at R;have ac:Jcz (splice cu m d) (m+a) (G x):=by rw[<-i];exact Jaq l (by omega)
  have ae:(splice cu m d).length=n:=by rw[length_splice _ _ _ (Jyc f q y)];exact q
  go_wp2_with fail;go_region
  all_goals
   go_wp2;go_roundw
   .grind
   simp[intOf];omega
 have a:m=n:=by omega
 subst a;go_wp2;go_ret;exact⟨w.1.size,rfl,Jmo o l (hP _ aT),t⟩
theorem Z7(w)(so)(sn sc)(co)(cn cc):
 Calls prog 221 #[aK so sn sc co cn cc] w fun e w'=>e=aD (G sn)/\w'=w.alloc (.cells (aL so sn sc co cn cc) 89):=by
 go_enter func221,ntmps221;go_wp2;go_ret;exact⟨rfl,rfl⟩
theorem Jo(w)(so)(sn sc)(co)(cn cc):
 Calls prog 220 #[aK so sn sc co cn cc] w fun e w'=>e=aD (.bool ((sn:Int)== 0))/\w'=(w.alloc (.cells (aL so sn sc co cn cc) 89)).alloc (.cells (aL so sn sc co cn cc) 89):=by
 go_enter func220,ntmps220;go_wp2_with (go_at_call 221;refine aQ (Z7 _ so sn sc co cn cc) ?_);go_ret;exact⟨rfl,rfl⟩
theorem Jq1(h:W.1.size=n)(v)(e)(o):((W.alloc (.cells #[v] e)).alloc o).drew.cell? (U n 0)=some v:=by
 subst h;show((W.alloc (.cells #[v] e)).alloc o).cell? (U W.1.size 0)=some v;simp
theorem Jq0(h:W.1.size+1=n)(v)(e)(o):((W.alloc o).alloc (.cells #[v] e)).drew.cell? (U n 0)=some v:=by
 subst h;show((W.alloc o).alloc (.cells #[v] e)).cell? (U (W.1.size+1) 0)=some v;simp
theorem Nums.set{a:List Int}(h:Nums P w v a){b:Nat}(hb:¬ P b)(i)(u):Nums P (w.setCell (U b i) u) v a :=
 h.keep (by simp) (fun c hc _=>FV _ _ _ _ (fun e=>hb (by rw[<-show c=b from e];exact hc)))
theorem N6{w2:World}{so:Option Addr}{sn sc:Nat}{cv:Value}{co:Option Addr}{cn cc:Nat}{a:Arr}{ys:List Int}{u0 u1:Value}(ha:IsArr P w (.agg #[E so sn sc,cv]) a)(hb:J w w2)(hn:Nums (fun b=>P b/\b≠w.1.size+1) w2 (E co cn cc) ys):
 IsArr P ((w2.setCell (U (w.1.size+1) 0) u0).setCell (U (w.1.size+1) 1) u1) (aK so sn sc co cn cc) ⟨a.shape,ys⟩:=by
 obtain⟨m,l,k,i,h,g,d,e,_⟩:=ha;injection d with d;simp at d;obtain⟨⟨rfl,rfl,rfl⟩,_⟩:=d;have f:Nums (fun b=>P b/\b≠w.1.size+1) w2 (E so sn sc) (a.shape.map Int.ofNat):=(e.imp (fun b c j=>⟨c,by omega⟩)).below hb;exact⟨_,_,_,_,_,_,rfl,((f.set (fun c=>c.2 rfl) 0 u0).set (fun c=>c.2 rfl) 1 u1).imp (fun _ c _=>c.1),((hn.set (fun c=>c.2 rfl) 0 u0).set (fun c=>c.2 rfl) 1 u1).imp (fun _ c _=>c.1)⟩
theorem N8(P)(w)(hP:∀b,w.1.size<=b->P b)(so)(sn sc)(co)(cn cc)(a)(ha:IsArr P w (aK so sn sc co cn cc) a)(hf:a.cells.length<=200)(x):
 Calls prog 263 #[aK so sn sc co cn cc,G x] w fun e w'=>∃co' cn' cc',e=aD (aK so sn sc co' cn' cc')/\IsArr P w' (aK so sn sc co' cn' cc') ⟨a.shape,List.replicate a.cells.length x⟩/\J w w':=by
 obtain⟨g,n⟩:=Jb ha;have m:cn<=200:=by omega
 have j:Hid (∀b,w.1.size<=b->P b):=hP;clear hP n;change Hid _ at g ha;go_enter func263,ntmps263;go_wp2_with fail;go_region_with (first|(go_at_call 156;refine aQ (Y0 _ so sn sc co cn cc) ?_)| (go_at_call 224;refine(Nq (fun b=>P b/\b≠w.1.size+1) _ (fun b c=>⟨j b (by simp at c;omega),by simp at c;omega⟩) _ _ _ x cn m ?_ ?_).mono ?_;(first|exact Jq1 (by simp) _ _ _|exact Jq0 (by simp) _ _ _);(first|(simp;omega)| simp);rintro e q ⟨k,rfl,h,c⟩;have i:=O h;have d:=O c;obtain⟨f,o⟩:=Yy c;clear h c))
 all_goals
  have d0:=f (w.1.size+1) 0 (by simp);have d1:=f (w.1.size+1) 1 (by simp);simp[NV]at d0 d1;go_wp2_with fail;refine FR (v:=.agg #[E so sn sc,aI k 0 cn cn]) (by simp[results,results263,go_sem,d0,d1]) rfl ⟨_,_,_,rfl,?_,?_⟩
  .have l:=(((((FQ w.1.size w).alloc aT _).alloc (by simp) _).alloc (by simp;omega) _).alloc (by simp;omega) _).drew.trans (d.mono (by simp;omega));exact N6 ha l (by rw[<-g];exact i)
  exact(((((((FQ w.1.size w).alloc aT _).alloc (by simp) _).alloc (by simp;omega) _).alloc (by simp;omega) _).drew.trans (d.mono (by simp;omega))).setCell (p:=U (w.1.size+1) 0) (ZO _) _).setCell (p:=U (w.1.size+1) 1) (ZO _) _
def zipF(f:Int->Int->Int × Int):List Int->List Int->Sum Int (List Int)
 | x::xs,y::ys=>if(f x y).2≠0 then .inl (f x y).2 else match zipF f xs ys with
  | .inl e=>.inl e
  | .inr l=>.inr ((f x y).1::l)
 | _,_=>.inr []
def eArr:Arr:=⟨[],[]⟩
def zipA(f:Int->Int->Int × Int)(shape:List Nat)(xs ys:List Int):Arr × Int:=match zipF f xs ys with
 | .inl e=>(eArr,e)
 | .inr l=>(⟨shape,l⟩,0)
def Jh(f:Int->Int->Int × Int)(a b:Arr):Arr × Int :=
 if a.shape=[]then zipA f b.shape (List.replicate b.cells.length (a.cells.headD 0)) b.cells
 else if b.shape=[]then zipA f a.shape a.cells (List.replicate a.cells.length (b.cells.headD 0))
 else if a.shape.length≠b.shape.length then(eArr,5)
 else if a.shape≠b.shape then(eArr,6)
 else zipA f a.shape a.cells b.cells
theorem Jh4{f:Int->Int->Int × Int}:∀{xs ys l:List Int},zipF f xs ys=.inr l->xs.length=ys.length->l.length=xs.length
 | [],[],l,h,_=>by simp_all[zipF]
 | x::xs,y::ys,l,h,hl=>by
  unfold zipF at h;split at h
  .cases h
  cases hz:zipF f xs ys with
  | inl e=>simp_all
  | inr m =>
   rw[hz]at h;cases h;simp at hl⊢;exact Jh4 hz hl
 | [],y::ys,_,_,hl=>by simp at hl
 | x::xs,[],_,_,hl=>by simp at hl
theorem Jj1{f:Int->Int->Int × Int}:∀(k:Nat) (xs ys:List Int),xs.length=ys.length->(hk:k<xs.length)->(hk':k<ys.length)->∀l,zipF f (xs.take k) (ys.take k)=.inr l ->
 ((f xs[k] ys[k]).2≠0->zipF f xs ys=.inl (f xs[k] ys[k]).2)/\((f xs[k] ys[k]).2=0->zipF f (xs.take (k+1)) (ys.take (k+1))=.inr (l++[(f xs[k] ys[k]).1]))
 | 0,x::xs,y::ys,_,_,_,l,h=>by
  simp_all[zipF]
 | k+1,x::xs,y::ys,hl,hk,hk',l,h=>by
  simp at hl hk hk';simp only[JK]at h⊢;unfold zipF at h;split at h
  .cases h
  rename_i h0;cases hz:zipF f (xs.take k) (ys.take k)with
  | inl e=>simp_all
  | inr m =>
   rw[hz]at h;cases h;have ih:=Jj1 k xs ys hl hk hk' m hz;simp_all[zipF]
 | _,[],_,_,hk,_,_,_=>by simp at hk
 | _,_::_,[],_,_,hk',_,_=>by simp at hk'
structure RuleC (g:Nat) (f:Int->Int->Int × Int):Prop where
 enters:Enters prog g
 call:∀ (x y:Int) (w:World),Jk x->Jk y->Calls prog g #[.int .i64 x,.int .i64 y] w fun e w'=>e=.returned (.tuple #[.int .i64 (f x y).1,.int .i64 (f x y).2])/\w'=w
 fits:∀ x y:Int,Jk x->Jk y->Jk (f x y).1
end Go.Proofs.YtjobgpahajhbnaaGreatDoor
