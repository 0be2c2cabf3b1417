import Derived.Test.YtjobgpahajhbnaaGreatDoorZb
namespace Go.Proofs.YtjobgpahajhbnaaGreatDoor
open Go.RowKit Go.Proofs Go.Maps Go.Proofs.Tryz
attribute [local go_sem ↓] Go.wp_at_zero Go.wp_at_succ
set_option linter.all false
set_option maxHeartbeats 2000000
set_option maxRecDepth 20000
variable {B cap g n size yb:Nat} {F:Int} {P Q Y:Nat->Prop} {e:TypeId} {ns:List ByteArray} {nv u v vv:Value} {qs:List (Value × Value)} {w w':World} {xs:List Value} {zs:List Arr} {α β:Type}
def Dis(v u:Value):Prop:=∀g,v.ownBlock=some g->u.ownBlock≠some g
theorem Dis.symm(h:Dis v u):Dis u v:=fun g hg hv=>h g hv hg
theorem Jaa(u):Dis aH u:=fun g hg=>by cases hg
theorem Yw(h:w.ownsRow B e size u n xs)(hg:w.grownBy w' v.ownBlock)(hd:Dis v u):w'.ownsRow B e size u n xs:=by
 have c:=h;obtain⟨a,⟨rfl,d⟩| ⟨g,cap,b,rfl,i,f,j⟩⟩:=h
 .exact ⟨a,NN ⟨rfl,d⟩⟩
 exact⟨a,NO ⟨g,cap,b,rfl,i,(hg.block g (c.lt g rfl).2 (fun e=>hd g e.symm rfl)).trans f,j⟩⟩
theorem Zy{v':Value}(h:w.ownsRow B e size u n xs)(hd:Dis v u)(hat:v'.ownBlock=v.ownBlock\/v'.ownBlock=some w.1.size):Dis v' u:=by
 intro g a b;rcases hat with e|e
 .exact hd g (e▸a) b
 rw[e]at a;injection a with a;have:=(h.lt g b).2;omega
theorem Ja2(h:w.ownsRow B e size (aI g 0 n cap) n xs)(k)(hk:k<=n):Src w (aI g 0 k cap) k size (xs.take (k*size)):=by
 have d:k*size<=n*size:=NR _ hk;refine⟨_,_,rfl,by rw[YD,h.1];omega,fun _=>⟨g,0,rfl,(h.lt g rfl).2,fun b u a=>?_⟩⟩;have c:b<k*size:=by
  have:=(YO.1 a).1;rw[YD]at this;omega
 rw[ZY,h.cellAt b (by omega),<-a,Mp,FY c]
theorem Ja4(h:w.ownsRow B e size (aI g 0 n cap) n xs)(k)(xo)(c)(hk:k<=n)(ho:k<n->xo=some (U g (k*size))):Src w (E xo (n-k) c) (n-k) size (xs.drop (k*size)):=by
 have f:k*size<=n*size:=NR _ hk;refine⟨_,_,rfl,by rw[Hf,h.1,Nat.sub_mul],fun b=>⟨g,k*size,ho (by omega),(h.lt g rfl).2,fun d u a=>?_⟩⟩;have b:k*size+d<n*size:=by
  have:=(YO.1 a).1;rw[Hf,h.1]at this;omega
 rw[h.cellAt _ b,<-a,MU]
def rkAt(ns:List ByteArray)(t:ByteArray):Nat:=(ns.takeWhile (fun x=>Op.bytesLess x.toList t.toList)).length
theorem Jpa(ns)(t):rkAt ns t<=ns.length:=(Hu _).length_le
theorem Jo9{t:ByteArray}{k:Nat}(hk:k<=ns.length)(h1:∀j,(hj:j<ns.length)->j<k->Op.bytesLess ns[j].toList t.toList=true)(h2:(h:k<ns.length)->Op.bytesLess ns[k].toList t.toList=false):rkAt ns t=k:=by
 unfold rkAt;induction ns generalizing k with
 | nil=>simp_all
 | cons x r ih =>
  cases k with
  | zero =>
   simp_all
  | succ k =>
   have a:=h1 0 (by simp) (by omega);simp only[List.getElem_cons_zero]at a;rw[PY,FY a,ZN,ih (k:=k) (by simp_all) (fun j hj b=>h1 (j+1) (by omega) (by omega)) (fun h=>h2 (by simpa using h))]
def insA{α:Type}(l:List α)(k:Nat)(x:α):List α:=l.take k++[x]++l.drop k
theorem Q3(l)(k)(x:α)(h:k<=l.length):(insA l k x).length=l.length+1:=by grind[insA]
theorem Jwn(f:α->β)(l)(k)(x):(insA l k x).map f=insA (l.map f) k (f x):=by simp[insA]
theorem Jje(l)(k)(x):Ye (insA l k x)=(Ye l).take (k*2)++[x.1,x.2]++(Ye l).drop (k*2):=by
 unfold insA;rw[Jc7,Jc7,ZF k 2,Jh7,Jh8];rfl
theorem Jk5(p:α->β->Prop)(l)(m)(k)(x)(y)(hl:l.length=m.length)(hk:k<=l.length)(h:∀i,(h1:i<l.length)->(h2:i<m.length)->p l[i] m[i])(hx:p x y):∀i,(h1:i<(insA l k x).length)->(h2:i<(insA m k y).length)->p (insA l k x)[i] (insA m k y)[i]:=by
 intro i h1 h2;have:∀{γ:Type} (l:List γ) (x:γ),k<=l.length->(insA l k x)[i]?=if i<k then l[i]? else if i=k then some x else l[i-1]?:=by
  intro γ l x hk;unfold insA;by_cases c1:i<k
  .grind
  rw[FU c1];by_cases a:i=k
  .simp_all
  rw[FU a,ZA (by simp;omega),MU];grind
 grind
theorem RDk.ins{nv' vv':Value}{wf:World}(h:RDk Y yb F nv vv ns qs zs w)(hY:∀b,w.1.size<=b->Y b)(k)(hk:k<=ns.length)(t)(p q)(a)(hA:IsArr (fun b=>Y b/\b≠yb/\vv.ownBlock≠some b) w (.agg #[p,q]) a)
 (hb:Bs (fun b=>b=yb) w wf) (c0:wf.cell? (U yb 0)=some nv') (c1:wf.cell? (U yb 1)=some vv') (c2:wf.cell? (U yb 2)=some (G F)) (fr:∀i,wf.frozen? (U yb i)=false) (h1:wf.ownsRow w.1.size 9 1 nv' (ns.length+1) (insA (ns.map Value.string) k (aE t))) (h2:wf.ownsRow w.1.size 133 2 vv' (qs.length+1) (Ye (insA qs k (p,q)))) (hd:Dis vv' nv'):
 RDk Y yb F nv' vv' (insA ns k t) (insA qs k (p,q)) (insA zs k a) wf:=by
 have u:=h.lt;have n1:nv'.ownBlock≠some yb:=fun e=>by have:=(h1.lt yb e).1;omega
 have n2:vv'.ownBlock≠some yb:=fun e=>by have:=(h2.lt yb e).1;omega
 have:∀{e:TypeId} {j:Nat} {v:Value} {n:Nat} {xs:List Value},wf.ownsRow w.1.size e j v n xs->wf.ownsRow 0 e j v n xs:=fun{e j v n xs} f=>by
  obtain⟨d,f|⟨g,cap,l,m,c,o⟩⟩:=f
  .exact ⟨d,.inl f⟩
  exact⟨d,.inr ⟨g,cap,l,m,ZL _,o⟩⟩
 have m:∀{v:Value} {b:Arr},IsArr (fun b=>Y b/\b≠yb/\vv.ownBlock≠some b) w v b->IsArr (fun b=>Y b/\b≠yb/\vv'.ownBlock≠some b) wf v b:=fun{v b} f=>by
  obtain⟨y,x,sc,s,r,o,rfl,a1,a2⟩:=f;have l:∀b,(Y b/\b≠yb/\vv.ownBlock≠some b)->b<w.1.size->(Y b/\b≠yb/\vv'.ownBlock≠some b):=fun b hb d=>⟨hb.1,hb.2.1,fun e=>by have:=(h2.lt b e).1;omega⟩
  exact⟨y,x,sc,s,r,o,rfl,(a1.imp l).keep hb.size (fun b c d=>hb.block b d c.2.1),(a2.imp l).keep hb.size (fun b c d=>hb.block b d c.2.1)⟩
 refine⟨FT u hb.size,h.own,c0,c1,c2,fr,?_,?_,?_,?_,?_,?_,?_⟩
 .simp_all [Q3,Jwn]
 .exact fun g c=>⟨hY g (h1.lt g c).1,fun e=>n1 (e▸c)⟩
 .rw [Q3 qs k _ (by have:=h.len;omega)];simp_all
 .exact fun g c=>⟨hY g (h2.lt g c).1,fun e=>n2 (e▸c),hd g c⟩
 .rw [Q3 ns k t hk,Q3 qs k _ (by have:=h.len;omega),h.len]
 .rw [Q3 ns k t hk,Q3 zs k _ (by have:=h.len2;omega),h.len2]
 exact Jk5 (fun(c:Value × Value) (b:Arr)=>IsArr (fun b=>Y b/\b≠yb/\vv'.ownBlock≠some b) wf (.agg #[c.1,c.2]) b) qs zs k (p,q) a (by have:=h.len;have:=h.len2;omega) (by have:=h.len;omega) (fun i h1 h2=>m (h.arr i h1 h2)) (m hA)
theorem Jec(l:List ByteArray):∀u ∈ l.map Value.string,u.oneCell'=true:=by
 intro u a;obtain⟨b,_,rfl⟩:=NZ.1 a;rfl
def SlQ(qs:List (Value × Value)):Prop:=∀q ∈ qs,q.1.oneCell'=true/\q.2.oneCell'=true
theorem Xx(h:SlQ qs):∀u ∈ Ye qs,u.oneCell'=true:=by
 intro u a;simp only[Ye,List.mem_flatMap]at a;obtain⟨c,b,a⟩:=a;simp at a;rcases a with rfl|rfl
 .exact (h c b).1
 exact(h c b).2
theorem RDk.slq(h:RDk Y yb F nv vv ns qs zs w):SlQ qs:=by
 intro m g;obtain⟨i,f,rfl⟩:=ZS g;obtain⟨o,n,sc,l,k,j,e,-,-⟩:=h.arr i f (by have:=h.len;have:=h.len2;omega);have b:=NM (fun v=>match v with|Value.agg a=>a|_=>#[]) e;have c:=NM (fun a=>a[0]?) b;have d:=NM (fun a=>a[1]?) b;simp at c d;rw[c,d];exact⟨rfl,rfl⟩
theorem Vc(h:w.ownsRow B e size v n xs):∃o m c,v=E o m c:=by
 obtain⟨a,cap,g,e,-⟩:=Yf h;exact⟨a,n,cap,e⟩
theorem Jgg{B':Nat}{t:TypeId}(h:w.ownsRow B t size v n xs)(hb:B'<=B):w.ownsRow B' t size v n xs:=by
 obtain⟨a,c|⟨g,cap,b,e,d,f⟩⟩:=h
 .exact ⟨a,NN c⟩
 exact⟨a,NO ⟨g,cap,b,e,NE hb d,f⟩⟩
theorem Jik{n5 v4 v7:Value}{wr w5 w7:World}(h:RDk Y yb F nv vv ns qs zs w)(hY:∀b,w.1.size<=b->Y b)(k)(hk:k<=ns.length)(t)(p q)(a)(hA:IsArr (fun b=>Y b/\b≠yb/\vv.ownBlock≠some b) w (.agg #[p,q]) a)
 (hb0:J w wr) (hb:J wr w5) (hN:w5.ownsRow wr.1.size 9 1 n5 (k+1+(ns.length-k)) ((ns.map Value.string).take (k*1)++[aE t]++(ns.map Value.string).drop (k*1))) (hd:Dis n5 v4) (m) (xs) (hV4:w5.ownsRow wr.1.size 133 2 v4 m xs)
 (hV:w7.ownsRow wr.1.size 133 2 v7 (k+1+(qs.length-k)) ((Ye qs).take (k*2)++[p,q]++(Ye qs).drop (k*2))) (hg:(w5.setCell (U yb 0) n5).grownBy w7 v4.ownBlock) (hat:v7.ownBlock=v4.ownBlock\/v7.ownBlock=some w5.1.size):
 RDk Y yb F n5 v7 (insA ns k t) (insA qs k (p,q)) (insA zs k a) (w7.setCell (U yb 1) v7)/\Bs (fun b=>b=yb) w (w7.setCell (U yb 1) v7):=by
 have f:=h.lt;have i:=hb0.size;have B:=hb.size;have C:w5.1.size<=w7.1.size:=by have:=hg.size;simpa using this
 have D:yb<wr.1.size:=by omega
 have z:yb<w5.1.size:=by omega
 have c:=hb0.trans (hb.mono i);have n1:n5.ownBlock≠some yb:=fun e=>by have:=(hN.lt yb e).1;omega
 have n4:v4.ownBlock≠some yb:=fun e=>by have:=(hV4.lt yb e).1;omega
 have A:v7.ownBlock≠some yb:=fun e=>by have:=(hV.lt yb e).1;omega
 have n:=V c f h.c0;have o:=V c f h.c1;have r:=V c f h.c2;have d:=hg.block yb (by simpa using z) (fun e=>n4 e.symm);have s:=(WA d).trans (FW _ _ _ n);have u:=(WA d).trans (celN (by omega) o);have x:=(WA d).trans (celN (by omega) r);have j:Bs (fun b=>b=yb) w (w7.setCell (U yb 1) v7):=by
  refine⟨hg.os.trans c.os,hg.tape.trans c.tape,hg.output.trans c.output,by simp;omega,fun g y l=>?_⟩;rw[FV _ _ _ _ l,hg.block g (by simp;omega) (fun e=>by have:=(hV4.lt g e.symm).1;omega),FV _ _ _ _ l];exact c.block g y
 have y:=Zy hN hd.symm (by exact hat);refine⟨h.ins hY k hk t p q a hA j ?_ ?_ ?_ (fun g=>?_) ?_ ?_ y,j⟩
 .exact celN (by omega) s
 .exact FW _ _ _ u
 .exact celN (by omega) x
 .rw [NA,NI (a:=U yb g) d,NA];exact bF c f (h.fr g)
 .have l:=Yw (ZH hN (a:=U yb 0) n1 n5) hg hd.symm;have g:k+1+(ns.length-k)=ns.length+1:=by omega
  rw[g,MA]at l;exact ZH (Jgg l i) (a:=U yb 1) n1 _
 have l:=h.len;have g:k+1+(qs.length-k)=qs.length+1:=by omega
 rw[g]at hV;rw[Jje];exact ZH (Jgg hV i) (a:=U yb 1) A _
theorem Juk(h:RDk Y yb F nv vv ns qs zs w)(hY:∀b,w.1.size<=b->Y b)(hl:ns.length<=1000000)(t)(v)(a)(hA:IsArr (fun b=>Y b/\b≠yb/\vv.ownBlock≠some b) w v a)(hi:Xe ns t=-1)(hpos:0<ns.length):
 Calls prog 67 #[.pointer (some ⟨yb,0,none⟩),.string t,v] w fun e w'=>e=.returned (.tuple #[])/\(∃nv' vv' qs',RDk Y yb F nv' vv' (insA ns (rkAt ns t) t) qs' (insA zs (rkAt ns t) a) w')/\Bs (fun b=>b=yb) w w':=by
 obtain⟨cT,cj,cr,cs,ct⟩:=NY GQ;obtain⟨cU,ck,cu,cv,cw⟩:=NY GR;have cl:=h.len;have cm:=h.nown;have cp:=h.vown;obtain⟨-,⟨-,ak⟩| ⟨g,cap,cC,br,-⟩⟩:=h.nown
 .omega
 obtain⟨-,⟨-,ak⟩| ⟨a4,bh,cD,bL,-⟩⟩:=h.vown
 .omega
 have cE:ns.length<=cap:=by
  obtain⟨bS,N,_,e,S,-,-⟩:=Yf cm;rw[br]at e;injection e with _ _ e;omega
 have cF:qs.length<=bh:=by
  obtain⟨bS,N,_,e,S,-,-⟩:=Yf cp;rw[bL]at e;injection e with _ _ e;omega
 have ch:=hA;obtain⟨L,K,sc,H,D,C,rfl,-,-⟩:=hA;obtain⟨bS,cB,cn,co⟩:=h.txts;have a6:Below w.1.size w (w.alloc (.cells #[.slice L K sc,.slice H D C] 133)):=aS.alloc aT _;obtain⟨bD,a9⟩:=nm (w.alloc (.cells #[.slice L K sc,.slice H D C] 133));rw[a9]at a6;have n:=h.below a6;have b0:bD.cell? ⟨w.1.size,0,none⟩=some (.slice L K sc):=by rw[<-a9];simp
 have b1:bD.cell? ⟨w.1.size,1,none⟩=some (.slice H D C):=by rw[<-a9];simp
 have bK:w.1.size<bD.1.size:=by rw[<-a9];simp
 have bN:=Fh bD yb t bS ns.length cB ns n.lt (by rw[<-cn];exact n.c0) rfl (fun ak=>by
  obtain⟨b,bz,e,a7,S⟩:=co ak;exact⟨b,bz,e,FT a7 a6.size,fun d T=>V a6 a7 (S d T)⟩) hl
 rw[hi]at bN;have cz:∀d,(T:d<ns.length)->bD.cell? ⟨g,d,none⟩=some (.string ns[d]):=fun d T=>by
  have:=n.nown;rw[br]at this;rw[this.cellAt d (by omega)];simp[T]
 have bd:=O (br▸n.nown);have bg:=O (bL▸n.vown);have c0:=n.c0;have c1:=n.c1;rw[br]at c0;rw[bL]at c1;have x:=n.lt;have cf:=n.fr 0;have cg:=n.fr 1;have bJ:=O h.slq;have ax:=h;have ca:=ch;have cc:=O hY;have bI:=a6;have ay:=cj;have aU:=O cr;have aV:=O cs;have aW:=O ct;have az:=ck;have aX:=O cu;have aY:=O cv;have aZ:=O cw;have cP:=cl;have cQ:=O hpos;have cq:=h.lt;clear h n ch hY a6 co br bL cn cm cp cj cr cs ct ck cu cv cw hi hpos;obtain⟨A,bX⟩:=nm ns.length;have aa:=bX;obtain⟨l,bW⟩:=nm qs.length;have cb:=O bW;rw[bX]at bd c0 hl cE;rw[bW]at bg c1 cF;have bc:Hid (A=l):=O (by omega);have cS:l<=1000000:=by omega
 clear bX bW cl cC cD;go_enter func67,ntmps67;go_wp2_with fail;try rw[a9]
 refine bN.mono ?_;rintro e b5 ⟨rfl,cG⟩;subst cG;clear a9 bN;go_wp2_with fail;go_loopw [7] (fun bt wr=>∃k:Nat,bt=.int .i64 k/\k<=A/\(∀d,(T:d<ns.length)->d<k->Op.bytesLess ns[d].toList t.toList=true)/\wr=b5) (fun bt _=>A-(intOf bt).toNat)
 case atStart=>exact⟨0,rfl,by omega,fun d _ h=>absurd h (by omega),rfl⟩
 case round =>
  obtain⟨k,rfl,aq,ci,cH⟩:=hrel;subst cH;have ba:=ci;clear ci;have cd:k<A->∃bA,wr.cell? ⟨g,k,none⟩=some (.string bA)/\(Op.bytesLess bA.toList t.toList=true->∀d,(T:d<ns.length)->d<k+1->Op.bytesLess ns[d].toList t.toList=true)/\(Op.bytesLess bA.toList t.toList=false->rkAt ns t=k):=fun a8=>by
   have c:k<ns.length:=by rw[aa];exact a8
   refine⟨ns[k],cz k c,fun a5 d T f=>?_,fun a5=>?_⟩
   .by_cases e:d=k
    .subst e;exact a5
    .exact ba d T (by omega)
   .exact Jo9 (by omega) ba (fun _=>a5)
  have ce:=fun a8=>Jo9 (by rw[aa];exact aq) ba (fun h=>absurd h (by rw[aa];exact a8));have bQ:=O ce;have bP:=O cd;clear cd ce;by_cases a8:k<A
  .obtain ⟨bA,S,b3,b4⟩:=I bP a8;have cx:(0:Int)<=(k:Int):=by omega
   have cV:(k:Int)<(A:Int):=by omega
   cases a5:Op.bytesLess bA.toList t.toList
   .have be:=O (b4 a5);have cR:k<l:=by have:=I bc;omega
    clear b3 b4;have bp:k<=l:=by have:=I bc;omega
    have cy:=FQ wr.1.size wr;have cI:(k:Int)<=(cap:Int):=by omega
    have cJ:(k:Int)<=(bh:Int):=by omega
    have cK:(k:Int)<=(A:Int):=by omega
    have cL:(k:Int)<=(l:Int):=by omega
    have cx:(0:Int)<=(k:Int):=by omega
    clear bQ bP ba;go_wp2_with (at_builtin;refine Jy JB ay (I aU) (I aV) (I aW) rfl (by decide) rfl _ _ rfl (B:=wr.1.size) (NW _ _ _ _) (Ja2 (I bd) k aq) ?c1 ?c2 ?c3 aT rfl rfl ?_)
    case c1=>exact fun u c=>Jec ns u (ZM c)
    case c2=>unfold maxLen;omega
    case c3=>omega
    intro n1 b5 bu bo bY;have al:=aS.grown bo aT (fun g j=>by cases j);have ab:=bu;have y:=al;have d1:=V al x c1;clear bu bo bY al;go_wp2_with (at_builtin;refine Jy Me az (I aX) (I aY) (I aZ) rfl (by decide) rfl _ _ rfl (B:=wr.1.size) (NW _ _ _ _) ((Ja2 (I bg) k bp).below y) ?c1 ?c2 ?c3 y.size rfl rfl ?_)
    case c1=>exact fun u c=>Xx (I bJ) u (ZM c)
    case c2=>unfold maxLen;omega
    case c3=>omega
    intro cN Q bv am bj;have ac:=Yw (v:=.slice none 0 0) ab am (Jaa _);have W:=Zy ab (Jaa _) bj;have af:=O bv;have z:=y.grown am y.size (fun g j=>by cases j);clear bv am bj d1 ab y;go_wp2_with (at_builtin;refine Jy JB ay (I aU) (I aV) (I aW) rfl (by decide) rfl _ _ rfl (B:=wr.1.size) (k:=1) (ys:=[.string t]) (Jf ac (aS.alloc aT _)) ?c0 ?c1 ?c2 ?c3 ?c4 rfl rfl ?_)
    case c0=>exact⟨_,1,rfl,rfl,fun _=>⟨Q.1.size,0,rfl,by simp,fun d u c=>by
     match d,c with
     | 0,c=>simp at c;subst c;simp⟩⟩
    case c1=>exact fun u c=>by simp at c;subst c;rfl
    case c2=>unfold maxLen;omega
    case c3=>omega
    case c4=>have:=z.size;simp;omega
    intro n3 R bw an bl;have i:Below Q.1.size Q (Q.alloc (.cells #[.string t] 9)):=aS.alloc aT _;have ag:=O (Yw (Jf (I af) i) an W.symm);have X:=Zy (Jf (I af) i) W.symm (by simpa using bl);have ad:=bw;have m:=(z.trans (i.mono z.size)).grown an (by have:=z.size;simp;omega) (fun g j=>(ac.lt g j).1);clear bw an bl i;have b6:=V m bK b0;have b7:=V m bK b1;clear ac af W z;go_wp2_with (at_builtin;refine Jy Me az (I aX) (I aY) (I aZ) rfl (by decide) rfl _ _ rfl (B:=wr.1.size) (k:=1) (ys:=[.slice L K sc,.slice H D C]) (Jf (I ag) (aS.alloc aT _)) ?c0 ?c1 ?c2 ?c3 ?c4 rfl rfl ?_)
    case c0=>exact⟨_,1,rfl,rfl,fun _=>⟨R.1.size,0,rfl,by simp,fun d u c=>by
     match d,c with
     | 0,c=>simp at c;subst c;simp
     | 1,c=>simp at c;subst c;simp⟩⟩
    case c1=>exact fun u c=>by simp at c;rcases c with rfl|rfl<;>rfl
    case c2=>unfold maxLen;omega
    case c3=>omega
    case c4=>have:=m.size;simp;omega
    intro bB cO bx ao bm;have i:Below R.1.size R (R.alloc (.cells #[.slice L K sc,.slice H D C] 133)):=aS.alloc aT _;have ae:=O (Yw (Jf ad i) ao X.symm);have Z:=Zy (Jf ad i) X.symm (by simpa using bm);have ah:=O bx;have o:=(m.trans (i.mono m.size)).grown ao (by have:=m.size;simp;omega) (fun g j=>((I ag).lt g j).1);clear bx ao bm i b6 b7;have aw:=V o x c0;clear ad ag X m;go_wp2_with (at_builtin;refine Jy JB ay (I aU) (I aV) (I aW) rfl (by decide) rfl _ _ rfl (B:=wr.1.size) (k:=A-k) (ys:=(ns.map Value.string).drop (k*1)) (I ae) (by exact(Ja4 (I bd) k _ _ aq (fun h=>by first|(exfalso;omega)| simp)).below o) (fun u c=>Jec ns u (ZX c)) (by unfold maxLen;omega) (by omega) o.size rfl rfl ?_)
    all_goals
     intro cM av ar ap bn;obtain⟨r,q,s,rfl⟩:=Vc ar;have ai:=O (Yw (I ah) ap Z.symm);have bM:=Zy (I ah) Z.symm bn;have bb:=O ar;have f:=o.grown ap o.size (fun g j=>((I ae).lt g j).1);clear ar ap bn aw;have aw:=V f x c0;have bE:=V f x c1;have b9:=bF f x cf;have bH:=bF f x cg;have bG:(av.setCell ⟨yb,0,none⟩ (.slice r q s)).cell? ⟨yb,1,none⟩=some (.slice (some ⟨a4,0,none⟩) l bh):=celN (by omega) bE;clear ae ah Z o;have bq:(Value.slice r q s).ownBlock≠some yb:=fun e=>by have:=((I bb).lt yb e).1;omega
     have au:bB.ownBlock≠some yb:=fun e=>by have:=((I ai).lt yb e).1;omega
     have cA:=O bq;have bf:=O au;have bR:Hid ((av.setCell ⟨yb,0,none⟩ (.slice r q s)).ownsRow wr.1.size 133 2 bB _ _):=O (ZH (I ai) (a:=⟨yb,0,none⟩) au (.slice r q s));have bO:Hid (∀P N,(k<l->P=some ⟨a4,k*2,none⟩)->Src (av.setCell ⟨yb,0,none⟩ (.slice r q s)) (.slice P (l-k) N) (l-k) 2 ((Ye qs).drop (k*2))):=O (fun P N bt=>by
      have n:=(Ja4 (I bg) k P N bp bt).below f;obtain⟨b8,bT,e,b2,bV⟩:=n;refine⟨b8,bT,e,b2,fun ak=>?_⟩;obtain⟨b,bz,bi,a7,S⟩:=bV ak;injection e with j _ _;rw[bi,bt (by omega)]at j;injection j with j;injection j with j _ _;have bZ:b≠yb:=fun bU=>by
       have:=(ax.vY a4 (by
        have:=ax.c1;rw[(bI.cell (p:=⟨yb,1,none⟩) cq)]at c1;rw[c1]at this;injection this with this;rw[<-this];rfl)).2.1
       exact this (j.trans bU)
      exact⟨b,bz,bi,by simpa using a7,fun d u c=>(FZ _ _ _ _ (by intro aj;injection aj with aj;exact bZ aj.symm)).trans (S d u c)⟩)
     clear bq au;go_wp2_with (at_builtin;refine Jy Me az (I aX) (I aY) (I aZ) rfl (by decide) rfl _ _ rfl (B:=wr.1.size) (k:=l-k) (ys:=(Ye qs).drop (k*2)) (I bR) (by exact I bO _ _ (fun h=>by first|(exfalso;have:=I bc;omega)| simp)) (fun u c=>Xx (I bJ) u (ZX c)) (by unfold maxLen;omega) (by omega) (by have:=f.size;simpa using this) rfl rfl ?_)
     all_goals
      intro bt bV aj j bi;obtain⟨bT,bz,bU,rfl⟩:=Vc aj;have a7:=Jik ax (I cc) k (by rw[aa];exact aq) t (.slice L K sc) (.slice H D C) a ca bI f (by rw[aa];simpa using I bb) bM _ _ (I ai) (by rw[I cb];simpa using aj) j (by simpa using bi);have bZ:=(WA (j.block yb (by simp;have:=f.size;omega) (fun e=>(I bf) e.symm))).trans bG;have b2:bV.frozen? ⟨yb,1,none⟩=false:=(NI (a:=⟨yb,1,none⟩) (j.block yb (by simp;have:=f.size;omega) (fun e=>(I bf) e.symm))).trans (by rw[NA];exact bH);clear aj j bi aw bE b9 bH bG;go_wp2_with fail;refine MI (v:=.tuple #[]) (by simp[results,results67,go_sem]) rfl ⟨rfl,⟨.slice r q s,.slice bT bz bU,insA qs k (.slice L K sc,.slice H D C),?_⟩,a7.2⟩;rw[I be];exact a7.1
   .have be:=O (b3 a5);clear b3 b4;go_wp2_with fail;go_roundw
    case rel=>exact⟨k+1,by go_num,by omega,I be,(by first|rfl|trivial)⟩
    case measure=>simp[intOf];omega
  .have be:=O (I bQ a8);have a5:¬ (k:Int)<(A:Int):=by omega
   have bp:k<=l:=by have:=I bc;omega
   have cy:=FQ wr.1.size wr;have cI:(k:Int)<=(cap:Int):=by omega
   have cJ:(k:Int)<=(bh:Int):=by omega
   have cK:(k:Int)<=(A:Int):=by omega
   have cL:(k:Int)<=(l:Int):=by omega
   have cx:(0:Int)<=(k:Int):=by omega
   clear bQ bP ba;go_wp2_with (at_builtin;refine Jy JB ay (I aU) (I aV) (I aW) rfl (by decide) rfl _ _ rfl (B:=wr.1.size) (NW _ _ _ _) (Ja2 (I bd) k aq) ?c1 ?c2 ?c3 aT rfl rfl ?_)
   case c1=>exact fun u c=>Jec ns u (ZM c)
   case c2=>unfold maxLen;omega
   case c3=>omega
   intro n1 b5 bu bo bY;have al:=aS.grown bo aT (fun g j=>by cases j);have ab:=bu;have y:=al;have d1:=V al x c1;clear bu bo bY al;go_wp2_with (at_builtin;refine Jy Me az (I aX) (I aY) (I aZ) rfl (by decide) rfl _ _ rfl (B:=wr.1.size) (NW _ _ _ _) ((Ja2 (I bg) k bp).below y) ?c1 ?c2 ?c3 y.size rfl rfl ?_)
   case c1=>exact fun u c=>Xx (I bJ) u (ZM c)
   case c2=>unfold maxLen;omega
   case c3=>omega
   intro cN Q bv am bj;have ac:=Yw (v:=.slice none 0 0) ab am (Jaa _);have W:=Zy ab (Jaa _) bj;have af:=O bv;have z:=y.grown am y.size (fun g j=>by cases j);clear bv am bj d1 ab y;go_wp2_with (at_builtin;refine Jy JB ay (I aU) (I aV) (I aW) rfl (by decide) rfl _ _ rfl (B:=wr.1.size) (k:=1) (ys:=[.string t]) (Jf ac (aS.alloc aT _)) ?c0 ?c1 ?c2 ?c3 ?c4 rfl rfl ?_)
   case c0=>exact⟨_,1,rfl,rfl,fun _=>⟨Q.1.size,0,rfl,by simp,fun d u c=>by
    match d,c with
    | 0,c=>simp at c;subst c;simp⟩⟩
   case c1=>exact fun u c=>by simp at c;subst c;rfl
   case c2=>unfold maxLen;omega
   case c3=>omega
   case c4=>have:=z.size;simp;omega
   intro n3 R bw an bl;have i:Below Q.1.size Q (Q.alloc (.cells #[.string t] 9)):=aS.alloc aT _;have ag:=O (Yw (Jf (I af) i) an W.symm);have X:=Zy (Jf (I af) i) W.symm (by simpa using bl);have ad:=bw;have m:=(z.trans (i.mono z.size)).grown an (by have:=z.size;simp;omega) (fun g j=>(ac.lt g j).1);clear bw an bl i;have b6:=V m bK b0;have b7:=V m bK b1;clear ac af W z;go_wp2_with (at_builtin;refine Jy Me az (I aX) (I aY) (I aZ) rfl (by decide) rfl _ _ rfl (B:=wr.1.size) (k:=1) (ys:=[.slice L K sc,.slice H D C]) (Jf (I ag) (aS.alloc aT _)) ?c0 ?c1 ?c2 ?c3 ?c4 rfl rfl ?_)
   case c0=>exact⟨_,1,rfl,rfl,fun _=>⟨R.1.size,0,rfl,by simp,fun d u c=>by
    match d,c with
    | 0,c=>simp at c;subst c;simp
    | 1,c=>simp at c;subst c;simp⟩⟩
   case c1=>exact fun u c=>by simp at c;rcases c with rfl|rfl<;>rfl
   case c2=>unfold maxLen;omega
   case c3=>omega
   case c4=>have:=m.size;simp;omega
   intro bB cO bx ao bm;have i:Below R.1.size R (R.alloc (.cells #[.slice L K sc,.slice H D C] 133)):=aS.alloc aT _;have ae:=O (Yw (Jf ad i) ao X.symm);have Z:=Zy (Jf ad i) X.symm (by simpa using bm);have ah:=O bx;have o:=(m.trans (i.mono m.size)).grown ao (by have:=m.size;simp;omega) (fun g j=>((I ag).lt g j).1);clear bx ao bm i b6 b7;have aw:=V o x c0;clear ad ag X m;go_wp2_with (at_builtin;refine Jy JB ay (I aU) (I aV) (I aW) rfl (by decide) rfl _ _ rfl (B:=wr.1.size) (k:=A-k) (ys:=(ns.map Value.string).drop (k*1)) (I ae) (by exact(Ja4 (I bd) k _ _ aq (fun h=>by first|(exfalso;omega)| simp)).below o) (fun u c=>Jec ns u (ZX c)) (by unfold maxLen;omega) (by omega) o.size rfl rfl ?_)
   all_goals
    intro cM av ar ap bn;obtain⟨r,q,s,rfl⟩:=Vc ar;have ai:=O (Yw (I ah) ap Z.symm);have bM:=Zy (I ah) Z.symm bn;have bb:=O ar;have f:=o.grown ap o.size (fun g j=>((I ae).lt g j).1);clear ar ap bn aw;have aw:=V f x c0;have bE:=V f x c1;have b9:=bF f x cf;have bH:=bF f x cg;have bG:(av.setCell ⟨yb,0,none⟩ (.slice r q s)).cell? ⟨yb,1,none⟩=some (.slice (some ⟨a4,0,none⟩) l bh):=celN (by omega) bE;clear ae ah Z o;have bq:(Value.slice r q s).ownBlock≠some yb:=fun e=>by have:=((I bb).lt yb e).1;omega
    have au:bB.ownBlock≠some yb:=fun e=>by have:=((I ai).lt yb e).1;omega
    have cA:=O bq;have bf:=O au;have bR:Hid ((av.setCell ⟨yb,0,none⟩ (.slice r q s)).ownsRow wr.1.size 133 2 bB _ _):=O (ZH (I ai) (a:=⟨yb,0,none⟩) au (.slice r q s));have bO:Hid (∀P N,(k<l->P=some ⟨a4,k*2,none⟩)->Src (av.setCell ⟨yb,0,none⟩ (.slice r q s)) (.slice P (l-k) N) (l-k) 2 ((Ye qs).drop (k*2))):=O (fun P N bt=>by
     have n:=(Ja4 (I bg) k P N bp bt).below f;obtain⟨b8,bT,e,b2,bV⟩:=n;refine⟨b8,bT,e,b2,fun ak=>?_⟩;obtain⟨b,bz,bi,a7,S⟩:=bV ak;injection e with j _ _;rw[bi,bt (by omega)]at j;injection j with j;injection j with j _ _;have bZ:b≠yb:=fun bU=>by
      have:=(ax.vY a4 (by
       have:=ax.c1;rw[(bI.cell (p:=⟨yb,1,none⟩) cq)]at c1;rw[c1]at this;injection this with this;rw[<-this];rfl)).2.1
      exact this (j.trans bU)
     exact⟨b,bz,bi,by simpa using a7,fun d u c=>(FZ _ _ _ _ (by intro aj;injection aj with aj;exact bZ aj.symm)).trans (S d u c)⟩)
    clear bq au;go_wp2_with (at_builtin;refine Jy Me az (I aX) (I aY) (I aZ) rfl (by decide) rfl _ _ rfl (B:=wr.1.size) (k:=l-k) (ys:=(Ye qs).drop (k*2)) (I bR) (by exact I bO _ _ (fun h=>by first|(exfalso;have:=I bc;omega)| simp)) (fun u c=>Xx (I bJ) u (ZX c)) (by unfold maxLen;omega) (by omega) (by have:=f.size;simpa using this) rfl rfl ?_)
    all_goals
     intro bt bV aj j bi;obtain⟨bT,bz,bU,rfl⟩:=Vc aj;have a7:=Jik ax (I cc) k (by rw[aa];exact aq) t (.slice L K sc) (.slice H D C) a ca bI f (by rw[aa];simpa using I bb) bM _ _ (I ai) (by rw[I cb];simpa using aj) j (by simpa using bi);have bZ:=(WA (j.block yb (by simp;have:=f.size;omega) (fun e=>(I bf) e.symm))).trans bG;have b2:bV.frozen? ⟨yb,1,none⟩=false:=(NI (a:=⟨yb,1,none⟩) (j.block yb (by simp;have:=f.size;omega) (fun e=>(I bf) e.symm))).trans (by rw[NA];exact bH);clear aj j bi aw bE b9 bH bG;go_wp2_with fail;refine MI (v:=.tuple #[]) (by simp[results,results67,go_sem]) rfl ⟨rfl,⟨.slice r q s,.slice bT bz bU,insA qs k (.slice L K sc,.slice H D C),?_⟩,a7.2⟩;rw[I be];exact a7.1
theorem Ja3(xo)(c):Src w (E xo 0 c) 0 size []:=⟨xo,c,rfl,by simp,fun h=>absurd h (by omega)⟩
theorem Juj(h:RDk Y yb F nv vv [] [] zs w)(hY:∀b,w.1.size<=b->Y b)(t)(v)(a)(hA:IsArr (fun b=>Y b/\b≠yb/\vv.ownBlock≠some b) w v a):
 Calls prog 67 #[aJ yb 0,aE t,v] w fun e w'=>e=aD (.tuple #[])/\(∃nv' vv' qs',RDk Y yb F nv' vv' (insA [] 0 t) qs' (insA zs 0 a) w')/\Bs (fun b=>b=yb) w w':=by
 obtain⟨bu,K,P,Q,R⟩:=NY GQ;obtain⟨bv,L,S,T,W⟩:=NY GR;obtain⟨aW,cap,al,br⟩:=h.txts;obtain⟨bh,aX,ba,-⟩:=h.vals;have a4:=hA;obtain⟨p,o,sc,l,j,i,rfl,-,-⟩:=hA;have H:J w (w.alloc (.cells (aL p o sc l j i) 133)):=belA1;generalize hw0:(w.alloc (.cells (aL p o sc l j i) 133))=wr at H;have m:=h.below H;have b0:wr.cell? (adP0 w)=some (E p o sc):=by rw[<-hw0];simp
 have b1:wr.cell? (adP1 w)=some (E l j i):=by rw[<-hw0];simp
 have au:w.1.size<wr.1.size:=by rw[<-hw0];simp
 have aU:Calls prog 89 #[aJ yb 0,aE t] wr fun bg w'=>bg=aD (G (-1))/\w'=wr:=Fh wr yb t aW 0 cap [] m.lt (by have:=m.c0;rw[al]at this;exact this) rfl (fun c=>absurd c (by simp)) (by omega);have c0:=m.c0;have c1:=m.c1;rw[al]at c0;rw[ba]at c1;simp only[YT]at c0 c1;have r:=m.lt;have aY:=m.fr 0;have aZ:=m.fr 1;have bt:=h.lt;go_enter func67,ntmps67;go_wp2_with fail;try rw[hw0]
 refine aR aU fun ax bb=>?_;subst bb;go_wp2_with fail;go_loopw [7] (fun aw c=>aw=G 0/\c=ax) (fun _ _=>0)
 .exact ⟨rfl,rfl⟩
 obtain⟨rfl,bc⟩:=hrel;subst bc;have bn:=FQ wr.1.size wr;go_wp2_with (at_builtin;refine Jy JB K P Q R rfl (by decide) rfl _ _ rfl (B:=wr.1.size) (NW _ _ _ _) (Ja3 _ _) ?c1 ?c2 ?c3 aT rfl rfl ?_)
 case c1=>exact fun u c=>by simp at c
 case c2=>unfold maxLen;omega
 case c3=>omega
 intro n1 ax am a9 bo;have s:=aS.grown a9 aT (fun g d=>by cases d);have d1:=V s r c1;go_wp2_with (at_builtin;refine Jy Me L S T W rfl (by decide) rfl _ _ rfl (B:=wr.1.size) (NW _ _ _ _) ((Ja3 _ _).below s) ?c1 ?c2 ?c3 s.size rfl rfl ?_)
 case c1=>exact fun u c=>by simp at c
 case c2=>unfold maxLen;omega
 case c3=>omega
 intro bA X an ah a5;have ae:=Yw (v:=M) am ah (Jaa _);have aa:=Zy am (Jaa _) a5;have A:=s.grown ah s.size (fun g d=>by cases d);go_wp2_with (at_builtin;refine Jy JB K P Q R rfl (by decide) rfl _ _ rfl (B:=wr.1.size) (k:=1) (ys:=[aE t]) (Jf ae (belA1)) ?c0 ?c1 ?c2 ?c3 ?c4 rfl rfl ?_)
 case c0=>exact⟨_,1,rfl,rfl,fun _=>⟨X.1.size,0,rfl,by simp,fun d u c=>by
  match d,c with
  | 0,c=>simp at c;subst c;simp⟩⟩
 case c1=>exact fun u c=>by simp at c;subst c;rfl
 case c2=>unfold maxLen;omega
 case c3=>omega
 case c4=>have:=A.size;simp;omega
 intro n3 Z ao ai a6;have n:J X (X.alloc (.cells #[aE t] 9)):=belA1;have ag:=Yw (Jf an n) ai aa.symm;have ab:=Zy (Jf an n) aa.symm (by simpa using a6);have q:=(A.trans (n.mono A.size)).grown ai (by have:=A.size;simp;omega) (fun g d=>(ae.lt g d).1);have bD:=V q au b0;have bE:=V q au b1;go_wp2_with (at_builtin;refine Jy Me L S T W rfl (by decide) rfl _ _ rfl (B:=wr.1.size) (k:=1) (ys:=(aM p o sc l j i)) (Jf ag (belA1)) ?c0 ?c1 ?c2 ?c3 ?c4 rfl rfl ?_)
 case c0=>exact⟨_,1,rfl,rfl,fun _=>⟨Z.1.size,0,rfl,by simp,fun d u c=>by
  simp;omega⟩⟩
 case c1=>exact fun u c=>by simp at c;rcases c with rfl|rfl<;>rfl
 case c2=>simp[maxLen]
 case c3=>omega
 case c4=>have:=q.size;simp;omega
 intro av bB ap aj a7;have n:J Z (Z.alloc (.cells (aL p o sc l j i) 133)):=belA1;have af:=Yw (Jf ao n) aj ab.symm;have ac:=Zy (Jf ao n) ab.symm (by simpa using a7);have C:=(q.trans (n.mono q.size)).grown aj (by have:=q.size;simp;omega) (fun g d=>(ag.lt g d).1);have bj:=V C r c0;go_wp2_with (at_builtin;refine Jy JB K P Q R rfl (by decide) rfl _ _ rfl (B:=wr.1.size) (k:=0) (ys:=[]) af (by exact Ja3 _ _) (fun u c=>by simp at c) (by simp[maxLen]) (by omega) C.size rfl rfl ?_)
 all_goals
  intro bw ay aq ak a8;obtain⟨y,x,z,rfl⟩:=Vc aq;have D:=Yw ap ak ac.symm;have az:=Zy ap ac.symm a8;have f:=C.grown ak C.size (fun g d=>(af.lt g d).1);have bj:=V f r c0;have bl:=V f r c1;have bG:=bF f r aY;have bH:=bF f r aZ;have bm:(ay.setCell (U yb 0) (E y x z)).cell? (U yb 1)=some (E bh 0 aX):=celN (by omega) bl;have bq:(Value.slice y x z).ownBlock≠some yb:=fun e=>by have:=(aq.lt yb e).1;omega
  have N:av.ownBlock≠some yb:=fun e=>by have:=(D.lt yb e).1;omega
  have aV:(ay.setCell (U yb 0) (E y x z)).ownsRow wr.1.size 133 2 av _ _:=ZH D (a:=U yb 0) N (E y x z);go_wp2_with (at_builtin;refine Jy Me L S T W rfl (by decide) rfl _ _ rfl (B:=wr.1.size) (k:=0) (ys:=[]) aV (by exact Ja3 _ _) (fun u c=>by simp at c) (by simp[maxLen]) (by omega) (by have:=f.size;simp;omega) rfl rfl ?_)
  all_goals
   intro aw bi ar d bp;obtain⟨be,bd,bf,rfl⟩:=Vc ar;have ad:=Jik h hY 0 aT t (E p o sc) (E l j i) a a4 H f (by simp;omega) az _ _ D (by simpa[Ye]using ar) d (by omega);have bx:=(WA (d.block yb (by simp;have:=f.size;omega) (fun e=>N e.symm))).trans bm;have bz:bi.frozen? (U yb 1)=false:=(NI (a:=U yb 1) (d.block yb (by simp;have:=f.size;omega) (fun e=>N e.symm))).trans (by simp;omega);go_wp2;refine MI (v:=.tuple #[]) (by simp[results]) rfl ⟨rfl,⟨E y x z,E be bd bf,insA [] 0 (E p o sc,E l j i),?_⟩,ad.2⟩;exact ad.1
theorem Kj(P)(w)(hP:∀b,w.1.size<=b->P b)(v)(xs)(h:Nums P w v xs):
 Calls prog 131 #[v] w fun e w'=>∃so sn sc co cn cc,e=aD (aK so sn sc co cn cc)/\IsArr P w' (aK so sn sc co cn cc) ⟨[xs.length],xs⟩/\J w w':=by
 have a:=h;obtain⟨c,cap,rfl,_,_⟩:=h;go_enter func131,ntmps131;go_wp2;refine FR (by simp[results,results131,go_sem];try rfl) rfl ?_;refine⟨_,_,_,_,_,_,rfl,⟨_,_,_,_,_,_,rfl,Fk (by simp) (hP _ (by omega)),?_⟩,?_⟩
 .exact a.below (belA2)
 exact belA2
def Ve(sh:List Nat):Nat:=if sh.length=0 then 1 else Jq sh
theorem Jbf:∀{l:List Nat} (h:l.length≠0),l[l.length-1]'(by omega)=Jq l
 | [],h=>absurd rfl h
 | [x],_=>rfl
 | x::y::l,_=>by
  have:=Jbf (l:=y::l) (by simp);simp_all[Jq]
theorem Vl(w)(so)(sn sc)(co)(cn cc)(a:Arr)(h:Nums P w (E so sn sc) (a.shape.map Int.ofNat))(hr3:a.shape.length<=3):
 Calls prog 164 #[aK so sn sc co cn cc] w fun e w'=>e=aD (G (Ve a.shape))/\w'=w.alloc (.cells (aL so sn sc co cn cc) 133):=by
 obtain⟨m,b⟩:=nm (Ve a.shape);rw[b];have f:=Je h;simp at f;unfold Ve at b;by_cases c:a.shape.length=0
 .rw [FY c]at b;subst b;rw[c]at f;subst f;go_enter func164,ntmps164;go_wp2;go_ret;simp
 rw[FU c]at b;obtain⟨g,i,rfl,n,d,l⟩:=h.at (k:=a.shape.length-1) (by simp;omega);simp only[YJ]at d;rw[Jbf c,b,<-f]at d;have:g<w.1.size+1:=by omega
 have:((sn:Int)== 0)=false:=by simp;omega
 have j:IntKind.i64.wrap ((sn:Int)-1)=((sn-1:Nat):Int):=by rw[Jg (by omega) (by omega)];omega
 generalize hk:sn-1=k at j d;have:(0:Int)<=k:=by omega
 have:(k:Int)<sn:=by omega
 have:(w.alloc (.cells #[aI g i sn sc,E co cn cc] 133)).cell? (U g (i+k))=some (G (Int.ofNat m)):=by
  rw[WA (a:=U g (i+k)) (NB _ _ _ (by omega))];exact d
 clear b c f h l hk d;go_enter func164,ntmps164;go_wp2;go_ret;simp
theorem Fe(w)(so)(sn sc)(sh)(h:Nums Q w (E so sn sc) (sh.map Int.ofNat))(hl:Lens sh):
 Calls prog 161 #[E so sn sc] w fun e w'=>e=aD (G (if Yb sh=true then(Jd sh:Int)else -1))/\w'=w:=by
 have c:=Je h;simp at c;have:sn<=3:=by have:=hl.rank;omega
 have g:=c;have A:=h;obtain⟨z,K⟩:=nm (if Yb sh=true then(Jd sh:Int)else -1);rw[K];go_enter func161,ntmps161;go_wp2_with fail;go_loopw [4,5] (fun b a wr=>∃k:Nat,a=G k/\b=.bool ((sh.take k).any (fun n=>decide (n=0)))/\(∀n ∈ sh.take k,n<=64)/\k<=sn/\wr=w) (fun _ a _=>sn-(intOf a).toNat)
 .exact ⟨0,rfl,rfl,by simp,by omega,rfl⟩
 obtain⟨k,rfl,rfl,m,P,u⟩:=hrel;have x:=u.symm;subst x;by_cases q:k<sn
 .have i:k<sh.length:=by rw[<-g];exact q
  obtain⟨C,N,rfl,D,f,-⟩:=A.at (k:=k) (by simp;omega);simp at f;have p:=NG i;have d:=ND i;generalize l:sh[k]=b at f p d;have F:(0:Int)<=k:=by omega
  have H:(k:Int)<sn:=by omega
  obtain⟨y,j⟩:=nm ((sh.take k).any (fun n=>decide (n=0)));rw[j];by_cases t:64<b
  .have o:(64:Int)<b:=by omega
   have a:Yb sh=false:=by
    unfold Yb;rw[Mx];left;rw[List.all_eq_false];exact⟨b,d,by simp;omega⟩
   have o:(64:Int)<b:=by omega
   go_wp2;go_ret;simp_all
  have o:¬ ((64:Int)<b):=by omega
  cases y
  .by_cases a:b=0;have s:=a;have r:((b:Int)== 0)=true:=by simp[a]
   rotate_left;have r:((b:Int)== 0)=false:=by simp[a]
   all_goals
    go_wp2;go_roundw
    .exact ⟨k+1,by go_num,(by simp_all),(by grind[I]),by omega,(by simp)⟩
    simp[intOf];omega
  go_wp2;go_roundw
  .exact ⟨k+1,by go_num,(by simp_all),(by grind[I]),by omega,(by simp)⟩
  simp[intOf];omega
 have p:k=sn:=by omega
 subst p;have o:=NJ (by rw[<-g];exact FP _);rw[o]at m⊢;obtain⟨y,j⟩:=nm (sh.any (fun n=>decide (n=0)));rw[j];cases y
 .go_wp2_with fail;go_loopw [3,6] (fun d b wr=>∃a:Nat,b=G a/\d=G (Jd (sh.take a))/\a<=k/\wr=w) (fun _ b _=>k-(intOf b).toNat)
  .exact ⟨0,rfl,by simp[Jd],by omega,rfl⟩
  obtain⟨a,rfl,rfl,R,u⟩:=hrel;have x:=u.symm;subst x;by_cases q:a<k
  .have i:a<sh.length:=by rw[<-g];exact q
   obtain⟨C,N,rfl,D,f,-⟩:=A.at (k:=a) (by simp;omega);simp at f;have t:=Jdm i;have r:=(hl.take (a+1)).prod;obtain⟨d,s⟩:=nm (Jd (sh.take a));obtain⟨L,B⟩:=nm (Jd (sh.take (a+1)));obtain⟨b,l⟩:=nm (sh[a]);rw[s,B,l]at t;rw[B]at r;rw[l]at f;rw[s];have:IntKind.i64.wrap ((d:Int)*(b:Int))=(L:Int):=by
    rw[<-MC,<-t];exact Jg (by omega) (by omega)
   have F:(0:Int)<=a:=by omega
   have H:(a:Int)<k:=by omega
   clear t r s l;go_wp2;go_roundw
   .grind
   simp[intOf];omega
  have p:a=k:=by omega
  subst p;have o:=NJ (by rw[<-g];exact FP _);rw[o];have i:sh.all (fun n=>decide (n<=64))=true:=by rw[YL];intro n c;simpa using I m n c
  by_cases f:Jd sh<=64
  .have b:Hid (z=(Jd sh:Int)):=O (by
    simp_all[Yb])
   generalize r:Jd sh=d at f b⊢;have l:¬ ((64:Int)<d):=by omega
   go_wp2;exact FR (v:=G d) (by simp[results]) rfl ⟨by rw[b],(by simp)⟩
  have b:Hid (z=-1):=O (by
   simp_all[Yb])
  generalize Jd sh=d at f⊢;have l:(64:Int)<d:=by omega
  go_wp2;exact FR (v:=G (-1)) (by simp[results]) rfl ⟨by rw[b],(by simp)⟩
 have b:Hid (z=0):=O (by
  have i:sh.all (fun n=>decide (n<=64))=true:=by rw[YL];intro n c;simpa using I m n c
  have d:Jd sh=0:=by
   obtain⟨n,c,a⟩:=YX.1 j;have a:n=0:=by simpa using a
   subst a;rcases ZB (Jd sh)with h|h
   .exact h
   exact absurd (X5 h 0 c) (by omega)
  simp_all[Yb])
 go_wp2;exact FR (v:=G 0) (by simp[results]) rfl ⟨by rw[b],(by simp)⟩
theorem Below.drewN(h:Below n w w')(k):Below n w (w'.drewN k):=⟨h.os,h.tape,h.output,h.size,h.block⟩
theorem Jbz(w)(so)(sn sc)(so2)(sn2 sc2)(xs ys)(h:Nums P w (E so sn sc) xs)(h2:Nums Q w (E so2 sn2 sc2) ys)(hl:xs.length<=400)(hl2:ys.length<=400):
 Calls prog 163 (aL so sn sc so2 sn2 sc2) w fun e w'=>e=aD (.bool (decide (xs=ys)))/\J w w':=by
 have q:=Je h;have r:=Je h2;obtain⟨j,b⟩:=nm (decide (xs=ys));rw[b];by_cases C:xs.length=ys.length
 .have A:sn2=sn:=by omega
  subst A;have:sn2<=400:=by omega
  go_enter func163,ntmps163;go_wp2_with fail;go_loopw [5] (fun a wr=>∃k:Nat,a=G k/\k<=sn2/\xs.take k=ys.take k/\J w wr) (fun a _=>sn2-(intOf a).toNat)
  .exact ⟨0,rfl,by omega,by simp,FQ _ _⟩
  obtain⟨k,rfl,N,s,f⟩:=hrel;have d:=f;by_cases p:k<sn2
  .have n:k<xs.length:=by rw[<-q];exact p
   have o:k<ys.length:=by rw[<-r];exact p
   obtain⟨H,S,rfl,u,y,-⟩:=h.at (k:=k) n;obtain⟨K,T,rfl,x,z,-⟩:=h2.at (k:=k) o;have c1:=V f u y;have t:=V f x z;obtain⟨l,g⟩:=nm (xs[k]);obtain⟨m,i⟩:=nm (ys[k]);rw[g]at c1;rw[i]at t;have:(0:Int)<=k:=by omega
   have B:(k:Int)<sn2:=by omega
   by_cases c:l=m
   .subst c;have a:xs.take (k+1)=ys.take (k+1):=by rw[NG n,NG o,s,g,i]
    go_wp2_with fail;go_quiet (fail);go_wp2_with fail;go_roundw
    .exact ⟨k+1,by go_num,by omega,a,Below.drewN d _⟩
    simp[intOf];omega
   have D:(l == m)=false:=by simp[c]
   have F:(l != m)=true:=by simp[c]
   have a:Hid (j=false):=O (by rw[<-b];simp only[Ml];rintro rfl;exact c (g.symm.trans i));go_wp2_with fail;go_quiet (fail);go_wp2_with fail;exact FR (v:=.bool false) (by simp[results,results163,go_sem]) rfl ⟨by rw[a],Below.drewN d _⟩
  have c:k=sn2:=by omega
  have a:Hid (j=true):=O (by
   rw[<-b];simp only[JM];rwa [NJ (by rw[<-q];omega),NJ (by rw[<-r];omega)]at s)
  have B:¬ (k:Int)<sn2:=by omega
  go_wp2_with fail;exact FR (v:=.bool true) (by simp[results,results163,go_sem]) rfl ⟨by rw[a],d⟩
 have D:((sn:Int)== sn2)=false:=by simp;omega
 have F:((sn:Int) != sn2)=true:=by simp;omega
 have a:Hid (j=false):=O (by rw[<-b];simp only[Ml];rintro rfl;exact C rfl);go_enter func163,ntmps163;go_wp2_with fail;exact FR (v:=.bool false) (by simp[results,results163,go_sem]) rfl ⟨by rw[a],FQ _ _⟩
def Zd:List Nat->List Nat->Nat->Nat
 | s::sh,i::is,n=>Zd sh is (n*s+i)
 | _,_,n=>n
theorem Jb6:∀{sh is:List Nat} {n k:Nat} (h1:k<sh.length) (h2:k<is.length),Zd (sh.take (k+1)) (is.take (k+1)) n=Zd (sh.take k) (is.take k) n*sh[k]+is[k]
 | s::sh,i::is,n,0,_,_=>by simp[Zd]
 | s::sh,i::is,n,k+1,h1,h2=>by
  simp only[JK,Zd,List.getElem_cons_succ];exact Jb6 (by simp_all) (by simp_all)
theorem Jge:∀{sh is:List Nat} {n:Nat},(∀s ∈ sh,s<=400)->(∀i ∈ is,i<=400)->sh.length<=is.length->Zd sh is n<=(n+2)*401 ^ sh.length
 | [],is,n,_,_,_=>by simp[Zd]
 | s::sh,[],n,_,_,h=>by simp at h
 | s::sh,i::is,n,h1,h2,h3=>by
  simp only[Zd,ZN];have a:=h1 s (by simp);have:=h2 i (by simp);have:=Jge (sh:=sh) (is:=is) (n:=n*s+i) (fun x hx=>h1 x (by simp[hx])) (fun x hx=>h2 x (by simp[hx])) (by simp_all);have:n*s<=n*400:=Hk _ a;have:(n*s+i+2)*401 ^ sh.length<=((n+2)*401)*401 ^ sh.length:=NR _ (by omega);grind
theorem Np(w)(so)(sn sc)(so2)(sn2 sc2)(sh is)(h:Nums P w (E so sn sc) (sh.map Int.ofNat))(h2:Nums Q w (E so2 sn2 sc2) (is.map Int.ofNat))(hl:Lens sh)(hl2:∀i ∈ is,i<=400)(hll:sh.length=is.length):
 Calls prog 166 (aL so sn sc so2 sn2 sc2) w fun e w'=>e=aD (G (Zd sh is 0))/\J w w':=by
 have y:=Je h;have z:=Je h2;simp at y z;have F:sn2=sn:=by omega
 subst F;have:sn2<=3:=by have:=hl.rank;omega
 go_enter func166,ntmps166;go_wp2_with fail;go_loopw [5,6] (fun b a wr=>∃k:Nat,a=G k/\b=G (Zd (sh.take k) (is.take k) 0)/\k<=sn2/\J w wr) (fun _ a _=>sn2-(intOf a).toNat)
 .exact ⟨0,rfl,by simp[Zd],by omega,FQ _ _⟩
 obtain⟨k,rfl,rfl,X,f⟩:=hrel;by_cases x:k<sn2
 .have g:k<sh.length:=by rw[<-y];exact x
  have j:k<is.length:=by rw[<-z];exact x
  obtain⟨S,ab,rfl,p,r,-⟩:=h.at (k:=k) (by simp;omega);obtain⟨T,ac,rfl,q,s,-⟩:=h2.at (k:=k) (by simp;omega);have c1:=V f p r;have o:=V f q s;simp at c1 o;have a:=Jb6 (n:=0) g j;have l:=hl.lens _ (ND g);have t:=hl2 _ (ND j);have u:=Jge (sh:=sh.take k) (is:=is.take k) (n:=0) (fun b c=>hl.lens b (ZM c)) (fun b c=>hl2 b (ZM c)) (by simp;omega);have K:401 ^ (sh.take k).length<=401 ^ 3:=Mb (by decide) (by simp;omega);have D:401 ^ 3=64481201:=by decide
  obtain⟨d,A⟩:=nm (Zd (sh.take k) (is.take k) 0);obtain⟨N,L⟩:=nm (Zd (sh.take (k+1)) (is.take (k+1)) 0);obtain⟨b,c⟩:=nm (sh[k]);obtain⟨R,C⟩:=nm (is[k]);rw[c]at c1 l a;rw[C]at o t a;rw[A]at a u⊢;rw[L]at a;have B:d*b<=200000000*400:=Hw (by omega) l;generalize hm:d*b=m at a B;have:IntKind.i64.wrap ((d:Int)*(b:Int))=(m:Int):=by
   rw[<-MC,hm];exact Jg (by omega) (by omega)
  have:IntKind.i64.wrap ((m:Int)+(R:Int))=(N:Int):=by
   rw[Jg (by omega) (by omega)];omega
  have:(0:Int)<=k:=by omega
  have H:(k:Int)<sn2:=by omega
  clear p q r s c C a l t u K D A B hm g j;go_wp2_with fail;go_quiet (fail);go_wp2;go_roundw
  .grind [Below.drewN]
  simp[intOf];omega
 have g:k=sn2:=by omega
 have b:Zd (sh.take k) (is.take k) 0=Zd sh is 0:=by
  rw[NJ (by omega),NJ (by omega)]
 rw[b];have H:¬ (k:Int)<sn2:=by omega
 obtain⟨d,a⟩:=nm (Zd sh is 0);have c:=O a;rw[a];clear a;go_wp2;exact FR (v:=G d) (by simp[results]) rfl ⟨by rw[c],f⟩
end Go.Proofs.YtjobgpahajhbnaaGreatDoor
