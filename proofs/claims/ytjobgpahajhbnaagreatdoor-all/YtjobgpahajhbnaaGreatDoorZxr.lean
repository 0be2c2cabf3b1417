import Derived.Test.YtjobgpahajhbnaaGreatDoorBw
import Derived.Shelf.SlIter.Nil
import Derived.Shelf.SortM.Plain
import Derived.Shelf.SortM.SortNone
import Derived.Ground.GgzProg
import Derived.Ground.SlgmProg
namespace Go.Proofs.YtjobgpahajhbnaaGreatDoor
open Go.RowKit Go.Proofs Go.Maps Go.Shelf Go.Sort Go.Proofs.Tryz
attribute [local go_sem ↓] Go.wp_at_zero Go.wp_at_succ
set_option linter.all false
set_option maxHeartbeats 4000000
set_option maxRecDepth 20000
variable {B K b c f k lb n size κ:Nat} {H:Type} {L:(Nat->Nat)->World->Value->Nat->Value->Prop} {P Q:Nat->Prop} {e t:TypeId} {es xs:List Value} {isT:Bool} {iv v:Value} {m:Int}
theorem GW:(prog.info? 104).map (fun i=>(i.zero,i.size,i.bytes))=some (some (.agg #[aH,aH,aH,aH,G 0]),5,104):=by kernel_rfl
theorem GX:(prog.info? 47).map (fun i=>(i.zero,i.size,i.bytes))=some (some (.agg #[G 0,G 0,aH,aH,G 0]),5,72):=by kernel_rfl
def five(m:Int):List Value:=[.int .i64 0,.int .i64 m,aH,aH,.int .i64 0]
theorem J1v(mk):∀(n i j:Nat),i<n->j<mk.length->(rp mk n)[i*mk.length+j]?=mk[j]?
 | n+1,0,j,_,hj=>by rw[rp,Nat.zero_mul,ZY,ZU hj]
 | n+1,i+1,j,hi,hj=>by
  rw[rp,ZA (by rw[ZG];omega),show(i+1)*mk.length+j-mk.length=i*mk.length+j by rw[ZG];omega];exact J1v mk n i j (by omega) hj
def RpN(P:Nat->Prop)(w:World)(v:Value)(n:Nat)(m:Int):Prop:=∃ao cap,v=.slice ao n cap/\(∀b off,ao=some (U b off)->P b)/\J28 w ao n m
theorem RpN.imp{w:World}(h:RpN P w v n m)(hq:∀b,P b->Q b):RpN Q w v n m:=by
 obtain⟨a,c,d,f,g⟩:=h;exact⟨a,c,d,fun b i e=>hq b (f b i e),g⟩
theorem Jum{w:World}(h:w.ownsRow B e 5 v n (rp (five m) n)):RpN (fun b=>v.ownBlock=some b) w v n m:=by
 have f:=h;obtain⟨q,⟨rfl,j⟩| ⟨d,i,o,rfl,p,r⟩⟩:=h
 .subst j;exact⟨none,0,rfl,(fun b a e=>by cases e),fun h=>absurd h (Nat.lt_irrefl _)⟩
 refine⟨_,i,rfl,fun b a e=>?_,fun _=>⟨d,0,rfl,(f.lt d rfl).2,fun g k=>?_⟩⟩
 .injection e with e;injection e with e _ _;rw[e];rfl
 have a:∀c,c<5->w.cell? (U d (g*5+c))=(five m)[c]?:=fun c l=>(f.cellAt _ (by omega)).trans (J1v (five m) n g c k l);rw[ZY];exact⟨a 0 (by decide),a 1 (by decide),a 2 (by decide),a 3 (by decide),a 4 (by decide)⟩
def ZQ(m:Int)(P:Nat->Prop)(w:World)(L:Value)(j:Nat):Prop:=RpN P w L j m
theorem J3c(m):∀P w L j,World.ownsRow w 0 47 5 L j (rp (five m) j)->(∀b,L.ownBlock=some b->P b)->ZQ m P w L j:=fun _ _ _ _ h hP=>(Jum h).imp hP
structure MkAt (w:World) (B:Nat) (m:Int):Prop where
 lt:B<w.1.size
 m0:w.cell? (U B 0)=some (.int .i64 0)
 m1:w.cell? (U B 1)=some (.int .i64 m)
 m2:w.cell? (U B 2)=some aH
 m3:w.cell? (U B 3)=some aH
 m4:w.cell? (U B 4)=some (.int .i64 0)
theorem MkAt.keep{w w':World}(h:MkAt w B m)(hb:Bs (fun b=>v.ownBlock=some b) w w')(hn:v.ownBlock≠some B):MkAt w' B m :=
 ⟨FT h.lt hb.size,(hb.cell h.lt hn).trans h.m0,(hb.cell h.lt hn).trans h.m1,(hb.cell h.lt hn).trans h.m2,(hb.cell h.lt hn).trans h.m3,(hb.cell h.lt hn).trans h.m4⟩
theorem Jww(A D)(n)(y0 y1 y2 y3 y4 u0 u1 u2 u3 u4:Value)(hA:A.length=n):
 (((((A++y0::y1::y2::y3::y4::D).set n u0).set (n+1) u1).set (n+2) u2).set (n+3) u3).set (n+4) u4=A++u0::u1::u2::u3::u4::D:=by
 subst hA;have e:∀(a:Nat) (L:List Value) (b:Value),(A++L).set (A.length+a) b=A++L.set a b:=fun a L b=>by
  rw[MG _ _ (by omega),JU]
 have c:=e 0;simp only[MQ]at c;rw[c,e,e,e,e];rfl
theorem Jnc{TT T tt:TypeId}{w w1 wr:World}{ao:Option Addr}{cap i:Nat}{H:BkA f TT T tt t 5 lb n iv K k es (E ao k cap) xs w}(h:Lp H (five m) w1 i wr)(hik:i<k):
 ∃g y0 y1 y2 y3 y4,ao=some (U g 0)/\wr.cell? (U g (i*5))=some y0/\wr.cell? (U g (i*5+1))=some y1/\wr.cell? (U g (i*5+2))=some y2/\wr.cell? (U g (i*5+3))=some y3/\wr.cell? (U g (i*5+4))=some y4/\(∀j,wr.frozen? (U g j)=false) /\
 Lp H (five m) w1 (i+1) (((((wr.setCell (U g (i*5)) (G 0)).setCell (U g (i*5+1)) (G m)).setCell (U g (i*5+2)) aH).setCell (U g (i*5+3)) aH).setCell (U g (i*5+4)) (G 0)):=by
 obtain⟨d,s⟩:=h;obtain⟨-,⟨e,-⟩| ⟨g,y,z,x,-⟩⟩:=id d
 .injection e with _ e _;omega
 injection x with p A q;subst p q;have a:(rp (five m) i).length=i*5:=Jf3 (five m) i;have u:(xs.drop (i*5)).length=k*5-i*5:=by rw[Hf,H.v.1]
 obtain⟨y0,y1,y2,y3,y4,b,o⟩:∃y0 y1 y2 y3 y4 b,xs.drop (i*5)=y0::y1::y2::y3::y4::b:=by
  match h:xs.drop (i*5),u with
  | [],a=>simp at a;omega
  | [_],a=>simp at a;omega
  | [_,_],a=>simp at a;omega
  | [_,_,_],a=>simp at a;omega
  | [_,_,_,_],a=>simp at a;omega
  | y0::y1::y2::y3::y4::b,_=>exact⟨y0,y1,y2,y3,y4,b,rfl⟩
 have r:xs.drop ((i+1)*5)=b:=by
  rw[show(i+1)*5=i*5+5 by omega,<-List.drop_drop,o];rfl
 rw[o]at d;have c:∀j,j<5->wr.cell? (U g (i*5+j))=(y0::y1::y2::y3::y4::b)[j]?:=fun j B=>by
  rw[d.cellAt _ (by omega),ZA (by omega),a,JU]
 refine⟨g,y0,y1,y2,y3,y4,rfl,c 0 (by decide),c 1 (by decide),c 2 (by decide),c 3 (by decide),c 4 (by decide),fun j=>d.frozenAt j,?_,Jd1 (Jd1 (Jd1 (Jd1 (Jd1 s))))⟩;have l:=(((((d.stored (i*5) (G 0)).1.stored (i*5+1) (G m)).1.stored (i*5+2) aH).1.stored (i*5+3) aH).1.stored (i*5+4) (G 0)).1;rw[Jww _ _ _ _ _ _ _ _ _ _ _ _ _ a]at l;rw[r,Jf4,M6];exact l
theorem Jhy{w:World}(H:BkA 6 67 104 58 47 5 lb n iv K k es v xs w):
 Calls prog 54 #[aJ lb 2,v] w (BkR 6 104 (ZQ (1001+n:Nat)) (G (1001+n:Nat)) lb (n+1) iv K k es v w):=by
 obtain⟨aa,ab,ax,rfl,aU,-,-⟩:=Yf H.v;have hn:=H.hn;have c0:=H.c0;have ac:=H.fz 2;have af:=H.lt;have hk:=H.hk;have g:Hid ((Value.slice aa k ab).ownBlock≠some w.1.size):=O (fun e=>Nat.lt_irrefl _ (H.v.lt _ e).2);obtain⟨N,A⟩:wrap64 ((n:Int)+1)=((n+1:Nat):Int)/\wrap64 (1000+((n+1:Nat):Int))=((1001+n:Nat):Int):=by unfold wrap64;omega
 have B1:=Bk1.of H (n+1);obtain⟨m,X⟩:=nm (1001+n);generalize hn1:n+1=n1 at N A B1⊢;rw[X]at A⊢;obtain⟨B,l⟩:=nm (w.setCell (U lb 2) (G ((n1:Nat):Int)));have Y:B.1.size=w.1.size:=by rw[<-l];simp
 rw[l]at B1;obtain⟨P,i⟩:=nm (B.alloc (.cells #[G 0,G ((m:Nat):Int),aH,aH,G 0] 47));have T:J B P:=by rw[<-i];exact aS.alloc aT _
 have D:MkAt P w.1.size ((m:Nat):Int):=by
  rw[<-Y,<-i];constructor<;>simp
 have C:=O (B1.below af T);clear hn X hn1 B1 T Y;change Hid _ at i l H;go_enter func54,ntmps54;go_upto_region 2 with fail;try rw[N]
 try rw[A]
 rw[l];rw[i];generalize hMB:w.1.size=MB at D g⊢;clear N A c0 ac hMB l i B;have d0:=C.c;go_wp2_with fail;go_loopw [5] (fun b wr=>∃a:Nat,b=G a/\a<=k/\Lp H (five ((m:Nat):Int)) P a wr) (fun b _=>k-(intOf b).toNat)
 .exact ⟨0,rfl,by omega,C.lp _ _⟩
 obtain⟨a,rfl,aV,d⟩:=hrel;by_cases W:a<k
 .obtain ⟨F,ap,aq,ar,au,av,rfl,f,h,o,R,x,b,y⟩:=Jnc d W;have L:=b (a*5);have Q:=b (a*5+1);have S:=b (a*5+2);have Z:=b (a*5+3);have ad:=b (a*5+4);obtain⟨p,q,r,s,t,u⟩:=D.keep d.2 g;have ae:(0:Int)<=(a:Int):=by omega
  have ag:(a:Int)<(k:Int):=by omega
  have y:=O y;clear d b;go_wp2_with fail;go_roundw
  .exact ⟨a+1,by go_num,by omega,y⟩
  simp[intOf];omega
 have ad:a=k:=by omega
 subst ad;rename World=>w2;have h:=D.keep d.2 g;have f:=C.two H (by decide) d.2;obtain⟨aZ,Z,b⟩:=Stt.start f d.all (G ((m:Nat):Int));have Q:=O f;have R:=f.e;have aw:=f.z;have ae:=f.lt;clear d W d0 f;obtain⟨F,S⟩:=nm w2.1.size;obtain⟨p,q,r,s,t,u⟩:=h.keep b.bs g;have:=h.lt;have:=h.m1;go_upto_region 7 with fail;try rw[Z]
 rw[S]at b;clear Z;go_wp2_with (at_builtin;refine Kg (j:=1) H rfl _ _ rfl rfl (by simp[five,Value.oneCell']) b rfl (by decide) rfl rfl ?_);intro ag am aj x z fz o S1;generalize hW:(x.setCell (U F 1) (E ag am aj))=wB at S1;clear p q r s t u;obtain⟨p,q,r,s,t,u⟩:=h.keep S1.bs g;go_upto_region 8 with fail;try rw[hW]
 clear hW z fz o b;go_wp2_with (at_builtin;refine Kg (j:=2) H rfl _ _ rfl rfl (by simp[five,Value.oneCell']) S1 rfl (by decide) rfl rfl ?_);intro ah an ak x z fz o b;generalize hW:(x.setCell (U F 2) (E ah an ak))=wC at b;clear p q r s t u;obtain⟨p,q,r,s,t,u⟩:=h.keep b.bs g;go_upto_region 9 with fail;try rw[hW]
 clear hW z fz o S1;go_wp2_with (at_builtin;refine Kg (j:=3) H rfl _ _ rfl rfl (by simp[five,Value.oneCell']) b rfl (by decide) rfl rfl ?_);intro ai ao al x z fz o S1;generalize hW:(x.setCell (U F 3) (E ai ao al))=wD at S1;go_upto_region 10 with fail;try rw[hW]
 obtain⟨aq,ar,au,a5,a6,a7⟩:=S1.reads H Q;have ap:=S1.c0;have av:=S1.c4;have:=S1.lt;clear hW z fz o b R aw ae S;change Hid _ at S1;go_region_law (refine Jie H rfl _ _ rfl rfl rfl (J3c m) (by decide) Q rfl S1 rfl rfl ?_;intro aY m c a4 y ay az L;have L:=O L)
 all_goals
  go_wp2_with fail;exact MI (v:=.tuple #[]) (by simp[results,results54,go_sem]) rfl L
structure Pass (Z:Nat->Prop) (col col':Nat->Nat) (w w':World):Prop where
 bs:Bs Z w w'
 same:∀ b,b<w.1.size->¬ Z b->col' b=col b
 low:∀ b,b<w.1.size->Z b->6<=b
def colN(col:Nat->Nat)(n c:Nat)(b:Nat):Nat:=if b<n then col b else c
theorem Kt{col:Nat->Nat}(h:b<n):colN col n c b=col b:=FY h
theorem Ku{col:Nat->Nat}(h:n<=b):colN col n c b=c:=FU (by omega)
theorem Pass.new{col:Nat->Nat}{w w':World}(h:J w w')(c):Pass (fun _=>False) col (colN col w.1.size c) w w' :=
 ⟨Bs.of h,fun _ hb _=>Kt hb,fun _ _ h=>h.elim⟩
section
variable {Z:Nat->Prop} {col col':Nat->Nat} {w w':World}
theorem Pass.block(hp:Pass Z col col' w w')(hz:∀b,b<w.1.size->Z b->col b≠κ)(hb:b<w.1.size)(hc:col b=κ):w'.heap[b]?=w.heap[b]?/\col' b=κ :=
 ⟨hp.bs.block b hb (fun h=>hz b hb h hc),(hp.same b hb (fun h=>hz b hb h hc)).trans hc⟩
theorem RD.pass{yb:Nat}{F:Int}{env:ByteArray->Option Arr}{ns:List ByteArray}(h:RD (fun b=>col b=κ) yb F env ns w)(hp:Pass Z col col' w w')(hz:∀b,b<w.1.size->Z b->col b≠κ):RD (fun b=>col' b=κ) yb F env ns w' :=
 ((h.imp (Y':=fun b=>col b=κ/\b<w.1.size) (fun _ hb hl=>⟨hb,hl⟩)).stay hp.bs.size (fun _ hb hl=>(hp.block hz hl hb.1).1)).imp (fun _ hb _=>(hp.block hz hb.2 hb.1).2)
theorem V6(h:w.ownsRow B t size v n xs)(hc:∀g,v.ownBlock=some g->col g=κ)(hp:Pass Z col col' w w')(hz:∀b,b<w.1.size->Z b->col b≠κ):w'.ownsRow B t size v n xs/\∀g,v.ownBlock=some g->col' g=κ :=
 ⟨Ka h (fun g hg=>(hp.block hz (h.lt g hg).2 (hc g hg)).1),fun g hg=>(hp.block hz (h.lt g hg).2 (hc g hg)).2⟩
end
def LI(col:Nat->Nat)(w:World)(v:Value)(k:Nat)(mv:Value):Prop:=∃m:Int,mv=.int .i64 m/\Nums (fun b=>col b=2) w v (List.replicate k m)
def LT(col:Nat->Nat)(w:World)(v:Value)(k:Nat)(mv:Value):Prop:=∃t,mv=.string t/\TxN (fun b=>col b=2) w v (List.replicate k t)
def LR(col:Nat->Nat)(w:World)(v:Value)(k:Nat)(mv:Value):Prop:=∃m:Int,mv=.int .i64 m/\RpN (fun b=>col b=2\/k=0) w v k m
structure LOk (L:(Nat->Nat)->World->Value->Nat->Value->Prop) (f:Nat) (isT:Bool):Prop where
 pass:∀ {Z col col' w w'},Pass Z col col' w w'->(∀ b,b<w.1.size->Z b->col b≠2)->∀ {v k mv},L col w v k mv->L col' w' v k mv
 yes:∀ {col w v k mv},L col w v k mv->k<=1000000->∃ o p,v=.slice o k p/\YesN f w v mv/\(isT=false->∃ x:Int,mv=.int .i64 x)/\(isT=true->∃ t,mv=.string t)
theorem Nums.pass{Z:Nat->Prop}{col col':Nat->Nat}{w w':World}{xs:List Int}(h:Nums (fun b=>col b=κ) w v xs)(hp:Pass Z col col' w w')(hz:∀b,b<w.1.size->Z b->col b≠κ):Nums (fun b=>col' b=κ) w' v xs :=
 ((h.imp (Q:=fun b=>col b=κ/\b<w.1.size) (fun _ hb hl=>⟨hb,hl⟩)).keep hp.bs.size (fun _ hb hl=>(hp.block hz hl hb.1).1)).imp (fun _ hb _=>(hp.block hz hb.2 hb.1).2)
theorem TxN.pass{Z:Nat->Prop}{col col':Nat->Nat}{w w':World}{xs:List ByteArray}(h:TxN (fun b=>col b=κ) w v xs)(hp:Pass Z col col' w w')(hz:∀b,b<w.1.size->Z b->col b≠κ):TxN (fun b=>col' b=κ) w' v xs:=by
 obtain⟨a,c,f,g⟩:=h;refine⟨a,c,f,fun d=>?_⟩;obtain⟨b,n,e,i,j,m⟩:=g d;obtain⟨k,l⟩:=hp.block hz j i;grind[World.cell?_of_block]
theorem RpN.pass{Z:Nat->Prop}{col col':Nat->Nat}{w w':World}(h:RpN (fun b=>col b=κ\/n=0) w v n m)(hp:Pass Z col col' w w')(hz:∀b,b<w.1.size->Z b->col b≠κ):RpN (fun b=>col' b=κ\/n=0) w' v n m:=by
 obtain⟨a,c,f,j,k⟩:=h;by_cases d:0<n
 .obtain ⟨b,i,e,g,r⟩:=k d;obtain⟨p,q⟩:=hp.block hz g ((j b i e).resolve_right (by omega));refine⟨a,c,f,fun l u o=>?_,fun _=>⟨b,i,e,FT g hp.bs.size,fun t s=>?_⟩⟩
  .simp_all
  grind[World.cell?_of_block]
 exact⟨a,c,f,fun _ _ _=>NO (by omega),fun h=>absurd h d⟩
theorem J3t(k)(m:Int):(List.replicate k m).all (fun x=>x == m)=true:=by simp
theorem li_ok:LOk LI 45 false:=by
 refine⟨fun{Z col col' w w'} b c {v k mv} a=>?_,fun{col w v k mv} a g=>?_⟩
 .obtain ⟨m,e,a⟩:=a;exact⟨m,e,a.pass b c⟩
 obtain⟨m,rfl,a⟩:=a;obtain⟨b,c,d,-⟩:=id a;rw[YI]at d;subst d;refine⟨b,c,rfl,fun w' f=>?_,fun _=>⟨m,rfl⟩,fun a=>by cases a⟩;refine(Jry w' b k c _ m (a.below f) g).mono ?_;simp
theorem Jjc:LOk LI 46 false:=by
 refine⟨li_ok.pass,fun{col w v k mv} a f=>?_⟩;obtain⟨m,rfl,a⟩:=a;obtain⟨b,c,d,-⟩:=id a;rw[YI]at d;subst d;refine⟨b,c,rfl,fun w' e=>?_,fun _=>⟨m,rfl⟩,fun a=>by cases a⟩;refine(Jna w' b k c _ m (a.below e) f).mono ?_;simp
theorem Ji3:LOk LT 47 true:=by
 refine⟨fun{Z col col' w w'} c d {v k mv} a=>?_,fun{col w v k mv} a o=>?_⟩
 .obtain ⟨m,e,a⟩:=a;exact⟨m,e,a.pass c d⟩
 obtain⟨t,rfl,a⟩:=a;obtain⟨c,d,h,j⟩:=a;rw[YI]at h;subst h;refine⟨c,d,rfl,fun w' f=>?_,(fun a=>by cases a),fun _=>⟨t,rfl⟩⟩;refine Jm9 w' c k d t (fun i=>?_) o;obtain⟨b,q,e,-,g,l⟩:=j i;exact⟨b,q,e,FT g f.size,fun p n=>V f g (l p n)⟩
theorem Ji4:LOk LR 48 false:=by
 refine⟨fun{Z col col' w w'} c d {v k mv} a=>?_,fun{col w v k mv} a o=>?_⟩
 .obtain ⟨m,e,a⟩:=a;exact⟨m,e,a.pass c d⟩
 obtain⟨m,rfl,a⟩:=a;obtain⟨f,g,rfl,-,j⟩:=a;refine⟨f,g,rfl,fun w' c=>?_,fun _=>⟨m,rfl⟩,fun a=>by cases a⟩;refine Jha w' f k g m (fun i=>?_) o;obtain⟨b,q,e,d,l⟩:=j i;refine⟨b,q,e,FT d c.size,fun p n=>?_⟩;obtain⟨a0,a1,a2,a3,h⟩:=l p n;exact⟨V c d a0,V c d a1,V c d a2,V c d a3,V c d h⟩
structure BRow (L:(Nat->Nat)->World->Value->Nat->Value->Prop) (e:TypeId) (κ:Nat) (col:Nat->Nat) (w:World) (v:Value) (K:Nat) (es:List Value):Prop where
 own:w.ownsRow 0 e 5 v K es
 blk:∀ g,v.ownBlock=some g->col g=κ
 ent:∀ i,i<K->∃ a b c d mv k,es[i*5]?=some a/\es[i*5+1]?=some b/\es[i*5+2]?=some c/\es[i*5+3]?=some d/\es[i*5+4]?=some mv/\L col w a k mv/\L col w b (k+1) mv/\L col w c (k+2) mv/\L col w d (k+3) mv/\k<=900000
theorem BRow.pass(hL:LOk L f isT){Z:Nat->Prop}{col col':Nat->Nat}{w w':World}(h:BRow L e κ col w v K es)(hp:Pass Z col col' w w')(h2:∀b,b<w.1.size->Z b->col b≠2)(hk:∀b,b<w.1.size->Z b->col b≠κ):BRow L e κ col' w' v K es:=by
 obtain⟨n,o⟩:=V6 h.own h.blk hp hk;refine⟨n,o,fun r p=>?_⟩;obtain⟨a,b,c,d,y,k,g,i,j,l,m,s,t,u,x,q⟩:=h.ent r p;exact⟨a,b,c,d,y,k,g,i,j,l,m,hL.pass hp h2 s,hL.pass hp h2 t,hL.pass hp h2 u,hL.pass hp h2 x,q⟩
theorem BRow.row(hL:LOk L f isT){col:Nat->Nat}{w:World}(h:BRow L e κ col w v K es):RowN f isT w v K:=by
 have a:=h.own;obtain⟨Q,⟨rfl,o⟩| ⟨d,g,H,rfl,ab⟩⟩:=id a
 .exact ⟨none,0,by rw[o],fun h=>by omega⟩
 refine⟨_,g,rfl,fun _=>⟨d,rfl,(a.lt d rfl).2,fun q p=>?_⟩⟩;obtain⟨F,b,c,N,z,k,i,j,l,m,n,r,s,t,u,P⟩:=h.ent q p;obtain⟨R,X,rfl,A,x,y⟩:=hL.yes r (by omega);obtain⟨S,Y,rfl,B,-⟩:=hL.yes s (by omega);obtain⟨T,Z,rfl,C,-⟩:=hL.yes t (by omega);obtain⟨W,aa,rfl,D,-⟩:=hL.yes u (by omega);exact⟨z,⟨_,_,_,_,_,_,_,_,_,_,_,_,(a.cellAt _ (by omega)).trans i,(a.cellAt _ (by omega)).trans j,(a.cellAt _ (by omega)).trans l,(a.cellAt _ (by omega)).trans m,(a.cellAt _ (by omega)).trans n,A,B,C,D⟩,x,y⟩
theorem BRow.snoc(hL:LOk L f isT){Z:Nat->Prop}{col col':Nat->Nat}{w w':World}{v':Value}(h:BRow L e κ col w v K es)(hp:Pass Z col col' w w')(h2:∀b,b<w.1.size->Z b->col b≠2)
 {a b c d mv:Value} (ho:w'.ownsRow 0 e 5 v' (K+1) (es++[a,b,c,d,mv])) (hc:∀g,v'.ownBlock=some g->col' g=κ) (l0:L col' w' a k mv) (l1:L col' w' b (k+1) mv) (l2:L col' w' c (k+2) mv) (l3:L col' w' d (k+3) mv) (hk:k<=900000):BRow L e κ col' w' v' (K+1) (es++[a,b,c,d,mv]):=by
 have:=h.own.1;refine⟨ho,hc,fun j i=>?_⟩;by_cases m:j<K
 .obtain ⟨n,o,p,q,F,z,r,s,t,u,x,A,B,C,D,y⟩:=h.ent j m;have g:∀i,i<5->(es++[a,b,c,d,mv])[j*5+i]?=es[j*5+i]?:=fun i H=>ZU (by omega);have l:=g 0 (by omega);simp only[MQ]at l;exact⟨n,o,p,q,F,z,l.trans r,(g 1 (by omega)).trans s,(g 2 (by omega)).trans t,(g 3 (by omega)).trans u,(g 4 (by omega)).trans x,hL.pass hp h2 A,hL.pass hp h2 B,hL.pass hp h2 C,hL.pass hp h2 D,y⟩
 have m:j=K:=by omega
 subst m;have g:∀i,(es++[a,b,c,d,mv])[j*5+i]?=[a,b,c,d,mv][i]?:=fun i=>by
  rw[ZA (by omega)];congr 1;omega
 have l:=g 0;simp only[MQ]at l;exact⟨a,b,c,d,mv,k,l,g 1,g 2,g 3,g 4,l0,l1,l2,l3,hk⟩
def GY:Go.Shelf.Ren:=⟨fun|7=>41|10=>58|n=>n,fun|23=>87|26=>9|3=>89|28=>85|0=>0|27=>84|33=>93|4=>4|n=>n,fun|n=>n⟩
theorem GZ:Go.Proofs.SlLaysZ.n7 prog GY:={
 mixed:=by kernel_rfl
 f7:=⟨f41.name,by decide,func41.trans (NM some (by kernel_rfl))⟩
 f10:=⟨f58.name,by decide,func58.trans (NM some (by kernel_rfl))⟩
 t0:=Ma
 a0:=isAgg0
 z0:=sizeOf0
 v0:=Mn
 t4:=JZ
 a4:=isAgg4
 z4:=Hn
 v4:=ML
 t23:=Hy
 a23:=isAgg87
 z23:=sizeOf87
 v23:=zeroValue87
 t26:=YY
 a26:=isAgg9
 z26:=PK
 v26:=Mg
 t27:=underlying84
 a27:=isAgg84
 z27:=sizeOf84
 v27:=zeroValue84
 t28:=underlying85
 a28:=isAgg85
 z28:=sizeOf85
 v28:=zeroValue85
 t33:=underlying93
 a33:=isAgg93
 z33:=sizeOf93
 v33:=zeroValue93 }
def FA:Go.Shelf.Ren:=⟨fun|6=>40|8=>56|9=>57|11=>72|13=>74|12=>73|23=>104|24=>91|14=>95|15=>96|16=>97|17=>98|18=>99|19=>100|20=>101|21=>102|22=>103|25=>137|26=>138|27=>139|28=>140|29=>141|30=>142|31=>169|n=>n,fun|26=>9|28=>85|24=>54|0=>0|3=>3|37=>146|48=>177|50=>138|4=>4|40=>181|39=>180|45=>167|5=>5|9=>9|51=>222|55=>226|57=>260|58=>261|33=>93|n=>n,fun|n=>n⟩
theorem FB:Go.Proofs.SlLaysZ.n6 prog FA:={
 mixed:=by kernel_rfl
 f6:=⟨f40.name,by decide,func40.trans (NM some (by kernel_rfl))⟩
 f8:=⟨f56.name,by decide,func56.trans (NM some (by kernel_rfl))⟩
 f11:=⟨f72.name,by decide,func72.trans (NM some (by kernel_rfl))⟩
 t0:=Ma
 a0:=isAgg0
 z0:=sizeOf0
 v0:=Mn
 t24:=JB
 a24:=isAgg54
 z24:=sizeOf54
 v24:=zeroValue54
 t26:=YY
 a26:=isAgg9
 z26:=PK
 v26:=Mg
 t28:=underlying85
 a28:=isAgg85
 z28:=sizeOf85
 v28:=zeroValue85
 i26:=by kernel_rfl }
def FC:Go.Shelf.Ren:=⟨fun|6=>57|8=>74|9=>73|19=>104|20=>91|21=>95|22=>96|23=>97|24=>98|25=>99|26=>100|27=>101|28=>102|29=>103|36=>137|31=>138|32=>139|37=>140|38=>141|39=>142|41=>169|n=>n,fun|27=>54|29=>9|3=>3|32=>146|26=>54|0=>0|44=>177|46=>138|4=>4|36=>181|35=>180|41=>167|5=>5|9=>9|53=>222|57=>226|63=>260|64=>261|n=>n,fun|n=>n⟩
theorem FD:Go.Proofs.SlLaysM.n6 prog FC:={
 mixed:=by kernel_rfl
 f6:=⟨f57.name,by decide,func57.trans (NM some (by kernel_rfl))⟩
 f8:=func74.trans (NM some (by kernel_rfl))
 f9:=⟨f73.name,by decide,func73.trans (NM some (by kernel_rfl))⟩
 f19:=func104.trans (NM some (by kernel_rfl))
 f20:=func91.trans (NM some (by kernel_rfl))
 f21:=⟨f95.name,by decide,func95.trans (NM some (by kernel_rfl))⟩
 f22:=⟨f96.name,by decide,func96.trans (NM some (by kernel_rfl))⟩
 f23:=⟨f97.name,by decide,func97.trans (NM some (by kernel_rfl))⟩
 f24:=⟨f98.name,by decide,func98.trans (NM some (by kernel_rfl))⟩
 f25:=⟨f99.name,by decide,func99.trans (NM some (by kernel_rfl))⟩
 f26:=⟨f100.name,by decide,func100.trans (NM some (by kernel_rfl))⟩
 f27:=⟨f101.name,by decide,func101.trans (NM some (by kernel_rfl))⟩
 f28:=⟨f102.name,by decide,func102.trans (NM some (by kernel_rfl))⟩
 f29:=⟨f103.name,by decide,func103.trans (NM some (by kernel_rfl))⟩
 f31:=func138.trans (NM some (by kernel_rfl))
 f32:=func139.trans (NM some (by kernel_rfl))
 f36:=⟨f137.name,by decide,func137.trans (NM some (by kernel_rfl))⟩
 f37:=⟨f140.name,by decide,func140.trans (NM some (by kernel_rfl))⟩
 f38:=⟨f141.name,by decide,func141.trans (NM some (by kernel_rfl))⟩
 f39:=⟨f142.name,by decide,func142.trans (NM some (by kernel_rfl))⟩
 f41:=⟨f169.name,by decide,func169.trans (NM some (by kernel_rfl))⟩
 t0:=Ma
 a0:=isAgg0
 z0:=sizeOf0
 v0:=Mn
 t3:=MR
 a3:=isAgg3
 z3:=Ht
 v3:=Mf
 t4:=JZ
 a4:=isAgg4
 z4:=Hn
 v4:=ML
 t5:=PL
 a5:=isAgg5
 z5:=sizeOf5
 v5:=zeroValue5
 t9:=YY
 a9:=isAgg9
 z9:=PK
 v9:=Mg
 t26:=JB
 a26:=isAgg54
 z26:=sizeOf54
 v26:=zeroValue54
 t27:=JB
 a27:=isAgg54
 z27:=sizeOf54
 v27:=zeroValue54
 t29:=YY
 a29:=isAgg9
 z29:=PK
 v29:=Mg
 t32:=underlying146
 a32:=isAgg146
 z32:=sizeOf146
 v32:=zeroValue146
 t35:=underlying180
 a35:=isAgg180
 z35:=sizeOf180
 v35:=zeroValue180
 t36:=underlying181
 a36:=isAgg181
 z36:=sizeOf181
 v36:=zeroValue181
 t41:=underlying167
 a41:=isAgg167
 z41:=sizeOf167
 v41:=zeroValue167
 t44:=underlying177
 a44:=isAgg177
 z44:=sizeOf177
 v44:=zeroValue177
 t46:=underlying138
 a46:=isAgg138
 z46:=sizeOf138
 v46:=zeroValue138
 t53:=underlying222
 a53:=isAgg222
 z53:=sizeOf222
 v53:=zeroValue222
 t57:=underlying226
 a57:=isAgg226
 z57:=sizeOf226
 v57:=zeroValue226
 t63:=underlying260
 a63:=isAgg260
 z63:=sizeOf260
 v63:=zeroValue260
 t64:=underlying261
 a64:=isAgg261
 z64:=sizeOf261
 v64:=zeroValue261 }
theorem FE(m):AnyZ.SortsIn prog FA Fence.wide m :=
 ⟨fun blk off cap ss W hH hblk hsz=>YF.2 (AnyM.slices_Sort_string FD blk off cap ss W hH hblk hsz),
  fun p cap W=>YF.2 (AnyM.slices_Sort_string_none FD p cap W)⟩
theorem FF(mb)(W):CallsIn Fence.wide 5 prog 41 #[.map mb] W fun e w'=>e=aD (.func (.func 58) #[] #[aJ W.1.size 0])/\w'=W.alloc (.cells #[.map mb] 87):=
 AnyZ.keys_in GZ Fence.wide 5 trivial rfl mb W
theorem FG(b nn)(D0)(R:Value->Option (DataW H × List MemPlace))(w:World)(hown:w.ownsMap prog 9 R b nn D0)(hmax:Maps.size D0<=maxLen)(hbytes:Maps.size D0*16<=140737488355328):
 CallsIn Fence.wide 5 prog 40 #[.func (.func 58) #[] #[aJ w.1.size 0]] (w.alloc (.cells #[.map (some b)] 87)) fun e w'=>∃(v:Value) (ss:List (List UInt8)),e=aD v/\ss.Perm (strKeys D0) /\
  w'.ownsRow (w.alloc (.cells #[.map (some b)] 87)).1.size 9 1 v ss.length ((ss.mergeSort (fun x y=>decide (x<=y))).map encStr)/\(v=aH↔ss=[])/\Below (w.alloc (.cells #[.map (some b)] 87)).1.size (w.alloc (.cells #[.map (some b)] 87)) w':=by
 have g:=hown.lt;have i:SeqGives Fence.wide 2 prog 58 #[aJ w.1.size 0] encStr (fun ss=>ss.Perm (strKeys D0)) (Maps.size D0) (w.alloc (.cells #[.map (some b)] 87)):=
  AnyZ.keys_gives (ρ:=GY) { GZ with } Fence.wide _ trivial rfl (by omega) w.1.size b nn D0 _ (by simp) (by simp) (by
   obtain⟨es,c,f,a,h,d⟩:=hown;exact⟨es,c,(Below.heap_alloc _ _ b g).trans f,a,h,d⟩)
 exact AnyZ.sorted_in FB Fence.wide 5 trivial trivial trivial trivial rfl (by omega) (FE _) (enters_of func57 (by kernel_rfl) rfl) 58 #[aJ w.1.size 0] trivial (enters_of func58 (by kernel_rfl) rfl) _ _ hmax hbytes _ i
theorem Jqr(db mb nn)(D0)(R:Value->Option (DataW H × List MemPlace))(w:World)(c1:w.cell? (U db 1)=some (.map (some mb)))(hown:w.ownsMap prog 9 R mb nn D0)(hmax:Maps.size D0<=maxLen)(hbytes:Maps.size D0*16<=140737488355328):
 Calls prog 31 #[aJ db 0] w fun e w'=>∃(v:Value) (ss:List (List UInt8)),e=aD v/\ss.Perm (strKeys D0) /\
  w'.ownsRow (w.1.size+1) 9 1 v ss.length ((ss.mergeSort (fun x y=>decide (x<=y))).map encStr)/\J w w':=by
 have a:=O (YF.1 (FG mb nn D0 R w hown hmax hbytes));clear hown hmax hbytes;go_enter func31,ntmps31;go_wp2_with (first|(go_at_call 41;refine aQ (YF.1 (FF _ _)) ?_)| (go_at_call 40;refine a.mono ?_;rintro e w' ⟨v,ss,rfl,b,f,d,c⟩));go_ret;refine⟨v,ss,rfl,b,by simp_all,?_⟩;exact(aS.alloc aT _).trans (c.mono (by simp))
theorem FH(w:World):
 CallsIn Fence.wide 5 prog 40 #[.func (.func 58) #[] #[aJ w.1.size 0]] (w.alloc (.cells #[.map none] 87)) fun e w'=>∃(v:Value) (ss:List (List UInt8)),e=aD v/\ss=[] /\
  w'.ownsRow (w.alloc (.cells #[.map none] 87)).1.size 9 1 v ss.length ((ss.mergeSort (fun x y=>decide (x<=y))).map encStr)/\(v=aH↔ss=[])/\Below (w.alloc (.cells #[.map none] 87)).1.size (w.alloc (.cells #[.map none] 87)) w':=by
 have a:SeqGives Fence.wide 2 prog 58 #[aJ w.1.size 0] encStr (fun ss:List (List UInt8)=>ss=[]) 0 (w.alloc (.cells #[.map none] 87)):=
  AnyZ.keys_gives_nil (ρ:=GY) { GZ with } Fence.wide _ trivial rfl w.1.size _ (by simp) (by simp)
 exact AnyZ.sorted_in FB Fence.wide 5 trivial trivial trivial trivial rfl (by omega) (FE _) (enters_of func57 (by kernel_rfl) rfl) 58 #[aJ w.1.size 0] trivial (enters_of func58 (by kernel_rfl) rfl) _ _ (by omega) (by omega) _ a
theorem Jmr(db)(w)(c1:w.cell? (U db 1)=some (.map none)):
 Calls prog 31 #[aJ db 0] w fun e w'=>e=aD aH/\J w w':=by
 have a:=O (YF.1 (FH w));go_enter func31,ntmps31;go_wp2_with (first|(go_at_call 41;refine aQ (YF.1 (FF _ _)) ?_)| (go_at_call 40;refine a.mono ?_;rintro e w' ⟨v,h,rfl,b,g,d,c⟩));have f:=d.2 b;subst f;go_ret;exact⟨rfl,(aS.alloc aT _).trans (c.mono (by simp))⟩
theorem Jz3(F)(h0:0<=F)(h1:F<=1000)(w):Calls prog 32 #[G F] w fun e w'=>e=aD (.tuple #[aJ w.1.size 0,G 0])/\w'=w.alloc (.cells #[G F,.map none] 91):=by
 go_enter func32,ntmps32;go_wp2;go_ret2;simp
theorem Jsh{F:Int}{w:World}(hE:Evs w):DkF F (fun b=>6<=b/\b<w.1.size) w.1.size env0 0 (w.alloc (.cells #[G F,.map none] 91)):=by
 have c:=hE.1;refine⟨fun _=>False,none,⟨by simp,c,hE.alloc _,by simp,by simp,NL _ _ _ _ rfl,fun a=>a,rfl⟩,fun b a=>absurd a id,fun b a=>⟨a.1,by simp;omega,fun a=>a,by omega,fun a=>by cases a⟩⟩
section
variable {F:Int} {env:ByteArray->Option Arr} {s:ByteArray}
theorem Jr7(h0:0<=F)(he:EnvOk env):EnvOk (envA env F s):=by
 unfold envA;cases h:ans env F s with
 | inl e=>exact he
 | inr x =>
  by_cases a:(Z2 s).size=0
  .simp_all
  simp only[a,if_false];exact he.upd _ (Js9 h0 he h).1
end
structure NumsW (t:TypeId) (P:Nat->Prop) (w:World) (v:Value) (xs:List Int):Prop where
 nums:Nums P w v xs
 soft:∀ b off n c,v=aI b off n c->0<n->∀ i,w.frozen? (U b i)=false
 own:w.ownsRow 0 t 1 v xs.length (xs.map (Value.int .i64))
 blk:∀ g,v.ownBlock=some g->P g
theorem Fl(t)(P)(w):NumsW t P w aH []:=⟨Ym P w,(fun _ _ _ _ h=>by cases h),NW _ _ _ _,fun _ h=>by cases h⟩
theorem NumsW.at_{w:World}{off:Nat}{xs:List Int}(h:NumsW t P w (aI b off n c) xs)(hn:0<n):P b/\b<w.1.size:=by
 obtain⟨a,d,f,_,e,_⟩:=h.nums;grind
theorem Jkm{w w':World}(h:w.ownsRow B t size v n xs)(hk:∀g,v.ownBlock=some g->w'.heap[g]?=w.heap[g]?):w'.ownsRow B t size v n xs:=by
 obtain⟨a,⟨rfl,d⟩| ⟨g,b,c,rfl,f,e,i⟩⟩:=h
 .exact ⟨a,NN ⟨rfl,d⟩⟩
 exact⟨a,NO ⟨g,b,c,rfl,f,(hk g rfl).trans e,i⟩⟩
theorem NumsW.keep{w w':World}{xs:List Int}(h:NumsW t P w v xs)(hs:w.1.size<=w'.1.size)(hb:∀b,P b->b<w.1.size->w'.heap[b]?=w.heap[b]?):NumsW t P w' v xs:=by
 refine⟨h.nums.keep hs hb,fun b j n c e g i=>?_,Jkm h.own (fun d f=>hb d (h.blk d f) (h.own.lt d f).2),h.blk⟩;subst e;obtain⟨f,d⟩:=h.at_ g;rw[NI (a:=U b i) (hb b f d)];exact h.soft b j n c rfl g i
theorem NumsW.below{w w':World}{xs:List Int}(h:NumsW t P w v xs)(hb:J w w'):NumsW t P w' v xs:=h.keep hb.size (fun b _ hl=>hb.block b hl)
theorem NumsW.imp{w:World}{xs:List Int}(h:NumsW t P w v xs)(hq:∀b,P b->b<w.1.size->Q b):NumsW t Q w v xs:=⟨h.nums.imp hq,h.soft,h.own,fun g hg=>hq g (h.blk g hg) (h.own.lt g hg).2⟩
theorem NumsW.set{w:World}{xs:List Int}(h:NumsW t P w v xs){r:Nat}(hr:¬ P r)(i)(u):NumsW t P (w.setCell (U r i) u) v xs :=
 ⟨h.nums.set hr i u,(fun b off n c e hn j=>by rw[NA];exact h.soft b off n c e hn j),Jkm h.own (fun g hg=>FV _ _ _ _ (fun e=>hr (by have:=h.blk g hg;simp_all))),h.blk⟩
theorem Nu{w:World}(h:w.ownsRow B t size v n xs):w.ownsRow 0 t size v n xs:=by
 obtain⟨a,⟨rfl,e⟩| ⟨d,b,c,rfl,g,f⟩⟩:=h
 .exact ⟨a,NN ⟨rfl,e⟩⟩
 exact⟨a,NO ⟨d,b,c,rfl,ZL _,f⟩⟩
theorem Fa{w:World}(h:w.ownsRow B e 1 v n xs):∀b off m c,v=aI b off m c->0<m->∀i,w.frozen? (U b i)=false:=by
 obtain⟨f,⟨rfl,_⟩| ⟨o,cap,d,rfl,g⟩⟩:=h
 .simp
 intro b off m c e p i;injection e with a j k;injection a with a;injection a with a l _;subst a;exact World.ownsRow.frozenAt (n:=n) (cap:=cap) (xs:=xs) ⟨f,.inr ⟨_,cap,d,rfl,g⟩⟩ i
theorem Jw8(P)(w)(hP:∀b,w.1.size<=b->P b)(v)(xs)(h:Nums Q w v xs)(hx:xs.length<=200):
 Calls prog 80 #[v] w fun e w'=>∃so sn sc,e=aD (E so sn sc)/\NumsW 2 P w' (E so sn sc) xs/\J w w':=by
 obtain⟨u,i,rfl,_,y,A⟩:=h;by_cases x:0<xs.length
 .obtain ⟨b,s,rfl,_,_,z⟩:=y x;obtain⟨r,l,o,p,q⟩:=NY VI;refine(VB r (G 0) 1 8 l o p q rfl (by decide) (fun w=>by kernel_rfl) b s xs.length i (xs.map (Value.int .i64)) w (by simp) (by grind[maxLen]) (by omega) ?_ ?_).mono ?_
  .grind
  .intro d c;obtain⟨f,_,rfl⟩:=NZ.1 c;rfl
  rintro e w' ⟨D,rfl,c,_,j⟩;have n:=Fa c;have m:=Jv (P:=P) c hP;obtain⟨d,f,rfl,t⟩:=m;exact⟨d,xs.length,f,rfl,⟨⟨d,f,rfl,t⟩,n,by grind[Nu],fun g k=>hP g (c.lt g k).1⟩,j⟩
 have B:xs=[]:=NK (by omega);subst B;cases u with
 | none =>
  refine aQ (VD 0 i w) ?_;exact⟨none,0,0,rfl,Fl 2 P _,FQ _ _⟩
 | some a =>
  obtain⟨b,s,C⟩:=a;have z:C=none:=A _ rfl;subst z;obtain⟨r,l,o,p,q⟩:=NY VI;refine(VB r (G 0) 1 8 l o p q rfl (by decide) (fun w=>by kernel_rfl) b s 0 i [] w (by simp) (by omega) (by omega) (fun f d c=>by simp at c) (fun d c=>by simp at c)).mono ?_;rintro e w' ⟨D,rfl,c,_,j⟩;have n:=Fa c;have m:=Jv (P:=P) (xs:=[]) c hP;obtain⟨d,f,rfl,t⟩:=m;exact⟨d,0,f,rfl,⟨⟨d,f,rfl,t⟩,n,by grind[Nu],fun g k=>hP g (c.lt g k).1⟩,j⟩
theorem Jw9(P)(w)(hP:∀b,w.1.size<=b->P b)(v)(xs)(h:Nums Q w v xs)(hx:xs.length<=200):
 Calls prog 79 #[v] w fun e w'=>∃so sn sc,e=aD (E so sn sc)/\NumsW 3 P w' (E so sn sc) xs/\J w w':=by
 obtain⟨u,i,rfl,_,y,A⟩:=h;by_cases x:0<xs.length
 .obtain ⟨b,s,rfl,_,_,z⟩:=y x;obtain⟨r,l,o,p,q⟩:=NY VK;refine(QY r (G 0) 1 8 l o p q rfl (by decide) (fun w=>by kernel_rfl) b s xs.length i (xs.map (Value.int .i64)) w (by simp) (by grind[maxLen]) (by omega) ?_ ?_).mono ?_
  .grind
  .intro d c;obtain⟨f,_,rfl⟩:=NZ.1 c;rfl
  rintro e w' ⟨D,rfl,c,_,j⟩;have n:=Fa c;have m:=Jv (P:=P) c hP;obtain⟨d,f,rfl,t⟩:=m;exact⟨d,xs.length,f,rfl,⟨⟨d,f,rfl,t⟩,n,by grind[Nu],fun g k=>hP g (c.lt g k).1⟩,j⟩
 have B:xs=[]:=NK (by omega);subst B;cases u with
 | none =>
  refine aQ (VC 0 i w) ?_;exact⟨none,0,0,rfl,Fl 3 P _,FQ _ _⟩
 | some a =>
  obtain⟨b,s,C⟩:=a;have z:C=none:=A _ rfl;subst z;obtain⟨r,l,o,p,q⟩:=NY VK;refine(QY r (G 0) 1 8 l o p q rfl (by decide) (fun w=>by kernel_rfl) b s 0 i [] w (by simp) (by omega) (by omega) (fun f d c=>by simp at c) (fun d c=>by simp at c)).mono ?_;rintro e w' ⟨D,rfl,c,_,j⟩;have n:=Fa c;have m:=Jv (P:=P) (xs:=[]) c hP;obtain⟨d,f,rfl,t⟩:=m;exact⟨d,0,f,rfl,⟨⟨d,f,rfl,t⟩,n,by grind[Nu],fun g k=>hP g (c.lt g k).1⟩,j⟩
theorem Joo(P)(w)(hP:∀b,w.1.size<=b->P b)(so)(sn sc)(co)(cn cc)(xs)(h:Nums Q w (E so sn sc) xs)(hx:xs.length<=200):
 Calls prog 62 #[aK so sn sc co cn cc] w fun e w'=>∃so sn sc,e=aD (E so sn sc)/\NumsW 3 P w' (E so sn sc) xs/\J w w':=by
 have a:J w (w.alloc (.cells (aL so sn sc co cn cc) 89)):=belA1;have d:=Jw9 P _ (fun b c=>hP b (by simp at c;omega)) _ xs (h.below a) hx;go_enter func62,ntmps62;go_wp2_with (go_at_call 79;refine d.mono ?_;rintro e j ⟨a1,a2,a3,rfl,i,g⟩;have c:=g;have f:=i);go_ret;exact⟨_,_,_,rfl,f,a.trans (c.mono a.size)⟩
theorem Js2(P)(w)(hP:∀b,w.1.size<=b->P b)(so)(sn sc)(co)(cn cc)(xs)(h:Nums Q w (E co cn cc) xs)(hx:xs.length<=200):
 Calls prog 63 #[aK so sn sc co cn cc] w fun e w'=>∃so sn sc,e=aD (E so sn sc)/\NumsW 2 P w' (E so sn sc) xs/\J w w':=by
 have a:J w (w.alloc (.cells (aL so sn sc co cn cc) 89)):=belA1;have d:=Jw8 P _ (fun b c=>hP b (by simp at c;omega)) _ xs (h.below a) hx;go_enter func63,ntmps63;go_wp2_with (go_at_call 80;refine d.mono ?_;rintro e j ⟨a1,a2,a3,rfl,i,g⟩;have c:=g;have f:=i);go_ret;exact⟨_,_,_,rfl,f,a.trans (c.mono a.size)⟩
end Go.Proofs.YtjobgpahajhbnaaGreatDoor
