import Derived.Test.YtjobgpahajhbnaaGreatDoorZr
import Derived.Laws.BytesArg
namespace Go.Proofs.YtjobgpahajhbnaaGreatDoor
open Go.RowKit Go.Proofs Go.Maps Go.Proofs.Tryz
attribute [local go_sem ↓] Go.wp_at_zero Go.wp_at_succ
set_option linter.all false
set_option maxHeartbeats 4000000
set_option maxRecDepth 20000
variable {L1 L2 L3 u:Value} {Q:Exit->Act->World->Prop} {Z:(Nat->Prop)->World->Value->Nat->Prop} {a:Act} {cap g size:Nat} {e:TypeId} {o:Oper} {ops:Array Oper} {rest:List Oper}
theorem Jqw{P Q:Nat->Prop}(W)(e at_ cost)(so)(sn sc)(co)(cn cc)(so2)(sc2)(co2)(cc2)(xs ys)(h1:Nums P W (E so sn sc) xs)(h2:Nums P W (E co cn cc) ys)(h3:Nums Q W (E so2 sn sc2) xs)(h4:Nums Q W (E co2 cn cc2) ys)(hs:sn<=1000)(hc:cn<=1000):
 Calls prog 51 #[.agg #[G e,G at_,E so sn sc,E co cn cc,G cost],.agg #[G e,G at_,E so2 sn sc2,E co2 cn cc2,G cost]] W fun r W'=>r=aD (.bool true)/\J W W':=by
 have o:=Je h1;have l:=Je h2;have u:=Bx.n2 W [G e,G at_,E so sn sc,E co cn cc,G cost] [G e,G at_,E so2 sn sc2,E co2 cn cc2,G cost] 47 47;change Hid _ at l o;go_enter func51,ntmps51;go_wp2_with fail;generalize hwS:((W.alloc (.cells #[G e,G at_,E so sn sc,E co cn cc,G cost] 47)).alloc (.cells #[G e,G at_,E so2 sn sc2,E co2 cn cc2,G cost] 47))=wS at u⊢;clear hwS;go_loopw [5] (fun g wr=>∃k:Nat,g=G k/\k<=sn/\Bx W wr [[G e,G at_,E so sn sc,E co cn cc,G cost],[G e,G at_,E so2 sn sc2,E co2 cn cc2,G cost]]) (fun g _=>sn-(intOf g).toNat)
 .grind
 obtain⟨k,rfl,H,a⟩:=hrel;have q:=a;have T:=a.a2;have X:=(a.cell 1 2 _ rfl).1;have z:=a.a3;by_cases K:k<sn
 .have n:k<xs.length:=by have:=I o;omega
  obtain⟨s,w,rfl,d,b,-⟩:=h1.at (k:=k) n;obtain⟨t,y,rfl,f,c,-⟩:=h3.at (k:=k) n;generalize hx:xs[k]=x at b c;have A:=V a.below d b;have B:=V a.below f c;have R:(0:Int)<=k:=by omega
  have S:(k:Int)<sn:=by omega
  go_wp2_with fail;go_quiet (fail);go_wp2;go_roundw
  .exact ⟨k+1,by go_num,by omega,q.next (Below.drewN aS _)⟩
  simp[intOf];omega
 have C:¬ (k:Int)<sn:=by omega
 go_wp2_with fail;go_loopw [6] (fun h p=>∃j:Nat,h=G j/\j<=cn/\Bx W p [[G e,G at_,E so sn sc,E co cn cc,G cost],[G e,G at_,E so2 sn sc2,E co2 cn cc2,G cost]]) (fun h _=>cn-(intOf h).toNat)
 .grind
 rename World=>p;obtain⟨j,rfl,D,a⟩:=hrel;have i:=a;have z:=a.a3;have Y:=(a.cell 1 3 _ rfl).1;by_cases F:j<cn
 .have m:j<ys.length:=by have:=I l;omega
  obtain⟨s,w,rfl,d,b,-⟩:=h2.at (k:=j) m;obtain⟨t,y,rfl,f,c,-⟩:=h4.at (k:=j) m;generalize ys[j]=x at b c;have A:=V a.below d b;have B:=V a.below f c;have L:(0:Int)<=j:=by omega
  have N:(j:Int)<cn:=by omega
  go_wp2_with fail;go_quiet (fail);go_wp2;go_roundw
  .exact ⟨j+1,by go_num,by omega,i.next (Below.drewN aS _)⟩
  simp[intOf];omega
 have C:¬ (j:Int)<cn:=by omega
 go_wp2;go_ret;exact⟨rfl,i.below⟩
theorem Jm9(w)(ao)(n cap)(m)(h:Jtd w ao (List.replicate n m))(hl:n<=1000000):
 Calls prog 47 #[E ao n cap,aE m] w fun r w'=>r=aD (.bool true)/\w'=w:=by
 go_enter func47,ntmps47;go_wp2_with fail;go_loopw [5] (fun a wr=>∃k:Nat,a=G k/\k<=n/\wr=w) (fun a _=>n-(intOf a).toNat)
 .grind
 obtain⟨k,rfl,g,c⟩:=hrel;have d:=c.symm;subst d;by_cases i:k<n
 .obtain ⟨e,o,rfl,f,a⟩:=h (by simp;omega);have b:=a k (by simp;omega);rw[List.getElem_replicate]at b;have:(0:Int)<=k:=by omega
  have:(k:Int)<n:=by omega
  go_wp2;go_roundw
  .exact ⟨k+1,by go_num,by omega,(by simp)⟩
  simp[intOf];omega
 have a:¬ (k:Int)<n:=by omega
 go_wp2;go_ret;simp
def J28(w:World)(ao:Option Addr)(n:Nat)(m:Int):Prop:=0<n->∃b off,ao=some (U b off)/\b<w.1.size/\∀i,i<n->w.cell? (U b (off+i*5))=some (.int .i64 0)/\w.cell? (U b (off+i*5+1))=some (.int .i64 m)/\w.cell? (U b (off+i*5+2))=some aH/\w.cell? (U b (off+i*5+3))=some aH/\w.cell? (U b (off+i*5+4))=some (.int .i64 0)
theorem Jha(w)(ao)(n cap)(m)(h:J28 w ao n m)(hl:n<=1000000):
 Calls prog 48 #[E ao n cap,G m] w fun r w'=>r=aD (.bool true)/\w'=w:=by
 go_enter func48,ntmps48;go_wp2_with fail;go_loopw [5] (fun a wr=>∃k:Nat,a=G k/\k<=n/\wr=w) (fun a _=>n-(intOf a).toNat)
 .exact ⟨0,rfl,by omega,rfl⟩
 obtain⟨k,rfl,l,c⟩:=hrel;have d:=c.symm;subst d;by_cases b:k<n
 .obtain ⟨e,q,rfl,j,a⟩:=h (by omega);obtain⟨d0,d1,f,g,i⟩:=a k b;have:(0:Int)<=k:=by omega
  have:(k:Int)<n:=by omega
  go_wp2;go_roundw
  .exact ⟨k+1,by go_num,by omega,(by simp)⟩
  simp[intOf];omega
 have a:¬ (k:Int)<n:=by omega
 go_wp2;go_ret;simp
theorem Jca{w:World}{B:Nat}{n m:Nat}{xs ys:List Value}(h:w.ownsRow B e size (aI g 0 (n+m) cap) (n+m) (xs++ys))(hx:xs.length=n*size):w.ownsRow B e size (aI g 0 n cap) n xs:=by
 obtain⟨t,⟨d,_⟩| ⟨r,p,b,o,l,k,s,f,i,j⟩⟩:=h
 .cases d
 injection o with a q c;injection a with a;injection a with a _ _;subst a c;refine⟨hx,NO ⟨g,cap,b,rfl,l,k,by omega,f,i,?_⟩⟩;have:=NM (List.take (n*size)) j;grind
def J08(v v':Value)(n m:Nat)(w w':World):Prop:=(∃g cap,v=aI g 0 n cap/\v'=aI g 0 (n+m) cap/\n+m<=cap)\/(v'.ownBlock=some w.1.size/\J w w')
section
variable {P:Program} (w:World)
theorem Jby(base)(t ty e)(i)(z)(size bytes)(ht:P.underlying t=some (.slice e))(hi:P.info? e=some i)(hz:i.zero=some z)
 (hsize:i.size=size) (hby:i.bytes=bytes) (hzs:z.cells.size=size) (hsz:0<size)
 (v) (n) (xs) (hown:w.ownsRow base e size v n xs)
 (a) (m c) (news) (hl:news.length=m*size) (hnews:∀j u,news[j]?=some u->w.cell? (a.add j)=some u) (h1:∀u ∈ news,u.oneCell'=true) (hm0:0<m)
 (h63:n+m<=maxLen) (hbytes:(n+m)*bytes<=140737488355328) (hbase:base<=w.1.size):
 ∃v' w',(Builtin.append_ #[t,t] ty #[v,E (some a) m c]).run P w=.ok v' w'/\w'.ownsRow base e size v' (n+m) (xs++news)/\w'.ownsRow base e size v n xs/\w.grownBy w' v.ownBlock/\((∃g cap,v=aI g 0 n cap/\v'=aI g 0 (n+m) cap/\n+m<=cap)\/(v'.ownBlock=some w.1.size/\J w w')):=by
 obtain⟨v',w',d,f,h,-,h5⟩:=M0 (P:=P) w base t ty e i z size bytes ht hi hz hsize hby hzs hsz v n xs hown a m c news hl hnews h1 h63 hbytes hbase;rcases hown.2 with⟨rfl,rfl⟩| ⟨g,cap,l,rfl,q,x,y,r,s,A⟩
 .have o:=NK (by simpa using hown.1);subst o;refine⟨v',w',d,f,NW _ _ _ _,h,NO ⟨?_,aS.grown h aT (fun k b=>by cases b)⟩⟩;rcases h5 with h5|h5
  .obtain ⟨-,⟨-,b⟩| ⟨g,cap,l,k,-⟩⟩:=f
   .omega
   rw[k]at h5;cases h5
  exact h5
 by_cases k:n+m<=cap
 .obtain ⟨w2,p,b,o⟩:=run_append_fits (P:=P) w base t ty e i size ht hi hsize g n cap xs hown a m c news hl hnews h1 k;exact⟨_,w2,p,b,Jca b hown.1,o,NN ⟨g,cap,rfl,rfl,k⟩⟩
 have o:=hown.cells (g:=g) rfl;subst hsize;subst hby;have b:=run_append_grow (P:=P) w t ty e i z ht hi hz ⟨g,0,none⟩ n cap xs hown.1 o a m c news hl hnews (by omega) (by grind[maxLen]) (growslice_fits (by omega) hbytes);rw[b]at d;injection d with _ p;refine⟨_,_,b,?_,?_,?_,NO ⟨rfl,(((FQ w.1.size w).drew).alloc aT _)⟩⟩
 .simp_all
 .refine Jf hown ?_;exact(((FQ w.1.size w).drew).alloc aT _)
 simp_all
end
theorem G2(hgd:o.guard=none)(s x)(t)
 (ho:o.op=.call { callee:=.builtin .append,args:=#[s,x],argTypes:=#[t,t] })
 (base) (e) (i) (z) (size bytes) (ht:prog.underlying t=some (.slice e)) (hi:prog.info? e=some i) (hz:i.zero=some z)
 (hsize:i.size=size) (hby:i.bytes=bytes) (hzs:z.cells.size=size) (hsz:0<size) {w:World}
 (v) (n) (xs) (hs:a.eval s=v) (hown:w.ownsRow base e size v n xs)
 (ad) (m c) (news) (hx:a.eval x=E (some ad) m c) (hl:news.length=m*size) (hnews:∀j u,news[j]?=some u->w.cell? (ad.add j)=some u) (h1:∀u ∈ news,u.oneCell'=true) (hm0:0<m)
 (h63:n+m<=maxLen) (hbytes:(n+m)*bytes<=140737488355328) (hbase:base<=w.1.size)
 (h:∀v' w',w'.ownsRow base e size v' (n+m) (xs++news)->w'.ownsRow base e size v n xs->w.grownBy w' v.ownBlock->J08 v v' n m w w'->wpList prog ops Q rest (a.put o.dst v') w'):
 wpList prog ops Q (o::rest) a w:=by
 refine wpList_plain hgd fun K k=>?_;obtain⟨v',w',l,b,d,f,g⟩:=Jby (P:=prog) w base t o.type e i z size bytes ht hi hz hsize hby hzs hsz v n xs hown ad m c news hl hnews h1 hm0 h63 hbytes hbase;unfold Oper.wp execOp;simp only[ho,resolve,invoke,builtin,Sem.run_bind,Sem.run_pure,Result.andThen_ok,List.map_toArray,Mv,List.map_nil,hs,hx,l];exact k _ _ (h v' w' b d f g)
theorem Ka{w w':World}{B:Nat}{t:TypeId}{v:Value}{n:Nat}{xs:List Value}(h:w.ownsRow B t size v n xs)(hk:∀g,v.ownBlock=some g->w'.heap[g]?=w.heap[g]?):w'.ownsRow B t size v n xs:=by
 obtain⟨a,⟨rfl,c⟩| ⟨g,cap,b,rfl,e,d,f⟩⟩:=h
 .exact ⟨a,NN ⟨rfl,c⟩⟩
 exact⟨a,NO ⟨g,cap,b,rfl,e,(hk g rfl).trans d,f⟩⟩
def rp(mk:List Value):Nat->List Value
 | 0=>[]
 | n+1=>mk++rp mk n
theorem Jf3(mk):∀n,(rp mk n).length=n*mk.length
 | 0=>by simp[rp]
 | n+1=>by rw[rp,JD,Jf3 mk n,ZG];omega
theorem Jf4(mk)(b):∀a,rp mk (a+b)=rp mk a++rp mk b
 | 0=>by simp[rp]
 | a+1=>by rw[show a+1+b=(a+b)+1 by omega,rp,Jf4 mk b a,rp,M6]
theorem Jxv{mk:List Value}{u:Value}:∀{n},u ∈ rp mk n->u ∈ mk
 | 0,h=>by cases h
 | n+1,h=>by
  rw[rp]at h;rcases ZK.1 h with h|h
  .exact h
  exact Jxv h
theorem Jo3{α:Type}(f)(m:α):∀n,rp [f m] n=(List.replicate n m).map f
 | 0=>rfl
 | n+1=>by rw[rp,Jo3 f m n];rfl
section
variable {TT T tt t:TypeId} {s B X k j f lb n n1 K:Nat} {mk es xs:List Value} {v mv L iv:Value} {w w' w1 w2 w3:World} {Ls:List Value}
def FullG(t:TypeId)(s B:Nat)(w:World)(v:Value)(k j:Nat)(mk:List Value)(L:Value):Prop :=
 w.ownsRow 0 t s L (k+j) (rp mk (k+j))/\((∃g cap,v=aI g 0 k cap/\L=aI g 0 (k+j) cap)\/(Dis v L/\∀g,L.ownBlock=some g->B<=g))
theorem FullG.step{v':Value}{mm:Nat}(h:FullG t s B w v k j mk L)(hs:mk.length=s)(hj:j<=mm)(hg:w.grownBy w' v.ownBlock)(hr:w'.ownsRow 0 t s v' (k+mm) (rp mk (k+mm)))(hc:J08 v v' k mm w w'):FullG t s B w' v k j mk L:=by
 obtain⟨d,b⟩:=h;refine⟨?_,b⟩;rcases b with⟨g,cap,e,f⟩| ⟨b,-⟩
 .rcases hc with⟨m,l,a,c,-⟩| ⟨-,c⟩
  .rw [e]at a;injection a with a _ i;injection a with a;injection a with a _ _;subst a i;subst f c;rw[show k+mm=(k+j)+(mm-j) by omega,Jf4]at hr;exact Jca hr (by rw[Jf3,hs])
  exact Jf d c
 exact Yw d hg b
theorem FullG.at_(h:FullG t s B w v k j mk L):∀g,L.ownBlock=some g->v.ownBlock=some g\/B<=g:=by
 intro g a;rcases h.2 with⟨e,cap,b,c⟩| ⟨-,d⟩
 .rw [c]at a;rw[b];exact NN a
 exact NO (d g a)
def TyOk(tt t:TypeId)(s:Nat):Prop:=prog.underlying tt=some (.slice t)/\0<s/\∃z i,prog.info? t=some i/\i.zero=some z/\i.size=s/\i.bytes<=1000/\z.cells.size=s
theorem TyOk.of{z:Value}{bytes:Nat}(ht:prog.underlying tt=some (.slice t))(hi:(prog.info? t).map (fun i=>(i.zero,i.size,i.bytes))=some (some z,s,bytes))(hz:z.cells.size=s/\0<s/\bytes<=1000):TyOk tt t s:=by
 obtain⟨i,a,b,c,d⟩:=NY hi;exact⟨ht,hz.2.1,z,i,a,b,c,d▸hz.2.2,hz.1⟩
structure BkA (f:Nat) (TT T tt t:TypeId) (s lb n:Nat) (iv:Value) (K k:Nat) (es:List Value) (v:Value) (xs:List Value) (w:World):Prop where
 lt:lb<w.1.size
 c0:w.cell? (U lb 2)=some (.int .i64 n)
 c1:w.cell? (U lb f)=some iv
 fz:∀ i,w.frozen? (U lb i)=false
 d:Dis v iv
 vl:v.ownBlock≠some lb
 il:iv.ownBlock≠some lb
 hn:n<=10000000
 hK:K<=10000000
 hk:k<=1000000
 ty:TyOk tt t s
 Ty:TyOk TT T 5
 iv:w.ownsRow 0 T 5 iv K es
 v:w.ownsRow 0 t s v k xs
structure Bk1 (lb n1:Nat) (w w1:World):Prop where
 c:w1.cell? (U lb 2)=some (.int .i64 n1)
 b:∀ b,b≠lb->b<w.1.size->w1.heap[b]?=w.heap[b]?
 o:∀ i,i≠2->w1.cell? (U lb i)=w.cell? (U lb i)
 f:∀ i,w1.frozen? (U lb i)=w.frozen? (U lb i)
 s:w.1.size<=w1.1.size
 os:w1.os=w.os
 tape:w1.tape=w.tape
 output:w1.output=w.output
theorem Bk1.of(H:BkA f TT T tt t s lb n iv K k es v xs w)(n1):Bk1 lb n1 w (w.setCell (U lb 2) (G n1)):=
 ⟨FW _ _ _ H.c0,fun _ hb _=>FV _ _ _ _ hb,fun _ hi=>FZ _ _ _ _ (by intro e;injection e with _ e;exact hi e.symm),fun _=>NA _ _ _ _,by simp,rfl,rfl,rfl⟩
theorem Bk1.below(h:Bk1 lb n1 w w1)(hl:lb<w.1.size)(hb:J w1 w2):Bk1 lb n1 w w2 :=
 have h2:=FT hl h.s
 ⟨V hb h2 h.c,fun b h1 h3=>(hb.block b (FT h3 h.s)).trans (h.b b h1 h3),fun i hi=>V hb h2 (h.o i hi),fun i=>bF hb h2 (h.f i),NE h.s hb.size,hb.os.trans h.os,hb.tape.trans h.tape,hb.output.trans h.output⟩
theorem Bk1.row(h:Bk1 lb n1 w w1)(hv:w.ownsRow 0 t s v k xs)(hl:v.ownBlock≠some lb):w1.ownsRow 0 t s v k xs:=Ka hv (fun g hg=>h.b g (fun e=>hl (e▸hg)) (hv.lt g hg).2)
structure Bk2 (f:Nat) (T:TypeId) (lb n1:Nat) (iv:Value) (K:Nat) (es:List Value) (v:Value) (w w2:World):Prop where
 c:w2.cell? (U lb 2)=some (.int .i64 n1)
 e:w2.cell? (U lb f)=some iv
 z:w2.frozen? (U lb f)=false
 iv:w2.ownsRow 0 T 5 iv K es
 lt:lb<w2.1.size
 bs:Bs (fun b=>b=lb\/v.ownBlock=some b) w w2
 o:∀ i,i≠2->w2.cell? (U lb i)=w.cell? (U lb i)
 f:∀ i,w2.frozen? (U lb i)=w.frozen? (U lb i)
def Lp(_:BkA f TT T tt t s lb n iv K k es v xs w)(mk:List Value)(w1:World)(i:Nat)(wr:World):Prop:=wr.ownsRow 0 t s v k (rp mk i++xs.drop (i*s))/\Bs (fun b=>v.ownBlock=some b) w1 wr
theorem Bk1.lp(h:Bk1 lb n1 w w1)(H:BkA f TT T tt t s lb n iv K k es v xs w)(mk):Lp H mk w1 0 w1:=⟨by simpa[rp]using h.row H.v H.vl,Bs.of aS⟩
theorem Lp.all{H:BkA f TT T tt t s lb n iv K k es v xs w}(h:Lp H mk w1 k w2):w2.ownsRow 0 t s v k (rp mk k):=by
 have:=h.1;rwa [YP (by rw[H.v.1];exact FP _),YU]at this
theorem Bk1.two(h:Bk1 lb n1 w w1)(H:BkA f TT T tt t s lb n iv K k es v xs w)(hf:f≠2)(hb:Bs (fun b=>v.ownBlock=some b) w1 w2):Bk2 f T lb n1 iv K es v w w2:=by
 have a:lb<w1.1.size:=FT H.lt h.s;have:=hb.size;have:=h.s;refine⟨(hb.cell a H.vl).trans h.c,(hb.cell a H.vl).trans ((h.o f hf).trans H.c1),(hb.frozen a H.vl).trans ((h.f f).trans (H.fz f)),Ka H.iv (fun g i=>?_),by omega,⟨hb.os.trans h.os,hb.tape.trans h.tape,hb.output.trans h.output,by omega,fun b j i=>?_⟩,fun i j=>(hb.cell a H.vl).trans (h.o i j),fun i=>(hb.frozen a H.vl).trans (h.f i)⟩
 .have j:=(H.iv.lt g i).2;rw[hb.block g (by omega) (fun e=>H.d g e i)];exact h.b g (fun e=>H.il (e▸i)) j
 rw[hb.block b (by omega) (fun e=>i (NO e))];exact h.b b (fun e=>i (NN e)) j
structure Stt (X:Nat) (t:TypeId) (s:Nat) (mk:List Value) (v:Value) (k:Nat) (mv:Value) (w2 w:World) (Ls:List Value):Prop where
 lt:X<w.1.size
 fz:∀ q,w.frozen? (U X q)=false
 c0:w.cell? (U X 0)=some v
 c4:w.cell? (U X 4)=some mv
 made:∀ q L,Ls[q]?=some L->w.cell? (U X (q+1))=some L/\L.ownBlock≠some X/\FullG t s X w v k (q+1) mk L
 free:∀ q,Ls.length<=q->q<3->w.cell? (U X (q+1))=some aH
 row:w.ownsRow 0 t s v k (rp mk k)
 bs:Bs (fun b=>v.ownBlock=some b) w2 w
 nv:v.ownBlock≠some X
 two:w2.1.size=X
theorem Stt.start(_:Bk2 f T lb n1 iv K es v w1 w)(h:w.ownsRow 0 t s v k (rp mk k))(mv):∃w3,w.alloc (.cells #[v,aH,aH,aH,mv] T)=w3/\Stt w.1.size t s mk v k mv w w3 []:=by
 have b:=(FQ _ w).alloc aT (.cells #[v,aH,aH,aH,mv] T);refine⟨_,rfl,by simp,fun a=>NL _ _ _ _ rfl,by simp,by simp,fun a L h=>(by simp at h),fun a c d=>?_,Jf h b,Bs.of b,fun e=>Nat.lt_irrefl _ (h.lt _ e).2,rfl⟩;rcases(show a=0\/a=1\/a=2 by omega)with e|e|e<;>subst e<;>simp
theorem Stt.next(S:Stt X t s mk v k mv w2 w Ls)(hs:mk.length=s){o:Obj}(hj:Ls.length+1=j)(h3:j<=3)(ho:w'.ownsRow 0 t s L (k+j) (rp mk k++rp mk j))(hov:w'.ownsRow 0 t s v k (rp mk k))(hg:(w.alloc o).grownBy w' v.ownBlock)(hc:J08 v L k j (w.alloc o) w'):
 w'.cell? (U X j)=some aH/\w'.frozen? (U X j)=false/\X<w'.1.size/\Stt X t s mk v k mv w2 (w'.setCell (U X j) L) (Ls++[L]):=by
 have d:J w (w.alloc o):=aS.alloc aT _;rw[<-Jf4]at ho;have C:=hg.size;simp at C;have y:=S.lt;have i:w'.heap[X]?=w.heap[X]?:=(hg.block X (by simp;omega) (fun e=>S.nv e.symm)).trans (d.block X y);have l:∀{b},b≠j->(w'.setCell (U X j) L).cell? (U X b)=w.cell? (U X b):=fun{b} A=>(FZ _ _ _ _ (by intro e;injection e with _ e;exact A e.symm)).trans (WA i);have u:aB w' X j aH:=(WA i).trans (by subst hj;exact S.free _ aT (by omega));have q:L.ownBlock≠some X:=fun e=>by
  rcases hc with⟨g,m,c,f,-⟩| ⟨c,-⟩
  .have h:=S.nv;rw[f]at e;rw[c]at h;exact h e
  rw[c]at e;injection e with e;simp at e;omega
 have p:FullG t s X w' v k j mk L:=by
  refine⟨ho,?_⟩;rcases hc with⟨g,cap,c,f,-⟩| ⟨c,-⟩
  .exact NN ⟨g,cap,c,f⟩
  refine NO ⟨fun g hg e=>?_,fun g hg=>?_⟩
  .rw [c]at e;injection e with e;have:=(S.row.lt g hg).2;simp at e;omega
  rw[c]at hg;injection hg with hg;simp at hg;omega
 refine⟨u,(NI (a:=U X j) i).trans (S.fz j),by omega,by simp;omega,fun b=>?_,(l (by omega)).trans S.c0,(l (by omega)).trans S.c4,fun b x f=>?_,fun b m n=>?_,ZH hov (a:=U X j) S.nv _,⟨hg.os.trans (d.os.trans S.bs.os),hg.tape.trans (d.tape.trans S.bs.tape),hg.output.trans (d.output.trans S.bs.output),?_,fun c z r=>?_⟩,S.nv,S.two⟩
 .rw [NA,NI (a:=U X b) i];exact S.fz b
 .rcases YS b Ls.length with h|h
  .rw [ZU h]at f;obtain⟨r,c,m⟩:=S.made b x f;have n:=FullG.step (B:=X) ⟨Jf m.1 d,m.2⟩ hs (show b+1<=j by omega) hg ho hc;exact⟨(l (by omega)).trans r,c,ZH n.1 (a:=U X j) c _,n.2⟩
  rw[ZA h]at f;obtain⟨m,c⟩:=YO.1 f;simp at m c;subst c;have e:b+1=j:=by omega
  rw[e];exact⟨FW _ _ _ u,q,ZH p.1 (a:=U X j) q _,p.2⟩
 .simp at m;exact(l (by omega)).trans (S.free b (by omega) n)
 .have:=S.bs.size;simp;omega
 have m:=S.two;have n:=S.bs.size;rw[FV _ _ _ _ (show c≠X by omega),hg.block c (by simp;omega) (fun e=>r e.symm),d.block c (by omega)];exact S.bs.block c z r
theorem Stt.reads(S:Stt X t s mk v k mv w2 w3 [L1,L2,L3])(H:BkA f TT T tt t s lb n iv K k es v xs w)(C:Bk2 f T lb n1 iv K es v w w2):w3.cell? (U X 1)=some L1/\w3.cell? (U X 2)=some L2/\w3.cell? (U X 3)=some L3/\w3.cell? (U lb f)=some iv/\w3.frozen? (U lb f)=false/\lb<w3.1.size :=
 ⟨(S.made 0 L1 rfl).1,(S.made 1 L2 rfl).1,(S.made 2 L3 rfl).1,(S.bs.cell C.lt H.vl).trans C.e,(S.bs.frozen C.lt H.vl).trans C.z,FT C.lt S.bs.size⟩
theorem Jqo(w:World)(l:List Value)(e)(j)(u)(h:l[j]?=some u):(w.alloc (.cells l.toArray e)).cell? ((⟨w.1.size,0,none⟩:Addr).add j)=some u:=by
 by_cases e:j=0
 .subst e;simpa[Addr.add]using h
 simpa[Addr.add,e]using h
theorem Kg(H:BkA f TT T tt t s lb n iv K k es v xs w1)(hgd:o.guard=none)(p x)(ho:o.op=.call { callee:=.builtin .append,args:=#[p,x],argTypes:=#[tt,tt] })
 (hs:mk.length=s) (h1:∀u ∈ mk,u.oneCell'=true)
 (S:Stt X t s mk v k mv w2 w Ls) (hj:Ls.length+1=j) (h3:j<=3) (hp:a.eval p=v) (hx:a.eval x=aI w.1.size 0 j j)
 (h:∀q m c w',w'.cell? (U X j)=some aH->w'.frozen? (U X j)=false->X<w'.1.size->Stt X t s mk v k mv w2 (w'.setCell (U X j) (E q m c)) (Ls++[E q m c])->wpList prog ops Q rest (a.put o.dst (E q m c)) w'):
 wpList prog ops Q (o::rest) a (w.alloc (.cells (rp mk j).toArray t)):=by
 obtain⟨C,B,R,e,F,L,N,P,D⟩:=H.ty;have hk:=H.hk;refine G2 hgd p x tt ho 0 t e R s e.bytes C F L N rfl D B v k (rp mk k) hp (Jf S.row (aS.alloc aT _)) ⟨w.1.size,0,none⟩ j j (rp mk j) hx (by rw[Jf3,hs]) (fun q u b=>Jqo w _ t q u b) (fun u b=>h1 u (Jxv b)) (by omega) (by unfold maxLen;omega) (NE (Hw (show k+j<=1000003 by omega) P) (by decide)) (ZL _) ?_;intro W w' d y z A;obtain⟨q,m,c,rfl⟩:=Vc d;obtain⟨g,i,l,r⟩:=S.next hs hj h3 d y z A;exact h q m c w' g i l r
def BkR(f:Nat)(T:TypeId)(Z:(Nat->Prop)->World->Value->Nat->Prop)(mv:Value)(lb n1:Nat)(iv:Value)(K k:Nat)(es:List Value)(v:Value)(w:World)(e:Ending)(w':World):Prop :=
 ∃iv' a b c,e=.returned (.tuple #[])/\w'.cell? (U lb 2)=some (.int .i64 n1)/\w'.cell? (U lb f)=some iv'/\(∀i,i≠2->i≠f->w'.cell? (U lb i)=w.cell? (U lb i))/\(∀i,w'.frozen? (U lb i)=w.frozen? (U lb i)) /\
  w'.ownsRow 0 T 5 iv' (K+1) (es++[v,a,b,c,mv])/\(iv'.ownBlock=iv.ownBlock\/∃g,iv'.ownBlock=some g/\w.1.size<=g) /\
  (∀L j,(L,j) ∈ [(v,k),(a,k+1),(b,k+2),(c,k+3)]->Z (fun b=>v.ownBlock=some b\/(w.1.size<=b/\iv'.ownBlock≠some b)) w' L j) /\
  Bs (fun b=>b=lb\/v.ownBlock=some b\/iv.ownBlock=some b) w w'
theorem J2u{iv':Value}{w9:World}{o:Obj}(hZ:∀P w L j,w.ownsRow 0 t s L j (rp mk j)->(∀b,L.ownBlock=some b->P b)->Z P w L j)(H:BkA f TT T tt t s lb n iv K k es v xs w)(hf:f≠2)(C:Bk2 f T lb n1 iv K es v w w2)(S:Stt X t s mk v k mv w2 w3 [L1,L2,L3])
 (h9:w9.ownsRow 0 T 5 iv' (K+1) (es++[v,L1,L2,L3,mv])) (hg9:(w3.drew.alloc o).grownBy w9 iv.ownBlock) (hat:iv'.ownBlock=iv.ownBlock\/iv'.ownBlock=some (w3.drew.1.size+1)):
 lb<w9.1.size/\w9.cell? (U lb f)=some iv/\w9.frozen? (U lb f)=false/\BkR f T Z mv lb n1 iv K k es v w (aD (.tuple #[])) (w9.setCell (U lb f) iv'):=by
 have aa:=C.bs.size;have ab:=S.bs.size;have ac:=H.lt;have ae:=S.two;have ad:w3.1.size+1<=w9.1.size:=by have:=hg9.size;simpa using this
 have q:J w3 (w3.drew.alloc o):=(aS.drew).alloc aT _;have y:∀b,b<w3.1.size->iv.ownBlock≠some b->w9.heap[b]?=w3.heap[b]?:=fun b l p=>(hg9.block b (by simp;omega) (fun e=>p e.symm)).trans (q.block b l);have D:∀g,iv.ownBlock=some g->g<w.1.size:=fun g m=>(H.iv.lt g m).2;have r:w9.heap[lb]?=w2.heap[lb]?:=(y lb (by omega) H.il).trans (S.bs.block lb (by omega) H.vl);have A:=(WA (a:=U lb f) r).trans C.e;have W:iv'.ownBlock≠some lb:=fun e=>by
  rcases hat with h|h
  .exact H.il (h▸e)
  rw[h]at e;injection e with e;simp at e;omega
 have u:∀{L:Value} {j:Nat},w3.ownsRow 0 t s L j (rp mk j)->(∀g,L.ownBlock=some g->v.ownBlock=some g\/X<=g)->Z (fun b=>v.ownBlock=some b\/(w.1.size<=b/\iv'.ownBlock≠some b)) (w9.setCell (U lb f) iv') L j:=fun{L j} B i=>by
  have x:Dis iv L:=fun g m e=>by
   have:=D g m;rcases i g e with h|h
   .exact H.d g h m
   omega
  have F:L.ownBlock≠some lb:=fun e=>by
   rcases i lb e with h|h
   .exact H.vl h
   omega
  refine hZ _ _ _ _ (ZH (Yw (Jf B q) hg9 x) (a:=U lb f) F iv') (fun b l=>?_);rcases i b l with h|h
  .exact NN h
  refine NO ⟨by omega,fun e=>?_⟩;rcases hat with h'|h'
  .have:=D b (h'▸e);omega
  rw[h']at e;injection e with e;have:=(B.lt b l).2;simp at e;omega
 have F:=(S.made 0 L1 rfl).2.2;have N:=(S.made 1 L2 rfl).2.2;have Q:=(S.made 2 L3 rfl).2.2;refine⟨by omega,A,(NI (a:=U lb f) r).trans C.z,iv',L1,L2,L3,rfl,?_,FW _ _ _ A,fun x R Y=>?_,fun x=>?_,ZH h9 (a:=U lb f) W iv',?_,fun L j i=>?_,?_⟩
 .exact celN (by omega) ((WA r).trans C.c)
 .exact celN (by omega) ((WA r).trans (C.o x R))
 .rw [NA,NI (a:=U lb x) r];exact C.f x
 .rcases hat with h|h
  .exact NN h
  exact NO ⟨_,h,by simp;omega⟩
 .simp at i;rcases i with⟨rfl,rfl⟩| ⟨rfl,rfl⟩| ⟨rfl,rfl⟩| ⟨rfl,rfl⟩
  .exact u S.row (fun g m=>NN m)
  .exact u F.1 F.at_
  .exact u N.1 N.at_
  exact u Q.1 Q.at_
 refine⟨hg9.os.trans (q.os.trans (S.bs.os.trans C.bs.os)),hg9.tape.trans (q.tape.trans (S.bs.tape.trans C.bs.tape)),hg9.output.trans (q.output.trans (S.bs.output.trans C.bs.output)),by simp;omega,fun b l p=>?_⟩;rw[FV _ _ _ _ (fun e=>p (NN e)),y b (by omega) (fun e=>p (NO (NO e))),S.bs.block b (by omega) (fun e=>p (NO (NN e)))];exact C.bs.block b l (fun e=>p (e.imp id NN))
theorem Jie{Gz:Act->World->Prop}{Ez:Prop}(H:BkA f TT T tt t s lb n iv K k es v xs w)(hg:o.guard=none)(p x)(hop:o.op=Op.call { callee:=Callee.builtin Builtin.append,args:=#[p,x],argTypes:=#[TT,TT] })(hty:o.type=TT)
 (h1:mv.oneCell'=true)
 (hZ:∀P w L j,w.ownsRow 0 t s L j (rp mk j)->(∀b,L.ownBlock=some b->P b)->Z P w L j) (hf:f≠2) (C:Bk2 f T lb n1 iv K es v w w2) {o1 o2 o3 o4:Option Addr} {q1 q2 q3 q4 p1 p2 p3 p4:Nat} (hv:v=E o4 q4 p4) (S:Stt X t s mk v k mv w2 w3 [E o1 q1 p1,E o2 q2 p2,E o3 q3 p3]) (hp:a.eval p=iv) (hx:a.eval x=aI w3.drew.1.size 0 1 1)
 (hK:∀q m c w9,lb<w9.1.size->w9.cell? (U lb f)=some iv->w9.frozen? (U lb f)=false->BkR f T Z mv lb n1 iv K k es v w (aD (.tuple #[])) (w9.setCell (U lb f) (E q m c))->Gz (a.put o.dst (E q m c)) w9):if Region.wanted o (yielded ops a.tmps)=true then Oper.wp prog o a (w3.drew.alloc (.cells #[v,E o1 q1 p1,E o2 q2 p2,E o3 q3 p3,mv] T)) Gz Q else Ez:=by
 have W:Region.wanted o (yielded ops a.tmps)=true:=by simp[Region.wanted,hg]
 rw[FY W];have N:w3.ownsRow 0 T 5 iv K es:=Ka C.iv (fun g hg=>S.bs.block g (C.iv.lt g hg).2 (fun e=>H.d g e hg));have F:=Jf N (((FQ w3.1.size w3).drew).alloc aT (.cells #[v,E o1 q1 p1,E o2 q2 p2,E o3 q3 p3,mv] T));have:=H.hK;obtain⟨R,-,ae,r,aa,ab,ac,ad,Y⟩:=H.Ty;obtain⟨ag,w',l,i,B,-,D⟩:=M0 (P:=prog) (w3.drew.alloc (.cells #[v,E o1 q1 p1,E o2 q2 p2,E o3 q3 p3,mv] T)) 0 TT TT T r ae 5 r.bytes R aa ab ac rfl Y (by decide) iv K es F ⟨w3.drew.1.size,0,none⟩ 1 1 [v,E o1 q1 p1,E o2 q2 p2,E o3 q3 p3,mv] rfl (fun j u h=>Jqo w3.drew _ T j u h) (by intro u h;simp at h;rcases h with rfl|rfl|rfl|rfl|rfl<;>first|exact h1|rfl|(rw[hv];rfl)) (by unfold maxLen;omega) (NE (Hw (show K+1<=10000001 by omega) ad) (by decide)) (ZL _);obtain⟨q,m,c,rfl⟩:=Vc i;obtain⟨h,y,z,A⟩:=J2u hZ H hf C S i B (by simpa using D);generalize w3.drew=wd at hx l⊢;unfold Oper.wp;simp[execOp,hop,hty,resolve,invoke,builtin,hp,hx,l,Result.andThen];exact hK q m c w' h y z A
end
theorem Jgp{w:World}{B:Nat}{v:Value}{n:Nat}{xs:List Int}(h:w.ownsRow B e 1 v n (xs.map (Value.int .i64))):Nums (fun b=>v.ownBlock=some b) w v xs:=by
 obtain⟨c,cap,a,g,f,k⟩:=Jv (P:=fun _=>True) h (fun _ _=>trivial);refine⟨c,cap,a,g,fun d=>?_,k⟩;obtain⟨b,l,rfl,-,j,i⟩:=f d;exact⟨b,l,rfl,by rw[a];rfl,j,i⟩
def ZI(m:Int)(P:Nat->Prop)(w:World)(L:Value)(j:Nat):Prop:=Nums P w L (List.replicate j m)
theorem J3d(m)(t):∀P w L j,World.ownsRow w 0 t 1 L j (rp [G m] j)->(∀b,L.ownBlock=some b->P b)->ZI m P w L j:=fun P w L j h hP=>by
 rw[Jo3 (Value.int .i64) m]at h;exact(Jgp h).imp (fun b hb _=>hP b hb)
theorem Jd1{w1 W:World}{k j:Nat}(hb:Bs (fun b=>(aI g 0 k cap).ownBlock=some b) w1 W):Bs (fun b=>(aI g 0 k cap).ownBlock=some b) w1 (W.setCell (U g j) u):=by
 refine⟨hb.os,hb.tape,hb.output,by simpa using hb.size,fun b c a=>?_⟩;rw[FV _ _ _ _ (fun e=>a (by show(aI g 0 k cap).ownBlock=some b;rw[e];rfl))];exact hb.block b c a
theorem Jgm{f:Nat}{TT T tt t:TypeId}{lb n:Nat}{iv:Value}{K k:Nat}{es xs:List Value}{w w1 wr:World}{ao:Option Addr}{i:Nat}{H:BkA f TT T tt t 1 lb n iv K k es (E ao k cap) xs w}(h:Lp H [u] w1 i wr)(hik:i<k):
 ∃g y,ao=some (U g 0)/\wr.cell? (U g i)=some y/\wr.frozen? (U g i)=false/\Lp H [u] w1 (i+1) (wr.setCell (U g i) u):=by
 obtain⟨a,m⟩:=h;obtain⟨-,⟨c,-⟩| ⟨g,p,q,o,-⟩⟩:=id a
 .injection c with _ c _;omega
 injection o with j r l;subst j l;have b:=Jf3 [u] i;simp at b;have:=H.v.1;have e:i<xs.length:=by omega
 refine⟨g,xs[i],rfl,?_,a.frozenAt i,?_,Jd1 m⟩
 .rw [a.cellAt i (by omega),ZA (by omega),b];simp[e]
 have d:=(a.stored i u).1;rw[MA,MG _ _ (by omega),b,Ps,ZC e,List.set_cons_zero]at d;rw[Jf4,M6,MA];exact d
theorem GT:(prog.info? 96).map (fun i=>(i.zero,i.size,i.bytes))=some (some (.agg #[aH,aH,aH,aH,G 0]),5,104):=by kernel_rfl
theorem GU:(prog.info? 98).map (fun i=>(i.zero,i.size,i.bytes))=some (some (.agg #[aH,aH,aH,aH,G 0]),5,104):=by kernel_rfl
theorem bints_any{lb n:Nat}{iv:Value}{K k:Nat}{es:List Value}{v:Value}{xs:List Value}{w:World}:
 (BkA 3 64 96 37 3 1 lb n iv K k es v xs w->Calls prog 52 #[aJ lb 2,v] w (BkR 3 96 (ZI (1001+n:Nat)) (G (1001+n:Nat)) lb (n+1) iv K k es v w)) /\
 (BkA 4 65 98 32 2 1 lb n iv K k es v xs w->Calls prog 53 #[aJ lb 2,v] w (BkR 4 98 (ZI (1001+n:Nat)) (G (1001+n:Nat)) lb (n+1) iv K k es v w)):=by
 refine⟨fun a=>?_,fun a=>?_⟩
 all_goals
  obtain⟨aa,cap,ab,rfl,ae,-,-⟩:=Yf a.v;have hn:=a.hn;have c0:=a.c0;have D:=a.fz 2;have:=a.lt;have hk:=a.hk;have B:((1001+n:Nat):Int)<=20000000:=by omega
  obtain⟨r,o⟩:wrap64 ((n:Int)+1)=((n+1:Nat):Int)/\wrap64 (1000+((n+1:Nat):Int))=((1001+n:Nat):Int):=by unfold wrap64;omega
  have B1:=Bk1.of a (n+1);obtain⟨p,y⟩:=nm (1001+n);generalize hn1:n+1=n1 at r o B1⊢;rw[y]at o B⊢;generalize hw1':(w.setCell (U lb 2) (G ((n1:Nat):Int)))=w1 at B1;have d0:=B1.c;have t:=O B1;clear hn y hn1 B1;change Hid _ at a;first
   | go_enter func52,ntmps52
   | go_enter func53,ntmps53
  go_upto_region 2 with fail;try rw[r]
  try rw[hw1']
  try rw[o]
  clear hw1' r o c0 D;go_wp2_with fail;go_loopw [5] (fun d wr=>∃b:Nat,d=G b/\b<=k/\Lp a [G ((p:Nat):Int)] w1 b wr) (fun d _=>k-(intOf d).toNat)
  .exact ⟨0,rfl,by omega,t.lp _ _⟩
  obtain⟨b,rfl,af,h⟩:=hrel;by_cases x:b<k
  .obtain ⟨g,q,rfl,d,f,m⟩:=Jgm h x;have i:(0:Int)<=(b:Int):=by omega
   have l:(b:Int)<(k:Int):=by omega
   have m:=O m;clear h;go_wp2_with fail;go_roundw
   .exact ⟨b+1,by go_num,by omega,m⟩
   simp[intOf];omega
  have F:b=k:=by omega
  subst F;rename World=>w2;have f:=t.two a (by decide) h.2;obtain⟨w3,A,d⟩:=Stt.start f h.all (G ((p:Nat):Int));have s:=O f;have C:=f.e;have Z:=f.z;have H:=f.lt;clear h x d0 f;obtain⟨X,u⟩:=nm w2.1.size;go_upto_region 7 with fail;try rw[A]
  rw[u]at d;clear A;go_wp2_with (at_builtin;refine Kg (j:=1) a rfl _ _ rfl rfl (by simp[Value.oneCell']) d rfl (by decide) rfl rfl ?_);intro L T Q l z fz i S1;generalize hW:(l.setCell (U X 1) (E L T Q))=wB at S1;go_upto_region 8 with fail;try rw[hW]
  clear hW z fz i d;go_wp2_with (at_builtin;refine Kg (j:=2) a rfl _ _ rfl rfl (by simp[Value.oneCell']) S1 rfl (by decide) rfl rfl ?_);intro N W R l z fz i d;generalize hW:(l.setCell (U X 2) (E N W R))=wC at d;go_upto_region 9 with fail;try rw[hW]
  clear hW z fz i S1;go_wp2_with (at_builtin;refine Kg (j:=3) a rfl _ _ rfl rfl (by simp[Value.oneCell']) d rfl (by decide) rfl rfl ?_);intro P Y S l z fz i S1;generalize hW:(l.setCell (U X 3) (E P Y S))=wD at S1;go_upto_region 10 with fail;try rw[hW]
  obtain⟨ak,al,am,ao,ap,aq⟩:=S1.reads a s;have:=S1.c0;have:=S1.c4;have:=S1.lt;clear hW z fz i d C Z H u;change Hid _ at S1;go_region_law (refine Jie a rfl _ _ rfl rfl rfl (J3d p _) (by decide) s rfl S1 rfl rfl ?_;intro ah p c ai m ac ad q;have q:=O q)
  all_goals
   go_wp2_with fail;exact MI (v:=.tuple #[]) (by simp[results,results52,results53,go_sem]) rfl q
def YesN(f:Nat)(w:World)(l mv:Value):Prop:=∀w',J w w'->Calls prog f #[l,mv] w' fun r w''=>r=.returned (.bool true)/\w''=w'
def EntN(f:Nat)(w:World)(g i:Nat)(mv:Value):Prop:=∃o1 n1 p1 o2 n2 p2 o3 n3 p3 o4 n4 p4,w.cell? (U g (i*5))=some (.slice o1 n1 p1)/\w.cell? (U g (i*5+1))=some (.slice o2 n2 p2)/\w.cell? (U g (i*5+2))=some (.slice o3 n3 p3)/\w.cell? (U g (i*5+3))=some (.slice o4 n4 p4)/\w.cell? (U g (i*5+4))=some mv/\YesN f w (.slice o1 n1 p1) mv/\YesN f w (.slice o2 n2 p2) mv/\YesN f w (.slice o3 n3 p3) mv/\YesN f w (.slice o4 n4 p4) mv
def RowN(f:Nat)(isT:Bool)(w:World)(v:Value)(K:Nat):Prop:=∃ao cap,v=.slice ao K cap/\(0<K->∃g,ao=some (U g 0)/\g<w.1.size/\∀i,i<K->∃mv,EntN f w g i mv/\(isT=false->∃x:Int,mv=.int .i64 x)/\(isT=true->∃t,mv=.string t))
theorem Jnm(lb K1 K2 K3 K4)(iv cv tv rv)(w)(hlt:lb<w.1.size)(c1:w.cell? (U lb 3)=some iv)(c2:w.cell? (U lb 4)=some cv)(c3:w.cell? (U lb 5)=some tv)(c4:w.cell? (U lb 6)=some rv)(h1:RowN 45 false w iv K1)(h2:RowN 46 false w cv K2)(h3:RowN 47 true w tv K3)(h4:RowN 48 false w rv K4)(hk1:K1<=20000000)(hk2:K2<=20000000)(hk3:K3<=20000000)(hk4:K4<=20000000):
 Calls prog 36 #[aJ lb 2] w fun e w'=>e=aD (.bool true)/\J w w':=by
 obtain⟨af,aj,rfl,ab⟩:=h1;obtain⟨ag,ak,rfl,ac⟩:=h2;obtain⟨ah,al,rfl,ad⟩:=h3;obtain⟨ai,am,rfl,ae⟩:=h4;change Hid _ at c4 c3 c2 c1 ae ad ac ab;go_enter func36,ntmps36;go_wp2_with fail;go_loopw [3,4] (fun d c wr=>d=.bool true/\∃b:Nat,c=G b/\b<=K1/\J w wr) (fun _ c _=>K1-(intOf c).toNat)
 .exact ⟨rfl,0,rfl,by omega,FQ _ _⟩
 obtain⟨rfl,b,rfl,D,a⟩:=hrel;have x:=O a;have W:aB wr lb 3 (E af K1 aj):=V a hlt c1;by_cases o:b<K1
 .obtain ⟨g,rfl,f,n⟩:=ab (by omega);obtain⟨mv,⟨F,n1,N,H,n2,P,K,n3,Q,L,n4,R,i,j,k,l,m,p,q,r,s⟩,t,u⟩:=n b o;obtain⟨T,rfl⟩:=t (by first|rfl|trivial);have d0:=V a f i;have d1:=V a f j;have X:=V a f k;have Y:=V a f l;have Z:=V a f m;have d:J w (wr.alloc (.cells #[E F n1 N,E H n2 P,E K n3 Q,E L n4 R,(G T)] 96)):=a.alloc a.size _;have y:=O d;have z:=O (p _ d);have A:=O (q _ d);have B:=O (r _ d);have C:=O (s _ d);have S:(0:Int)<=(b:Int):=by omega
  have aa:(b:Int)<(K1:Int):=by omega
  clear n t u i j k l m p q r s a d;go_wp2_with (go_at_call 45;first|(with_reducible refine aR (I z) fun h c=>?_;try subst c)| (with_reducible refine aR (I A) fun h c=>?_;try subst c)| (with_reducible refine aR (I B) fun h c=>?_;try subst c)| (with_reducible refine aR (I C) fun h c=>?_;try subst c));go_roundw
  .exact ⟨rfl,b+1,by go_num,by omega,y⟩
  simp[intOf];omega
 have S:¬ (b:Int)<(K1:Int):=by omega
 clear a o D;go_wp2_with fail;go_loopw [3,10] (fun d c wr=>d=.bool true/\∃b:Nat,c=G b/\b<=K2/\J w wr) (fun _ c _=>K2-(intOf c).toNat)
 .exact ⟨rfl,0,rfl,by omega,x⟩
 obtain⟨rfl,b,rfl,D,a⟩:=hrel;have x:=O a;have W:aB wr lb 4 (E ag K2 ak):=V a hlt c2;by_cases o:b<K2
 .obtain ⟨g,rfl,f,n⟩:=ac (by omega);obtain⟨mv,⟨F,n1,N,H,n2,P,K,n3,Q,L,n4,R,i,j,k,l,m,p,q,r,s⟩,t,u⟩:=n b o;obtain⟨T,rfl⟩:=t (by first|rfl|trivial);have d0:=V a f i;have d1:=V a f j;have X:=V a f k;have Y:=V a f l;have Z:=V a f m;have d:J w (wr.alloc (.cells #[E F n1 N,E H n2 P,E K n3 Q,E L n4 R,(G T)] 98)):=a.alloc a.size _;have y:=O d;have z:=O (p _ d);have A:=O (q _ d);have B:=O (r _ d);have C:=O (s _ d);have S:(0:Int)<=(b:Int):=by omega
  have aa:(b:Int)<(K2:Int):=by omega
  clear n t u i j k l m p q r s a d;go_wp2_with (go_at_call 46;first|(with_reducible refine aR (I z) fun h c=>?_;try subst c)| (with_reducible refine aR (I A) fun h c=>?_;try subst c)| (with_reducible refine aR (I B) fun h c=>?_;try subst c)| (with_reducible refine aR (I C) fun h c=>?_;try subst c));go_roundw
  .exact ⟨rfl,b+1,by go_num,by omega,y⟩
  simp[intOf];omega
 have S:¬ (b:Int)<(K2:Int):=by omega
 clear a o D;go_wp2_with fail;go_loopw [3,16] (fun d c wr=>d=.bool true/\∃b:Nat,c=G b/\b<=K3/\J w wr) (fun _ c _=>K3-(intOf c).toNat)
 .exact ⟨rfl,0,rfl,by omega,x⟩
 obtain⟨rfl,b,rfl,D,a⟩:=hrel;have x:=O a;have W:aB wr lb 5 (E ah K3 al):=V a hlt c3;by_cases o:b<K3
 .obtain ⟨g,rfl,f,n⟩:=ad (by omega);obtain⟨mv,⟨F,n1,N,H,n2,P,K,n3,Q,L,n4,R,i,j,k,l,m,p,q,r,s⟩,t,u⟩:=n b o;obtain⟨tt,rfl⟩:=u (by first|rfl|trivial);have d0:=V a f i;have d1:=V a f j;have X:=V a f k;have Y:=V a f l;have Z:=V a f m;have d:J w (wr.alloc (.cells #[E F n1 N,E H n2 P,E K n3 Q,E L n4 R,(aE tt)] 101)):=a.alloc a.size _;have y:=O d;have z:=O (p _ d);have A:=O (q _ d);have B:=O (r _ d);have C:=O (s _ d);have S:(0:Int)<=(b:Int):=by omega
  have aa:(b:Int)<(K3:Int):=by omega
  clear n t u i j k l m p q r s a d;go_wp2_with (go_at_call 47;first|(with_reducible refine aR (I z) fun h c=>?_;try subst c)| (with_reducible refine aR (I A) fun h c=>?_;try subst c)| (with_reducible refine aR (I B) fun h c=>?_;try subst c)| (with_reducible refine aR (I C) fun h c=>?_;try subst c));go_roundw
  .exact ⟨rfl,b+1,by go_num,by omega,y⟩
  simp[intOf];omega
 have S:¬ (b:Int)<(K3:Int):=by omega
 clear a o D;go_wp2_with fail;go_loopw [3,22] (fun d c wr=>d=.bool true/\∃b:Nat,c=G b/\b<=K4/\J w wr) (fun _ c _=>K4-(intOf c).toNat)
 .exact ⟨rfl,0,rfl,by omega,x⟩
 obtain⟨rfl,b,rfl,D,a⟩:=hrel;have x:=O a;have W:aB wr lb 6 (E ai K4 am):=V a hlt c4;by_cases o:b<K4
 .obtain ⟨g,rfl,f,n⟩:=ae (by omega);obtain⟨mv,⟨F,n1,N,H,n2,P,K,n3,Q,L,n4,R,i,j,k,l,m,p,q,r,s⟩,t,u⟩:=n b o;obtain⟨T,rfl⟩:=t (by first|rfl|trivial);have d0:=V a f i;have d1:=V a f j;have X:=V a f k;have Y:=V a f l;have Z:=V a f m;have d:J w (wr.alloc (.cells #[E F n1 N,E H n2 P,E K n3 Q,E L n4 R,(G T)] 104)):=a.alloc a.size _;have y:=O d;have z:=O (p _ d);have A:=O (q _ d);have B:=O (r _ d);have C:=O (s _ d);have S:(0:Int)<=(b:Int):=by omega
  have aa:(b:Int)<(K4:Int):=by omega
  clear n t u i j k l m p q r s a d;go_wp2_with (go_at_call 48;first|(with_reducible refine aR (I z) fun h c=>?_;try subst c)| (with_reducible refine aR (I A) fun h c=>?_;try subst c)| (with_reducible refine aR (I B) fun h c=>?_;try subst c)| (with_reducible refine aR (I C) fun h c=>?_;try subst c));go_roundw
  .exact ⟨rfl,b+1,by go_num,by omega,y⟩
  simp[intOf];omega
 have S:¬ (b:Int)<(K4:Int):=by omega
 clear a o D;go_wp2_with fail;refine FR (v:=.bool true) (by simp[results,results36,go_sem]) rfl ⟨rfl,x⟩
theorem GV:(prog.info? 101).map (fun i=>(i.zero,i.size,i.bytes))=some (some (.agg #[aH,aH,aH,aH,.string ⟨#[]⟩]),5,112):=by kernel_rfl
def TxN(P:Nat->Prop)(w:World)(v:Value)(xs:List ByteArray):Prop:=∃ao cap,v=.slice ao xs.length cap/\(0<xs.length->∃b off,ao=some (U b off)/\P b/\b<w.1.size/\∀i,(h:i<xs.length)->w.cell? (U b (off+i))=some (.string xs[i]))
theorem TxN.imp{P Q:Nat->Prop}{w:World}{v:Value}{xs:List ByteArray}(h:TxN P w v xs)(hq:∀b,P b->b<w.1.size->Q b):TxN Q w v xs:=by
 obtain⟨c,cap,f,g⟩:=h;refine⟨c,cap,f,fun d=>?_⟩;obtain⟨b,k,e,j,a,i⟩:=g d;exact⟨b,k,e,hq b j a,a,i⟩
theorem Jtm{w:World}{B:Nat}{v:Value}{n:Nat}{xs:List ByteArray}(h:w.ownsRow B e 1 v n (xs.map Value.string)):TxN (fun b=>v.ownBlock=some b) w v xs:=by
 have c:=h;obtain⟨a,⟨rfl,d⟩| ⟨g,cap,k,rfl,l,m⟩⟩:=h
 .have:xs=[]:=by rw[d]at a;simpa using a
  subst this;exact⟨none,0,rfl,fun h=>absurd h (by simp)⟩
 have i:n=xs.length:=by simpa using a.symm
 subst i;refine⟨_,cap,rfl,fun _=>⟨g,0,rfl,rfl,(c.lt g rfl).2,fun j f=>?_⟩⟩;rw[ZY,c.cellAt j (by omega)];simp[f]
def ZT(t:ByteArray)(P:Nat->Prop)(w:World)(L:Value)(j:Nat):Prop:=TxN P w L (List.replicate j t)
theorem J3b(t):∀P w L j,World.ownsRow w 0 9 1 L j (rp [aE t] j)->(∀b,L.ownBlock=some b->P b)->ZT t P w L j:=fun P w L j h hP=>by
 rw[Jo3 Value.string t]at h;exact(Jtm h).imp (fun b hb _=>hP b hb)
theorem Jnl{lb n:Nat}{iv:Value}{K k:Nat}{es:List Value}{v:Value}{xs:List Value}{w:World}(H:BkA 5 66 101 54 9 1 lb n iv K k es v xs w):
 Calls prog 49 #[aJ lb 2,v] w fun e w'=>∃t,BkR 5 101 (ZT t) (aE t) lb (n+1) iv K k es v w e w':=by
 obtain⟨af,cap,ag,rfl,aj,-,-⟩:=Yf H.v;have hn:=H.hn;have c0:=H.c0;have D:=H.fz 2;have N:=H.lt;have hk:=H.hk;have r:wrap64 ((n:Int)+1)=((n+1:Nat):Int):=by unfold wrap64;omega
 have B1:=Bk1.of H (n+1);generalize hn1:n+1=n1 at r B1⊢;generalize hw1':(w.setCell (U lb 2) (G ((n1:Nat):Int)))=w1 at B1;have d0:=B1.c;have h:=O B1;clear hn hn1 B1;change Hid _ at H;go_enter func49,ntmps49;go_upto_region 1 with fail;try rw[r]
 try rw[hw1']
 obtain⟨u1,P⟩:=nm (IntKind.u8.wrap ((n1:Nat):Int));obtain⟨u2,Q⟩:=nm (IntKind.u8.wrap (IntKind.i64.wrap (Int.tdiv ((n1:Nat):Int) 256)));have R:∀o f:Int,Sem.run prog (convert 128 9 (aI w1.1.size 0 3 3)) (w1.alloc (.cells #[.int .u8 35,.int .u8 o,.int .u8 f] 5)).drew=.ok (aE (strOfNums [35,o,f])) (w1.alloc (.cells #[.int .u8 35,.int .u8 o,.int .u8 f] 5)).drew:=fun o f=>by
  refine run_convert_bytes_arg _ 128 5 underlying128 PL w1.1.size 0 3 3 [35,o,f] rfl (fun a y=>?_) 9 YY;match a,y with
  | 0,_=>simp
  | 1,_=>simp
  | 2,_=>simp
 go_cut [4]from 7 to 26 (fun a b=>∃t,a=aE t/\J w1 b)
 .go_region
  all_goals
   go_wp2_with fail;go_meet;exact⟨_,rfl,(aS.alloc aT _).drew⟩
 obtain⟨t,rfl,x⟩:=hcut;have h:=O ((I h).below N x);clear R hw1' r c0 D d0 x P Q u1 u2;rename World=>w1;have d0:=h.c;go_wp2_with fail;go_loopw [5] (fun b wr=>∃a:Nat,b=G a/\a<=k/\Lp H [aE t] w1 a wr) (fun b _=>k-(intOf b).toNat)
 .exact ⟨0,rfl,by omega,h.lp _ _⟩
 obtain⟨a,rfl,y,i⟩:=hrel;by_cases A:a<k
 .obtain ⟨g,f,rfl,b,d,p⟩:=Jgm i A;have l:(0:Int)<=(a:Int):=by omega
  have m:(a:Int)<(k:Int):=by omega
  have p:=O p;clear i;go_wp2_with fail;go_roundw
  .exact ⟨a+1,by go_num,by omega,p⟩
  simp[intOf];omega
 have F:a=k:=by omega
 subst F;rename World=>w2;have d:=h.two H (by decide) i.2;obtain⟨w3,B,b⟩:=Stt.start d i.all (aE t);have s:=O d;have C:=d.e;have ae:=d.z;have L:=d.lt;clear i A d0 d;obtain⟨X,u⟩:=nm w2.1.size;go_upto_region 7 with fail;try rw[B]
 rw[u]at b;clear B;go_wp2_with (at_builtin;refine Kg (j:=1) H rfl _ _ rfl rfl (by simp[Value.oneCell']) b rfl (by decide) rfl rfl ?_);intro S ab Y m z fz l S1;generalize hW:(m.setCell (U X 1) (E S ab Y))=wB at S1;go_upto_region 8 with fail;try rw[hW]
 clear hW z fz l b;go_wp2_with (at_builtin;refine Kg (j:=2) H rfl _ _ rfl rfl (by simp[Value.oneCell']) S1 rfl (by decide) rfl rfl ?_);intro T ac Z m z fz l b;generalize hW:(m.setCell (U X 2) (E T ac Z))=wC at b;go_upto_region 9 with fail;try rw[hW]
 clear hW z fz l S1;go_wp2_with (at_builtin;refine Kg (j:=3) H rfl _ _ rfl rfl (by simp[Value.oneCell']) b rfl (by decide) rfl rfl ?_);intro W ad aa m z fz l S1;generalize hW:(m.setCell (U X 3) (E W ad aa))=wD at S1;go_upto_region 10 with fail;try rw[hW]
 obtain⟨ao,ap,aq,au,av,aw⟩:=S1.reads H s;have:=S1.c0;have:=S1.c4;have:=S1.lt;clear hW z fz l b C ae L u;change Hid _ at S1;go_region_law (refine Jie H rfl _ _ rfl rfl rfl (J3b t) (by decide) s rfl S1 rfl rfl ?_;intro al ak c am p ah ai q;have q:=O q)
 all_goals
  go_wp2_with fail;exact MI (v:=.tuple #[]) (by simp[results,results49,go_sem]) rfl ⟨t,q⟩
end Go.Proofs.YtjobgpahajhbnaaGreatDoor
