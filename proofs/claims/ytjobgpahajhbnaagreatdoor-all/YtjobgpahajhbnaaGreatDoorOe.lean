import Derived.Test.YtjobgpahajhbnaaGreatDoorOd
namespace Go.Proofs.YtjobgpahajhbnaaGreatDoor
open Go.RowKit Go.Proofs Go.Maps Go.Proofs.Tryz
attribute [local go_sem ↓] Go.wp_at_zero Go.wp_at_succ
set_option linter.all false
set_option maxHeartbeats 2000000
set_option maxRecDepth 20000
variable {B K N' b k n size:Nat} {L:(Nat->Nat)->World->Value->Nat->Value->Prop} {T X:Nat->Prop} {W1 w1 w2:World} {es xs:List Value} {f:Nat->Nat} {mo row:Option Nat} {t:TypeId}
theorem IsArr.stay{P:Nat->Prop}{w w':World}{v:Value}{a:Arr}(h:IsArr P w v a)(hs:w.1.size<=w'.1.size)(hb:∀b,P b->b<w.1.size->w'.heap[b]?=w.heap[b]?):IsArr P w' v a:=by
 obtain⟨j,i,sc,e,d,c,rfl,f,g⟩:=h;exact⟨j,i,sc,e,d,c,rfl,f.keep hs hb,g.keep hs hb⟩
theorem DskN.stay{db:Nat}{F:Int}{env:ByteArray->Option Arr}{N:Nat}{w w':World}(h:DskN X db F env N mo w)(hs:w.1.size<=w'.1.size)(hE:Evs w')(hk:∀b,b<w.1.size->(X b\/b=db\/mo=some b)->w'.heap[b]?=w.heap[b]?):DskN X db F env N mo w':=by
 have hd:=hk db h.lt (NO (NN rfl));refine⟨FT h.lt hs,h.low,hE,(WA hd).trans h.c0,(WA hd).trans h.c1,(NI (a:=U db 1) hd).trans h.fr,h.out,?_⟩;have l:=h.moLt;have c:=h.map;cases mo with
 | none=>exact c
 | some mb =>
  obtain⟨a1,a2,a3,D,⟨es,d,e,f⟩,g⟩:=c;exact⟨a1,a2,a3,D,⟨es,d,(hk mb (l mb rfl) (NO (NO rfl))).trans e,f⟩,g.later (fun m b i=>i.stay hs (fun b j k=>hk b k (NN j)))⟩
theorem DskN.up{db:Nat}{F:Int}{env:ByteArray->Option Arr}{N:Nat}{w:World}(h:DskN X db F env N mo w)(hN:N<=N'):DskN X db F env N' mo w:=by
 refine⟨h.lt,h.low,h.evs,h.c0,h.c1,h.fr,h.out,?_⟩;have a:=h.map;cases mo with
 | none=>exact a
 | some mb =>
  obtain⟨a1,a2,a3,D,⟨es,b,c,d,e,f⟩,g⟩:=a;exact⟨a1,a2,a3,D,⟨es,b,c,d,NE e hN,f⟩,g⟩
section
variable {F:Int} {S:Nat->Prop} {d e:Nat} {env env2:ByteArray->Option Arr} {N N2:Nat} {w:World}
theorem DkF.up(h:DkF F S d env N w)(hN:N<=N'):DkF F S d env N' w:=by
 obtain⟨X,mo,a,b,c⟩:=h;exact⟨X,mo,a.up hN,b,c⟩
end
def DisV(v u:Value):Prop:=∀g,v.ownBlock=some g->u.ownBlock≠some g
def RepO(F:Int)(S:Nat->Prop)(db:Nat)(env:ByteArray->Option Arr)(N:Nat)(w:World)(r:Rp)(e:Ending)(w':World):Prop :=
 ∃m so sn sc co cn cc,w.1.size<=m/\e=.returned (.agg #[.int .i64 r.er,.int .i64 r.at_,.slice so sn sc,.slice co cn cc,.int .i64 r.cost])/\NumsW 3 (fun b=>m<=b) w' (.slice so sn sc) r.sh/\NumsW 2 (fun b=>m<=b) w' (.slice co cn cc) r.cs/\DisV (.slice so sn sc) (.slice co cn cc)/\DkF F (fun b=>S b\/(m<=b/\b<w'.1.size)) db env N w'/\KeepS S w w'
section
variable {F:Int} {S:Nat->Prop} {env:ByteArray->Option Arr} {s:ByteArray} {db N:Nat}
theorem Jzh(h0:0<=F)(hF:F<=1000)(he:EnvOk env)(hN:N<4000000)(hm:s.size<=9223372036854775807)(w)(hD:DkF F S db env N w):
 Calls prog 42 #[aJ db 0,aE s] w (RepO F S db (envA env F s) (N+1) w (ansR env F s)):=by
 cases d:ans env F s with
 | inl e =>
  obtain⟨c,at_⟩:=e;have q:envA env F s=env:=by unfold envA;rw[d]
  have r:ansR env F s=⟨c,at_,[],[],0⟩:=by unfold ansR;rw[d]
  rw[q,r];refine aR ((Jq3 (S:=S) (db:=db) (N:=N) h0 hF he hm d).2 w hD) fun w' a=>?_;exact⟨w.1.size,none,0,0,none,0,0,FP _,rfl,Fl _ _ _,Fl _ _ _,(fun f d=>by cases d),(hD.more a).up (ZO _),KeepS.of a⟩
 | inr f =>
  obtain⟨g,j⟩:=f;have r:ansR env F s=⟨0,0,g.shape.map Int.ofNat,g.cells,j⟩:=by unfold ansR;rw[d]
  rw[r];obtain⟨l,ad⟩:=Jjz d;obtain⟨P,u⟩:=Qp l;have L:g.ok:=(Js9 h0 he d).1;have H:g.shape.length<=200:=by have:=L.rank;omega
  have K:=L.few;have D:∀f,Zs s f->Good f1A f2A f:=fun f i=>by grind[G4,Nj]
  have C:∀f,Zs s f->Js env F f1A f2A f 0=.inr (g,j):=fun f i=>by grind[G4]
  have q:envA env F s=if(Z2 s).size=0 then env else upd env (Z2 s) g:=by unfold envA;rw[d]
  rw[q];by_cases h:(Z2 s).size=0
  .rw [FY h];have Q:Z2 s=⟨#[]⟩:=ByteArray.size_eq_zero_iff.1 h;have t:=hD;obtain⟨X,mo,c,A,B⟩:=hD;refine(Jpp env F f1A f2A db w mo s (by omega) ⟨c.lt,c.evs,c.c0,c.c1⟩ h0 hF he (c.look.imp (fun _ _ _=>trivial)) l P Q D g j C H K).mono ?_;rintro e w' ⟨z,y,sc,p,o,n,rfl,n1,n2,x,a⟩;exact⟨w.1.size,z,y,sc,p,o,n,FP _,rfl,n1,n2,x,(t.more a).up (ZO _),KeepS.of a⟩
  rw[FU h];obtain⟨X,mo,c,A,B⟩:=hD;have T:(Z2 s).size<=200:=by
   unfold Z2;rw[FY l];unfold Q1;cases a:(kB (kr (toks s (lexR s).1)) 0 1 && kB (kr (toks s (lexR s).1)) 1 2)
   .exact ZL _
   rw[NX];by_cases n:0<(toks s (lexR s).1).length
   .rw [Yz n];exact(Job u _ (ND n)).2.1
   have:tokAt (toks s (lexR s).1) 0=⟨0,0,0,⟨#[]⟩,0⟩:=by
    rw[NK (Nat.eq_zero_of_not_pos n)];rfl
   rw[this];exact ZL _
  refine(Jf9 X env F f1A f2A db w mo N hN s (by omega) c A h0 hF he l P (Z2 s) rfl (by omega) T D g j C H K).mono ?_;rintro e w' ⟨m,z,y,sc,p,o,n,W,rfl,n1,n2,x,⟨Q,t,ab,aa⟩,a⟩;have ac:=a.size;have Z:=c.low;have Y:=c.lt;refine⟨m,z,y,sc,p,o,n,W,rfl,n1,n2,x,⟨fun b=>(X b\/(w.1.size<=b/\b<m/\Q≠some b))/\b<w'.1.size,Q,t.imp (fun b a R=>⟨a,R⟩) (fun i=>t.out i.1) (fun R e i=>?_),fun b a=>a.2,fun b a=>?_⟩,?_⟩
  .subst e;exact t.map.2.2.1 i.1
  .grind
  refine⟨a.os,a.tape,a.output,a.size,fun k R h=>a.block k R ?_⟩;rintro(rfl|e)
  .grind
  subst e;exact h ⟨fun u=>(B _ u).2.2.2.2 rfl,c.map.2.1⟩
end
noncomputable def Kr (F:Int):(ByteArray->Option Arr)->List ByteArray->(ByteArray->Option Arr)
 | env,[]=>env
 | env,s::r=>Kr F (envA env F s) r
noncomputable def Qn (F:Int):(ByteArray->Option Arr)->List ByteArray->List Rp
 | _,[]=>[]
 | env,s::r=>ansR env F s::Qn F (envA env F s) r
theorem N9(F):∀(l:List ByteArray) (env:ByteArray->Option Arr) (s:ByteArray),Kr F env (l++[s])=envA (Kr F env l) F s
 | [],_,_=>rfl
 | _::r,_,s=>N9 F r _ s
theorem Jd4(F):∀(l:List ByteArray) (env:ByteArray->Option Arr) (s:ByteArray),Qn F env (l++[s])=Qn F env l++[ansR (Kr F env l) F s]
 | [],_,_=>rfl
 | x::r,env,s=>by
  show ansR env F x::Qn F (envA env F x) (r++[s])=_;rw[Jd4 F r];rfl
theorem Qb(F):∀(l:List ByteArray) (env:ByteArray->Option Arr),(Qn F env l).length=l.length
 | [],_=>rfl
 | _::r,env=>by simp[Qn,Qb F r]
theorem Gd{F:Int}(h0:0<=F):∀(l:List ByteArray) (env:ByteArray->Option Arr),EnvOk env->EnvOk (Kr F env l)
 | [],_,h=>h
 | _::r,_,h=>Gd h0 r _ (Jr7 h0 h)
structure Rv where
 so:Option Addr
 sn:Nat
 sc:Nat
 co:Option Addr
 cn:Nat
 cc:Nat
def Rv.vs(x:Rv):Value:=.slice x.so x.sn x.sc
def Rv.vc(x:Rv):Value:=.slice x.co x.cn x.cc
def Rv.all(xs:List Rv):List Value:=xs.flatMap (fun x=>[x.vs,x.vc])
def Gq(r:Rp)(x:Rv):List Value:=[.int .i64 r.er,.int .i64 r.at_,.slice x.so x.sn x.sc,.slice x.co x.cn x.cc,.int .i64 r.cost]
def rowC:List Rp->List Rv->List Value
 | r::rs,x::xs=>Gq r x++rowC rs xs
 | _,_=>[]
theorem Jf5:∀(rs:List Rp) (xs:List Rv),rs.length=xs.length->∀r x,rowC (rs++[r]) (xs++[x])=rowC rs xs++Gq r x
 | [],[],_,r,x=>by simp[rowC]
 | [],_::_,h,_,_=>by simp at h
 | _::_,[],h,_,_=>by simp at h
 | a::rs,b::xs,h,r,x=>by
  show Gq a b++rowC (rs++[r]) (xs++[x])=_;rw[Jf5 rs xs (by simpa using h)];simp[rowC]
theorem Jo6:∀(rs:List Rp) (xs:List Rv),rs.length=xs.length->∀i,(hi:i<rs.length)->(hx:i<xs.length)->∀j,j<5->(rowC rs xs)[5*i+j]?=(Gq rs[i] xs[i])[j]?
 | [],_,_,i,hi,_,_,_=>by simp at hi
 | _::_,[],h,_,_,_,_,_=>by simp at h
 | a::rs,b::xs,h,0,_,_,j,hj=>by
  grind[Gq,rowC]
 | a::rs,b::xs,h,i+1,hi,hx,j,hj=>by
  show(Gq a b++rowC rs xs)[5*(i+1)+j]?=_;rw[ZA (by simp[Gq];omega)];have:=Jo6 rs xs (by simpa using h) i (by simp_all) (by simp_all) j hj;simp only[Gq,ZN,YT]at this⊢;grind
def Reps(T:Nat->Prop)(B:Nat)(wr:World)(v:Value)(rs:List Rp):Prop :=
 ∃xs:List Rv,rs.length=xs.length/\(Rv.all xs).Pairwise DisV/\wr.ownsRow B 47 5 v rs.length (rowC rs xs)/\(∀g,v.ownBlock=some g->T g) /\
  ∀i,(hi:i<rs.length)->(hx:i<xs.length)->NumsW 3 (fun b=>T b/\B<=b/\v.ownBlock≠some b) wr (.slice xs[i].so xs[i].sn xs[i].sc) rs[i].sh/\NumsW 2 (fun b=>T b/\B<=b/\v.ownBlock≠some b) wr (.slice xs[i].co xs[i].cn xs[i].cc) rs[i].cs
theorem Juy(T)(B)(w):Reps T B w aH []:=⟨[],rfl,PF,NW _ _ _ _,(fun g h=>by cases h),fun i hi=>absurd hi (JR i)⟩
theorem KeepS.lowc{S:Nat->Prop}{w w':World}(h:KeepS S w w'){o:Nat}(hb:b<w.1.size)(hs:6<=b->S b):w'.cell? (U b o)=w.cell? (U b o):=by
 by_cases a:6<=b
 .exact h.cell hb (hs a)
 exact WA (Bs.block h b hb (fun c=>a c.2))
def Txts(P:Nat->Prop)(w:World)(ao:Option Addr)(ls:List ByteArray):Prop :=
 0<ls.length->∃b off,ao=some (U b off)/\P b/\b<w.1.size/\∀i,(h:i<ls.length)->w.cell? (U b (off+i))=some (.string ls[i])
theorem Bs.grown{Q:Nat->Prop}{w:World}(h:Bs Q w w1)(hb:J w1 W1)(hg:W1.grownBy w2 row)(hr:∀g,row=some g->w.1.size<=g):Bs Q w w2:=by
 have:=h.size;have:=hb.size;have:=hg.size;refine⟨hg.os.trans (hb.os.trans h.os),hg.tape.trans (hb.tape.trans h.tape),hg.output.trans (hb.output.trans h.output),by omega,fun k a b=>?_⟩;rw[hg.block k (by omega) (fun e=>by grind),hb.block k (by omega)];exact h.block k a b
theorem Evs.stay{w w':World}(h:Evs w)(hs:w.1.size<=w'.1.size)(hk:∀b,b<6->w'.heap[b]?=w.heap[b]?):Evs w':=by
 obtain⟨g,⟨e,c1,d1⟩,⟨f,c,d⟩⟩:=h;exact⟨NE g hs,⟨e,(WA (a:=U 4 0) (hk 4 (by omega))).trans c1,d1⟩,⟨f,(WA (a:=U 5 0) (hk 5 (by omega))).trans c,d⟩⟩
theorem DkF.grown{F:Int}{db:Nat}{env:ByteArray->Option Arr}{N:Nat}(h:DkF F T db env N w1)(hb:J w1 W1)(hg:W1.grownBy w2 row)(hr:∀g,row=some g->T g):DkF F (fun b=>T b\/(w1.1.size<=b/\b<w2.1.size)) db env N w2:=by
 have:=hb.size;have:=hg.size;have c:∀b,b<w1.1.size->row≠some b->w2.heap[b]?=w1.heap[b]?:=fun b f i=>by
  rw[hg.block b (by omega) (fun e=>i e.symm),hb.block b f]
 have:=fun b e=>(h.lt (hr b e)).1;obtain⟨X,mo,a,k,l⟩:=h;have:=a.evs.1;have d:=a.evs.stay (by omega) (fun b hb=>c b (by omega) (fun e=>by grind));refine⟨X,mo,a.stay (by omega) d (fun b hb j=>c b hb (fun e=>?_)),fun b hb=>by grind,fun b hb=>?_⟩
 .simp_all
 rcases hb with hb|⟨r,j⟩
 .grind
 exact⟨by omega,j,fun q=>by grind,by have:=a.lt;omega,fun e=>by have:=a.moLt b e;omega⟩
theorem Jp8{w w':World}{v:Value}(h:w.ownsRow B t size v n xs)(hk:∀g,v.ownBlock=some g->w'.heap[g]?=w.heap[g]?):w'.ownsRow B t size v n xs:=by
 obtain⟨a,⟨rfl,d⟩| ⟨g,b,c,rfl,f,e,i⟩⟩:=h
 .exact ⟨a,NN ⟨rfl,d⟩⟩
 exact⟨a,NO ⟨g,b,c,rfl,f,(hk g rfl).trans e,i⟩⟩
theorem Jpo{wr:World}{v v':Value}{rs:List Rp}{xs:List Rv}{r:Rp}{x:Rv}{m:Nat}(hB:B<=wr.1.size)(hm:wr.1.size<=m)(hs1:wr.1.size<=w1.1.size)
 (hxl:rs.length=xs.length) (hpw:(Rv.all xs).Pairwise DisV) (hown:wr.ownsRow B 47 5 v rs.length (rowC rs xs)) (hob:∀g,v.ownBlock=some g->T g)
 (hnum:∀i,(hi:i<rs.length)->(hx:i<xs.length)->NumsW 3 (fun b=>T b/\B<=b/\v.ownBlock≠some b) wr (.slice xs[i].so xs[i].sn xs[i].sc) rs[i].sh/\NumsW 2 (fun b=>T b/\B<=b/\v.ownBlock≠some b) wr (.slice xs[i].co xs[i].cn xs[i].cc) rs[i].cs)
 (hT:∀b,T b->b<wr.1.size->w1.heap[b]?=wr.heap[b]?) (n1:NumsW 3 (fun b=>m<=b) w1 (E x.so x.sn x.sc) r.sh) (n2:NumsW 2 (fun b=>m<=b) w1 (E x.co x.cn x.cc) r.cs) (nd:DisV (E x.so x.sn x.sc) (E x.co x.cn x.cc))
 (hb:J w1 W1) (hg:W1.grownBy w2 v.ownBlock) (h2:w2.ownsRow B 47 5 v' (rs.length+1) (rowC rs xs++Gq r x)) (hat:v'.ownBlock=v.ownBlock\/v'.ownBlock=some W1.1.size):
 Reps (fun b=>(T b\/(m<=b/\b<w1.1.size))\/(w1.1.size<=b/\b<w2.1.size)) B w2 v' (rs++[r]):=by
 have u:=hb.size;have s:=hg.size;have p:=fun g a=>(hown.lt g a).2;have n:∀b,b<w1.1.size->v.ownBlock≠some b->w2.heap[b]?=w1.heap[b]?:=fun b j d=>by
  rw[hg.block b (by omega) (fun e=>d e.symm),hb.block b j]
 have q:(Rv.all (xs++[x])).Pairwise DisV:=by
  unfold Rv.all;rw[List.flatMap_append];refine PN.2 ⟨hpw,?_,fun h c f k g hg e=>?_⟩
  .simp only[List.flatMap_cons,List.flatMap_nil,YU,List.pairwise_cons,JO,Hd,or_false,forall_eq,PF,and_true,false_implies,implies_true];exact nd
  have h:g<wr.1.size:=by
   obtain⟨k,f,c⟩:=List.mem_flatMap.1 c;obtain⟨i,hi,rfl⟩:=Hc.1 f;have d:=hnum i (by omega) hi;simp only[JO,Hd,or_false]at c;rcases c with rfl|rfl
   .exact (d.1.own.lt g hg).2
   exact(d.2.own.lt g hg).2
  have h2:m<=g:=by
   simp only[List.flatMap_cons,List.flatMap_nil,YU,JO,Hd,or_false]at k;rcases k with rfl|rfl
   .exact n1.blk g e
   exact n2.blk g e
  omega
 refine⟨xs++[x],by simp[hxl],q,?_,?_,?_⟩
 .simp_all [Jf5]
 .intro g c;have f:=(h2.lt g c).2;grind
 have k:∀b,b<w1.1.size->v.ownBlock≠some b->v'.ownBlock≠some b:=fun b j d=>by
  grind
 have l:∀{t:TypeId} {f:Value} {ys:List Int},NumsW t (fun b=>T b/\B<=b/\v.ownBlock≠some b) wr f ys->NumsW t (fun b=>((T b\/(m<=b/\b<w1.1.size))\/(w1.1.size<=b/\b<w2.1.size))/\B<=b/\v'.ownBlock≠some b) w2 f ys:=fun a=>by
  have h:=(a.imp (Q:=fun b=>(T b/\B<=b/\v.ownBlock≠some b)/\b<wr.1.size) (fun b hb c=>⟨hb,c⟩)).keep (w':=w2) (by omega) (fun b hb c=>by grind);exact h.imp (fun b hb c=>⟨NN (NN hb.1.1),hb.1.2.1,k b (by omega) hb.1.2.2⟩)
 have new:∀{t:TypeId} {f:Value} {ys:List Int},NumsW t (fun b=>m<=b) w1 f ys->NumsW t (fun b=>((T b\/(m<=b/\b<w1.1.size))\/(w1.1.size<=b/\b<w2.1.size))/\B<=b/\v'.ownBlock≠some b) w2 f ys:=fun a=>by
  have d:∀b,m<=b->v.ownBlock≠some b:=fun b hb e=>by have:=p b e;omega
  have h:=(a.imp (Q:=fun b=>m<=b/\b<w1.1.size) (fun b hb c=>⟨hb,c⟩)).keep (w':=w2) (by omega) (fun b hb c=>n b c (d b hb.1));exact h.imp (fun b hb c=>⟨NN (NO hb),by omega,k b hb.2 (d b hb.1)⟩)
 intro i hi hx;by_cases a:i<rs.length
 .have c:i<xs.length:=by omega
  rw[MJ a,MJ c];exact⟨l (hnum i a c).1,l (hnum i a c).2⟩
 have o:i=rs.length:=by simp at hi;omega
 have c:(rs++[r])[i]=r:=by
  subst o;simp
 have h:(xs++[x])[i]=x:=by
  have:i=xs.length:=by omega
  subst this;simp
 rw[c,h];exact⟨new n1,new n2⟩
theorem FI:(prog.info? 47).map (fun i=>(i.zero,i.size,i.bytes))=some (some (.agg #[G 0,G 0,aH,aH,G 0]),5,72):=by kernel_rfl
def Tn(l:List UInt8):Prop:=Ya ⟨l.toArray⟩=1->tl l=some l.length
theorem Nk{p:UInt8->Bool}:∀(l:List UInt8),l.take (l.takeWhile p).length=l.takeWhile p
 | []=>rfl
 | c::l=>by
  cases h:p c with
  | false=>simp[h]
  | true=>simp[h,Nk l]
theorem Jdc{p:UInt8->Bool}:∀(l:List UInt8),(l.takeWhile p).takeWhile p=l.takeWhile p
 | []=>rfl
 | c::l=>by
  cases h:p c with
  | false=>simp[h]
  | true=>simp[h,Jdc l]
theorem Gy{c:UInt8}{r:List UInt8}(h:Ya ⟨(c::r).toArray⟩=1):dU c=false/\(c == 95)=false/\lU c=true/\c≠32:=by
 have a:hd ⟨(c::r).toArray⟩=(c.toNat:Int):=by simp[hd]
 unfold Ya at h;rw[a]at h;cases h1:((c.toNat:Int)== 40)with
 | true=>simp_all
 | false =>
  rw[h1,NP]at h;cases h2:((c.toNat:Int)== 41)with
  | true=>simp_all
  | false =>
   rw[h2,NP]at h;cases h3:((c.toNat:Int)== 95 || digB (c.toNat:Int))with
   | true=>simp_all
   | false =>
    rw[h3,NP]at h;cases h4:letB (c.toNat:Int)with
    | false=>simp_all
    | true =>
     simp only[Bool.or_eq_false_iff]at h3;refine⟨h3.2,?_,h4,?_⟩
     .refine NT.2 (fun e=>?_);simp_all
     intro e;subst e;exact absurd h4 (by decide)
theorem Jyw{l:List UInt8}(h:tl l=some n):Tn (l.take n):=by
 intro g;have t:=Jls h;have b:(l.take n).length=n:=by rw[YD];omega
 cases l with
 | nil=>simp_all
 | cons c r =>
  obtain⟨m,rfl⟩:∃m,n=m+1:=⟨n-1,by omega⟩;rw[JK]at g b⊢;obtain⟨d,e,f,_⟩:=Gy g;have j:tl (c::r)=wrdE (c::r):=by simp only[tl,d,e,f,NP,NX]
  have k:tl (c::r.take m)=wrdE (c::r.take m):=by simp only[tl,d,e,f,NP,NX]
  rw[j]at h;rw[k,b];unfold wrdE at h⊢;by_cases a:4<((c::r).takeWhile lU).length/\isFn ((c::r).take ((c::r).takeWhile lU).length)=false
  .simp only[a,and_self,Pt]at h;cases h
  simp only[FU a]at h;have i:=NS h;have o:c::r.take m=(c::r).takeWhile lU:=by
   have:=Nk (p:=lU) (c::r);rw[i,JK]at this;exact this
  have s:(c::r.take m).takeWhile lU=c::r.take m:=by rw[o];exact Jdc _
  rw[s,b];have q:(c::r.take m).take (m+1)=(c::r).take (m+1):=by simp[PC]
  rw[i]at a;show(if 4<m+1/\isFn ((c::r.take m).take (m+1))=false then none else some (m+1))=some (m+1);rw[q,FU a]
def AllN(s:ByteArray)(A:List (Nat × Nat)):Prop:=∀q ∈ A,Tn (s.extract q.1 q.2).data.toList
theorem Jq6(s):∀(f p:Nat) (A:List (Nat × Nat)),AllN s A->AllN s (lexS s f p A).1
 | 0,_,_,h=>h
 | f+1,p,A,h=>by
  unfold lexS;split
  .rename_i hp;cases hb:((s[p].toNat:Int)== 32)
   .rw [NP];cases ht:tl (s.data.toList.drop p)with
    | none=>intro q hq;cases hq
    | some n =>
     apply Jq6 s f;intro q hq;rcases ZK.1 hq with hq|hq
     .exact h q hq
     grind[Zf,Jyw]
   rw[NX];exact Jq6 s f _ _ h
  exact h
structure NmT (t:ByteArray):Prop where
 tl:tl t.data.toList=some t.size
 kind:Ya t=1
 few:t.size<=200
theorem Jvu{s:ByteArray}(hp:(Jr s).1=0)(hn:(Z2 s).size≠0):NmT (Z2 s):=by
 obtain⟨_,g⟩:=Qp hp;unfold Z2 at hn⊢;rw[FY hp]at hn⊢;unfold Q1 at hn⊢;cases hb:(kB (kr (toks s (lexR s).1)) 0 1 && kB (kr (toks s (lexR s).1)) 1 2)with
 | false=>rw[hb,NP]at hn;exact absurd rfl hn
 | true =>
  rw[NX];simp only[ZJ]at hb;obtain⟨a,f⟩:=Jau hb.1;rw[Z4]at a;have c:0<(lexR s).1.length:=by rw[Z6]at a;exact a
  have e:(tokAt (toks s (lexR s).1) 0).t=s.extract ((lexR s).1[0]).1 ((lexR s).1[0]).2:=by
   rw[Yz a];simp[toks]
  have b:Ya (s.extract ((lexR s).1[0]).1 ((lexR s).1[0]).2)=1:=by
   have:=hb.1;rw[Gl a]at this;simpa[toks]using this
  rw[e];have:=Jq6 s s.size 0 [] (fun q d=>by cases d) ((lexR s).1[0]) (ND c);exact⟨this b,b,by simp;omega⟩
def EnvN(env:ByteArray->Option Arr):Prop:=∀t a,env t=some a->NmT t
theorem Jx7{env:ByteArray->Option Arr}{F:Int}{s:ByteArray}(h:EnvN env):EnvN (envA env F s):=by
 unfold envA;cases ha:ans env F s with
 | inl e=>exact h
 | inr x =>
  by_cases b:(Z2 s).size=0
  .simp_all
  simp only[b,if_false];intro t c a;unfold upd at a;by_cases e:t=Z2 s
  .rw [e];exact Jvu (Jjz ha).1 b
  rw[FU e]at a;exact h t c a
theorem Jr6{F:Int}:∀(l:List ByteArray) (env:ByteArray->Option Arr),EnvN env->EnvN (Kr F env l)
 | [],_,h=>h
 | _::r,_,h=>Jr6 r _ (Jx7 h)
structure Ks (env:ByteArray->Option Arr) (n:Nat) (ks:List (List UInt8)):Prop where
 nd:ks.Nodup
 mem:∀ x,x ∈ ks↔(env ⟨List.toArray x⟩).isSome=true
 few:ks.length<=n
theorem Jug{F:Int}{S:Nat->Prop}{env:ByteArray->Option Arr}{db N:Nat}(h0:0<=F)(hF:F<=1000)(he:EnvOk env)(w)(ao)(n cap)(ls)(hn:ls.length=n)(hn50:n<=50)(hN:N+n<4000000)
 (hm:∀s ∈ ls,s.size<=9223372036854775807) (hT:Txts (fun b=>6<=b->S b) w ao ls) (hD:DkF F S db env N w):
 Calls prog 33 #[aJ db 0,E ao n cap] w fun e w'=>∃v T,e=aD v/\(∀b,S b->T b)/\DkF F T db (Kr F env ls) (N+n) w'/\KeepS S w w'/\Reps T w.1.size w' v (Qn F env ls):=by
 obtain⟨aw,af,ar,au,av⟩:=NY FI;have W:∀(k:Nat) (h:k<ls.length) (T:Nat->Prop) (wr:World),DkF F T db (Kr F env (ls.take k)) (N+k) wr->Calls prog 42 #[aJ db 0,aE ls[k]] wr (RepO F T db (Kr F env (ls.take (k+1))) (N+k+1) wr (ansR (Kr F env (ls.take k)) F ls[k])):=fun k h T wr hd=>by
  have:=Jzh h0 hF (Gd h0 (ls.take k) env he) (by omega) (hm _ (ND h)) wr hd;rw[NG h,N9];exact this
 have Q:=af;have Y:=ar;have Z:=au;have aa:=av;have aX:∀b,S b->b<w.1.size:=fun b f=>(hD.lt f).2.1;subst hn;have a5:(ls.length:Int)<=50:=by omega
 go_enter func33,ntmps33;go_wp2_with fail;go_loopw [5,17] (fun v a wr=>∃k:Nat,a=G k/\k<=ls.length/\∃T:Nat->Prop,(∀b,S b->T b)/\DkF F T db (Kr F env (ls.take k)) (N+k) wr/\KeepS S w wr/\Reps T w.1.size wr v (Qn F env (ls.take k))) (fun _ a _=>ls.length-(intOf a).toNat)
 .exact ⟨0,rfl,ZL _,S,fun _ f=>f,hD,KeepS.of aS,Juy _ _ _⟩
 obtain⟨k,rfl,h,T,D,hd,j,ak⟩:=hrel;have aq:=Bs.size j;by_cases z:k<ls.length
 .obtain ⟨lb,ax,rfl,ab,ag,ad⟩:=hT (by omega);have ac:=(j.lowc (b:=lb) (o:=ax+k) ag ab).trans (ad k z);have l:=W k z T wr hd;obtain⟨xs,P,ai,g,A,H⟩:=ak;have K:(Qn F env (ls.take k)).length=k:=by rw[Qb];simp;omega
  have p:Qn F env (ls.take (k+1))=Qn F env (ls.take k)++[ansR (Kr F env (ls.take k)) F ls[k]]:=by rw[NG z,Jd4]
  obtain⟨s,am⟩:=nm (ls[k]);rw[am]at ac l p;obtain⟨d,aj⟩:=nm (ansR (Kr F env (ls.take k)) F s);rw[aj]at l p;obtain⟨a6,al⟩:=nm (Qn F env (ls.take k));rw[al]at p P g H K;have X:=O P;have aZ:(0:Int)<=k:=by omega
  have a4:(k:Int)<(ls.length:Int):=by omega
  go_wp2_with fail;refine l.mono ?_;rintro e w1 ⟨m,C,B,sc,t,r,q,ap,rfl,n1,n2,ay,ae,i⟩;have an:=Bs.size i;have R:=Jp8 g (fun a c=>i.block (g.lt a c).2 (A a c));go_wp2_with (at_builtin;refine JE _ rfl _ _ 58 rfl w.1.size 47 aw (.agg #[G 0,G 0,M,M,G 0]) 5 72 underlying58 Q Y Z aa rfl (by decide) _ _ _ rfl (R.alloc _) (adP0 w1) 1 1 [G d.er,G d.at_,E C B sc,E t r q,G d.cost] rfl rfl ?c1 ?c2 ?c3 ?c4 ?c5 ?_)
  case c1 =>
   intro c az a;match c,a with
   | 0,a=>simp_all[Addr.add]
   | 1,a=>simp_all[Addr.add]
   | 2,a=>simp_all[Addr.add]
   | 3,a=>simp_all[Addr.add]
   | 4,a=>simp_all[Addr.add]
  case c2=>intro az L;simp at L;rcases L with rfl|rfl|rfl|rfl|rfl<;>rfl
  case c3=>grind[maxLen]
  case c4=>omega
  case c5=>simp;omega
  intro a7 w2 ah y _ aY;have u:J w1 (w1.alloc (.cells #[G d.er,G d.at_,E C B sc,E t r q,G d.cost] 47)):=belA1;have aW:=Jpo (x:=⟨C,B,sc,t,r,q⟩) aq ap an X ai g A H (fun b a c=>i.block c a) n1 n2 ay u y (by rw[K];exact ah) (by simp;omega);have aU:=ae.grown u y (fun a c=>NN (A a c));have aV:KeepS S w w2:=Bs.grown ((j.trans i (fun b _ f=>D b f))) u y (fun a c=>(g.lt a c).1);go_wp2;go_roundw
  .grind
  simp[intOf];omega
 have a:k=ls.length:=by omega
 subst a;go_wp2;go_ret;refine⟨u5,T,rfl,D,?_,j,?_⟩
 .simp_all
 simp_all
theorem Jvi{w:World}{B':Nat}{v:Value}(h:w.ownsRow B t size v n xs)(hb:B'<=B):w.ownsRow B' t size v n xs:=by
 obtain⟨a,f|⟨d,b,c,e,g,i⟩⟩:=h
 .exact ⟨a,NN f⟩
 exact⟨a,NO ⟨d,b,c,e,NE hb g,i⟩⟩
theorem Jz4{F:Int}{S:Nat->Prop}{db:Nat}{env:ByteArray->Option Arr}{N:Nat}{w:World}(hD:DkF F S db env N w){ks:List (List UInt8)}(hk:Ks env n ks)(hso:ks.mergeSort leB=ks)(hn:n<=5000000):
 Calls prog 31 #[aJ db 0] w fun e w'=>∃v,e=aD v/\w'.ownsRow w.1.size 9 1 v ks.length (ks.map encStr)/\J w w':=by
 have:=hk.few;obtain⟨X,mo,c,p,q⟩:=hD;have k:=c.map;have c1:=c.c1;cases mo with
 | none =>
  have d:ks=[]:=by
   cases ks with
   | nil=>rfl
   | cons a r =>
    have b:=(hk.mem a).1 (by simp);simp_all
  subst d;refine aR (Jmr db w c1) fun w' b=>?_;exact⟨_,rfl,NW _ _ _ _,b⟩
 | some mb =>
  obtain⟨_,_,_,D,g,d⟩:=k;have i:Collected D (fun _=>false) ks:=⟨hk.nd,fun a=>by
   rw[hk.mem a];have b:=d.2 ⟨List.toArray a⟩;have f:keyT ⟨List.toArray a⟩=.string a:=by simp[keyT]
   grind⟩
  have a:=i.perm g (Maps.string_keyed YY) YY (fun _=>rfl);have:Maps.size D=ks.length:=by
   obtain⟨es,rfl⟩:=d.1;rw[a.length_eq];simp[strKeys,size_eq]
  refine(Jqr db mb N D J0 w c1 g (by simp[maxLen];omega) (by omega)).mono ?_;rintro e w' ⟨v,o,rfl,f,m,b⟩;have j:=(f.trans a.symm).length_eq;have l:=(mergeSort_of_perm (f.trans a.symm)).trans hso;have h:w'.ownsRow (w.1.size+1) 9 1 v o.length (ks.map encStr):=by
   rw[<-l];exact m
  rw[j]at h;exact⟨v,rfl,Jvi h (by omega),b⟩
def NotK(κ:Nat)(col:Nat->Nat)(w:World)(b:Nat):Prop:=6<=b/\b<w.1.size/\col b≠κ
theorem DkF.pass{κ:Nat}{Z:Nat->Prop}{col col':Nat->Nat}{w w':World}{F:Int}{db N:Nat}{env:ByteArray->Option Arr}(h:DkF F (NotK κ col w) db env N w)(hp:Pass Z col col' w w')(hz:∀b,b<w.1.size->Z b->col b≠κ):DkF F (NotK κ col' w') db env N w':=by
 obtain⟨X,mo,c,k,l⟩:=h;have f:=hp.bs.size;have:=c.evs.1;have m:=c.evs.stay f (fun b a=>hp.bs.block b (by omega) (fun d=>by have:=hp.low b (by omega) d;omega));refine⟨X,mo,c.stay f m (fun b a g=>hp.bs.block b a (fun d=>?_)),fun b a=>FT (k b a) f,fun b a=>?_⟩
 .obtain ⟨_,_,a3,g,i⟩:=l b ⟨hp.low b a d,a,hz b a d⟩;simp_all
 obtain⟨b1,i,j⟩:=a;by_cases g:b<w.1.size
 .have:NotK κ col w b:=⟨b1,g,fun e=>by
   by_cases d:Z b
   .simp_all
   exact j ((hp.same b g d).trans e)⟩
  simp_all
 exact⟨b1,i,fun d=>by simp_all,by have:=c.lt;omega,fun e=>by have:=c.moLt b e;omega⟩
structure DS where
 db:Nat
 yb:Nat
 F:Int
 ce:ByteArray->Option Arr
 N:Nat
 de:ByteArray->Option Arr
 ns:List ByteArray
def upD(D:Nat->DS)(k:Nat)(d:DS)(j:Nat):DS:=if j=k then d else D j
theorem Yo(D)(k)(d):upD D k d k=d:=FY rfl
theorem Zu{D:Nat->DS}{d:DS}{j:Nat}(h:j≠k):upD D k d j=D j:=FU h
theorem Jtl{α:Type}(f:DS->α){D:Nat->DS}{d:DS}(h:f d=f (D k))(i):f (upD D k d i)=f (D i):=by
 grind[Yo,Zu]
def ptrs(f:Nat->Nat)(m:Nat):List Value:=(List.range m).map (fun i=>aJ (f i) 0)
theorem Jb2{m i:Nat}(h:i<m):(ptrs f m)[i]?=some (aJ (f i) 0):=by
 simp_all[ptrs]
theorem Jgb(f)(m):ptrs f (m+1)=ptrs f m++[aJ (f m) 0]:=by
 simp[ptrs,ZZ]
theorem Qo{g:Nat->Nat}{m:Nat}(h:∀i,i<m->f i=g i):ptrs f m=ptrs g m:=by
 simp[ptrs];omega
structure LawP (lb:Nat) (xv yv:Value) (m:Nat) (D:Nat->DS) (col:Nat->Nat) (w:World):Prop where
 lt:lb<w.1.size
 low:∀ b,b<6->col b=0
 clb:col lb=1
 c0:w.cell? (U lb 0)=some xv
 c1:w.cell? (U lb 1)=some yv
 fr:∀ i,w.frozen? (U lb i)=false
 xrow:w.ownsRow 0 25 1 xv m (ptrs (fun i=>(D i).db) m)
 xcol:∀ g,xv.ownBlock=some g->col g=8
 yrow:w.ownsRow 0 81 1 yv m (ptrs (fun i=>(D i).yb) m)
 ycol:∀ g,yv.ownBlock=some g->col g=9
 few:m<=3
theorem LawP.six{lb:Nat}{xv yv:Value}{m:Nat}{D:Nat->DS}{col:Nat->Nat}{w:World}(h:LawP lb xv yv m D col w):6<=lb:=by
 rcases YS lb 6 with h1|h1
 .have:=h.low lb h1;rw[h.clb]at this;cases this
 exact h1
theorem LawP.pass{lb:Nat}{xv yv:Value}{m:Nat}{D:Nat->DS}{Z:Nat->Prop}{col col':Nat->Nat}{w w':World}(h:LawP lb xv yv m D col w)(hp:Pass Z col col' w w')(h1:∀b,b<w.1.size->Z b->col b≠1)(h8:∀b,b<w.1.size->Z b->col b≠8)(h9:∀b,b<w.1.size->Z b->col b≠9):LawP lb xv yv m D col' w':=by
 obtain⟨a1,a2⟩:=hp.block h1 h.lt h.clb;obtain⟨b1,d⟩:=V6 h.xrow h.xcol hp h8;obtain⟨d1,e⟩:=V6 h.yrow h.ycol hp h9;have:=h.six;have:=h.lt;exact⟨FT h.lt hp.bs.size,fun b f=>(hp.same b (by omega) (fun c=>by have:=hp.low b (by omega) c;omega)).trans (h.low b f),a2,(WA a1).trans h.c0,(WA a1).trans h.c1,fun c=>(NI (a:=U lb c) a1).trans (h.fr c),b1,d,d1,e,h.few⟩
structure BkP (lb q n:Nat) (iv cv tv rv:Value) (K1 K2 K3 K4:Nat) (es1 es2 es3 es4:List Value) (col:Nat->Nat) (w:World):Prop where
 c2:w.cell? (U lb 2)=some (.int .i64 n)
 c3:w.cell? (U lb 3)=some iv
 c4:w.cell? (U lb 4)=some cv
 c5:w.cell? (U lb 5)=some tv
 c6:w.cell? (U lb 6)=some rv
 r1:BRow LI 96 3 col w iv K1 es1
 r2:BRow LI 98 4 col w cv K2 es2
 r3:BRow LT 101 5 col w tv K3 es3
 r4:BRow LR 104 6 col w rv K4 es4
 q0:n<=q
 q1:K1<=q
 q2:K2<=q
 q3:K3<=q
 q4:K4<=q
def BkS(lb q:Nat)(col:Nat->Nat)(w:World):Prop:=∃n iv cv tv rv K1 K2 K3 K4 es1 es2 es3 es4,BkP lb q n iv cv tv rv K1 K2 K3 K4 es1 es2 es3 es4 col w
theorem BkS.up{lb q q':Nat}{col:Nat->Nat}{w:World}(h:BkS lb q col w)(hq:q<=q'):BkS lb q' col w:=by
 obtain⟨n,iv,e,l,k,a,b,c,d,f,g,i,j,h⟩:=h;exact⟨n,iv,e,l,k,a,b,c,d,f,g,i,j,{ h with q0:=NE h.q0 hq,q1:=NE h.q1 hq,q2:=NE h.q2 hq,q3:=NE h.q3 hq,q4:=NE h.q4 hq }⟩
theorem BkS.pass{lb q:Nat}{Z:Nat->Prop}{col col':Nat->Nat}{w w':World}(h:BkS lb q col w)(hlt:lb<w.1.size)(hc:col lb=1)(hp:Pass Z col col' w w')(hz:∀b,b<w.1.size->Z b->col b≠1/\col b≠2/\col b≠3/\col b≠4/\col b≠5/\col b≠6):BkS lb q col' w':=by
 obtain⟨n,iv,j,r,p,e,f,g,i,k,l,m,o,h⟩:=h;obtain⟨a1,-⟩:=hp.block (fun b a c=>(hz b a c).1) hlt hc;have d:=fun b a c=>(hz b a c).2.1;exact⟨n,iv,j,r,p,e,f,g,i,k,l,m,o,(WA a1).trans h.c2,(WA a1).trans h.c3,(WA a1).trans h.c4,(WA a1).trans h.c5,(WA a1).trans h.c6,h.r1.pass li_ok hp d (fun b a c=>(hz b a c).2.2.1),h.r2.pass Jjc hp d (fun b a c=>(hz b a c).2.2.2.1),h.r3.pass Ji3 hp d (fun b a c=>(hz b a c).2.2.2.2.1),h.r4.pass Ji4 hp d (fun b a c=>(hz b a c).2.2.2.2.2),h.q0,h.q1,h.q2,h.q3,h.q4⟩
structure DOk (d:DS) (p:Nat):Prop where
 f0:0<=d.F
 f1:d.F<=1000
 cok:EnvOk d.ce
 cn:EnvN d.ce
 dok:EnvOk d.de
 dn:EnvN d.de
 few:d.N<=p
def Jtf(i:Nat)(d:DS)(col:Nat->Nat)(w:World):Prop:=DkF d.F (NotK (10+2*i) col w) d.db d.ce d.N w
def DocP(i:Nat)(d:DS)(col:Nat->Nat)(w:World):Prop:=RD (fun b=>col b=11+2*i) d.yb d.F d.de d.ns w
structure LSt (lb:Nat) (xv yv:Value) (m:Nat) (D:Nat->DS) (p q:Nat) (col:Nat->Nat) (w:World):Prop where
 law:LawP lb xv yv m D col w
 book:BkS lb q col w
 ok:∀ i,i<m->DOk (D i) p
 code:∀ i,i<m->Jtf i (D i) col w
 doc:∀ i,i<m->DocP i (D i) col w
section
variable {lb:Nat} {xv yv:Value} {m:Nat} {D:Nat->DS} {p q:Nat} {Z:Nat->Prop} {col col':Nat->Nat} {w w':World}
theorem LSt.pass(h:LSt lb xv yv m D p q col w)(hp:Pass Z col col' w w')(hz:∀b,b<w.1.size->Z b->col b=0\/col b=7\/col b=16):LSt lb xv yv m D p q col' w':=by
 have a:∀f,f≠0->f≠7->f≠16->∀b,b<w.1.size->Z b->col b≠f:=fun f c0 i g b j k e=>by
  grind
 refine⟨h.law.pass hp (a 1 (by decide) (by decide) (by decide)) (a 8 (by decide) (by decide) (by decide)) (a 9 (by decide) (by decide) (by decide)),h.book.pass h.law.lt h.law.clb hp (fun b c d=>⟨a 1 (by decide) (by decide) (by decide) b c d,a 2 (by decide) (by decide) (by decide) b c d,a 3 (by decide) (by decide) (by decide) b c d,a 4 (by decide) (by decide) (by decide) b c d,a 5 (by decide) (by decide) (by decide) b c d,a 6 (by decide) (by decide) (by decide) b c d⟩),h.ok,fun d c=>?_,fun d c=>?_⟩
 .have:=h.law.few;exact DkF.pass (h.code d c) hp (a _ (by omega) (by omega) (by omega))
 have:=h.law.few;exact RD.pass (h.doc d c) hp (a _ (by omega) (by omega) (by omega))
theorem LSt.below(h:LSt lb xv yv m D p q col w)(hb:J w w')(c):LSt lb xv yv m D p q (colN col w.1.size c) w':=h.pass (Pass.new hb c) (fun _ _ h=>h.elim)
theorem LSt.codes(h:LSt lb xv yv m D p q col w)(hk:k<m)(hp:Pass Z col col' w w')(hz:∀b,b<w.1.size->Z b->col b=10+2*k){d:DS}{p':Nat}(hd:d.db=(D k).db)(hy:d.yb=(D k).yb)(hF:d.F=(D k).F)(he:d.de=(D k).de)(hn:d.ns=(D k).ns)(hok:DOk d p')(hpp:p<=p')(hc:Jtf k d col' w'):LSt lb xv yv m (upD D k d) p' q col' w':=by
 have c:∀i,i≠10+2*k->∀b,b<w.1.size->Z b->col b≠i:=fun i c0 b l n e=>by
  simp_all
 have j:=h.law.pass hp (c 1 (by omega)) (c 8 (by omega)) (c 9 (by omega));refine⟨{ j with xrow:=?_,yrow:=?_ },h.book.pass h.law.lt h.law.clb hp (fun b a f=>⟨c 1 (by omega) b a f,c 2 (by omega) b a f,c 3 (by omega) b a f,c 4 (by omega) b a f,c 5 (by omega) b a f,c 6 (by omega) b a f⟩),fun a f=>?_,fun a f=>?_,fun a f=>?_⟩
 .rw [Qo (g:=fun a=>(D a).db) (fun a _=>Jtl DS.db hd a)];exact j.xrow
 .rw [Qo (g:=fun a=>(D a).yb) (fun a _=>Jtl DS.yb hy a)];exact j.yrow
 .by_cases e:a=k
  .simp_all [Yo]
  rw[Zu e];exact{ h.ok a f with few:=NE (h.ok a f).few hpp }
 .by_cases e:a=k
  .simp_all [Yo]
  rw[Zu e];exact DkF.pass (h.code a f) hp (c _ (by omega))
 by_cases e:a=k
 .subst e;rw[Yo];have:=RD.pass (h.doc a f) hp (c _ (by omega));simp_all[DocP]
 rw[Zu e];exact RD.pass (h.doc a f) hp (c _ (by omega))
theorem LSt.docs(h:LSt lb xv yv m D p q col w)(hk:k<m)(hp:Pass Z col col' w w')(hz:∀b,b<w.1.size->Z b->col b=11+2*k){d:DS}(hd:d.db=(D k).db)(hy:d.yb=(D k).yb)(hF:d.F=(D k).F)(he:d.ce=(D k).ce)(hn:d.N=(D k).N)(hok:DOk d p)(hc:DocP k d col' w'):LSt lb xv yv m (upD D k d) p q col' w':=by
 have c:∀i,i≠11+2*k->∀b,b<w.1.size->Z b->col b≠i:=fun i c0 b l n e=>by
  simp_all
 have j:=h.law.pass hp (c 1 (by omega)) (c 8 (by omega)) (c 9 (by omega));refine⟨{ j with xrow:=?_,yrow:=?_ },h.book.pass h.law.lt h.law.clb hp (fun b a f=>⟨c 1 (by omega) b a f,c 2 (by omega) b a f,c 3 (by omega) b a f,c 4 (by omega) b a f,c 5 (by omega) b a f,c 6 (by omega) b a f⟩),fun a f=>?_,fun a f=>?_,fun a f=>?_⟩
 .rw [Qo (g:=fun a=>(D a).db) (fun a _=>Jtl DS.db hd a)];exact j.xrow
 .rw [Qo (g:=fun a=>(D a).yb) (fun a _=>Jtl DS.yb hy a)];exact j.yrow
 .by_cases e:a=k
  .simp_all [Yo]
  rw[Zu e];exact h.ok a f
 .by_cases e:a=k
  .subst e;rw[Yo];have:=DkF.pass (h.code a f) hp (c _ (by omega));simp_all[Jtf]
  rw[Zu e];exact DkF.pass (h.code a f) hp (c _ (by omega))
 by_cases e:a=k
 .simp_all [Yo]
 rw[Zu e];exact RD.pass (h.doc a f) hp (c _ (by omega))
end
def colB(col:Nat->Nat)(n:Nat)(v iv':Value)(κ:Nat)(b:Nat):Nat:=if b<n then(if v.ownBlock=some b then 2 else col b)else if iv'.ownBlock=some b then κ else 2
def BkD(lb:Nat)(xv yv:Value)(m:Nat)(D:Nat->DS)(p q:Nat)(col:Nat->Nat)(v:Value)(w:World)(e:Ending)(w':World):Prop :=
 e=.returned (.tuple #[])/\∃Z col',Pass Z col col' w w'/\(∀b,b<w.1.size->Z b->v.ownBlock=some b\/(1<=col b/\col b<=6))/\LSt lb xv yv m D p (q+1) col' w'
section
variable {lb:Nat} {xv yv:Value} {m:Nat} {D:Nat->DS} {p q:Nat} {col:Nat->Nat} {w w':World} {v iv iv':Value} {κ:Nat}
theorem J2s(h:v.ownBlock=some b)(hb:b<n):colB col n v iv' κ b=2:=by unfold colB;rw[FY hb,FY h]
theorem Jbj(h:v.ownBlock≠some b)(hb:b<n):colB col n v iv' κ b=col b:=by unfold colB;rw[FY hb,FU h]
theorem Jw6(h:iv'.ownBlock=some b)(hb:n<=b):colB col n v iv' κ b=κ:=by unfold colB;rw[FU (by omega),FY h]
theorem Jw7(h:iv'.ownBlock≠some b)(hb:n<=b):colB col n v iv' κ b=2:=by unfold colB;rw[FU (by omega),FU h]
structure BkC (lb:Nat) (xv yv:Value) (m:Nat) (D:Nat->DS) (col:Nat->Nat) (v iv iv':Value) (κ:Nat) (w w':World):Prop where
 pass:Pass (fun b=>b=lb\/v.ownBlock=some b\/iv.ownBlock=some b) col (colB col w.1.size v iv' κ) w w'
 z:∀ b,b<w.1.size->(b=lb\/v.ownBlock=some b\/iv.ownBlock=some b)->v.ownBlock=some b\/(1<=col b/\col b<=6)
 zn:∀ b,b<w.1.size->(b=lb\/v.ownBlock=some b\/iv.ownBlock=some b)->col b=1\/col b=7\/col b=κ
 law:LawP lb xv yv m D (colB col w.1.size v iv' κ) w'
 code:∀ i,i<m->Jtf i (D i) (colB col w.1.size v iv' κ) w'
 doc:∀ i,i<m->DocP i (D i) (colB col w.1.size v iv' κ) w'
 row:∀ g,iv'.ownBlock=some g->colB col w.1.size v iv' κ g=κ
 lst:∀ b,(v.ownBlock=some b\/(w.1.size<=b/\iv'.ownBlock≠some b))->colB col w.1.size v iv' κ b=2
theorem LSt.bk(h:LSt lb xv yv m D p q col w){ci:Nat}(hκ:3<=κ/\κ<=6)(hvc:∀g,v.ownBlock=some g->col g=7/\g<w.1.size)(hic:∀g,iv.ownBlock=some g->col g=κ/\g<w.1.size)(hat:iv'.ownBlock=iv.ownBlock\/∃g,iv'.ownBlock=some g/\w.1.size<=g)
 (hbs:Bs (fun b=>b=lb\/v.ownBlock=some b\/iv.ownBlock=some b) w w') (hci:3<=ci) (eo:∀i,i≠2->i≠ci->w'.cell? (U lb i)=w.cell? (U lb i)) (ef:∀i,w'.frozen? (U lb i)=w.frozen? (U lb i)):BkC lb xv yv m D col v iv iv' κ w w':=by
 have a:=h.law;have:=a.six;have n:=a.lt;have clb:=a.clb;have l:∀b,b<w.1.size->(b=lb\/v.ownBlock=some b\/iv.ownBlock=some b)->col b=1\/col b=7\/col b=κ:=fun b _ hz=>by
  rcases hz with rfl|hz|hz
  .exact NN clb
  .exact NO (NN (hvc b hz).1)
  exact NO (NO (hic b hz).1)
 have f:Pass (fun b=>b=lb\/v.ownBlock=some b\/iv.ownBlock=some b) col (colB col w.1.size v iv' κ) w w':=by
  refine⟨hbs,fun b hb c=>Jbj (fun e=>c (NO (NN e))) hb,fun b hb hz=>?_⟩;rcases YS b 6 with h1|h1
  .have k:=a.low b h1;have c:=l b hb hz;omega
  exact h1
 have j:∀d,d≠1->d≠7->d≠κ->∀b,b<w.1.size->(b=lb\/v.ownBlock=some b\/iv.ownBlock=some b)->col b≠d:=fun d c1 x y b hb hz e=>by
  have:=l b hb hz;omega
 have few:=a.few;obtain⟨r,s⟩:=V6 a.xrow a.xcol f (j 8 (by omega) (by omega) (by omega));obtain⟨t,u⟩:=V6 a.yrow a.ycol f (j 9 (by omega) (by omega) (by omega));refine⟨f,fun b hb hz=>?_,l,⟨FT n hbs.size,fun b hb=>?_,?_,(eo 0 (by decide) (by omega)).trans a.c0,(eo 1 (by decide) (by omega)).trans a.c1,fun i=>(ef i).trans (a.fr i),r,s,t,u,few⟩,fun i k=>DkF.pass (h.code i k) f (j _ (by omega) (by omega) (by omega)),fun i k=>RD.pass (h.doc i k) f (j _ (by omega) (by omega) (by omega)),fun g c=>?_,fun b hb=>?_⟩
 .rcases hz with rfl|hz|hz
  .exact NO (by omega)
  .exact NN hz
  exact NO (by have:=(hic b hz).1;omega)
 .rw [Jbj (fun e=>by have h1:=(hvc b e).1;have k:=a.low b hb;omega) (by omega)];exact a.low b hb
 .rw [Jbj (fun e=>by have h1:=(hvc lb e).1;omega) n];exact clb
 .rcases hat with e|⟨z,e,o⟩
  .rw [e]at c;obtain⟨h1,k⟩:=hic g c;rw[Jbj (fun e=>by have h1:=(hvc g e).1;omega) k];exact h1
  have k:=c;rw[e]at c;injection c with c;subst c;exact Jw6 k o
 rcases hb with hb|hb
 .exact J2s hb (hvc b hb).2
 exact Jw7 hb.2 hb.1
theorem LSt.bka(h:LSt lb xv yv m D p q col w){f s:Nat}{TT T tt:TypeId}(c2:w.cell? (U lb 2)=some (G n))(cf:w.cell? (U lb f)=some iv)(r:BRow L T κ col w iv K es)(hκ:3<=κ/\κ<=6)(hv:w.ownsRow 0 t s v k xs)(hc:∀g,v.ownBlock=some g->col g=7)(ty:TyOk tt t s)(Ty:TyOk TT T 5)(hn:n<=10000000/\K<=10000000/\k<=1000000):BkA f TT T tt t s lb n iv K k es v xs w :=
 have e2:=h.law.clb
 ⟨h.law.lt,c2,cf,h.law.fr,fun g h1 h2=>by have e1:=hc g h1;have e2:=r.blk g h2;omega,fun e=>by have e1:=hc lb e;omega,fun e=>by have e1:=r.blk lb e;omega,hn.1,hn.2.1,hn.2.2,ty,Ty,r.own,hv⟩
theorem LSt.took(h:LSt lb xv yv m D p q col w){f g n1 s:Nat}{isT:Bool}{T:TypeId}{Z:(Nat->Prop)->World->Value->Nat->Prop}{mv:Value}{e:Ending}(hL:LOk L g isT)(hZ:∀{P col' L' j},Z P w' L' j->(∀b,P b->col' b=2)->L col' w' L' j mv)(r:BRow L T κ col w iv K es)(hκ:3<=κ/\κ<=6)(hf:3<=f)(hv:w.ownsRow 0 t s v k xs)(hc:∀g,v.ownBlock=some g->col g=7)(hk:k<=900000)(R:BkR f T Z mv lb n1 iv K k es v w e w'):
 ∃iv',e=aD (.tuple #[])/\BkC lb xv yv m D col v iv iv' κ w w'/\w'.cell? (U lb 2)=some (G n1)/\w'.cell? (U lb f)=some iv'/\(∀i,i≠2->i≠f->w'.cell? (U lb i)=w.cell? (U lb i))/\(∃es',BRow L T κ (colB col w.1.size v iv' κ) w' iv' (K+1) es') /\
  ∀{L' g' isT' T' κ' v' K' es'},LOk L' g' isT'->κ'≠κ/\3<=κ'/\κ'<=6->BRow L' T' κ' col w v' K' es'->BRow L' T' κ' (colB col w.1.size v iv' κ) w' v' K' es':=by
 obtain⟨iv',u,b,x,rfl,y,z,n,A,W,C,S,H⟩:=R;have a:=h.bk (ci:=f) hκ (fun g c=>⟨hc g c,(hv.lt g c).2⟩) (fun g c=>⟨r.blk g c,(r.own.lt g c).2⟩) C H hf n A;have d:∀c,c≠1->c≠7->c≠κ->∀b,b<w.1.size->(b=lb\/v.ownBlock=some b\/iv.ownBlock=some b)->col b≠c:=fun c c1 Y aa b F d e=>by
  have:=a.zn b F d;omega
 have o:=d 2 (by decide) (by decide) (by omega);have l:∀L j,(L,j) ∈ [(v,k),(u,k+1),(b,k+2),(x,k+3)]->_:=fun L j N=>hZ (S L j N) a.lst;exact⟨iv',rfl,a,y,z,n,⟨_,r.snoc hL a.pass o W a.row (l _ _ (by simp)) (l _ _ (by simp)) (l _ _ (by simp)) (l _ _ (by simp)) hk⟩,fun B Q X=>X.pass B a.pass o (d _ (by omega) (by omega) Q.1)⟩
end
theorem U3:TyOk 37 3 1:=TyOk.of JH GS (by decide)
theorem U2:TyOk 32 2 1:=TyOk.of ZP VI (by decide)
theorem U9:TyOk 54 9 1:=TyOk.of JB GQ (by decide)
theorem U47:TyOk 58 47 5:=TyOk.of underlying58 GX (by decide)
theorem U96:TyOk 64 96 5:=TyOk.of underlying64 GT (by decide)
theorem U98:TyOk 65 98 5:=TyOk.of underlying65 GU (by decide)
theorem U101:TyOk 66 101 5:=TyOk.of underlying66 GV (by decide)
theorem U104:TyOk 67 104 5:=TyOk.of underlying67 GW (by decide)
section
variable {lb:Nat} {xv yv:Value} {m:Nat} {D:Nat->DS} {p q:Nat} {col:Nat->Nat} {w:World}
theorem Js5(h:LSt lb xv yv m D p q col w)(v)(xs:List Int)(hv:w.ownsRow 0 3 1 v xs.length (xs.map (Value.int .i64)))(hc:∀g,v.ownBlock=some g->col g=7)(hk:xs.length<=200)(hq:q<=9000000):Calls prog 52 #[aJ lb 2,v] w (BkD lb xv yv m D p q col v w):=by
 obtain⟨n,iv,r,C,B,i,j,k,l,H,K,L,N,a⟩:=h.book;have:=a.q0;have:=a.q1;refine(bints_any.1 (h.bka a.c2 a.c3 a.r1 (by decide) hv hc U3 U96 (by omega))).mono fun e w' o=>?_;obtain⟨iv',rfl,c,s,t,d,⟨F,y⟩,f⟩:=h.took li_ok (fun A u=>⟨_,rfl,A.imp (fun b x _=>u b x)⟩) a.r1 (by decide) (by decide) hv hc (by omega) o;exact⟨rfl,_,_,c.pass,c.z,c.law,⟨n+1,iv',r,C,B,i+1,j,k,l,_,_,_,_,s,t,(d 4 (by decide) (by decide)).trans a.c4,(d 5 (by decide) (by decide)).trans a.c5,(d 6 (by decide) (by decide)).trans a.c6,y,f Jjc (by decide) a.r2,f Ji3 (by decide) a.r3,f Ji4 (by decide) a.r4,MH a.q0,MH a.q1,YH a.q2,YH a.q3,YH a.q4⟩,h.ok,c.code,c.doc⟩
theorem Jxf(h:LSt lb xv yv m D p q col w)(v)(xs:List Int)(hv:w.ownsRow 0 2 1 v xs.length (xs.map (Value.int .i64)))(hc:∀g,v.ownBlock=some g->col g=7)(hk:xs.length<=200)(hq:q<=9000000):Calls prog 53 #[aJ lb 2,v] w (BkD lb xv yv m D p q col v w):=by
 obtain⟨n,iv,C,B,A,i,j,k,l,H,K,L,N,a⟩:=h.book;have:=a.q0;have:=a.q2;refine(bints_any.2 (h.bka a.c2 a.c4 a.r2 (by decide) hv hc U2 U98 (by omega))).mono fun e w' o=>?_;obtain⟨iv',rfl,c,r,s,d,⟨F,x⟩,f⟩:=h.took Jjc (fun y t=>⟨_,rfl,y.imp (fun b u _=>t b u)⟩) a.r2 (by decide) (by decide) hv hc (by omega) o;exact⟨rfl,_,_,c.pass,c.z,c.law,⟨n+1,iv,iv',B,A,i,j+1,k,l,_,_,_,_,r,(d 3 (by decide) (by decide)).trans a.c3,s,(d 5 (by decide) (by decide)).trans a.c5,(d 6 (by decide) (by decide)).trans a.c6,f li_ok (by decide) a.r1,x,f Ji3 (by decide) a.r3,f Ji4 (by decide) a.r4,MH a.q0,YH a.q1,MH a.q2,YH a.q3,YH a.q4⟩,h.ok,c.code,c.doc⟩
theorem Jxd(h:LSt lb xv yv m D p q col w)(v)(xs:List ByteArray)(hv:w.ownsRow 0 9 1 v xs.length (xs.map Value.string))(hc:∀g,v.ownBlock=some g->col g=7)(hk:xs.length<=900000)(hq:q<=9000000):Calls prog 49 #[aJ lb 2,v] w (BkD lb xv yv m D p q col v w):=by
 obtain⟨n,iv,r,P,C,j,k,l,o,H,K,L,N,a⟩:=h.book;have:=a.q0;have:=a.q3;refine(Jnl (h.bka a.c2 a.c5 a.r3 (by decide) hv hc U9 U101 (by omega))).mono fun e w' d=>?_;obtain⟨t,d⟩:=d;obtain⟨iv',rfl,c,s,u,f,⟨F,A⟩,i⟩:=h.took Ji3 (fun B x=>⟨_,rfl,B.imp (fun b y _=>x b y)⟩) a.r3 (by decide) (by decide) hv hc (by omega) d;exact⟨rfl,_,_,c.pass,c.z,c.law,⟨n+1,iv,r,iv',C,j,k,l+1,o,_,_,_,_,s,(f 3 (by decide) (by decide)).trans a.c3,(f 4 (by decide) (by decide)).trans a.c4,u,(f 6 (by decide) (by decide)).trans a.c6,i li_ok (by decide) a.r1,i Jjc (by decide) a.r2,A,i Ji4 (by decide) a.r4,MH a.q0,YH a.q1,YH a.q2,MH a.q3,YH a.q4⟩,h.ok,c.code,c.doc⟩
theorem Jnn(h:LSt lb xv yv m D p q col w)(v)(k)(xs)(hv:w.ownsRow 0 47 5 v k xs)(hc:∀g,v.ownBlock=some g->col g=7)(hk:k<=200)(hq:q<=9000000):Calls prog 54 #[aJ lb 2,v] w (BkD lb xv yv m D p q col v w):=by
 obtain⟨n,iv,s,C,P,i,j,l,o,H,K,L,N,a⟩:=h.book;have:=a.q0;have:=a.q4;refine(Jhy (h.bka a.c2 a.c6 a.r4 (by decide) hv hc U47 U104 (by omega))).mono fun e w' r=>?_;obtain⟨iv',rfl,c,t,u,d,⟨F,A⟩,f⟩:=h.took Ji4 (fun B x=>⟨_,rfl,B.imp (fun b y=>NN (x b y))⟩) a.r4 (by decide) (by decide) hv hc (by omega) r;exact⟨rfl,_,_,c.pass,c.z,c.law,⟨n+1,iv,s,C,iv',i,j,l,o+1,_,_,_,_,t,(d 3 (by decide) (by decide)).trans a.c3,(d 4 (by decide) (by decide)).trans a.c4,(d 5 (by decide) (by decide)).trans a.c5,u,f li_ok (by decide) a.r1,f Jjc (by decide) a.r2,f Ji3 (by decide) a.r3,A,MH a.q0,YH a.q1,YH a.q2,YH a.q3,MH a.q4⟩,h.ok,c.code,c.doc⟩
end
theorem Jxe{lb:Nat}{xv yv:Value}{m:Nat}{D:Nat->DS}{p q:Nat}{col:Nat->Nat}{w:World}(h:LSt lb xv yv m D p q col w)(hq:q<=9000000):
 Calls prog 36 #[aJ lb 2] w fun e w'=>e=aD (.bool true)/\J w w':=by
 obtain⟨n,iv,g,j,i,b,c,d,f,r,s,t,u,a⟩:=h.book;have:=a.q1;have:=a.q2;have:=a.q3;have:=a.q4;exact Jnm lb b c d f iv g j i w h.law.lt a.c3 a.c4 a.c5 a.c6 (a.r1.row li_ok) (a.r2.row Jjc) (a.r3.row Ji3) (a.r4.row Ji4) (by omega) (by omega) (by omega) (by omega)
end Go.Proofs.YtjobgpahajhbnaaGreatDoor
