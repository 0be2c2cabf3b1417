import Derived.Test.YtjobgpahajhbnaaGreatDoorWc
import Derived.Laws.OwnMore
import Derived.Deep.LoopGhost
namespace Go.Proofs.YtjobgpahajhbnaaGreatDoor
open Go.RowKit Go.Proofs.Tryz
set_option linter.all false
set_option maxHeartbeats 1000000
variable {B B' cap j k n nb o p:Nat} {S:List Tok} {W W0 w w' w1 w2:World} {ao q:Option Addr} {e:TypeId} {l rr v:Value} {o1 o2:Obj} {r x:Int} {t:ByteArray} {ws:List Int} {xs:List Value}
inductive Ex where
 | num (ws:List Int)
 | name (t:ByteArray) (p:Nat)
 | one (t:ByteArray) (p:Nat) (r:Ex)
 | two (t:ByteArray) (p:Nat) (l r:Ex)
def IntsIn(B:Nat)(w:World)(v:Value)(ws:List Int):Prop :=
 ∃b cap,v=aI b 0 ws.length cap/\ws.length<=cap/\B<b/\b<w.1.size/\∀i,(h:i<ws.length)->w.cell? (U b i)=some (.int .i64 ws[i])
def IsEx(B:Nat)(w:World):Option Addr->Ex->Prop
 | a,.num ws=>∃b n,a=some (U b 0)/\B<b/\b<w.1.size/\w.cell? (U b 0)=some (.int .i64 0)/\w.cell? (U b 7)=some n/\IntsIn B w n ws/\0<ws.length/\ws.length<=200
 | a,.name t p=>∃(b:Nat) (rr xx:Int),a=some (U b 0)/\B<b/\b<w.1.size/\w.cell? (U b 0)=some (.int .i64 1)/\w.cell? (U b 1)=some (.int .i64 rr)/\w.cell? (U b 2)=some (.int .i64 xx)/\w.cell? (U b 3)=some (.string t)/\w.cell? (U b 4)=some (.int .i64 p)
 | a,.one t p r=>∃(b:Nat) (k:Int) (q:Option Addr),a=some (U b 0)/\B<b/\b<w.1.size/\w.cell? (U b 0)=some (.int .i64 k)/\k≠0/\k≠1/\w.cell? (U b 3)=some (.string t)/\w.cell? (U b 4)=some (.int .i64 p)/\w.cell? (U b 5)=some (.pointer none)/\w.cell? (U b 6)=some (.pointer q)/\IsEx B w q r
 | a,.two t p l r=>∃(b:Nat) (k:Int) (ql q:Option Addr),a=some (U b 0)/\B<b/\b<w.1.size/\w.cell? (U b 0)=some (.int .i64 k)/\k≠0/\k≠1/\w.cell? (U b 3)=some (.string t)/\w.cell? (U b 4)=some (.int .i64 p)/\w.cell? (U b 5)=some (.pointer ql)/\w.cell? (U b 6)=some (.pointer q)/\IsEx B w ql l/\IsEx B w q r
def Behind(B:Nat)(w w':World):Prop:=w.1.size<=w'.1.size/\∀b,B<b->b<w.1.size->w'.heap[b]?=w.heap[b]?
theorem Behind.cell(h:Behind B w w'){b:Nat}(h1:B<b)(h2:b<w.1.size)(i):w'.cell? (U b i)=w.cell? (U b i):=WA (h.2 b h1 h2)
theorem Behind.of_below(h:J w w'):Behind B w w':=⟨h.size,fun b _ hb=>h.block b hb⟩
theorem IntsIn.keep(h:IntsIn B w v ws)(hb:Behind B w w'):IntsIn B w' v ws:=by
 obtain⟨d,cap,i,g,a,b,e⟩:=h;exact⟨d,cap,i,g,a,FT b hb.1,fun c f=>(hb.cell a b c).trans (e c f)⟩
theorem IsEx.keep{B:Nat}{w w':World}(hb:Behind B w w'):∀{e:Ex} {a:Option Addr},IsEx B w a e->IsEx B w' a e
 | .num ws,a,h=>by
  obtain⟨b,n,ha,h1,h2,c0,c7,hi,hp⟩:=h;exact⟨b,n,ha,h1,FT h2 hb.1,(hb.cell h1 h2 0).trans c0,(hb.cell h1 h2 7).trans c7,hi.keep hb,hp⟩
 | .name t p,a,h=>by
  obtain⟨b,rr,xx,ha,h1,h2,c0,c1,c2,c3,c4⟩:=h;exact⟨b,rr,xx,ha,h1,FT h2 hb.1,(hb.cell h1 h2 0).trans c0,(hb.cell h1 h2 1).trans c1,(hb.cell h1 h2 2).trans c2,(hb.cell h1 h2 3).trans c3,(hb.cell h1 h2 4).trans c4⟩
 | .one t p r,a,h=>by
  obtain⟨b,k,q,ha,h1,h2,c0,k0,k1,c3,c4,c5,c6,hr⟩:=h;exact⟨b,k,q,ha,h1,FT h2 hb.1,(hb.cell h1 h2 0).trans c0,k0,k1,(hb.cell h1 h2 3).trans c3,(hb.cell h1 h2 4).trans c4,(hb.cell h1 h2 5).trans c5,(hb.cell h1 h2 6).trans c6,IsEx.keep hb hr⟩
 | .two t p l r,a,h=>by
  obtain⟨b,k,ql,q,ha,h1,h2,c0,k0,k1,c3,c4,c5,c6,hl,hr⟩:=h;exact⟨b,k,ql,q,ha,h1,FT h2 hb.1,(hb.cell h1 h2 0).trans c0,k0,k1,(hb.cell h1 h2 3).trans c3,(hb.cell h1 h2 4).trans c4,(hb.cell h1 h2 5).trans c5,(hb.cell h1 h2 6).trans c6,IsEx.keep hb hl,IsEx.keep hb hr⟩
theorem IntsIn.mono(h:IntsIn B w v ws)(hb:B'<=B):IntsIn B' w v ws:=by
 obtain⟨a,cap,e,d,f,b,c⟩:=h;exact⟨a,cap,e,d,by omega,b,c⟩
theorem IsEx.mono{B B':Nat}{w:World}(hb:B'<=B):∀{e:Ex} {a:Option Addr},IsEx B w a e->IsEx B' w a e
 | .num ws,a,h=>by
  obtain⟨b,n,ha,h1,h2,c0,c7,hi,hp⟩:=h;exact⟨b,n,ha,by omega,h2,c0,c7,hi.mono hb,hp⟩
 | .name t p,a,h=>by
  obtain⟨b,rr,xx,ha,h1,r⟩:=h;exact⟨b,rr,xx,ha,by omega,r⟩
 | .one t p r,a,h=>by
  obtain⟨b,k,q,ha,h1,h2,c0,k0,k1,c3,c4,c5,c6,hr⟩:=h;exact⟨b,k,q,ha,by omega,h2,c0,k0,k1,c3,c4,c5,c6,IsEx.mono hb hr⟩
 | .two t p l r,a,h=>by
  obtain⟨b,k,ql,q,ha,h1,h2,c0,k0,k1,c3,c4,c5,c6,hl,hr⟩:=h;exact⟨b,k,ql,q,ha,by omega,h2,c0,k0,k1,c3,c4,c5,c6,IsEx.mono hb hl,IsEx.mono hb hr⟩
theorem Kp.behind'(h:Kp W0 w w')(hB:W0.1.size<=B):Behind B w w':=⟨h.size,fun b hb hl=>h.block b hl (fun e=>by grind)⟩
def Yu(S:List Tok)(j k:Nat):List Int:=((S.take k).drop j).map Tok.x
theorem Zx(S)(j k)(h:k<=S.length):(Yu S j k).length=k-j:=by
 simp[Yu];omega
theorem Jbq(S)(j k)(hj:j<=k)(hk:k<S.length):Yu S j (k+1)=Yu S j k++[(tokAt S k).x]:=by
 grind[Yu,Yz,List.take_add_one]
theorem Jc5(S)(j)(hj:j<S.length):Yu S j (j+1)=[(tokAt S j).x]:=by
 rw[Jbq S j j aT hj];simp[Yu]
inductive PX (S:List Tok):Bool->Nat->Nat->Ex->Nat->Prop where
 | nums (j o k:Nat):j<k->k<=S.length->(∀i,j<=i->i<k->kB (kr S) i 0=true)->kB (kr S) k 0=false->PX S true j o (.num (Yu S j k)) k
 | name (j o:Nat):kB (kr S) j 1=true->PX S true j o (.name (tokAt S j).t (tokAt S j).p) (j+1)
 | paren (j o:Nat) (e:Ex) (k:Nat):kB (kr S) j 4=true->o<8->PX S false (j+1) (o+1) e k->kB (kr S) k 5=true->PX S true j o e (k+1)
 | one (j o:Nat) (r:Ex) (k:Nat):fB (kr S) j 1=true->PX S false (j+1) o r k->PX S false j o (.one (tokAt S j).t (tokAt S j).p r) k
 | only(j o:Nat) (l:Ex) (k:Nat):fB (kr S) j 1=false->PX S true j o l k->fB (kr S) k 2=false->PX S false j o l k
 | two (j o:Nat) (l:Ex) (k:Nat) (r:Ex) (m:Nat):fB (kr S) j 1=false->PX S true j o l k->fB (kr S) k 2=true->PX S false (k+1) o r m->PX S false j o (.two (tokAt S k).t (tokAt S k).p l r) m
theorem VI:(prog.info? 2).map (fun i=>(i.zero,i.size,i.bytes))=some (some (G 0),1,8):=by kernel_rfl
theorem Jgi(h:w.ownsRow B e k v n xs)(hb:B'<=B):w.ownsRow B' e k v n xs:=by
 obtain⟨a,h|⟨c,cap,b,f,d,r⟩⟩:=h
 .exact ⟨a,.inl h⟩
 exact⟨a,.inr ⟨c,cap,b,f,NE hb d,r⟩⟩
theorem Jgh(h:w.ownsRow B e k v n xs)(hB:W0.1.size<B)(hk:Kp W0 w w'):w'.ownsRow B e k v n xs :=
 h.kept hk (by
  right;intro he;have:=(h.lt _ he).1;omega)
theorem Jrs(h:w.ownsRow (B+1) 2 1 v ws.length (ws.map (Value.int .i64)))(h0:0<ws.length):IntsIn B w v ws:=by
 obtain⟨f,⟨rfl,h⟩| ⟨a,cap,c,rfl,d,r⟩⟩:=h
 .omega
 have b:w.ownsRow (B+1) 2 1 (aI a 0 ws.length cap) ws.length (ws.map (Value.int .i64)):=⟨f,.inr ⟨a,cap,c,rfl,d,r⟩⟩;refine⟨a,cap,rfl,r.2.1,by omega,(b.lt a rfl).2,fun g e=>?_⟩;rw[b.cellAt g (by omega)];simp[e]
theorem Kp.grown(h:Kp W0 w w1){row:Option Nat}(hg:w1.grownBy w2 row)(hr:∀k,row=some k->w.1.size<=k):Kp W0 w w2 :=
 ⟨hg.os.trans h.os,hg.tape.trans h.tape,hg.output.trans h.output,NE h.size hg.size,fun k hk hn=>(hg.block k (FT hk h.size) (fun e=>by grind)).trans (h.block k hk hn)⟩
theorem Jz1{wr:World}(h:Kp W0 w wr)(h1:Kp W0 wr w1)(ho:w1.ownsRow w.1.size 2 1 v n xs)(hg:((w1.alloc o1).alloc o2).grownBy w2 v.ownBlock)(_:W0.1.size<w.1.size):Kp W0 w w2 :=
 (((h.trans h1).alloc o1).alloc o2).grown hg (fun k hk=>(ho.lt k hk).1)
theorem J18{tk:Value}(h:Rd W0 tk j o w1)(hl:W0.1.size<w.1.size)(ho:w1.ownsRow w.1.size 2 1 v n xs)(hg:((w1.alloc o1).alloc o2).grownBy w2 v.ownBlock):Rd W0 tk j o w2:=by
 have a:=(h.alloc o1).alloc o2;have b:=hg.block _ a.lt (fun e=>by have:=(ho.lt _ e.symm).1;omega);exact⟨(a.below.grown hg (by have:=a.lt;omega) (fun k c=>by have:=(ho.lt k c).1;omega)),(WA b).trans a.tok,(WA b).trans a.nxt,(WA b).trans a.opn,(NI b).trans a.fr1,(NI b).trans a.fr2,FT a.lt hg.size⟩
theorem Jiz(W0)(ao)(tb cap)(S)(hT:TokIn W0 ao tb S)(j o)(w)(hj0:j<S.length)(hw:Rd W0 (E ao S.length cap) (j+1) o w):
 Calls prog 218 #[aJ W0.1.size 0,G (tokAt S j).x] w fun e w'=>∃k v,e=aD v/\j<k/\k<=S.length/\(∀i,j<i->i<k->kB (kr S) i 0=true)/\kB (kr S) k 0=false/\Rd W0 (E ao S.length cap) k o w'/\Kp W0 w w'/\w'.ownsRow w.1.size 2 1 v (k-j) ((Yu S j k).map (Value.int .i64)):=by
 obtain⟨F,z,B,C,D⟩:=NY VI;have:=hT.few;have c:=hw.lt;have s:(w.alloc (.cells #[G (tokAt S j).x] 2)).ownsRow w.1.size 2 1 (E (some (adP0 w)) 1 1) 1 [G (tokAt S j).x]:=     World.ownsRow_lit (e:=2) (size:=1) w #[G (tokAt S j).x] 1 aT (by simp[maxLen]) rfl;have u:=Jc5 S j hj0;generalize(tokAt S j).x=x at s u⊢;go_enter func218,ntmps218;go_wp2_with fail;go_loopg [5] (S.length) (fun a v wr=>∃k,j<k/\k<=S.length/\S.length-k<=a/\(∀i,j<i->i<k->kB (kr S) i 0=true)/\Rd W0 (E ao S.length cap) k o wr/\Kp W0 w wr/\wr.ownsRow w.1.size 2 1 v (k-j) ((Yu S j k).map (Value.int .i64)))
 .refine ⟨j+1,by omega,by omega,by omega,fun i a b=>by omega,hw.alloc _,(Kp.refl W0 w).alloc _,?_⟩;simp_all
 obtain⟨k,A,g,P,y,r,h,n⟩:=hrel;cases hk:kB (kr S) k 0
 .go_wp2_with fail;refine aR (Qy W0 ao tb cap S 0 k o _ hT g r) ?_;rintro w1 ⟨b,a⟩;rw[hk]at b⊢;unfold Tok.v tokX;have f:Rd W0 (E ao S.length cap) k o w1:=b;go_wp2;go_ret;refine⟨k,_,rfl,A,g,y,hk,f.alloc _,(h.trans a).alloc _,?_⟩;exact(Jgh n c a).alloc _
 obtain⟨m,_⟩:=Jau hk;rw[Z4]at m;have t:=Jbq S j k (by omega) m;obtain⟨q,p⟩:=nm (tokAt S k);go_wp2_with fail;refine aR (Qy W0 ao tb cap S 0 k o _ hT g r) ?_;rintro w1 ⟨b,a⟩;rw[hk]at b⊢;simp only[NX,p];rw[p]at t;obtain⟨T,rr,H,X,W⟩:=q;unfold Tok.v tokX;have f:Rd W0 (E ao S.length cap) (k+1) o w1:=b;have:=NE h.size a.size;have d:=Jgh n c a;go_wp2_with (at_builtin;refine JA _ rfl _ _ 32 rfl w.1.size 2 F (G 0) 1 8 ZP z B C D rfl (by decide) _ _ _ rfl ((d.alloc _).alloc _) (adQ0 w1) 1 1 [G H] rfl rfl ?c1 ?c2 ?c3 ?c4 ?c5 ?_)
 case c2=>rfl
 case c3=>grind[maxLen]
 case c4=>omega
 case c5=>omega
 intro Y w2 Q l _;have:=Jz1 (W0:=W0) h a d l c;have:=J18 f c d l;go_wp2;go_roundg (S.length-(k+1))
 case measure=>omega
 grind
def ThR(T:List (Int × Int))(j o:Nat)(b:Bool)(k p:Nat):Prop :=
 k<=T.length/\(b=false->∃st op,sc T j 0 o=(k,st,op)/\(st=0\/o<op))/\(b=true->p=o/\j<k/\∃st,(st=1\/st=2)/\sc T j 0 o=sc T k st o/\(st=1->kB T k 0=false))
def Left(W0:World)(ao:Option Addr)(cap:Nat)(S:List Tok)(t:Bool)(j o:Nat)(w:World)(e:Ending)(w':World):Prop :=
 ∃b k p q,e=.returned (.tuple #[.pointer q,.bool b])/\Rd W0 (.slice ao S.length cap) k p w'/\Kp W0 w w'/\ThR (kr S) j o b k p/\(t=false->b=true->fB (kr S) k 2=false)/\(b=true->∃x,PX S t j o x k/\IsEx (w.1.size-1) w' q x)
def Jnu(W0:World)(ao:Option Addr)(cap:Nat)(S:List Tok)(m:Nat):Prop:=∀(j o:Nat) (w:World),S.length-j<m->j<=S.length->o<=8->Rd W0 (.slice ao S.length cap) j o w ->
 Calls prog 149 #[aJ W0.1.size 0] w (Left W0 ao cap S false j o w)
theorem Left.no{t:Bool}(q)(h1:Rd W0 (E ao S.length cap) k p w')(h2:Kp W0 w w')(hk:k<=S.length)(h3:∃st op,sc (kr S) j 0 o=(k,st,op)/\(st=0\/o<op)):
 Left W0 ao cap S t j o w (aD (.tuple #[.pointer q,.bool false])) w' :=
 ⟨false,k,p,q,rfl,h1,h2,⟨by simp_all[Z4],fun _=>h3,fun h=>(by cases h)⟩,fun _ h=>(by cases h),fun h=>(by cases h)⟩
theorem Left.yes{t:Bool}(q)(h1:Rd W0 (E ao S.length cap) k o w')(h2:Kp W0 w w')(hk:k<=S.length)(hj:j<k)(st)(h3:st=1\/st=2)(h4:sc (kr S) j 0 o=sc (kr S) k st o)(h5:st=1->kB (kr S) k 0=false)(h6:t=false->fB (kr S) k 2=false)(x)(h7:PX S t j o x k)(h8:IsEx (w.1.size-1) w' q x):
 Left W0 ao cap S t j o w (aD (.tuple #[.pointer q,.bool true])) w' :=
 ⟨true,k,o,q,rfl,h1,h2,⟨by simp_all[Z4],fun h=>(by cases h),fun _=>⟨rfl,hj,st,h3,h4,h5⟩⟩,fun h _=>h6 h,fun _=>⟨x,h7,h8⟩⟩
theorem Jwl(hnb:w.1.size=nb)(hB:B<nb){p:Int}{n:Value}(h:IntsIn B w n ws)(h0:0<ws.length)(h1:ws.length<=200):
 IsEx B (w.alloc (.cells #[G 0,G r,G x,aE t,G p,l,rr,n] 196)) (some (U nb 0)) (.num ws):=by
 subst hnb;exact⟨w.1.size,n,rfl,hB,by simp,by simp,by simp,h.keep (Behind.of_below (belA1)),h0,h1⟩
theorem Jrr(hnb:w.1.size=nb)(hB:B<nb){n:Value}:
 IsEx B (w.alloc (.cells #[G 1,G r,G x,aE t,G p,l,rr,n] 196)) (some (U nb 0)) (.name t p):=by
 subst hnb;exact⟨w.1.size,r,x,rfl,hB,by simp,by simp,by simp,by simp,by simp,by simp⟩
theorem Jwk(hnb:w.1.size=nb)(hB:B<nb){k:Int}{n:Value}{e:Ex}(k0:k≠0)(k1:k≠1)(h:IsEx B w q e):
 IsEx B (w.alloc (.cells #[G k,G r,G x,aE t,G p,.pointer none,.pointer q,n] 196)) (some (U nb 0)) (.one t p e):=by
 subst hnb;exact⟨w.1.size,k,q,rfl,hB,by simp,by simp,k0,k1,by simp,by simp,by simp,by simp,h.keep (Behind.of_below (belA1))⟩
theorem Jwj(hnb:w.1.size=nb)(hB:B<nb){k:Int}{n:Value}{ql:Option Addr}{l e:Ex}(k0:k≠0)(k1:k≠1)(hl:IsEx B w ql l)(h:IsEx B w q e):
 IsEx B (w.alloc (.cells #[G k,G r,G x,aE t,G p,.pointer ql,.pointer q,n] 196)) (some (U nb 0)) (.two t p l e):=by
 subst hnb;exact⟨w.1.size,k,ql,q,rfl,hB,by simp,by simp,k0,k1,by simp,by simp,by simp,by simp,hl.keep (Behind.of_below (belA1)),h.keep (Behind.of_below (belA1))⟩
theorem Jmp(W0)(ao)(tb cap)(S)(hT:TokIn W0 ao tb S)(j o)(w)(hj0:j<S.length)(hw:Rd W0 (E ao S.length cap) (j+1) o w)(x)(hx:(tokAt S j).x=x):
 Calls prog 218 #[aJ W0.1.size 0,G x] w fun e w'=>∃k b c,e=aD (aI b 0 (k-j) c)/\j<k/\k<=S.length/\(∀i,j<i->i<k->kB (kr S) i 0=true)/\kB (kr S) k 0=false/\Rd W0 (E ao S.length cap) k o w'/\Kp W0 w w'/\IntsIn (w.1.size-1) w' (aI b 0 (k-j) c) (Yu S j k):=by
 subst hx;refine(Jiz W0 ao tb cap S hT j o w hj0 hw).mono ?_;rintro e w' ⟨k,v,rfl,g,d,h,l,m,n,p⟩;have a:=Zx S j k d;have q:=Jrs (B:=w.1.size-1) (ws:=Yu S j k) (by rw[a];exact Jgi p (by have:=hw.lt;omega)) (by omega);obtain⟨b,c,f,r⟩:=q;rw[a]at f;subst f;exact⟨k,b,c,rfl,g,d,h,l,m,n,b,c,by rw[a],r⟩
theorem Jox{T:List (Int × Int)}(o):∀(n j:Nat),(∀i,j<=i->i<j+(n+1)->kB T i 0=true)->sc T j 0 o=sc T (j+(n+1)) 1 o
 | 0,j,h=>(Jxt (op:=o) (st:=0) (by decide) (h j (by omega) (by omega))).2
 | n+1,j,h=>by
  rw[Jox o n j (fun i h1 h2=>h i h1 (by omega))];exact(Jxt (op:=o) (st:=1) (by decide) (h (j+(n+1)) (by omega) (by omega))).2
theorem Joe(W0)(ao)(tb cap)(S)(hT:TokIn W0 ao tb S)(j o)(w)(hw:Rd W0 (E ao S.length cap) j o w)(hk:kB (kr S) j 0=true):
 Calls prog 176 #[aJ W0.1.size 0] w (Left W0 ao cap S true j o w):=by
 have K:=hT.few;have N:=hw.lt;obtain⟨d,A⟩:=Jau hk;rw[Z4]at d;obtain⟨q,g⟩:=nm (tokAt S j);have n:q.k=0:=by
  rw[<-g,Yz d];simpa[kr]using A
 obtain⟨P,rr,p,D,C⟩:=q;simp only at n;subst n;go_enter func176,ntmps176;go_wp2_with fail;refine aR (Qy W0 ao tb cap S 0 j o _ hT (by omega) hw) ?_;rintro w1 ⟨h,m⟩;rw[hk]at h⊢;simp only[NX,g];unfold Tok.v tokX;have s:Rd W0 (E ao S.length cap) (j+1) o w1:=h;have L:=h.lt;have c:w1.1.size≠W0.1.size:=by omega
 go_wp2_with fail;go_region_held3 (fun w'=>w'.cell? (adP0 w1)=some (G 0)/\w'.cell? (adP1 w1)=some (G rr)/\w'.cell? (U w1.1.size 2)=some (G p)/\w'.cell? (U w1.1.size 3)=some (aE D)/\w'.cell? (U w1.1.size 4)=some (G C))
  (first|go_keep|exact⟨(a.cell (b:=w1.1.size) (by simp) c 0).trans (by simp),(a.cell (b:=w1.1.size) (by simp) c 1).trans (by simp),(a.cell (b:=w1.1.size) (by simp) c 2).trans (by simp),(a.cell (b:=w1.1.size) (by simp) c 3).trans (by simp),(a.cell (b:=w1.1.size) (by simp) c 4).trans (by simp)⟩)
  (first|(go_at_call 218;refine(Jmp W0 ao tb cap S hT j o _ d ?_ p ?_).mono ?_;exact(s.alloc _).drew;(rw[g]);rintro e w2 ⟨k,b,H,rfl,l,f,u,y,B,z,x⟩;have t:=B;have a:=z;have r:=x;have F:=u;have i:=y))
 go_wp2;go_ret2;have y:=Zx S j k f;have z:=m.size;have B:w1.1.size+1<=w2.1.size:=by have:=a.size;simpa using this
 refine Left.yes _ (t.alloc _) (((m.alloc _).drew.trans a).alloc _) f l 1 (NN rfl) ?_ (fun _=>i) (fun i=>(by cases i)) _ (PX.nums j o k l f ?_ i) (Jwl rfl (by omega) (r.mono (by simp;omega)) (by omega) (by omega))
 .have:=Jox (T:=kr S) o (k-j-1) j (fun F u x=>by
   grind)
  grind
 grind
theorem Jlv(W0)(ao)(tb cap)(S)(hT:TokIn W0 ao tb S)(j o)(w)(hw:Rd W0 (E ao S.length cap) j o w)(hk0:kB (kr S) j 0=false)(hk:kB (kr S) j 1=true):
 Calls prog 176 #[aJ W0.1.size 0] w (Left W0 ao cap S true j o w):=by
 have t:=hw.lt;obtain⟨c,m⟩:=Jau hk;rw[Z4]at c;obtain⟨q,f⟩:=nm (tokAt S j);have g:q.k=1:=by
  rw[<-f,Yz c];simpa[kr]using m
 obtain⟨x,rr,y,r,p⟩:=q;simp only at g;subst g;go_enter func176,ntmps176;go_wp2_with fail;refine aR (Qy W0 ao tb cap S 0 j o _ hT (by omega) hw) ?_;rintro w1 ⟨h,d⟩;rw[hk0]at h⊢;unfold Tok.v tokX;have i:Rd W0 (E ao S.length cap) j o w1:=h;go_wp2_with fail;refine aR (Qy W0 ao tb cap S 1 j o _ hT (by omega) (i.alloc _)) ?_;rintro w2 ⟨b,e⟩;rw[hk]at b⊢;simp only[NX,f];unfold Tok.v tokX;have l:Rd W0 (E ao S.length cap) (j+1) o w2:=b;have s:=b.lt;go_wp2;go_ret2;obtain⟨_,n⟩:=Jy9 (op:=o) hk;have u:w.1.size<=w2.1.size:=by have:=d.size;have:=e.size;simp at this;omega
 refine Left.yes _ ((l.alloc _).alloc _) (((((d.alloc _).trans e).alloc _)).alloc _) (by omega) (by omega) 2 (NO rfl) n (fun a=>(by cases a)) (fun a=>(by cases a)) (.name r p) ?_ (Jrr (by simp) (by omega));have:=PX.name (S:=S) j o hk;simp_all
theorem Jml(W0)(ao)(tb cap)(S)(hT:TokIn W0 ao tb S)(m)(ih:Jnu W0 ao cap S m)(j o)(w)(hm:S.length-j<m+1)(hjl:j<=S.length)(ho:o<=8)
 (hw:Rd W0 (E ao S.length cap) j o w) (n1:fB (kr S) j 1=false) (n2:kB (kr S) j 0=false) (n3:kB (kr S) j 1=false):
 Calls prog 219 #[aJ W0.1.size 0] w (Left W0 ao cap S true j o w):=by
 have:=hw.opn;have:=hw.fr2;have:=hw.lt;by_cases L:o=8
 .subst L;go_enter func219,ntmps219;go_wp2;go_ret2;exact Left.no _ hw (Kp.refl _ _) hjl ⟨0,8,Jxq n1 n2 n3 (NO (by omega)),NN rfl⟩
 have:((o:Int)== 8)=false:=NT.2 (by omega);have y:o<8:=by omega
 cases hk:kB (kr S) j 4
 .go_enter func219,ntmps219;go_wp2_with fail;refine aR (Qy W0 ao tb cap S 4 j o _ hT hjl hw) ?_;rintro w1 ⟨d,g⟩;rw[hk]at d⊢;unfold Tok.v tokX;have b:Rd W0 (E ao S.length cap) j o w1:=d;go_wp2;go_ret2;exact Left.no _ (b.alloc _) (g.alloc _) hjl ⟨0,o,Jxq n1 n2 n3 (NN hk),NN rfl⟩
 obtain⟨P,z⟩:=Jy8 hk y;rw[Z4]at P;obtain⟨q,Y⟩:=nm (tokAt S j);obtain⟨ah,rr,al,ak,ai⟩:=q;go_enter func219,ntmps219;go_wp2_with fail;refine aR (Qy W0 ao tb cap S 4 j o _ hT hjl hw) ?_;rintro w1 ⟨d,g⟩;rw[hk]at d⊢;simp only[NX,Y];unfold Tok.v tokX;have b:Rd W0 (E ao S.length cap) (j+1) o w1:=d;have:=b.opn;have:=b.fr2;have:=b.lt;have:W0.1.size≠w1.1.size:=by omega
 go_wp2_with fail;refine(ih (j+1) (o+1) _ (by omega) (by omega) (by omega) ((b.opened (o+1)).alloc _)).mono ?_;rintro e w2 ⟨F,k,p,aV,rfl,h,Q,⟨c,W,ag⟩,N,ad⟩;rw[Z4]at c;have R:w.1.size-1<=((w1.setCell (U W0.1.size 2) (G ((o:Int)+1))).alloc (Obj.cells #[G ah,G rr,G al,aE ak,G ai] 155)).1.size-1:=by have:=g.size;simp;omega
 have l:=((g.trans (Kp.setReader _ _ _ _)).alloc _).trans Q;cases F
 .have a:=W rfl;go_wp2;go_ret2;obtain⟨i,op,f,ho⟩:=a;exact Left.no _ h l c ⟨i,op,z.trans f,by omega⟩
 obtain⟨rfl,ax,i,A,aa,X⟩:=ag rfl;have D:=ad rfl;have B:=N rfl rfl;have t:=z.trans aa;have:=h.lt;cases hk5:kB (kr S) k 5
 .go_wp2_with fail;refine aR (Qy W0 ao tb cap S 5 k (o+1) _ hT c h) ?_;rintro s ⟨f,r⟩;rw[hk5]at f⊢;unfold Tok.v tokX;have a:Rd W0 (E ao S.length cap) k (o+1) s:=f;have H:=a.opn;have K:=a.fr2;go_wp2;go_ret2;exact Left.no _ (a.opened o) ((l.trans r).trans (Kp.setReader _ _ _ _)) c ⟨i,o+1,t.trans (J1k A X B (NN hk5)),NO (by omega)⟩
 have ac:i≠0:=by have:=A;omega
 obtain⟨T,ab⟩:=Juc (op:=o) ac hk5;rw[Z4]at T;have C:=t.trans ab;obtain⟨aj,Z⟩:=nm (tokAt S k);obtain⟨az,aW,aY,aX,aU⟩:=aj;go_wp2_with fail;refine aR (Qy W0 ao tb cap S 5 k (o+1) _ hT c h) ?_;rintro s ⟨f,r⟩;rw[hk5]at f⊢;simp only[NX,Z];unfold Tok.v tokX;have a:Rd W0 (E ao S.length cap) (k+1) (o+1) s:=f;have H:=a.opn;have K:=a.fr2;go_wp2;go_ret2;obtain⟨x,ae,af⟩:=D;have u:=r.trans (Kp.setReader W0 _ 2 (G (o:Int)));exact Left.yes _ (a.opened o) (l.trans u) (by omega) (by omega) 2 (NO rfl) C (fun n=>(by cases n)) (fun n=>(by cases n)) x (PX.paren j o x k hk y ae hk5) ((af.mono R).keep (u.behind' (by omega)))
theorem Jic(W0)(ao)(tb cap)(S)(hT:TokIn W0 ao tb S)(m)(ih:Jnu W0 ao cap S m)(j o)(w)(hm:S.length-j<m+1)(hjl:j<=S.length)(ho:o<=8)
 (hw:Rd W0 (E ao S.length cap) j o w) (n1:fB (kr S) j 1=false) (n2:kB (kr S) j 0=false) (n3:kB (kr S) j 1=false):
 Calls prog 176 #[aJ W0.1.size 0] w (Left W0 ao cap S true j o w):=by
 go_enter func176,ntmps176;go_wp2_with fail;refine aR (Qy W0 ao tb cap S 0 j o _ hT hjl hw) ?_;rintro w1 ⟨c,u⟩;rw[n2]at c⊢;unfold Tok.v tokX;have g:Rd W0 (E ao S.length cap) j o w1:=c;go_wp2_with fail;refine aR (Qy W0 ao tb cap S 1 j o _ hT hjl (g.alloc _)) ?_;rintro w2 ⟨d,y⟩;rw[n3]at d⊢;unfold Tok.v tokX;have h:Rd W0 (E ao S.length cap) j o w2:=d;have b:=(u.alloc _).trans y;go_wp2_with fail;refine(Jml W0 ao tb cap S hT m ih j o _ hm hjl ho (h.alloc _) n1 n2 n3).mono ?_;rintro e B ⟨i,k,p,q,rfl,l,n,a⟩;have f:=a;go_wp2;go_ret2;obtain⟨a,r,s⟩:=f;refine⟨i,k,p,q,rfl,l,(b.alloc _).trans n,a,r,fun t=>?_⟩;obtain⟨x,z,A⟩:=s t;exact⟨x,z,A.mono (by have:=b.size;simp;omega)⟩
theorem Jof(W0)(ao)(tb cap)(S)(hT:TokIn W0 ao tb S)(m)(ih:Jnu W0 ao cap S m)(j o)(w)(hm:S.length-j<m+1)(hjl:j<=S.length)(ho:o<=8)
 (hw:Rd W0 (E ao S.length cap) j o w) (n1:fB (kr S) j 1=false):
 Calls prog 176 #[aJ W0.1.size 0] w (Left W0 ao cap S true j o w):=by
 cases h0:kB (kr S) j 0
 .cases h1:kB (kr S) j 1
  .exact Jic W0 ao tb cap S hT m ih j o w hm hjl ho hw n1 h0 h1
  exact Jlv W0 ao tb cap S hT j o w hw h0 h1
 exact Joe W0 ao tb cap S hT j o w hw h0
theorem Jk8(hwf:Wf (kr S))(h:fB (kr S) j r=true)(hr:r=1\/r=2):(tokAt S j).k≠0/\(tokAt S j).k≠1:=by
 grind[Jwx,Jny,Z4,Yz,kr]
theorem Jwz(W0)(ao)(tb cap)(S)(hT:TokIn W0 ao tb S)(hWf:Wf (kr S))(m)(ih:Jnu W0 ao cap S m)(j o)(w)(hm:S.length-j<m+1)(ho:o<=8)
 (hw:Rd W0 (E ao S.length cap) j o w) (hf:fB (kr S) j 1=true):
 Calls prog 149 #[aJ W0.1.size 0] w (Left W0 ao cap S false j o w):=by
 obtain⟨F,u⟩:=Jud (op:=o) hWf hf;rw[Z4]at F;have l:=Jk8 hWf hf (NN rfl);have n:=fun r k=>PX.one (S:=S) j o r k hf;obtain⟨q,t⟩:=nm (tokAt S j);simp only[t]at l n;obtain⟨aa,rr,ae,ad,ab⟩:=q;have:=hw.lt;go_enter func149,ntmps149;go_wp2_with fail;refine aR (Jbg W0 ao tb cap S 1 j o _ hT (by omega) hw) ?_;rintro w1 ⟨g,s⟩;rw[hf]at g⊢;simp only[NX,t];unfold Tok.v tokX;have y:Rd W0 (E ao S.length cap) (j+1) o w1:=g;have c:w1.1.size≠W0.1.size:=by have:=g.lt;omega
 go_wp2_with fail;refine(ih (j+1) o _ (by omega) (by omega) ho (y.alloc _)).mono ?_;rintro e w2 ⟨b,k,p,ac,rfl,h,a,⟨f,H,R⟩,D,N⟩;rw[Z4]at f;have d0:=a.cell (b:=w1.1.size) (by simp) c 0;have d1:=a.cell (b:=w1.1.size) (by simp) c 1;have z:=a.cell (b:=w1.1.size) (by simp) c 2;have A:=a.cell (b:=w1.1.size) (by simp) c 3;have B:=a.cell (b:=w1.1.size) (by simp) c 4;simp at d0 d1 z A B;have d:=(s.alloc _).trans a;have:=h.lt;go_wp2;go_ret2;cases b
 .obtain ⟨i,op,C,ho⟩:=H rfl;exact Left.no _ (h.alloc _) (d.alloc _) f ⟨i,op,u.trans C,ho⟩
 obtain⟨rfl,Z,i,L,K,C⟩:=R rfl;obtain⟨x,P,Q⟩:=N rfl;obtain⟨T,W⟩:=l;exact Left.yes _ (h.alloc _) (d.alloc _) f (by omega) i L (u.trans K) C (fun _=>D trivial rfl) _ (n x k P) (Jwk rfl (by have:=d.size;omega) T W (Q.mono (by have:=s.size;simp;omega)))
theorem Jwy(W0)(ao)(tb cap)(S)(hT:TokIn W0 ao tb S)(hWf:Wf (kr S))(m)(ih:Jnu W0 ao cap S m)(j o)(w)(hm:S.length-j<m+1)(hjl:j<=S.length)(ho:o<=8)
 (hw:Rd W0 (E ao S.length cap) j o w) (hf:fB (kr S) j 1=false):
 Calls prog 149 #[aJ W0.1.size 0] w (Left W0 ao cap S false j o w):=by
 have:=hw.lt;go_enter func149,ntmps149;go_wp2_with fail;refine aR (Jbg W0 ao tb cap S 1 j o _ hT hjl hw) ?_;rintro w1 ⟨W,z⟩;rw[hf]at W⊢;unfold Tok.v tokX;have X:Rd W0 (E ao S.length cap) j o w1:=W;go_wp2_with fail;refine(Jof W0 ao tb cap S hT m ih j o _ hm hjl ho (X.alloc _) hf).mono ?_;rintro e w2 ⟨b,k,p,aZ,rfl,t,ac,⟨g,B,H⟩,_,an⟩;rw[Z4]at g;have d:=(z.alloc _).trans ac;cases b
 .have a:=B rfl;go_wp2;go_ret2;exact Left.no _ t d g a
 obtain⟨ai,ae,u,T,R,ag⟩:=H rfl;rw[ai]at t;have P:=an rfl;cases hf2:fB (kr S) k 2
 .go_wp2_with fail;refine aR (Jbg W0 ao tb cap S 2 k o _ hT g t) ?_;rintro c ⟨f,s⟩;rw[hf2]at f⊢;unfold Tok.v tokX;have y:Rd W0 (E ao S.length cap) k o c:=f;go_wp2;go_ret2;obtain⟨x,D,F⟩:=P;have a:=s.alloc (Obj.cells #[G 0,G 0,G 0,.string ⟨#[]⟩,G 0] 155);exact Left.yes _ (y.alloc _) (d.trans a) g ae u T R ag (fun _=>hf2) x (PX.only j o x k hf D hf2) ((F.mono (by have:=z.size;simp;omega)).keep (a.behind' (by omega)))
 have al:u≠0:=by have:=T;omega
 obtain⟨af,aj⟩:=Jl4 (op:=o) hWf al hf2;rw[Z4]at af;have N:=R.trans aj;have K:=Jk8 hWf hf2 (NO rfl);have L:=fun l ad r n=>PX.two (S:=S) j o l k r n hf ad hf2;obtain⟨q,Q⟩:=nm (tokAt S k);simp only[Q]at K L;obtain⟨aV,rr,a6,a4,aX⟩:=q;go_wp2_with fail;refine aR (Jbg W0 ao tb cap S 2 k o _ hT g t) ?_;rintro c ⟨f,s⟩;rw[hf2]at f⊢;simp only[NX,Q];unfold Tok.v tokX;have y:Rd W0 (E ao S.length cap) (k+1) o c:=f;have h:c.1.size≠W0.1.size:=by have:=f.lt;omega
 go_wp2_with fail;refine(ih (k+1) o _ (by omega) (by omega) ho (y.alloc _)).mono ?_;rintro e a5 ⟨b,n,aW,aY,rfl,C,a,⟨A,B,H⟩,ab,ap⟩;rw[Z4]at A;have d0:=a.cell (b:=c.1.size) (by simp) h 0;have d1:=a.cell (b:=c.1.size) (by simp) h 1;have Y:=a.cell (b:=c.1.size) (by simp) h 2;have Z:=a.cell (b:=c.1.size) (by simp) h 3;have aa:=a.cell (b:=c.1.size) (by simp) h 4;simp at d0 d1 Y Z aa;have i:=(s.alloc _).trans a;have:=C.lt;go_wp2;go_ret2;cases b
 .obtain ⟨u,op,D,ho⟩:=B rfl;exact Left.no _ (C.alloc _) ((d.trans i).alloc _) A ⟨u,op,N.trans D,ho⟩
 obtain⟨rfl,aU,aw,am,ak,ah⟩:=H rfl;obtain⟨x,D,F⟩:=P;obtain⟨ax,aq,ar⟩:=ap rfl;obtain⟨au,av⟩:=K;exact Left.yes _ (C.alloc _) ((d.trans i).alloc _) A (by omega) aw am (N.trans ak) ah (fun _=>ab trivial rfl) _ (L x D ax n aq) (Jwj rfl (by have:=d.size;have:=i.size;omega) au av ((F.mono (by have:=z.size;simp;omega)).keep (i.behind' (by omega))) (ar.mono (by have:=d.size;have:=s.size;simp;omega)))
theorem F1(W0)(ao)(tb cap)(S)(hT:TokIn W0 ao tb S)(hWf:Wf (kr S)):∀m,Jnu W0 ao cap S m
 | 0=>fun _ _ _ h=>absurd h (by omega)
 | m+1=>fun j o w hm hjl ho hw=>by
  have ih:=F1 W0 ao tb cap S hT hWf m;cases hf:fB (kr S) j 1
  .exact Jwy W0 ao tb cap S hT hWf m ih j o w hm hjl ho hw hf
  exact Jwz W0 ao tb cap S hT hWf m ih j o w hm ho hw hf
def beg(T:List (Int × Int)):Nat:=bif kB T 0 1 && kB T 1 2 then 2 else 0
def Q1(S:List Tok):ByteArray:=bif kB (kr S) 0 1 && kB (kr S) 1 2 then(tokAt S 0).t else⟨#[]⟩
def Jnt(W0:World)(ao:Option Addr)(cap:Nat)(S:List Tok)(w:World)(e:Ending)(w':World):Prop :=
 ∃b k p q,e=.returned (.tuple #[.agg #[.string (Q1 S),.pointer q],.bool b])/\Rd W0 (.slice ao S.length cap) k p w'/\Kp W0 w w'/\ThR (kr S) (beg (kr S)) 0 b k p/\(b=true->fB (kr S) k 2=false)/\(b=true->∃x,PX S false (beg (kr S)) 0 x k/\IsEx W0.1.size w' q x)
theorem Jmw(W0)(ao)(tb cap)(S)(hT:TokIn W0 ao tb S)(hWf:Wf (kr S))(w)(hw:Rd W0 (E ao S.length cap) 0 0 w)(h2:S.length<=1):
 Calls prog 106 #[aJ W0.1.size 0] w (Jnt W0 ao cap S w):=by
 have:=hw.tok;have:=hw.nxt;have:=hw.fr1;have h:=hw.lt;have c:w.1.size≠W0.1.size:=by omega
 have:=hT.few;have:(S.length:Int)<=1:=by omega
 have g:(kB (kr S) 0 1 && kB (kr S) 1 2)=false:=by rw[Jrj h2 2,Bool.and_false]
 have f:beg (kr S)=0:=by unfold beg;rw[g];rfl
 have l:Q1 S=⟨#[]⟩:=by unfold Q1;rw[g];rfl
 have i:=F1 W0 _ tb cap S hT hWf (S.length+1);go_enter func106,ntmps106;go_wp2_with fail;refine(i 0 0 _ (by omega) (by omega) (by omega) (hw.alloc _)).mono ?_;rintro e w1 ⟨b,k,p,q,rfl,s,a,r,o,t⟩;have d0:=a.cell (b:=w.1.size) (by simp) c 0;have d1:=a.cell (b:=w.1.size) (by simp) c 1;have m:=a.frozen (b:=w.1.size) (by simp) c 0;have n:=a.frozen (b:=w.1.size) (by simp) c 1;simp at d0 d1 m n;have j:Kp W0 w w1:=((Kp.refl W0 w).alloc _).trans a;go_wp2_with fail;refine FR (v:=.tuple #[.agg #[.string ⟨#[]⟩,.pointer q],.bool b]) (by simp[results,results106,go_sem,d0,d1]) rfl ⟨b,k,p,q,?_,?_,?_,?_,?_,?_⟩
 .rw [l]
 .exact (s.other h _ _).other h _ _
 .exact (j.new aT _ _).new aT _ _
 .rw [f];exact r
 .intro d;exact o trivial d
 intro d;rw[f];obtain⟨x,u,y⟩:=t d;have z:IsEx w.1.size w1 q x:=y.mono (by simp);refine⟨x,u,(z.keep ?_).mono (by omega)⟩;exact⟨by simp,fun A C h2=>by rw[FV _ _ _ _ (by simp;omega),FV _ _ _ _ (by simp;omega)]⟩
theorem Jv5(W0)(ao)(tb cap)(S)(hT:TokIn W0 ao tb S)(hWf:Wf (kr S))(w)(hw:Rd W0 (E ao S.length cap) 0 0 w)(h2:1<S.length)(hk:kB (kr S) 0 1=false):
 Calls prog 106 #[aJ W0.1.size 0] w (Jnt W0 ao cap S w):=by
 have:=hw.tok;have:=hw.nxt;have:=hw.fr1;have g:=hw.lt;have c:w.1.size≠W0.1.size:=by omega
 have:=hT.few;obtain⟨rfl,d⟩:=hT.addr (by omega);have:tb<w.1.size:=Po d g;have:(1:Int)<(S.length:Int):=by omega
 obtain⟨a0,_,_,a3,_⟩:=hT.cell 0 (by omega);obtain⟨b0,_,_,_,_⟩:=hT.cell 1 (by omega);have N:=V hw.below d a0;have P:=V hw.below d b0;have Q:=V hw.below d a3;have m:=Gl (S:=S) (j:=0) (by omega) 1;have s:=Gl (S:=S) (j:=1) (by omega) 2;have u:(tokAt S 0).t=S[0].t:=by rw[Yz (by omega)]
 obtain⟨R,H⟩:=nm (S[0].k);obtain⟨ac,h⟩:=nm (S[1].k);obtain⟨ab,B⟩:=nm (S[0].t);rw[H]at N m;rw[h]at P s;rw[B]at Q u;have:(R == 1)=false:=by rw[<-m];exact hk
 have l:(kB (kr S) 0 1 && kB (kr S) 1 2)=false:=by rw[hk,Bool.false_and]
 have i:beg (kr S)=0:=by unfold beg;rw[l];rfl
 have r:Q1 S=⟨#[]⟩:=by unfold Q1;rw[l];rfl
 have n:=F1 W0 _ tb cap S hT hWf (S.length+1);go_enter func106,ntmps106;go_wp2_with fail;refine(n 0 0 _ (by omega) (by omega) (by omega) (hw.alloc _)).mono ?_;rintro e w1 ⟨b,k,p,q,rfl,D,a,C,A,F⟩;have d0:=a.cell (b:=w.1.size) (by simp) c 0;have d1:=a.cell (b:=w.1.size) (by simp) c 1;have y:=a.frozen (b:=w.1.size) (by simp) c 0;have z:=a.frozen (b:=w.1.size) (by simp) c 1;simp at d0 d1 y z;have o:Kp W0 w w1:=((Kp.refl W0 w).alloc _).trans a;go_wp2_with fail;refine FR (v:=.tuple #[.agg #[.string ⟨#[]⟩,.pointer q],.bool b]) (by simp[results,results106,go_sem,d0,d1]) rfl ⟨b,k,p,q,?_,?_,?_,?_,?_,?_⟩
 .rw [r]
 .exact (D.other g _ _).other g _ _
 .exact (o.new aT _ _).new aT _ _
 .rw [i];exact C
 .intro f;exact A trivial f
 intro f;rw[i];obtain⟨x,h,K⟩:=F f;have L:IsEx w.1.size w1 q x:=K.mono (by simp);refine⟨x,h,(L.keep ?_).mono (by omega)⟩;exact⟨by simp,fun T X h2=>by rw[FV _ _ _ _ (by simp;omega),FV _ _ _ _ (by simp;omega)]⟩
theorem Jv4(W0)(ao)(tb cap)(S)(hT:TokIn W0 ao tb S)(hWf:Wf (kr S))(w)(hw:Rd W0 (E ao S.length cap) 0 0 w)(h2:1<S.length)(hk:kB (kr S) 0 1=true)(hk2:kB (kr S) 1 2=false):
 Calls prog 106 #[aJ W0.1.size 0] w (Jnt W0 ao cap S w):=by
 have:=hw.tok;have:=hw.nxt;have:=hw.fr1;have g:=hw.lt;have c:w.1.size≠W0.1.size:=by omega
 have:=hT.few;obtain⟨rfl,d⟩:=hT.addr (by omega);have:tb<w.1.size:=Po d g;have:(1:Int)<(S.length:Int):=by omega
 obtain⟨a0,_,_,a3,_⟩:=hT.cell 0 (by omega);obtain⟨b0,_,_,_,_⟩:=hT.cell 1 (by omega);have N:=V hw.below d a0;have P:=V hw.below d b0;have Q:=V hw.below d a3;have m:=Gl (S:=S) (j:=0) (by omega) 1;have n:=Gl (S:=S) (j:=1) (by omega) 2;have u:(tokAt S 0).t=S[0].t:=by rw[Yz (by omega)]
 obtain⟨R,H⟩:=nm (S[0].k);obtain⟨T,h⟩:=nm (S[1].k);obtain⟨ac,B⟩:=nm (S[0].t);rw[H]at N m;rw[h]at P n;rw[B]at Q u;have:(R == 1)=true:=by rw[<-m];exact hk
 have:(T == 2)=false:=by rw[<-n];exact hk2
 have l:(kB (kr S) 0 1 && kB (kr S) 1 2)=false:=by rw[hk2,Bool.and_false]
 have i:beg (kr S)=0:=by unfold beg;rw[l];rfl
 have s:Q1 S=⟨#[]⟩:=by unfold Q1;rw[l];rfl
 have o:=F1 W0 _ tb cap S hT hWf (S.length+1);go_enter func106,ntmps106;go_wp2_with fail;refine(o 0 0 _ (by omega) (by omega) (by omega) (hw.alloc _)).mono ?_;rintro e w1 ⟨b,k,p,q,rfl,D,a,C,A,F⟩;have d0:=a.cell (b:=w.1.size) (by simp) c 0;have d1:=a.cell (b:=w.1.size) (by simp) c 1;have y:=a.frozen (b:=w.1.size) (by simp) c 0;have z:=a.frozen (b:=w.1.size) (by simp) c 1;simp at d0 d1 y z;have r:Kp W0 w w1:=((Kp.refl W0 w).alloc _).trans a;go_wp2_with fail;refine FR (v:=.tuple #[.agg #[.string ⟨#[]⟩,.pointer q],.bool b]) (by simp[results,results106,go_sem,d0,d1]) rfl ⟨b,k,p,q,?_,?_,?_,?_,?_,?_⟩
 .rw [s]
 .exact (D.other g _ _).other g _ _
 .exact (r.new aT _ _).new aT _ _
 .rw [i];exact C
 .intro f;exact A trivial f
 intro f;rw[i];obtain⟨x,h,K⟩:=F f;have L:IsEx w.1.size w1 q x:=K.mono (by simp);refine⟨x,h,(L.keep ?_).mono (by omega)⟩;exact⟨by simp,fun W Y h2=>by rw[FV _ _ _ _ (by simp;omega),FV _ _ _ _ (by simp;omega)]⟩
theorem Jz8(W0)(ao)(tb cap)(S)(hT:TokIn W0 ao tb S)(hWf:Wf (kr S))(w)(hw:Rd W0 (E ao S.length cap) 0 0 w)(h2:1<S.length)(hk:kB (kr S) 0 1=true)(hk2:kB (kr S) 1 2=true):
 Calls prog 106 #[aJ W0.1.size 0] w (Jnt W0 ao cap S w):=by
 have c0:=hw.tok;have c1:=hw.nxt;have Y:=hw.fr1;have g:=hw.lt;have c:w.1.size≠W0.1.size:=by omega
 have aa:=hT.few;obtain⟨rfl,d⟩:=hT.addr (by omega);have ac:tb<w.1.size:=Po d g;have ab:(1:Int)<(S.length:Int):=by omega
 obtain⟨a0,_,_,a3,_⟩:=hT.cell 0 (by omega);obtain⟨b0,_,_,_,_⟩:=hT.cell 1 (by omega);have P:=V hw.below d a0;have Q:=V hw.below d b0;have R:=V hw.below d a3;have m:=Gl (S:=S) (j:=0) (by omega) 1;have n:=Gl (S:=S) (j:=1) (by omega) 2;have o:(tokAt S 0).t=S[0].t:=by rw[Yz (by omega)]
 obtain⟨T,K⟩:=nm (S[0].k);obtain⟨W,h⟩:=nm (S[1].k);obtain⟨r,C⟩:=nm (S[0].t);rw[K]at P m;rw[h]at Q n;rw[C]at R o;have ad:(T == 1)=true:=by rw[<-m];exact hk
 have ae:(W == 2)=true:=by rw[<-n];exact hk2
 have l:(kB (kr S) 0 1 && kB (kr S) 1 2)=true:=by rw[hk,hk2];rfl
 have i:beg (kr S)=2:=by unfold beg;rw[l];rfl
 have y:Q1 S=r:=by unfold Q1;rw[l];exact o
 have s:=F1 W0 _ tb cap S hT hWf (S.length+1);go_enter func106,ntmps106;go_wp2_with fail;refine(s 2 0 _ (by omega) (by omega) (by omega) ((hw.next 2).alloc _)).mono ?_;rintro e w1 ⟨b,k,p,q,rfl,F,a,D,B,H⟩;have d0:=a.cell (b:=w.1.size) (by simp) c 0;have d1:=a.cell (b:=w.1.size) (by simp) c 1;have z:=a.frozen (b:=w.1.size) (by simp) c 0;have A:=a.frozen (b:=w.1.size) (by simp) c 1;simp at d0 d1 z A;have u:Kp W0 w w1:=(((Kp.setReader W0 w 1 (G 2)).alloc _)).trans a;go_wp2_with fail;refine FR (v:=.tuple #[.agg #[aE r,.pointer q],.bool b]) (by simp[results,results106,go_sem,d0,d1]) rfl ⟨b,k,p,q,?_,?_,?_,?_,?_,?_⟩
 .rw [y]
 .exact (F.other g _ _).other g _ _
 .exact (u.new aT _ _).new aT _ _
 .rw [i];exact D
 .intro f;exact B trivial f
 intro f;rw[i];obtain⟨x,h,L⟩:=H f;have N:IsEx w.1.size w1 q x:=L.mono (by simp);refine⟨x,h,(N.keep ?_).mono (by omega)⟩;exact⟨by simp,fun X Z h2=>by rw[FV _ _ _ _ (by simp;omega),FV _ _ _ _ (by simp;omega)]⟩
theorem Jv6(W0)(ao)(tb cap)(S)(hT:TokIn W0 ao tb S)(hWf:Wf (kr S))(w)(hw:Rd W0 (E ao S.length cap) 0 0 w):
 Calls prog 106 #[aJ W0.1.size 0] w (Jnt W0 ao cap S w):=by
 by_cases a:1<S.length
 .cases hk:kB (kr S) 0 1
  .exact Jv5 W0 ao tb cap S hT hWf w hw a hk
  cases hk2:kB (kr S) 1 2
  .exact Jv4 W0 ao tb cap S hT hWf w hw a hk hk2
  exact Jz8 W0 ao tb cap S hT hWf w hw a hk hk2
 exact Jmw W0 ao tb cap S hT hWf w hw (by omega)
def topB(T:List (Int × Int))(j:Nat):Bool:=decide ((sc T j 0 0).2.1≠0/\(sc T j 0 0).2.2=0)
def okT(T:List (Int × Int)):Bool:=topB T (beg T) && decide (T.length<=(sc T (beg T) 0 0).1)
def endT(T:List (Int × Int)):Nat:=(sc T (beg T) 0 0).1
theorem Jq4{e:Ending}(h:Jnt W0 ao cap S w e w'):
 ∃p q,e=aD (.tuple #[.agg #[aE (Q1 S),.pointer q],.bool (topB (kr S) (beg (kr S)))])/\endT (kr S)<=S.length/\Rd W0 (E ao S.length cap) (endT (kr S)) p w'/\Kp W0 w w'/\(topB (kr S) (beg (kr S))=true->∃x,PX S false (beg (kr S)) 0 x (endT (kr S))/\IsEx W0.1.size w' q x):=by
 obtain⟨c,k,p,q,rfl,o,r,⟨d,g,m⟩,f,s⟩:=h;rw[Z4]at d;unfold endT;cases c
 .obtain ⟨n,op,a,i⟩:=g rfl;have b:topB (kr S) (beg (kr S))=false:=by unfold topB;rw[a];simp;omega
  rw[b,a];grind
 obtain⟨_,_,n,l,j,i⟩:=m rfl;have a:=j.trans (J1k (op:=0) l i (f rfl) (NO rfl));have b:topB (kr S) (beg (kr S))=true:=by unfold topB;rw[a];simp;omega
 rw[b,a];grind
def J37(S:List Tok)(W:World)(e:Ending)(w':World):Prop :=
 ∃q,e=.returned (.tuple #[.agg #[.string (bif okT (kr S)then Q1 S else⟨#[]⟩),.pointer q],.int .i64 (bif okT (kr S)then 0 else(endT (kr S):Int)),.bool (okT (kr S))])/\J W w'/\(okT (kr S)=true->∃x,PX S false (beg (kr S)) 0 x S.length/\IsEx W.1.size w' q x)
theorem Jib{tb:Nat}(h:TokIn W ao tb S)(o):TokIn (W.alloc o) ao tb S :=
 ⟨h.few,fun h0=>⟨(h.addr h0).1,by have:=(h.addr h0).2;simp;omega⟩,fun i hi=>by
  have hb:=(h.addr (by omega)).2;have e:=fun j=>Mc W o ⟨tb,j,none⟩ hb;simp only[e];exact h.cell i hi⟩
theorem Ju2(W)(tk):Rd W tk 0 0 (W.alloc (.cells #[tk,G 0,G 0] 191)):=
 ⟨belA1,by simp,by simp,by simp,by simp,by simp,by simp⟩
theorem Jv7{o:Obj}(hW0:W0=W.alloc o)(h1:J W w1)(h:Kp W0 w1 w2):J W w2 :=
 ⟨h.os.trans h1.os,h.tape.trans h1.tape,h.output.trans h1.output,NE h1.size h.size,fun k hk=>(h.block k (FT hk h1.size) (fun e=>by
  simp_all;omega)).trans (h1.block k hk)⟩
theorem Jbu(W)(ao)(tb cap)(S)(hT:TokIn W ao tb S)(hWf:Wf (kr S)):
 Calls prog 76 #[E ao S.length cap] W (J37 S W):=by
 have:=hT.few;have l:=fun w A=>Jv6 (W.alloc (.cells #[.string ⟨#[]⟩,.pointer none] 113)) ao tb cap S (Jib hT _) hWf w A;go_enter func76,ntmps76;go_wp2_with fail;have m:=Ju2 (W.alloc (.cells #[.string ⟨#[]⟩,.pointer none] 113)) (E ao S.length cap);have i:=l _ m;simp only[MT]at i;refine i.mono ?_;intro e w1 y;obtain⟨p,q,rfl,t,j,c,k⟩:=Jq4 y;have a:=Jv7 rfl (belA2) c;have h:=j.nxt;have z:=j.lt;have d:W.1.size≠(W.alloc (.cells #[.string ⟨#[]⟩,.pointer none] 113)).1.size:=by simp
 have d0:=c.cell (b:=W.1.size) (by simp;omega) d 0;have d1:=c.cell (b:=W.1.size) (by simp;omega) d 1;have r:=c.frozen (b:=W.1.size) (by simp;omega) d 0;have s:=c.frozen (b:=W.1.size) (by simp;omega) d 1;simp at h d0 d1 r s z;generalize hn:endT (kr S)=n at h t k;have:W.1.size≠w1.1.size:=by omega
 have g:W.1.size<w1.1.size:=by omega
 cases ht:topB (kr S) (beg (kr S))
 .have f:okT (kr S)=false:=by unfold okT;rw[ht];rfl
  go_wp2_with fail;go_region
  all_goals
   go_wp2;refine FR (v:=.tuple #[.agg #[.string ⟨#[]⟩,.pointer none],G n,.bool false]) (by simp[results,results76,go_sem,d0,d1,g]) rfl ⟨none,?_,?_,?_⟩
   .simp_all
   .first
    | exact(((a.alloc a.size _).setCell aT _).setCell aT _).drew
    | exact(((a.setCell aT _).setCell aT _).alloc (by simp;omega) _).drew
   simp_all
 have o:=k ht;by_cases u:n=S.length
 .have f:okT (kr S)=true:=by
   unfold okT;rw[ht,Z4,show(sc (kr S) (beg (kr S)) 0 0).1=n from hn];simp;omega
  subst u;go_wp2;refine FR (v:=.tuple #[.agg #[aE (Q1 S),.pointer q],G 0,.bool true]) (by simp[results,results76,go_sem,d0,d1,g]) rfl ⟨q,?_,?_,?_⟩
  .rw [f];rfl
  .first
   | exact((a.alloc a.size _).setCell aT _).setCell aT _
   | exact((a.setCell aT _).setCell aT _).alloc (by simp;omega) _
  intro _;obtain⟨x,B,C⟩:=o;refine⟨x,B,(C.mono (B':=W.1.size) (by simp)).keep ?_⟩;refine⟨by simp,fun D F H=>?_⟩;grind[RowKit.Below.heap_alloc,RowKit.Below.heap_setCell]
 have f:okT (kr S)=false:=by
  unfold okT;rw[ht,Z4,show(sc (kr S) (beg (kr S)) 0 0).1=n from hn];simp;omega
 have B:(n:Int)<(S.length:Int):=by omega
 go_wp2_with fail;go_region
 all_goals
  go_wp2;refine FR (v:=.tuple #[.agg #[.string ⟨#[]⟩,.pointer none],G n,.bool false]) (by simp[results,results76,go_sem,d0,d1,g]) rfl ⟨none,?_,?_,?_⟩
  .simp_all
  .first
   | exact(((a.alloc a.size _).setCell aT _).setCell aT _).drew
   | exact(((a.setCell aT _).setCell aT _).alloc (by simp;omega) _).drew
  simp_all
def plc(s:ByteArray)(A:List (Nat × Nat))(j:Nat):Int:=match A[j]? with
 | some q=>(q.1:Int)
 | none=>(s.size:Int)
def pFin(s:ByteArray)(A:List (Nat × Nat))(c:Nat × Nat × Nat):Int × Int :=
 if c.1=A.length/\c.2.1≠0/\c.2.2=0 then(0,0)else(3,plc s A c.1)
def Jr(s:ByteArray):Int × Int :=
 if 200<s.size then(1,0)else if(lexR s).2=-1 then pFin s (lexR s).1 (sc (tks s (lexR s).1) (beg (tks s (lexR s).1)) 0 0)else(2,(lexR s).2)
theorem Jez(s):∀(f p:Nat) (A:List (Nat × Nat)),(lexS s f p A).2=-1\/(0<=(lexS s f p A).2/\(lexS s f p A).2<=s.size)
 | 0,_,_=>NN rfl
 | f+1,p,A=>by
  unfold lexS;split
  .rename_i hp;cases hb:((s[p].toNat:Int)== 32)
   .rw [NP];cases ht:tl (s.data.toList.drop p)with
    | none =>
     simp;omega
    | some n=>exact Jez s f _ _
   rw[NX];exact Jez s f _ _
  omega
theorem Jcf(s):∀(f p:Nat) (A:List (Nat × Nat)),A.length<=p->p<=s.size->(lexS s f p A).1.length<=s.size
 | 0,_,A,h,hp=>by show A.length<=_;omega
 | f+1,p,A,h,hp=>by
  unfold lexS;split
  .rename_i hl;cases hb:((s[p].toNat:Int)== 32)
   .rw [NP];cases ht:tl (s.data.toList.drop p)with
    | none=>simp
    | some n =>
     have hbd:=Jls ht;rw[Fu]at hbd;exact Jcf s f _ _ (by simp;omega) (by omega)
   rw[NX];exact Jcf s f _ _ (by omega) (by omega)
  simp;omega
theorem Jrg(t):(Ya t == 2)=(t.toList == [105,115]):=by
 cases hi:(t.toList == [105,115])
 .grind [Ya,Q9]
 have a:=NQ.1 hi;have b:=Vj t 105 [115] a;have c:Zb t=0:=by unfold Zb;rw[a];rfl
 unfold Ya Q9;rw[hi,c,b];rfl
theorem Jcg(t):(Ya t == 1)=namB t:=by
 unfold Ya Q9 namB;rw[N4];cases h40:(hd t == 40)
 .cases h41:(hd t == 41)
  .grind [digB,letB]
  have:=NQ.1 h41;rw[this];rfl
 have:=NQ.1 h40;rw[this];rfl
end Go.Proofs.YtjobgpahajhbnaaGreatDoor
