import Derived.Test.YtjobgpahajhbnaaGreatDoorSa
import Derived.Shelf.Abstract
namespace Go.Proofs.YtjobgpahajhbnaaGreatDoor
open Go.RowKit Go.Proofs Go.Proofs.Tryz
set_option linter.all false
set_option maxHeartbeats 2000000
variable {B b j k n o op p st:Nat} {S:List Tok} {T:List (Int × Int)} {W0 w w':World} {e:TypeId} {l:List UInt8} {r:Int} {s:ByteArray} {tk v:Value} {xs:List Value} {α:Type}
theorem Jw{w2:World}(h:Below w.drew.1.size w.drew w2):J w w2:=(FQ w.1.size w).drew.trans h
theorem Ju3(s)(a j)(h:a<s.size)(hd:digB (s[a].toNat:Int)=false)(hl:letB (s[a].toNat:Int)=true)(hj:a+j<=s.size)
 (ha:((s.data.toList.drop a).take j).all lU=true) (hs:∀c,(s.data.toList.drop a)[j]?=some c->lU c=false):
 rch s a=if 4<j/\amid fnL (s.extract a (a+j))=false then -1 else(a:Int)+j:=by
 have e:=Jbr ha hs;have i:=Jd9 s a j hj;have d:dU s[a]=false:=hd;have g:lU s[a]=true:=hl;have f:(s[a]== 95)=false:=by
  rw[NT];intro e;simp[letB]at hl;rw[e]at hl;revert hl;decide
 have k:amid fnL (s.extract a (a+j))=isFn ((s.data.toList.drop a).take j):=by
  unfold isFn;apply Jd5;rw[Zf];simp
 rw[Jdl s a h,k];simp only[tl,d,f,g,NX,NP];rw[<-Z5 s a h];simp only[wrdE,e,i];by_cases b:4<j/\isFn ((s.data.toList.drop a).take j)=false
 .rw [FY b,FY b]
 rw[FU b,FU b];simp
theorem Jmg(s)(a:Nat)(w:World)(hs:s.size<=200)(h:a<s.size)(hd:digB (s[a].toNat:Int)=false)(h9:((s[a].toNat:Int)== 95)=false)(hl:letB (s[a].toNat:Int)=true):
 Calls prog 113 #[aE s,G a] w fun e w'=>e=aD (G (rch s a))/\J w w':=by
 go_enter func113,ntmps113;go_wp2_with fail;refine aQ (J4 _ _) ?_;go_wp2_with fail;refine aQ (Yh _ _) ?_;go_wp2_with fail;refine aQ (Y5 _ _) ?_;go_wp2_with fail;go_loop [6] (fun k=>∃j:Nat,1<=j/\a+j<=s.size/\k=G ((a:Int)+(j:Int))/\((s.data.toList.drop a).take j).all lU=true) (fun k=>s.size-(intOf k).toNat)
 .exact ⟨1,by omega,by omega,by simp,Q8 (Jai s a 0 h) (by simp) hl⟩
 obtain⟨j,n,l,rfl,f⟩:=hrel;have fin:=O (fun st=>Ju3 s a j h hd hl l f st);by_cases hlt:a+j<s.size
 .have d:=O (Jai s a j hlt);cases hdg:letB ((s[a+j]'hlt).toNat:Int)
  .go_wp2_with (go_at_call 116;refine aQ (Yh _ _) ?_);go_region_with (first|(go_at_call 115;refine(Qm _).mono ?_;rintro e m ⟨b,rfl,i,c⟩)| (go_at_call 114;refine aQ (Jck _ fnL 13 13 _ _ rfl (by decide) (by assumption)) ?_))
   all_goals
    cases hm:amid fnL (s.extract a (a+j))
    all_goals
     by_cases g:4<j
     all_goals
      go_wp2;go_ret;refine⟨Jm ?_,?_⟩
      .rw [fin (Nl d hdg),hm];simp;try omega
      first|exact c|exact Jw c
  go_wp2_with (go_at_call 116;refine aQ (Yh _ _) ?_);go_round
  .exact ⟨j+1,by omega,by omega,by go_num,Q8 d f hdg⟩
  simp[intOf];omega
 have d:=O (Xt s a j (by omega));go_wp2_with (go_at_call 116;refine aQ (Yh _ _) ?_);go_region_with (first|(go_at_call 115;refine(Qm _).mono ?_;rintro e m ⟨b,rfl,i,c⟩)| (go_at_call 114;refine aQ (Jck _ fnL 13 13 _ _ rfl (by decide) (by assumption)) ?_))
 all_goals
  cases hm:amid fnL (s.extract a (a+j))
  all_goals
   by_cases g:4<j
   all_goals
    go_wp2;go_ret;refine⟨Jm ?_,?_⟩
    .rw [fin (Xy d),hm];simp;try omega
    first|exact c|exact Jw c
theorem Jmh(s)(a:Nat)(w:World)(hs:s.size<=200)(h:a<s.size)(hd:digB (s[a].toNat:Int)=false)(h9:((s[a].toNat:Int)== 95)=false)(hl:letB (s[a].toNat:Int)=false):
 Calls prog 113 #[aE s,G a] w fun e w'=>e=aD (G (rch s a))/\w'=w:=by
 have j:=hd;have k:=hl;have f:=h9;cases hb:((s[a].toNat:Int)== 40)
 .have g:=hb;cases hc:((s[a].toNat:Int)== 41)
  .have i:=hc;cases hg:sgnB (s[a].toNat:Int)
   .go_enter func113,ntmps113;go_wp2_with (first|(go_at_call 160;refine aQ (J4 _ _) ?_)| (go_at_call 116;refine aQ (Yh _ _) ?_)| (go_at_call 120;refine aQ (Y5 _ _) ?_));go_ret;exact⟨Jm (J10 s a h j f k g i hg).symm,rfl⟩
   have c:=O (J1z s a h hd h9 hl hb hc hg);by_cases d:a+1<s.size
   .cases t1:((s[a+1].toNat:Int)== 47)
    .cases t2:((s[a+1].toNat:Int)== 92)
     .cases t3:((s[a+1].toNat:Int)== 46)
      .have b:=Jt7 s (a+1) d t1 t2 t3;go_enter func113,ntmps113;go_wp2_with (first|(go_at_call 160;refine aQ (J4 _ _) ?_)| (go_at_call 116;refine aQ (Yh _ _) ?_)| (go_at_call 120;refine aQ (Y5 _ _) ?_));go_ret;exact⟨Jm (by rw[c,b];rfl),rfl⟩
      have b:=Jed s (a+1) d (NO (NO t3));go_enter func113,ntmps113;go_wp2_with (first|(go_at_call 160;refine aQ (J4 _ _) ?_)| (go_at_call 116;refine aQ (Yh _ _) ?_)| (go_at_call 120;refine aQ (Y5 _ _) ?_));go_ret;exact⟨Jm (by rw[c,b];omega),rfl⟩
     have b:=Jed s (a+1) d (NO (NN t2));go_enter func113,ntmps113;go_wp2_with (first|(go_at_call 160;refine aQ (J4 _ _) ?_)| (go_at_call 116;refine aQ (Yh _ _) ?_)| (go_at_call 120;refine aQ (Y5 _ _) ?_));go_ret;exact⟨Jm (by rw[c,b];omega),rfl⟩
    have b:=Jed s (a+1) d (NN t1);go_enter func113,ntmps113;go_wp2_with (first|(go_at_call 160;refine aQ (J4 _ _) ?_)| (go_at_call 116;refine aQ (Yh _ _) ?_)| (go_at_call 120;refine aQ (Y5 _ _) ?_));go_ret;exact⟨Jm (by rw[c,b];omega),rfl⟩
   have b:=Jt9 s (a+1) (by omega);go_enter func113,ntmps113;go_wp2_with (first|(go_at_call 160;refine aQ (J4 _ _) ?_)| (go_at_call 116;refine aQ (Yh _ _) ?_)| (go_at_call 120;refine aQ (Y5 _ _) ?_));go_ret;exact⟨Jm (by rw[c,b];rfl),rfl⟩
  have c:=O (Jxx s a h hd h9 hl (NO hc));go_enter func113,ntmps113;go_wp2_with (first|(go_at_call 160;refine aQ (J4 _ _) ?_)| (go_at_call 116;refine aQ (Yh _ _) ?_)| (go_at_call 120;refine aQ (Y5 _ _) ?_));go_ret;exact⟨Jm c.symm,rfl⟩
 have c:=O (Jxx s a h hd h9 hl (NN hb));go_enter func113,ntmps113;go_wp2_with (first|(go_at_call 160;refine aQ (J4 _ _) ?_)| (go_at_call 116;refine aQ (Yh _ _) ?_)| (go_at_call 120;refine aQ (Y5 _ _) ?_));go_ret;exact⟨Jm c.symm,rfl⟩
theorem Jga(s)(a:Nat)(w:World)(hs:s.size<=200)(h:a<s.size):
 Calls prog 113 #[aE s,G a] w fun e w'=>e=aD (G (rch s a))/\J w w':=by
 cases hd:digB (s[a].toNat:Int)
 .cases b:((s[a].toNat:Int)== 95)
  .cases hl:letB (s[a].toNat:Int)
   .refine aQ (Jmh s a w hs h hd b hl) ?_;exact⟨rfl,FQ _ _⟩
   exact Jmg s a w hs h hd b hl
  have b:=NQ.1 b;refine aQ (Jps s a w hs h hd b) ?_;simp_all[Jzo,FQ]
 refine aQ (Jpt s a w hs h hd) ?_;simp_all[Jzp,FQ]
def lexS(s:ByteArray):Nat->Nat->List (Nat × Nat)->List (Nat × Nat) × Int
 | 0,_,A=>(A,-1)
 | f+1,p,A=>if h:p<s.size then(bif (s[p].toNat:Int)== 32 then lexS s f (p+1) A else match tl (s.data.toList.drop p)with
  | none=>([],p)
  | some n=>lexS s f (p+n) (A++[(p,p+n)]))else(A,-1)
def lexR(s:ByteArray):List (Nat × Nat) × Int:=lexS s s.size 0 []
theorem Jq7(s)(f p)(A)(h:s.size<=p):lexS s f p A=(A,-1):=by
 cases f with
 | zero=>rfl
 | succ f=>simp[lexS];omega
theorem Jgz(s)(f p)(A)(h:p<s.size)(hb:((s[p].toNat:Int)== 32)=true):lexS s (f+1) p A=lexS s f (p+1) A:=by
 simp_all[lexS]
theorem Jq8(s)(f p)(A)(h:p<s.size)(hb:((s[p].toNat:Int)== 32)=false)(ht:tl (s.data.toList.drop p)=none):lexS s (f+1) p A=([],(p:Int)):=by
 rw[lexS];grind
theorem Jq5(s)(f p n)(A)(h:p<s.size)(hb:((s[p].toNat:Int)== 32)=false)(ht:tl (s.data.toList.drop p)=some n):lexS s (f+1) p A=lexS s f (p+n) (A++[(p,p+n)]):=by
 rw[lexS];grind
theorem Jql(h:numE k l=some n):1<=n/\n<=k+l.length:=by
 grind[Jto,numE]
theorem Jls(h:tl l=some n):1<=n/\n<=l.length:=by
 match l with
 | []=>cases h
 | c::r =>
  simp only[tl]at h;cases h1:dU c
  .rw [h1,NP]at h;cases h2:(c == 95)
   .rw [h2,NP]at h;cases h3:lU c
    .rw [h3,NP]at h;cases h4:(c == 40 || c == 41)
     .rw [h4,NP]at h;cases h5:gU c
      .simp_all
      rw[h5,NX]at h;injection h with h;subst h;unfold sgnE;grind
     simp_all
    rw[h3,NX]at h;grind[Jto,List.takeWhile,wrdE]
   rw[h2,NX]at h;have:=Jql h;simp;omega
  rw[h1,NX]at h;have:=Jql h;omega
theorem Ju4(h:tl (s.data.toList.drop p)=some n):rch s p=((p+n:Nat):Int):=by simp_all[rch]
theorem Ju5(h:tl (s.data.toList.drop p)=none):rch s p=-1:=by simp_all[rch]
def Na(s:ByteArray)(A:List (Nat × Nat)):List Value:=A.flatMap fun q=>[.string (s.extract q.1 q.2),.int .i64 q.1]
def Nb(s:ByteArray)(A:List (Nat × Nat)):List Value:=A.flatMap fun q=>[.int .i64 (Ya (s.extract q.1 q.2)),.int .i64 (Zt (s.extract q.1 q.2)),.int .i64 (Yq (s.extract q.1 q.2)),.string (s.extract q.1 q.2),.int .i64 q.1]
theorem Jjr(s)(A)(a b):Na s (A++[(a,b)])=Na s A++[aE (s.extract a b),G a]:=by
 simp[Na]
theorem Jjs(s)(A)(a b):Nb s (A++[(a,b)])=Nb s A++[G (Ya (s.extract a b)),G (Zt (s.extract a b)),G (Yq (s.extract a b)),aE (s.extract a b),G a]:=by
 simp[Nb]
theorem Jjw(h:J w w'):w.grownBy w' none:=⟨h.os,h.tape,h.output,h.size,fun k hk _=>h.block k hk⟩
theorem Jf(h:w.ownsRow B e k v n xs)(hb:J w w'):w'.ownsRow B e k v n xs :=
 h.kept (Jjw hb) (by grind)
theorem Jtv(s:ByteArray)(p n)(hp:p+n<=s.size):(s.extract p s.size).extract 0 n=s.extract p (p+n):=by
 have:∀a b:ByteArray,a.data.toList=b.data.toList->a=b:=by
  intro a b c;obtain⟨⟨a⟩⟩:=a;obtain⟨⟨b⟩⟩:=b;simp at c;rw[c]
 grind[Zf]
theorem Jfq(s:ByteArray)(p):(s.extract p s.size).data.toList=s.data.toList.drop p:=by
 simp[NJ]
theorem Rd.next(h:Rd W0 tk j o w)(k):Rd W0 tk k o (w.setCell (U W0.1.size 1) (G k)):=
 ⟨h.below.setCell aT _,celN (by omega) h.tok,FW _ _ _ h.nxt,celN (by omega) h.opn,
  froN h.fr1,froN h.fr2,by simpa using h.lt⟩
theorem Rd.opened(h:Rd W0 tk j o w)(k):Rd W0 tk j k (w.setCell (U W0.1.size 2) (G k)):=
 ⟨h.below.setCell aT _,celN (by omega) h.tok,celN (by omega) h.nxt,FW _ _ _ h.opn,
  froN h.fr1,froN h.fr2,by simpa using h.lt⟩
def zt:Value:=tokX 0 0 0 ⟨#[]⟩ 0
theorem Gh(h:Below B w w')(n):Below B w (w'.drewN n):=⟨h.os,h.tape,h.output,h.size,h.block⟩
def Kp(W0 w w':World):Prop:=w.grownBy w' (some W0.1.size)
theorem Kp.refl(W0 w):Kp W0 w w:=⟨rfl,rfl,rfl,FP _,fun _ _ _=>rfl⟩
theorem Kp.trans{a b c:World}(h:Kp W0 a b)(h':Kp W0 b c):Kp W0 a c :=
 ⟨h'.os.trans h.os,h'.tape.trans h.tape,h'.output.trans h.output,NE h.size h'.size,fun k hk hn=>(h'.block k (FT hk h.size) hn).trans (h.block k hk hn)⟩
theorem Kp.of_below(h:J w w'):Kp W0 w w':=⟨h.os,h.tape,h.output,h.size,fun k hk _=>h.block k hk⟩
theorem Rd.keep(h:Rd W0 tk j o w)(hb:J w w'):Rd W0 tk j o w' :=
 ⟨h.below.trans (hb.mono h.below.size),V hb h.lt h.tok,V hb h.lt h.nxt,V hb h.lt h.opn,
  bF hb h.lt h.fr1,bF hb h.lt h.fr2,FT h.lt hb.size⟩
theorem Kp.setReader(W0 w)(i)(v):Kp W0 w (w.setCell (U W0.1.size i) v):=
 ⟨rfl,rfl,rfl,by simp,fun k _ hn=>FV _ _ _ _ (fun e=>hn (by rw[e]))⟩
theorem Rd.other(h:Rd W0 tk j o w)(hb:W0.1.size<b)(i)(v):Rd W0 tk j o (w.setCell (U b i) v):=
 ⟨h.below.setCell (Nat.le_of_lt hb) _,(celO (by omega)).trans h.tok,(celO (by omega)).trans h.nxt,(celO (by omega)).trans h.opn,
  froN h.fr1,froN h.fr2,by simpa using h.lt⟩
theorem Kp.new(h:Kp W0 w w')(hb:w.1.size<=b)(i)(v):Kp W0 w (w'.setCell (U b i) v):=
 ⟨h.os,h.tape,h.output,by simpa using h.size,fun k hk hn=>(FV _ _ _ _ (by simp;omega)).trans (h.block k hk hn)⟩
theorem Rd.drew(h:Rd W0 tk j o w):Rd W0 tk j o w.drew:=⟨h.below.drew,h.tok,h.nxt,h.opn,h.fr1,h.fr2,h.lt⟩
theorem Kp.drew(h:Kp W0 w w'):Kp W0 w w'.drew:=⟨h.os,h.tape,h.output,h.size,h.block⟩
structure IfC (g B:Nat) (w:World) (q:Tok) (b:Bool):Prop where
 en:∀ args w,(callFunc g args).run prog w=.ok (.enter g args) w
 call:∀ w',J w w'->Calls prog g #[q.v,aJ B 0] w' fun e w''=>e=.returned (.bool b)/\J w' w''
theorem if_b(W0)(tb n cap)(q)(j o B g)(b)(w)(hw:Rd W0 (aI tb 0 n cap) j o w)(hG:IfC g B w q b)(htb:tb<W0.1.size)
 (c0:w.cell? (U tb (j*5))=some (G q.k)) (c1:w.cell? (U tb (j*5+1))=some (G q.r)) (c2:w.cell? (U tb (j*5+2))=some (G q.x)) (c3:w.cell? (U tb (j*5+3))=some (aE q.t)) (c4:w.cell? (U tb (j*5+4))=some (G q.p)) (hj:(j:Int)<(n:Int)) (hn:n<=200):
 Calls prog 215 #[aJ W0.1.size 0,.func (.func g) #[] #[aJ B 0]] w fun e w'=>e=aD (.tuple #[bif b then q.v else zt,.bool b])/\Rd W0 (aI tb 0 n cap) (bif b then j+1 else j) o w'/\Kp W0 w w':=by
 have P:=O hw;have A:=hw.tok;have z:=hw.nxt;have C:=hw.fr1;have a:=hw.lt;have s:=Po htb a;have R:((j:Int)== n)=false:=NT.2 (by omega);have ao:(0:Int)<=j:=by omega
 have an:=hG.en;have W:=O hG.call;have al:=O s;have ak:=a;obtain⟨k,r,x,t,p⟩:=q;simp only at c0 c1 c2 c3 c4;have N:Hid (∀w',J w w'->w'.cell? (adP0 W0)=some (aI tb 0 n cap)/\w'.cell? (adP1 W0)=some (G j)/\w'.cell? (U tb (j*5))=some (G k)/\w'.cell? (U tb (j*5+1))=some (G r)/\w'.cell? (U tb (j*5+2))=some (G x)/\w'.cell? (U tb (j*5+3))=some (aE t)/\w'.cell? (U tb (j*5+4))=some (G p)):=
  fun w' h=>⟨V h a A,V h a z,V h s c0,V h s c1,V h s c2,V h s c3,V h s c4⟩
 clear hw hG;go_enter func215,ntmps215;go_wp2_with fail;go_region_held3 (fun w'=>w'.cell? (U W0.1.size 0)=some (aI tb 0 n cap)/\w'.cell? (U W0.1.size 1)=some (G j)/\w'.cell? (U tb (j*5))=some (G k)/\w'.cell? (U tb (j*5+1))=some (G r)/\w'.cell? (U tb (j*5+2))=some (G x)/\w'.cell? (U tb (j*5+3))=some (aE t)/\w'.cell? (U tb (j*5+4))=some (G p))
  (first|go_keep|exact N _ ((((FQ w.1.size w).alloc aT _).drew).trans (y.mono (by simp))))
  (first|(go_at_fn g;refine aR (I W _ ((FQ w.1.size w).alloc aT _).drew) fun d Q=>?_;have y:=Q;clear Q))
 obtain⟨i,l⟩:=Yy y;have av:w.1.size<d.1.size:=by have:=y.size;simp at this;omega
 have hd0:=i w.1.size 0 (by simp);have D:=i w.1.size 1 (by simp);have F:=i w.1.size 2 (by simp);have H:=i w.1.size 3 (by simp);have K:=i w.1.size 4 (by simp);have X:=l w.1.size 0 (by simp);have Y:=l w.1.size 1 (by simp);have Z:=l w.1.size 2 (by simp);have aa:=l w.1.size 3 (by simp);have ab:=l w.1.size 4 (by simp);have m:=((((FQ w.1.size w).alloc aT (Obj.cells #[G 0,G 0,G 0,.string ⟨#[]⟩,G 0] 155)).drew).trans (y.mono (by simp)));obtain⟨ad,ae,af,ag,ah,ai,aj⟩:=N d m;have am:=bF m a C;simp at hd0 D F H K X Y Z aa ab;cases b
 .clear i l A z C c0 c1 c2 c3 c4 R;go_wp2_with fail;refine FR (v:=.tuple #[.agg #[G 0,G 0,G 0,.string ⟨#[]⟩,G 0],.bool false]) (by simp[results,results215,go_sem,hd0,D,F,H,K]) rfl ⟨rfl,?_,?_⟩
  .have f:=P.keep m;exact((((f.other a _ _).other a _ _).other a _ _).other a _ _).other a _ _
  have f:Kp W0 w d:=Kp.of_below m;exact((((f.new aT _ _).new aT _ _).new aT _ _).new aT _ _).new aT _ _
 have n1:tb≠W0.1.size:=by omega
 have n2:w.1.size≠W0.1.size:=by omega
 have n3:tb≠w.1.size:=by omega
 obtain⟨c,L⟩:=nm ((j:Int)+1:Int);have ap:0<=c-1:=by omega
 have aq:c-1<(n:Int):=by omega
 have ar:c<=201:=by omega
 have au:(c-1).toNat=j:=by omega
 change Hid _ at L;clear i l A z C c0 c1 c2 c3 c4 R;have S:(d.setCell (U W0.1.size 1) (G c)).cell? (U W0.1.size 0)=some (aI tb 0 n cap):=celN (by omega) ad;have T:(d.setCell (U W0.1.size 1) (G c)).cell? (U W0.1.size 1)=some (G c):=FW _ _ _ ae;have u:=fun ac=>FZ d ⟨W0.1.size,1,none⟩ ⟨tb,ac,none⟩ (G c) (by intro e;injection e;omega);change Hid _ at u T S;go_wp2_with fail;have ax:=I T;have aw:=I S;have ay:=(I u _).trans af;have az:=(I u _).trans ag;have aU:=(I u _).trans ah;have aV:=(I u _).trans ai;have aW:=(I u _).trans aj;rw[L];go_region;go_wp2_with fail;refine FR (v:=.tuple #[.agg #[G k,G r,G x,aE t,G p],.bool true]) (by simp[results,results215,go_sem,hd0,D,F,H,K]) rfl ⟨rfl,?_,?_⟩
 .have f:Rd W0 (aI tb 0 n cap) (j+1) o (d.setCell (adP1 W0) (G c)):=by
   rw[<-L];exact(P.keep m).next (j+1)
  exact(((((f.other a _ _).other a _ _).other a _ _).other a _ _).other a _ _).drew
 have f:Kp W0 w (d.setCell (adP1 W0) (G c)):=(Kp.of_below m).trans (Kp.setReader _ _ _ _);exact(((((f.new aT _ _).new aT _ _).new aT _ _).new aT _ _).new aT _ _).drew
theorem J2d(W0)(ao)(n cap)(j o B g)(w)(hw:Rd W0 (E ao n cap) j o w)(hj:j=n)(hn:n<=200):
 Calls prog 215 #[aJ W0.1.size 0,.func (.func g) #[] #[aJ B 0]] w fun e w'=>e=aD (.tuple #[zt,.bool false])/\Rd W0 (E ao n cap) j o w'/\Kp W0 w w':=by
 subst hj;have c:=hw;have:=hw.tok;have:=hw.nxt;have a:=hw.lt;go_enter func215,ntmps215;go_wp2_with fail;go_quiet (fail);go_wp2_with fail;refine FR (by simp[results,results215,go_sem];try rfl) rfl ?_;refine⟨rfl,?_,?_⟩
 .have b:=c.keep (Gh ((FQ w.1.size w).alloc aT (Obj.cells #[G 0,G 0,G 0,.string ⟨#[]⟩,G 0] 155)) nq);exact((((b.other a _ _).other a _ _).other a _ _).other a _ _).other a _ _
 have b:Kp W0 w _:=Kp.of_below (Gh ((FQ w.1.size w).alloc aT (Obj.cells #[G 0,G 0,G 0,.string ⟨#[]⟩,G 0] 155)) nq);exact((((b.new aT _ _).new aT _ _).new aT _ _).new aT _ _).new aT _ _
def tokAt(S:List Tok)(j:Nat):Tok:=S.getD j ⟨0,0,0,⟨#[]⟩,0⟩
theorem Yz(h:j<S.length):tokAt S j=S[j]:=by simp[tokAt,List.getD,h]
theorem J2b(h:j<S.length):(kr S)[j]?=some (S[j].k,S[j].r):=by simp[kr,h]
theorem Jg1(h:S.length<=j):(kr S)[j]?=none:=by simp[kr,h]
theorem J0k(h:j<S.length)(a):fB (kr S) j a=Zc S[j].r a:=by unfold fB;rw[J2b h]
theorem Gl(h:j<S.length)(a):kB (kr S) j a=(S[j].k == a):=by unfold kB;rw[J2b h]
theorem J2i(h:S.length<=j)(a):fB (kr S) j a=false:=by unfold fB;rw[Jg1 h]
theorem Jrj(h:S.length<=j)(a):kB (kr S) j a=false:=by unfold kB;rw[Jg1 h]
theorem Kp.alloc(h:Kp W0 w w')(o):Kp W0 w (w'.alloc o):=h.trans (Kp.of_below (aS.alloc aT o))
theorem Rd.alloc(h:Rd W0 tk j o w)(ob):Rd W0 tk j o (w.alloc ob):=h.keep (aS.alloc aT ob)
theorem Kp.cell(h:Kp W0 w w')(hb:b<w.1.size)(hn:b≠W0.1.size)(i):w'.cell? (U b i)=w.cell? (U b i):=
 WA (h.block b hb (fun e=>hn (NS e)))
theorem Kp.frozen(h:Kp W0 w w')(hb:b<w.1.size)(hn:b≠W0.1.size)(i):w'.frozen? (U b i)=w.frozen? (U b i):=
 NI (h.block b hb (fun e=>hn (NS e)))
theorem Jx6(W0)(ao)(tb cap)(S)(j o B g)(F:Tok->Bool)(b)(w)(hT:TokIn W0 ao tb S)(hjl:j<=S.length)(hw:Rd W0 (E ao S.length cap) j o w)(hG:∀q,IfC g B w q (F q))(hb:∀h:j<S.length,F S[j]=b)(hb':S.length<=j->false=b):
 Calls prog 215 #[aJ W0.1.size 0,.func (.func g) #[] #[aJ B 0]] w fun e w'=>e=aD (.tuple #[bif b then(tokAt S j).v else zt,.bool b])/\Rd W0 (E ao S.length cap) (bif b then j+1 else j) o w'/\Kp W0 w w':=by
 by_cases c:j<S.length
 .obtain ⟨rfl,d⟩:=hT.addr (by omega);obtain⟨c0,c1,f,i,k⟩:=hT.cell j c;have a:=fun l=>hw.below.cell (p:=U tb l) d;rw[Yz c];exact if_b W0 tb S.length cap S[j] j o B g b w hw (hb c▸hG _) d ((a _).trans c0) ((a _).trans c1) ((a _).trans f) ((a _).trans i) ((a _).trans k) (by omega) hT.few
 rw[<-hb' (by omega)];exact J2d W0 ao S.length cap j o B g w hw (by omega) hT.few
theorem VG:Enters prog 216:=NF func216 (by decide) rfl
theorem VH:Enters prog 271:=NF func271 (by decide) rfl
set_option linter.unusedSimpArgs false in
theorem fa_b(W0)(ao)(tb cap)(S)(a)(j o)(w)(hT:TokIn W0 ao tb S)(hjl:j<=S.length)(hw:Rd W0 (E ao S.length cap) j o w)(b)(q:Tok)(hq:(bif b then(tokAt S j).v else zt)=q.v):
 (fB (kr S) j a=b->Calls prog 175 #[aJ W0.1.size 0,G a] w fun e w'=>e=aD (.tuple #[q.v,.bool b])/\Rd W0 (E ao S.length cap) (bif b then j+1 else j) o w'/\Kp W0 w w')/\(kB (kr S) j a=b->Calls prog 217 #[aJ W0.1.size 0,G a] w fun e w'=>e=aD (.tuple #[q.v,.bool b])/\Rd W0 (E ao S.length cap) (bif b then j+1 else j) o w'/\Kp W0 w w'):=by
 have:=hw.lt;have:w.1.size≠W0.1.size:=by omega
 have g:w.1.size+1≠W0.1.size:=by omega
 have u:∀(l:Nat) (m:Tok->Bool) (f:World),Enters prog l->w.1.size<f.1.size->f.cell? (adP0 w)=some (G a)->(∀q w',w.1.size<w'.1.size->w'.cell? (adP0 w)=some (G a)->Calls prog l #[q.v,.pointer (some (adP0 w))] w' fun e N=>e=aD (.bool (m q))/\J w' N)->∀q,IfC l w.1.size f q (m q):=fun l m f F c D H q=>⟨F,fun w' d=>H q w' (FT c d.size) (V d c D)⟩
 refine⟨fun d=>?_,fun d=>?_⟩;have t:=O (fun f i n s=>Jx6 W0 ao tb cap S j o w.1.size 216 (fun q=>Zc q.r a) b f hT hjl s (u 216 _ f VG i n (fun q w'=>J0w q a w.1.size w')) (fun h=>(J0k h a).symm.trans d) (fun h=>(J2i h a).symm.trans d));rotate_left;have t:=O (fun f i n s=>Jx6 W0 ao tb cap S j o w.1.size 271 (fun q=>q.k == a) b f hT hjl s (u 271 _ f VH i n (fun q w'=>J0x q a w.1.size w')) (fun h=>(Gl h a).symm.trans d) (fun h=>(Jrj h a).symm.trans d));rotate_left
 all_goals
  obtain⟨k,r,P,L,p⟩:=q
 go_enter func175,ntmps175;rotate_left;go_enter func217,ntmps217
 all_goals
  go_wp2_with fail;refine(I t _ (by simp;omega) (by simp) ((hw.alloc _).alloc _)).mono ?_;rintro e f ⟨rfl,K,d⟩;rw[hq];unfold Tok.v tokX;have x:=d;have d0:=d.cell (b:=w.1.size+1) (by simp) g 0;have d1:=d.cell (b:=w.1.size+1) (by simp) g 1;have h:=d.cell (b:=w.1.size+1) (by simp) g 2;have n:=d.cell (b:=w.1.size+1) (by simp) g 3;have s:=d.cell (b:=w.1.size+1) (by simp) g 4;have y:=d.frozen (b:=w.1.size+1) (by simp) g 0;have z:=d.frozen (b:=w.1.size+1) (by simp) g 1;have A:=d.frozen (b:=w.1.size+1) (by simp) g 2;have B:=d.frozen (b:=w.1.size+1) (by simp) g 3;have C:=d.frozen (b:=w.1.size+1) (by simp) g 4;simp at d0 d1 h n s y z A B C;go_wp2_with fail;refine FR (v:=.tuple #[.agg #[G k,G r,G P,aE L,G p],.bool b]) (by simp[results,results175,results217,go_sem,d0,d1,h,n,s]) rfl ⟨rfl,?_,?_⟩
  .have c:W0.1.size<w.1.size+1:=by omega
   exact((((K.other c _ _).other c _ _).other c _ _).other c _ _).other c _ _
  have i:=(((Kp.refl W0 w).alloc _).alloc _).trans x;have c:w.1.size<=w.1.size+1:=by omega
  exact((((i.new c _ _).new c _ _).new c _ _).new c _ _).new c _ _
theorem Jbg(W0)(ao)(tb cap)(S)(a)(j o)(w)(hT:TokIn W0 ao tb S)(hjl:j<=S.length)(hw:Rd W0 (E ao S.length cap) j o w):
 Calls prog 175 #[aJ W0.1.size 0,G a] w fun e w'=>e=aD (.tuple #[(bif fB (kr S) j a then tokAt S j else⟨0,0,0,⟨#[]⟩,0⟩:Tok).v,.bool (fB (kr S) j a)])/\Rd W0 (E ao S.length cap) (bif fB (kr S) j a then j+1 else j) o w'/\Kp W0 w w' :=
 (fa_b W0 ao tb cap S a j o w hT hjl hw _ _ (by cases fB (kr S) j a<;>rfl)).1 rfl
theorem Qy(W0)(ao)(tb cap)(S)(a)(j o)(w)(hT:TokIn W0 ao tb S)(hjl:j<=S.length)(hw:Rd W0 (E ao S.length cap) j o w):
 Calls prog 217 #[aJ W0.1.size 0,G a] w fun e w'=>e=aD (.tuple #[(bif kB (kr S) j a then tokAt S j else⟨0,0,0,⟨#[]⟩,0⟩:Tok).v,.bool (kB (kr S) j a)])/\Rd W0 (E ao S.length cap) (bif kB (kr S) j a then j+1 else j) o w'/\Kp W0 w w' :=
 (fa_b W0 ao tb cap S a j o w hT hjl hw _ _ (by cases kB (kr S) j a<;>rfl)).2 rfl
def step(st:Nat)(q:Int × Int)(op:Nat):Option (Nat × Nat):=
 if q.1=0 then(if st≠2 then some (1,op)else none)
 else if q.1=1 then(if st=0 then some (2,op)else none)
 else if q.1=4 then(if st=0/\op<8 then some (0,op+1)else none)
 else if q.1=5 then(if st≠0/\0<op then some (2,op-1)else none)
 else if Zc q.2 (if st=0 then 1 else 2)=true then some (0,op)else none
def scan:List (Int × Int)->Nat->Nat->Nat->Nat × Nat × Nat
 | [],j,st,op=>(j,st,op)
 | q::r,j,st,op=>match step st q op with
  | none=>(j,st,op)
  | some x=>scan r (j+1) x.1 x.2
def sc(T:List (Int × Int))(j st op:Nat):Nat × Nat × Nat:=scan (T.drop j) j st op
def Wf(T:List (Int × Int)):Prop:=∀q ∈ T,q.1=0\/q.1=1\/q.1=4\/q.1=5->q.2=0
theorem Gv{st' op':Nat}(h:j<T.length)(hs:step st T[j] op=some (st',op')):sc T j st op=sc T (j+1) st' op':=by
 grind[sc,List.drop_eq_getElem_cons,scan]
theorem Jil(h:j<T.length)(hs:step st T[j] op=none):sc T j st op=(j,st,op):=by
 grind[sc,List.drop_eq_getElem_cons,scan]
theorem Jxu(h:T.length<=j):sc T j st op=(j,st,op):=by
 simp_all[sc,YP,scan]
theorem Jau{k:Int}(h:kB T j k=true):∃hj:j<T.length,T[j].1=k:=by
 unfold kB at h;grind
theorem Jrk{k:Int}(h:kB T j k=false)(hj:j<T.length):T[j].1≠k:=by
 simp_all[kB]
theorem Jdh:Zc 0 1=false:=by decide
theorem Jdg:Zc 0 2=false:=by decide
theorem Jwx(h:fB T j r=true):∃hj:j<T.length,Zc T[j].2 r=true:=by
 grind[fB]
theorem J2j(h:fB T j r=false)(hj:j<T.length):Zc T[j].2 r=false:=by
 simp_all[fB]
theorem Jny(hw:Wf T)(hj:j<T.length)(hr:Zc T[j].2 r=true)(h1:r=1\/r=2):T[j].1≠0/\T[j].1≠1/\T[j].1≠4/\T[j].1≠5:=by
 have:¬ (T[j].1=0\/T[j].1=1\/T[j].1=4\/T[j].1=5):=by
  intro a;have b:=hw _ (ND hj) a;rw[b]at hr;rcases h1 with rfl|rfl
  .simp_all [Jdh]
  simp_all[Jdg]
 omega
theorem Jud(hw:Wf T)(h:fB T j 1=true):j<T.length/\sc T j 0 op=sc T (j+1) 0 op:=by
 obtain⟨a,c⟩:=Jwx h;obtain⟨d,b,e,f⟩:=Jny hw a c (NN rfl);refine⟨a,Gv a ?_⟩;simp_all[step]
theorem Jl4(hw:Wf T)(hst:st≠0)(h:fB T j 2=true):j<T.length/\sc T j st op=sc T (j+1) 0 op:=by
 obtain⟨a,c⟩:=Jwx h;obtain⟨d,b,e,f⟩:=Jny hw a c (NO rfl);refine⟨a,Gv a ?_⟩;simp_all[step]
theorem Jxt(hst:st≠2)(h:kB T j 0=true):j<T.length/\sc T j st op=sc T (j+1) 1 op:=by
 obtain⟨a,b⟩:=Jau h;refine⟨a,Gv a ?_⟩;simp_all[step]
theorem Jy9(h:kB T j 1=true):j<T.length/\sc T j 0 op=sc T (j+1) 2 op:=by
 grind[Jau,Gv,step]
theorem Jy8(h:kB T j 4=true)(ho:op<8):j<T.length/\sc T j 0 op=sc T (j+1) 0 (op+1):=by
 grind[Jau,Gv,step]
theorem Juc(hst:st≠0)(h:kB T j 5=true):j<T.length/\sc T j st (op+1)=sc T (j+1) 2 op:=by
 grind[Jau,Gv,step]
theorem Jxq(h1:fB T j 1=false)(h2:kB T j 0=false)(h3:kB T j 1=false)(h4:kB T j 4=false\/8<=op):sc T j 0 op=(j,0,op):=by
 by_cases a:j<T.length
 .apply Jil a;have c:=Jrk h2 a;have b:=Jrk h3 a;have:=J2j h1 a;unfold step;rw[FU c,FU b];by_cases d:T[j].1=4
  .rw [FY d,FU];grind[Jrk]
  simp_all
 simp_all[Jxu]
theorem J1k(hst:st=1\/st=2)(hn:st=1->kB T j 0=false)(h1:fB T j 2=false)(h5:kB T j 5=false\/op=0):sc T j st op=(j,st,op):=by
 by_cases b:j<T.length
 .apply Jil b;have:=J2j h1 b;unfold step;by_cases a:T[j].1=0
  .rw [FY a,FU];rcases hst with rfl|rfl
   .exact absurd a (Jrk (hn rfl) b)
   simp
  rw[FU a];by_cases c:T[j].1=1
  .grind
  rw[FU c];by_cases d:T[j].1=4
  .grind
  rw[FU d];by_cases e:T[j].1=5
  .rw [FY e,FU];grind[Jrk]
  grind
 simp_all[Jxu]
theorem Yf(h:w.ownsRow B e k v n xs):
 ∃ao cap g,v=E ao n cap/\n<=cap/\(0<n->ao=some (U g 0)/\g<w.1.size)/\∀j,j<n*k->w.cell? (U g j)=xs[j]?:=by
 obtain⟨l,⟨rfl,rfl⟩| ⟨g,cap,c,rfl,f,d,a,m,p,o⟩⟩:=h
 .simp
 have b:w.ownsRow B e k (aI g 0 n cap) n xs:=⟨l,NO ⟨g,cap,c,rfl,f,d,a,m,p,o⟩⟩;exact⟨some (U g 0),cap,g,rfl,a,fun _=>⟨rfl,(b.lt g rfl).2⟩,fun j i=>b.cellAt j i⟩
theorem J0i{α:Type}(f g:α->Value):∀(A:List α) (i:Nat) (h:i<A.length),(A.flatMap fun q=>[f q,g q])[i*2]?=some (f A[i])/\(A.flatMap fun q=>[f q,g q])[i*2+1]?=some (g A[i])
 | q::A,0,_=>by simp
 | q::A,i+1,h=>by
  have:=J0i f g A i (by simpa using h);grind
theorem J2g{α:Type}(f g p r t:α->Value):∀(A:List α) (i:Nat) (h:i<A.length),(A.flatMap fun q=>[f q,g q,p q,r q,t q])[i*5]?=some (f A[i])/\(A.flatMap fun q=>[f q,g q,p q,r q,t q])[i*5+1]?=some (g A[i])/\(A.flatMap fun q=>[f q,g q,p q,r q,t q])[i*5+2]?=some (p A[i])/\(A.flatMap fun q=>[f q,g q,p q,r q,t q])[i*5+3]?=some (r A[i])/\(A.flatMap fun q=>[f q,g q,p q,r q,t q])[i*5+4]?=some (t A[i])
 | q::A,0,_=>by simp
 | q::A,i+1,h=>by
  have:=J2g f g p r t A i (by simpa using h);have:(i+1)*5=(i*5)+1+1+1+1+1:=by omega
  simp_all
def toks(s:ByteArray)(A:List (Nat × Nat)):List Tok:=A.map fun q=>⟨Ya (s.extract q.1 q.2),Zt (s.extract q.1 q.2),Yq (s.extract q.1 q.2),s.extract q.1 q.2,q.1⟩
theorem Z6(s)(A):(toks s A).length=A.length:=by simp[toks]
def tks(s:ByteArray)(A:List (Nat × Nat)):List (Int × Int):=A.map fun q=>(Ya (s.extract q.1 q.2),Zt (s.extract q.1 q.2))
theorem Qr(s)(A):(tks s A).length=A.length:=by simp[tks]
theorem Jxo(s)(A)(i)(h:i<(tks s A).length):(tks s A)[i]=(Ya (s.extract (A[i]'(by simp_all[Qr])).1 (A[i]'(by simp_all[Qr])).2),Zt (s.extract (A[i]'(by simp_all[Qr])).1 (A[i]'(by simp_all[Qr])).2)):=by
 simp[tks]
theorem Xo(s)(A):kr (toks s A)=tks s A:=by simp[kr,toks,tks]
structure Vt (t:ByteArray):Prop where
 pos:0<t.size
 few:t.size<=200
 opn:(hd t == 40)=true->t.toList=[40]
 cls:(hd t == 41)=true->t.toList=[41]
 sgn:sgnB (hd t)=true->t.size<=2
 any:(hd t == 40)=true\/(hd t == 41)=true\/(hd t == 95 || digB (hd t))=true\/letB (hd t)=true\/sgnB (hd t)=true
def AllV(s:ByteArray)(A:List (Nat × Nat)):Prop:=∀q ∈ A,Vt (s.extract q.1 q.2)
theorem Jxn(t)(c)(h1:t.size=1)(hc:hd t=(c.toNat:Int)):t.toList=[c]:=by
 rw[YC];obtain⟨⟨l⟩⟩:=t;match l,h1 with
 | [d],_ =>
  grind[hd,UInt8.toNat_inj]
theorem J1a(s:ByteArray)(p n)(hp:p<s.size)(hs:s.size<=200)(h:tl (s.data.toList.drop p)=some n):Vt (s.extract p (p+n)):=by
 have r:=Jls h;rw[Fu]at r;have b:(s.extract p (p+n)).size=n:=by rw[ZR];omega
 have a:hd (s.extract p (p+n))=(s[p].toNat:Int):=by
  unfold hd;rw[Zf,Z5 s p hp];obtain⟨k,rfl⟩:∃k,n=k+1:=⟨n-1,by omega⟩;simp
 rw[Z5 s p hp]at h;have u:(((s[p].toNat:Int)== 40)=true->n=1)/\(((s[p].toNat:Int)== 41)=true->n=1)/\(sgnB (s[p].toNat:Int)=true->n<=2) /\
  (((s[p].toNat:Int)== 40)=true\/((s[p].toNat:Int)== 41)=true\/((s[p].toNat:Int)== 95 || digB (s[p].toNat:Int))=true\/letB (s[p].toNat:Int)=true\/sgnB (s[p].toNat:Int)=true):=by
  generalize s[p]=c at h;simp only[tl]at h;have d:=K8 c 40 (by decide);have g:=K8 c 41 (by decide);have j:=K8 c 95 (by decide);have f:((c.toNat:Int)== 40)=(c == 40):=d;have i:((c.toNat:Int)== 41)=(c == 41):=g;have l:((c.toNat:Int)== 95)=(c == 95):=j;rw[f,i,l];have m:digB (c.toNat:Int)=dU c:=rfl;have q:letB (c.toNat:Int)=lU c:=rfl;have o:sgnB (c.toNat:Int)=gU c:=rfl;rw[m,q,o];cases h1:dU c
  .rw [h1,NP]at h;cases h2:(c == 95)
   .rw [h2,NP]at h;cases h3:lU c
    .rw [h3,NP]at h;cases h4:(c == 40 || c == 41)
     .rw [h4,NP]at h;have t:(c == 40)=false:=by cases hx:(c == 40)<;>simp[hx]at h4⊢
      have w:(c == 41)=false:=by cases hx:(c == 41)<;>simp[hx]at h4⊢
      cases h5:gU c
      .simp_all
      rw[h5,NX]at h;injection h with h;refine⟨fun e=>(by simp_all),fun e=>(by simp_all),fun _=>?_,by simp⟩;subst h;unfold sgnE;grind
     grind
    have t:(c == 40)=false:=by cases hx:(c == 40);rfl;exact absurd h3 (by rw[NQ.1 hx];decide)
    have w:(c == 41)=false:=by cases hx:(c == 41);rfl;exact absurd h3 (by rw[NQ.1 hx];decide)
    grind[letB,sgnB]
   have t:=NQ.1 h2;subst t;exact⟨fun e=>(by cases e),fun e=>(by cases e),fun e=>(by cases e),by simp⟩
  have t:(c == 40)=false:=by cases hx:(c == 40);rfl;exact absurd h1 (by rw[NQ.1 hx];decide)
  have w:(c == 41)=false:=by cases hx:(c == 41);rfl;exact absurd h1 (by rw[NQ.1 hx];decide)
  grind[digB,sgnB]
 obtain⟨d,f,g,i⟩:=u;refine⟨by omega,by omega,?_,?_,?_,?_⟩
 .intro e;rw[a]at e;exact Jxn _ 40 (by rw[b];exact d e) (by rw[a];exact NQ.1 e)
 .intro e;rw[a]at e;exact Jxn _ 41 (by rw[b];exact f e) (by rw[a];exact NQ.1 e)
 .intro e;rw[a]at e;rw[b];exact g e
 rw[a];exact i
theorem Ji8(s)(hs:s.size<=200):∀(f p:Nat) (A:List (Nat × Nat)),AllV s A->AllV s (lexS s f p A).1
 | 0,_,_,h=>h
 | f+1,p,A,h=>by
  unfold lexS;split
  .rename_i hp;cases hb:((s[p].toNat:Int)== 32)
   .rw [NP];cases ht:tl (s.data.toList.drop p)with
    | none=>intro q hq;cases hq
    | some n =>
     apply Ji8 s hs f;intro q hq;rcases ZK.1 hq with hq|hq
     .exact h q hq
     rw[Mo.1 hq];exact J1a s p n hp hs ht
   rw[NX];exact Ji8 s hs f _ _ h
  exact h
theorem Je0(s)(hs:s.size<=200):AllV s (lexR s).1:=Ji8 s hs _ _ _ (fun q hq=>by cases hq)
theorem Jma(t):amid unL t=Zc (Zb t) 1/\amid biL t=Zc (Zb t) 2:=by
 unfold Zb;simp only[unL,biL,Jcx,Jfg,PT];generalize t.toList=l;cases h0:(l == [105,111,116,97]);rotate_left
 .first|(rw[NQ.1 h0];decide)| decide
 cases h1:(l == [117,112]);rotate_left
 .first|(rw[NQ.1 h1];decide)| decide
 cases h2:(l == [100,111,119,110]);rotate_left
 .first|(rw[NQ.1 h2];decide)| decide
 cases h3:(l == [102,108,105,112]);rotate_left
 .first|(rw[NQ.1 h3];decide)| decide
 cases h4:(l == [114,97,118,101,108]);rotate_left
 .first|(rw[NQ.1 h4];decide)| decide
 cases h5:(l == [114,104,111]);rotate_left
 .first|(rw[NQ.1 h5];decide)| decide
 cases h6:(l == [114,101,118]);rotate_left
 .first|(rw[NQ.1 h6];decide)| decide
 cases h7:(l == [116,97,107,101]);rotate_left
 .first|(rw[NQ.1 h7];decide)| decide
 cases h8:(l == [100,114,111,112]);rotate_left
 .first|(rw[NQ.1 h8];decide)| decide
 cases h9:(l == [99,97,116]);rotate_left
 .first|(rw[NQ.1 h9];decide)| decide
 cases h10:(l == [105,110]);rotate_left
 .first|(rw[NQ.1 h10];decide)| decide
 cases h11:(l == [97,116]);rotate_left
 .first|(rw[NQ.1 h11];decide)| decide
 cases h12:(l == [107,101,101,112]);rotate_left
 .first|(rw[NQ.1 h12];decide)| decide
 decide
theorem Jq9(c)(h:letB c=true):sgnB c=false:=by
 grind[letB,sgnB]
theorem Vj(t)(c)(r)(h:t.toList=c::r):hd t=(c.toNat:Int):=by
 simp_all[YC,hd]
theorem Fm(t)(h:(hd t == 40)=false):(t.toList == [40])=false:=by
 rw[NT];intro e;rw[Vj t 40 [] e]at h;simp_all
theorem Xk(t)(h:(hd t == 41)=false):(t.toList == [41])=false:=by
 rw[NT];intro e;rw[Vj t 41 [] e]at h;simp_all
theorem Jt5(t)(h1:t.size=1)(hg:sgnB (hd t)=true):Jat t=(bif amid loL t then 3 else 2):=by
 obtain⟨a,rfl⟩:∃a,t=⟨#[a]⟩:=by
  obtain⟨⟨l⟩⟩:=t;match l,h1 with
  | [a],_=>simp
 have c:gU a=true:=hg;have b:=(Jij a).1 c;simp only[JO,Hd,or_false]at b;rcases b with rfl|rfl|rfl|rfl|rfl|rfl|rfl|rfl|rfl<;>(simp only[loL,Jcx,Jfg,PT];decide)
theorem Jt4(t)(h1:t.size=2):Jat t=(bif snd t == 46 then 2 else 1):=by
 obtain⟨b,a,rfl⟩:∃b a,t=⟨#[b,a]⟩:=by
  obtain⟨⟨l⟩⟩:=t;match l,h1 with
  | [b,a],_=>simp
 have:Lib.hasSuffix [b,a] [46]=(a == 46):=by
  show((46:UInt8)== a && true)=(a == 46);rw[Bool.and_true];exact Bool.beq_comm
 have:(snd ⟨#[b,a]⟩== 46)=(a == 46):=K8 a 46 (by decide);simp_all[Jat]
theorem J1m(st op)(r):step st (4,r) op=if st=0/\op<8 then some (0,op+1)else none:=by simp[step]
theorem J1l(st op)(r):step st (5,r) op=if st≠0/\0<op then some (2,op-1)else none:=by simp[step]
theorem J1o(st op)(r):step st (0,r) op=if st≠2 then some (1,op)else none:=by simp[step]
theorem J1n(st op)(r):step st (1,r) op=if st=0 then some (2,op)else none:=by simp[step]
theorem J3i(st op)(r):step st (2,r) op=if Zc r (if st=0 then 1 else 2)=true then some (0,op)else none:=by simp[step]
theorem Jt0(st op)(r):step st (3,r) op=if Zc r (if st=0 then 1 else 2)=true then some (0,op)else none:=by simp[step]
theorem Jqn(t)(hv:Vt t)(st op:Nat)(hst:st<=2):
 (nxB st t op=false->step st (Ya t,Zt t) op=none) /\
 (nxB st t op=true->∃st':Nat,nxS st t=(st':Int)/\st'<=2/\step st (Ya t,Zt t) op=some (st',bif t.toList == [40]then op+1 else bif t.toList == [41]then op-1 else op)/\((t.toList == [41])=true->0<op)):=by
 have o:(((st:Int))== 0)=(st == 0):=by rw[PO];simp
 have p:(((st:Int))== 2)=(st == 2):=by rw[PO];simp;omega
 rcases Pp ((hd t == 40)=true)with h40|h40
 .have hl:=hv.opn h40;have d:=NQ.1 h40;have c:numB t=false:=by unfold numB;rw[d];rfl
  have b:namB t=false:=by unfold namB;rw[d];rfl
  have k:Ya t=4:=by unfold Ya;rw[h40];rfl
  have e:(t.toList == [40])=true:=by rw[hl];rfl
  have f:(t.toList == [41])=false:=by rw[hl];rfl
  simp only[nxB,nxS,c,b,e,f,NP,NX,k];refine⟨fun a=>?_,fun a=>⟨0,rfl,by omega,?_,fun a=>by cases a⟩⟩
  .simp_all [J1m];omega
  simp_all[J1m];omega
 have h40:(hd t == 40)=false:=by simpa using h40
 have i:=Fm t h40;rcases Pp ((hd t == 41)=true)with h41|h41
 .have hl:=hv.cls h41;have d:=NQ.1 h41;have c:numB t=false:=by unfold numB;rw[d];rfl
  have b:namB t=false:=by unfold namB;rw[d];rfl
  have k:Ya t=5:=by unfold Ya;rw[h40,h41];rfl
  have f:(t.toList == [41])=true:=by rw[hl];rfl
  simp only[nxB,nxS,c,b,i,f,NP,NX,k];refine⟨fun a=>?_,fun a=>⟨2,rfl,by omega,?_,fun _=>?_⟩⟩
  .simp_all [J1l]
  .simp_all [J1l]
  simp_all
 have h41:(hd t == 41)=false:=by simpa using h41
 have j:=Xk t h41;simp only[i,j,NP];rcases Pp ((hd t == 95 || digB (hd t))=true)with hn|hn
 .have c:numB t=true:=by unfold numB;rw[Bool.or_comm];exact hn
  have k:Ya t=0:=by unfold Ya;rw[h40,h41,hn];rfl
  simp only[nxB,nxS,c,NX,k];refine⟨fun a=>?_,fun a=>⟨1,rfl,by omega,?_,fun a=>by cases a⟩⟩
  .simp_all [J1o]
  simp_all[J1o,bne]
 have hn:(hd t == 95 || digB (hd t))=false:=by simpa using hn
 have c:numB t=false:=by unfold numB;rw[Bool.or_comm];exact hn
 rcases Pp (letB (hd t)=true)with hl|hl
 .have d:=Jq9 _ hl;have k:Ya t=Q9 t:=by unfold Ya;rw[h40,h41,hn,hl];rfl
  have r:Zt t=Zb t:=by unfold Zt;rw[h40,h41,hn,hl];rfl
  obtain⟨n,m⟩:=Jma t;rw[k,r];cases hw:(Zb t != 0)
  .have l:Zb t=0:=by simpa using hw
   have g:amid fnL t=false:=by rw[N4,hw]
   have f:funB t=false:=by unfold funB;rw[g,d];rfl
   cases hi:(t.toList == [105,115])
   .have b:namB t=true:=by unfold namB;rw[hl,g,hi];rfl
    have h:Q9 t=1:=by unfold Q9;rw[hw,hi];rfl
    simp only[nxB,nxS,c,b,NP,NX,h];refine⟨fun a=>?_,fun a=>⟨2,rfl,by omega,?_,fun a=>by cases a⟩⟩
    .simp_all [J1n]
    simp_all[J1n]
   have b:namB t=false:=by unfold namB;rw[hi];simp
   have h:Q9 t=2:=by unfold Q9;rw[hw,hi];rfl
   simp only[nxB,nxS,c,b,i,j,f,NP,h,l];refine⟨fun _=>?_,fun a=>by cases a⟩;rw[J3i,FU];grind[Jdh,Jdg]
  have g:amid fnL t=true:=by rw[N4,hw]
  have f:funB t=true:=by unfold funB;rw[g];rfl
  have b:namB t=false:=by unfold namB;rw[g];simp
  have h:Q9 t=3:=by unfold Q9;rw[hw];rfl
  simp only[nxB,nxS,c,b,i,j,f,NP,NX,h,mayB,d,n,m];have l:(bif ((st:Int) != 0)then Zc (Zb t) 2 else Zc (Zb t) 1)=Zc (Zb t) (if st=0 then 1 else 2):=by
   by_cases a:st=0
   .subst a;rfl
   rw[FU a,show((st:Int) != 0)=true from by simp;omega];rfl
  rw[l];refine⟨fun a=>?_,fun a=>⟨0,rfl,by omega,?_,fun a=>by cases a⟩⟩
  .rw [Jt0,a];rfl
  rw[Jt0,a];rfl
 have hl:letB (hd t)=false:=by simpa using hl
 have d:sgnB (hd t)=true:=by
  have:=hv.any;rw[h40,h41,hn,hl]at this;simpa using this
 have k:Ya t=3:=by unfold Ya;rw[h40,h41,hn,hl];rfl
 have r:Zt t=Jat t:=by unfold Zt;rw[h40,h41,hn,hl];rfl
 have b:namB t=false:=by unfold namB;rw[hl];rfl
 have f:funB t=true:=by unfold funB;rw[d];simp
 have l:mayB t ((st:Int) != 0)=Zc (Jat t) (if st=0 then 1 else 2):=by
  have m:=hv.sgn d;have h:=hv.pos;unfold mayB;rw[d,NX];by_cases g:t.size=2
  .rw [show((t.size:Int)== 2)=true from by simp[g],NX,Jt4 t g];by_cases a:st=0
   .subst a;cases(snd t == 46)<;>decide
   rw[FU a,show((st:Int) != 0)=true from by simp;omega];cases(snd t == 46)<;>decide
  rw[show((t.size:Int)== 2)=false from by simp;omega,NP,Jt5 t (by omega) d];by_cases a:st=0
  .subst a;cases amid loL t<;>decide
  rw[FU a,show((st:Int) != 0)=true from by simp;omega];cases amid loL t<;>decide
 rw[k,r];simp only[nxB,nxS,c,b,i,j,f,NP,NX,l];refine⟨fun a=>?_,fun a=>⟨0,rfl,by omega,?_,fun a=>by cases a⟩⟩
 .rw [Jt0,a];rfl
 rw[Jt0,a];rfl
end Go.Proofs.YtjobgpahajhbnaaGreatDoor
