import Derived.Test.YtjobgpahajhbnaaGreatDoorZq
namespace Go.Proofs.YtjobgpahajhbnaaGreatDoor
open Go.RowKit Go.Proofs Go.Maps Go.Proofs.Tryz
attribute [local go_sem ↓] Go.wp_at_zero Go.wp_at_succ
set_option linter.all false
set_option maxHeartbeats 8000000
set_option maxRecDepth 20000
variable {j q:Nat}
theorem Jff{env:ByteArray->Option Arr}{F:Int}(h0:0<=F)(he:EnvOk env)(s):(ansR env F s).sh.length<=200/\(ansR env F s).cs.length<=200:=by
 unfold ansR;cases h:ans env F s with
 | inl e=>simp
 | inr x =>
  obtain⟨b,c⟩:=x;have a:b.ok:=(Js9 h0 he h).1;have:=a.rank;have:=a.few;simp;omega
section
variable {lb:Nat} {xv yv:Value} {m:Nat} {D:Nat->DS} {p:Nat} {col:Nat->Nat} {w:World} {k:Nat} {ls:List ByteArray} {lo:Option Addr} {v:Value} {xs:List Rv} {t qq:Nat} {E':ByteArray->Option Arr} {wr:World}
theorem bk_s(h:AftG lb xv yv m D k p ls lo col w v xs t qq E' wr)(h0:0<=(D k).F)(he:EnvOk (D k).ce)(hj:j<ls.length)(hx:j<xs.length)(ht:t=2*j)(hq:qq<=9000000):
 Calls prog 52 #[aJ lb 2,.slice xs[j].so xs[j].sn xs[j].sc] wr fun e w'=>e=aD (.tuple #[])/\AftG lb xv yv m D k p ls lo col w v xs (t+1) (qq+1) E' w':=by
 subst ht;obtain⟨u,D1,i,l,A,C,y⟩:=h;have:=Qb (D k).F ls (D k).ce;have n:j<(Qn (D k).F (D k).ce ls).length:=by omega
 have c:=Nh (D k).F ls (D k).ce j hj;rw[FX n]at c;injection c with c;have b:=l.ns j n hx aT;have o:=(Jff h0 (Gd h0 (ls.take j) _ he) ls[j]).1;rw[<-c]at o;refine aR (Js5 i (.slice xs[j].so xs[j].sn xs[j].sc) _ b.own (fun d f=>(b.blk d f).1) o hq) ?_;rintro w' ⟨s,x,g,q,z⟩;have r:∀a,a<wr.1.size->s a->u a≠0:=fun a B H e=>by
  rcases q a B H with h|h
  .have:=(b.blk a h).1;omega
  omega
 exact⟨rfl,x,D1,z,l.take g (Jh1 xs j hx).1 (fun d f e=>(b.blk d e).2 f) q,Zv A g r,C.trans (g.zero r i.law.low),y⟩
theorem bk_c(h:AftG lb xv yv m D k p ls lo col w v xs t qq E' wr)(h0:0<=(D k).F)(he:EnvOk (D k).ce)(hj:j<ls.length)(hx:j<xs.length)(ht:t=2*j+1)(hq:qq<=9000000):
 Calls prog 53 #[aJ lb 2,.slice xs[j].co xs[j].cn xs[j].cc] wr fun e w'=>e=aD (.tuple #[])/\AftG lb xv yv m D k p ls lo col w v xs (t+1) (qq+1) E' w':=by
 subst ht;obtain⟨u,D1,i,l,A,C,y⟩:=h;have:=Qb (D k).F ls (D k).ce;have n:j<(Qn (D k).F (D k).ce ls).length:=by omega
 have c:=Nh (D k).F ls (D k).ce j hj;rw[FX n]at c;injection c with c;have b:=l.nc j n hx aT;have o:=(Jff h0 (Gd h0 (ls.take j) _ he) ls[j]).2;rw[<-c]at o;refine aR (Jxf i (.slice xs[j].co xs[j].cn xs[j].cc) _ b.own (fun d f=>(b.blk d f).1) o hq) ?_;rintro w' ⟨s,x,g,q,z⟩;have r:∀a,a<wr.1.size->s a->u a≠0:=fun a B H e=>by
  rcases q a B H with h|h
  .have:=(b.blk a h).1;omega
  omega
 exact⟨rfl,x,D1,z,l.take g (Jh1 xs j hx).2 (fun d f e=>(b.blk d e).2 f) q,Zv A g r,C.trans (g.zero r i.law.low),y⟩
theorem bk_r(h:AftG lb xv yv m D k p ls lo col w v xs t qq E' wr)(hn:ls.length<=50)(hq:qq<=9000000)(hE:E'=Kr (D k).F (D k).ce ls):
 Calls prog 54 #[aJ lb 2,v] wr fun e w'=>e=aD (.tuple #[])/\∃col' D',Pass (fun b=>col b≠0) col col' w w'/\LSt lb xv yv m D' (p+ls.length) (qq+1) col' w'/\(D' k).ce=(D' k).de/\∀j,j≠k->D' j=D j:=by
 obtain⟨i,D1,d,c,z,s,a⟩:=h;have q:=Qb (D k).F ls (D k).ce;have f:=c.own;rw[q]at f;refine aR (Jnn d v ls.length _ f c.blk (by omega) hq) ?_;rintro w' ⟨g,l,r,u,n⟩;have x:∀b,b<wr.1.size->g b->i b≠0:=fun b o y e=>by
  rcases u b o y with h|h
  .have:=c.blk b h;omega
  omega
 exact⟨rfl,l,D1,s.trans (r.zero x d.law.low),n,a.ce.trans (hE▸a.de.symm),a.oth⟩
end
theorem LSt.up{lb:Nat}{xv yv:Value}{m:Nat}{D:Nat->DS}{p q':Nat}{col:Nat->Nat}{w:World}(h:LSt lb xv yv m D p q col w)(hq:q<=q'):LSt lb xv yv m D p q' col w:={ h with book:=h.book.up hq }
def RanL(lb:Nat)(xv yv:Value)(m:Nat)(D:Nat->DS)(k p q:Nat)(ls:List ByteArray)(col:Nat->Nat)(w:World)(e:Ending)(w':World):Prop :=
 e=.returned (.bool true)/\∃col' D',Pass (fun b=>col b≠0) col col' w w'/\LSt lb xv yv m D' (p+ls.length) (q+2*ls.length+1) col' w'/\(D' k).ce=(D' k).de/\∀j,j≠k->D' j=D j
theorem Jit{lb:Nat}{xv yv:Value}{m:Nat}{D:Nat->DS}{p:Nat}{col:Nat->Nat}{w:World}(h:LSt lb xv yv m D p q col w){k:Nat}(hk:k<m)(hs:(D k).ce=(D k).de)(lo)(lc)(ls)(hp:p+ls.length<4000000)(hq:q+2*ls.length+1<=9000000)(hm:∀s ∈ ls,s.size<=9223372036854775807)(hT:Txts (fun b=>col b=0) w lo ls):
 Calls prog 38 #[aJ lb 0,G k,E lo ls.length lc] w (RanL lb xv yv m D k p q ls col w):=by
 obtain⟨cD,bS,bY,bZ,b2⟩:=NY GQ;have bo:=O bS;have bG:=O bY;have bH:=O bZ;have bI:=O b2;clear bS bY bZ b2;have av:ls.length+2<=maxLen:=by unfold maxLen;omega
 obtain⟨l,o,cB⟩:∃l o,xv=aI l 0 m o:=by
  obtain⟨-,⟨_,z⟩| ⟨x,e,A,d,-⟩⟩:=h.law.xrow
  .omega
  .exact ⟨x,e,d⟩
 obtain⟨f,i,cC⟩:∃f i,yv=aI f 0 m i:=by
  obtain⟨-,⟨_,z⟩| ⟨x,e,A,d,-⟩⟩:=h.law.yrow
  .omega
  .exact ⟨x,e,d⟩
 subst cB cC;have cv:=(h.law.xrow.lt l rfl).2;have cz:=h.law.lt;have aX:=h.law.c0;have aY:w.cell? (U l k)=some (aJ (D k).db 0):=by rw[h.law.xrow.cellAt k (by omega),Jb2 hk]
 have bL:6<=w.1.size:=by have:=h.law.six;omega
 have a6:Hid (∀a,J w a->a.ownsRow 0 9 1 (aI w.1.size 0 (ls.length+2) (ls.length+2)) (ls.length+2) (rowL 0 ls)->Calls prog 33 #[aJ (D k).db 0,aI w.1.size 0 ls.length (ls.length+2)] a fun d al=>∃C e,d=aD (E C (runs ls).length e)/\AftR lb (aI l 0 m o) (aI f 0 m i) m D k p q ls lo col w 0 (E C (runs ls).length e) al):=O (fun a x ad=>J05 h hk hp hm hT x ad);have bD:=O aX;have bE:=O aY;have cg:=O hT;have cf:=O h;have cd:=O hm;have bB:=O hs;clear aX aY hT h hm hs;obtain⟨g,aw⟩:=nm ls.length;obtain⟨n2,ae⟩:=nm (g+2);rw[aw,ae]at a6;rw[aw]at hp hq av⊢;rw[ae]at av;have n:=O aw;have H:=O ae;have cA:=Nat.lt_of_le_of_lt (Nat.le_add_left g p) hp;have dd:n2<4000002:=ae▸Nat.add_lt_add_right cA 2;have cW:=O hp;have bq:=O hq;clear aw hp hq ae;go_enter func38,ntmps38;go_wp2_with (at_make;refine YV _ rfl _ _ 54 rfl w.1.size 9 cD (.string ⟨#[]⟩) 1 JB (I bo) (I bG) (I bH) .i64 .i64 ((g:Int)+2) ((g:Int)+2) n2 rfl rfl (by have:=I H;omega) (by have:=I H;omega) ?c1 ?c2 aT ?_)
 case c1=>rw[I bI];omega
 case c2=>exact av
 intro Z bV bR;have bc:=YN (.string ⟨#[]⟩) (n2*1);rw[MA]at bc;have bW:Z.ownsRow w.1.size 9 1 (aI w.1.size 0 n2 n2) n2 (List.replicate n2 (.string ⟨#[]⟩)):=by
  rw[<-bc];simpa using bV
 obtain⟨bQ,-⟩:=Jeq bW;have bO:=aS.grown bR aT (fun _ h=>by cases h);clear bc bV bW bR;have bl:=O bQ;have a4:=O bO;clear bQ bO;go_wp2_with (refine wpList_copy_splice rfl _ _ 54 54 rfl 9 JB FJ _ _ n2 n2 g lc rfl rfl w.1.size 0 (List.replicate n2 (.string ⟨#[]⟩)) 9 (I bl) (ls.map Value.string) ?c3 ?c4 ?c5 ?c6 w.1.size w (I a4) aT ?_)
 case c3=>have ac:=I n;have bK:=I H;simp only[JQ,Nat.min_def];split<;>omega
 case c4 =>
  intro z;obtain⟨b,N,d,-,W,P⟩:=I cg (by simpa using z);refine⟨_,d,fun j cP R=>?_⟩;have hj:j<ls.length:=by
   rcases YS j ls.length with hj|hj
   .exact hj
   .rw [MF hj]at R;cases R
  rw[FX hj]at R;injection R with R;rw[<-R];have:(⟨b,N,none⟩:Addr).add j=⟨b,N+j,none⟩:=by unfold Addr.add;split<;>simp_all
  rw[this,(I a4).cell (p:=U b (N+j)) W];exact P j hj
 case c5=>have ac:=I n;have bK:=I H;simp;omega
 case c6=>intro cP R;obtain⟨r,_,rfl⟩:=NZ.1 R;rfl
 intro am bm bM;have row2:am.ownsRow 0 9 1 (aI w.1.size 0 n2 n2) n2 (ls.map Value.string++[.string ⟨#[]⟩,.string ⟨#[]⟩]):=by
  have ac:=I n;have bK:=I H;have d:splice (List.replicate n2 (Value.string ⟨#[]⟩)) 0 (ls.map Value.string)=ls.map Value.string++[.string ⟨#[]⟩,.string ⟨#[]⟩]:=by
   unfold splice;rw[List.take_zero,MZ,ZY,JQ,PU,show n2-ls.length=2 by omega];rfl
  have c:=bm.out;rw[d]at c;exact Jp9 c (by simp;omega) av
 have cS:am.cell? (U w.1.size g)=some (.string ⟨#[]⟩):=by
  rw[row2.cellAt g (by have:=I H;omega),ZA (by simp[I n])];simp[I n]
 have cT:=row2.frozenAt g;have di:(0:Int)<=(g:Int):=by omega
 have dj:(g:Int)<(n2:Int):=by have:=I H;omega
 have bt:=O row2;have be:=O bM;clear row2 bM;go_upto_region 5 with fail;obtain⟨b5,ax⟩:=nm (am.setCell (U w.1.size g) (.string ⟨#[110,111,116,32,121,111,117,114,115]⟩));have a5:=O (ax▸(I be).setCell (p:=U w.1.size g) aT _);have bu:Hid (b5.ownsRow 0 9 1 (aI w.1.size 0 n2 n2) n2 (rowL 0 ls)):=O (by
  have ac:=((I bt).stored g (aE tNy)).1;have d:(ls.map Value.string++[Value.string ⟨#[]⟩,Value.string ⟨#[]⟩]).set g (aE tNy)=rowL 0 ls:=by
   rw[MG _ _ (by simp[I n])];simp[I n,rowL]
  rw[d]at ac;rw[<-ax];exact ac)
 rw[ax];clear ax cS cT bt be bm bl a4 bo bG bH bI;have aX:=V (I a5) cz (I bD);have aY:=V (I a5) cv (I bE);have c8:(0:Int)<=(k:Int):=by omega
 have c9:(k:Int)<(m:Int):=by omega
 have df:(g:Int)<=(n2:Int):=by omega
 have bv:=O (Jf (I bu) aS.drew);have bf:=O (I a5).drew;have a7:=O (I a6 b5.drew (I bf) (I bv));clear a6 bv bf bD bE bu;obtain⟨S,ad⟩:=nm w.1.size;rw[ad]at a7⊢;have aZ:=O ad;clear ad;go_cut [9]from 26 to 36 (fun c x=>∃C e,c=E C (runs ls).length e/\AftR lb (aI l 0 m o) (aI f 0 m i) m D k p q ls lo col w 0 (E C (runs ls).length e) x)
 case first =>
  go_region_law (go_simp;go_at_call 33;refine(I a7).mono ?_;rintro d an ⟨C,e,rfl,c⟩;have u:=O c;clear c)
  all_goals
   go_wp2_with fail;go_meet;exact⟨_,_,rfl,I u⟩
 obtain⟨C,e,rfl,L⟩:=hcut;rename World=>an;have cp:=bL;rw[I aZ]at cp;obtain⟨ch,cr⟩:=nm (Value.slice C (runs ls).length e);have bd:=O L;have ap:Hid (∀c wr,AftR lb (aI l 0 m o) (aI f 0 m i) m D k p q ls lo col w c (E C (runs ls).length e) wr->wr.ownsRow 0 9 1 (aI S 0 n2 n2) n2 (rowL c ls)):=O (fun c wr x=>by
  obtain⟨_,_,_,_,_,_,_,u⟩:=x;rw[I n,I H,I aZ]at u;exact u)
 have cQ:an.cell? (U S g)=some (.string ⟨#[110,111,116,32,121,111,117,114,115]⟩):=by
  rw[(I ap 0 an L).cellAt g (by have:=I H;omega),<-I n,(Jo5 (ZL _)).1];rfl
 have cR:an.cell? (U S (g+1))=some (.string ⟨#[]⟩):=by
  rw[(I ap 0 an L).cellAt (g+1) (by have:=I H;omega),<-I n,(Jo5 (ZL _)).2]
 have dk:(g:Int)+1<(n2:Int):=by have:=I H;omega
 clear L aX aY a7 cr ch;go_wp2_with fail;clear cQ cR;go_loopw [10,11] (fun u x wr=>∃c:Nat,x=G c/\c<=g/\u=.bool true/\AftR lb (aI l 0 m o) (aI f 0 m i) m D k p q ls lo col w c (E C (runs ls).length e) wr) (fun _ x _=>g-(intOf x).toNat)
 case atStart=>exact⟨0,rfl,ZL _,rfl,I bd⟩
 case round =>
  obtain⟨c,rfl,cZ,rfl,L⟩:=hrel;by_cases bT:c<g
  .have y:c<ls.length:=by rw[I n];exact bT
   have B:=I ap c wr L;have c1:wr.cell? (U S c)=some (aE ls[c]):=by rw[B.cellAt c (by have:=I H;omega),Jzd y]
   have Q:=B.frozenAt c;have ab:=O L;obtain⟨z,A,ba,T⟩:∃b N,lo=some (U b N)/\wr.cell? (U b (N+c))=some (aE ls[c]):=by
    obtain⟨_,_,_,_,hT,_⟩:=L;obtain⟨b,N,d,-,-,P⟩:=hT (by omega);exact⟨b,N,d,P c y⟩
   subst ba;have K:Hid (∀a,J wr a->AftR lb (aI l 0 m o) (aI f 0 m i) m D k p q ls (some (U z A)) col w (c+1) (E C (runs ls).length e) (a.setCell (U S c) (.string ⟨#[49]⟩))):=O (fun a x=>by
    have:=Jxl (I ab) y x bL;rw[I aZ]at this;exact this)
   obtain⟨s,hs⟩:=nm (ls[c]);rw[hs]at c1 T;have b0:(0:Int)<=(c:Int):=by omega
   have b1:(c:Int)<(g:Int):=by omega
   have W:(c:Int)<(n2:Int):=by omega
   clear L B hs y;go_wp2_with fail;go_quiet (fail);obtain⟨x,u⟩:=nm (wr.drewN nq);have X:x.cell? (U S c)=some (aE s):=u▸c1;have Y:x.frozen? (U S c)=false:=u▸Q;have P:=O (I K x (u▸Below.drewN aS nq));rw[u];clear u c1 Q T K;go_wp2_with fail;go_roundw
   case rel=>exact⟨c+1,by go_num,by omega,rfl,I P⟩
   case measure=>simp[intOf];omega
  .have cw:c=g:=by omega
   subst cw;rename World=>w5;have ab:=O L;clear L ap bd bT;by_cases aq:c<=50
   .have Q:runs ls=ls:=FY (by rw[I n];exact aq);have af:(runs ls).length=c:=by rw[Q,I n]
    obtain⟨xs,B⟩:∃xs,AftG lb (aI l 0 m o) (aI f 0 m i) m D k p ls lo col w (E C c e) xs 0 q (D k).ce w5:=by
     obtain⟨xs,u,x,y,hT,z,-,-⟩:=I ab;rw[Q,I n]at y;refine⟨xs,u,_,x,y,hT,z,⟨fun j hj=>Zu hj,?_,?_,?_,?_,?_⟩⟩
     .unfold afD;rw[Yo]
     .unfold afD;rw[Yo]
     .unfold afD;rw[Yo]
     .unfold afD;rw[Yo,Q]
     .unfold afD;rw[Yo];exact(I bB).symm
    rw[af];have ca:=O B;have T:=O ((I cf).ok k hk);have cm:(c:Int)<=50:=by omega
    clear B af Q ab;go_wp2_with fail;go_loopw [10,12] (fun u x wr=>∃j:Nat,x=G j/\j<=c/\u=.bool true/\AftG lb (aI l 0 m o) (aI f 0 m i) m D k p ls lo col w (E C c e) xs (2*j) (q+2*j) (Kr (D k).F (D k).ce (ls.take j)) wr) (fun _ x _=>c-(intOf x).toNat)
    case atStart=>exact⟨0,rfl,ZL _,rfl,I ca⟩
    case round =>
     obtain⟨j,rfl,c7,rfl,B⟩:=hrel;by_cases cy:j<c
     .have K:j<ls.length:=by rw[I n];exact cy
      obtain⟨u,cu⟩:∃u,C=some (U u 0):=by
       obtain⟨_,_,_,y,_⟩:=B;obtain⟨-,⟨d,z⟩| ⟨x,X,A,d,-⟩⟩:=y.own
       .injection d with P W N;omega
       .injection d with P W N;exact⟨x,P⟩
      subst cu;obtain⟨cJ,cK,z,A,ba,cx,b3⟩:=B.reads hk K;subst ba;have cU:=O B;obtain⟨y,X⟩:=nm (ansR (Kr (D k).F (D k).ce (ls.take j)) (D k).F ls[j]);have bb:=I n;obtain⟨ay,-⟩:=(show AftG _ _ _ _ _ _ _ ls _ _ _ (aI u 0 ls.length e) xs _ _ _ wr by rw[bb];exact B).row K;obtain⟨r,ag⟩:=nm (xs[j]);have ao:Hid (∀t qq E' a,AftG lb (aI l 0 m o) (aI f 0 m i) m D k p ls (some (U z A)) col w (aI u 0 c e) xs t qq E' a->a.cell? (U u (j*5))=some (G y.er)/\a.cell? (U u (j*5+1))=some (G y.at_)/\a.cell? (U u (j*5+2))=some (E r.so r.sn r.sc)/\a.cell? (U u (j*5+3))=some (E r.co r.cn r.cc)/\a.cell? (U u (j*5+4))=some (G y.cost)):=O (fun t qq E' a x=>by
       rw[<-bb]at x;obtain⟨_,P⟩:=x.row K;rw[X,ag]at P;exact P)
      have bp:Hid (∀t qq E' a,AftG lb (aI l 0 m o) (aI f 0 m i) m D k p ls (some (U z A)) col w (aI u 0 c e) xs t qq E' a->t<=2*j->Nums (fun _=>True) a (E r.so r.sn r.sc) y.sh/\Nums (fun _=>True) a (E r.co r.cn r.cc) y.cs):=O (fun t qq E' a x N=>by
       have:=x.lists K ay N;rw[X,ag]at this;exact this)
      have bi:Hid (∀t qq E' a,AftG lb (aI l 0 m o) (aI f 0 m i) m D k p ls (some (U z A)) col w (aI u 0 c e) xs t qq E' a->t=2*j->qq<=9000000->Calls prog 52 #[aJ lb 2,E r.so r.sn r.sc] a fun d al=>d=aD (.tuple #[])/\AftG lb (aI l 0 m o) (aI f 0 m i) m D k p ls (some (U z A)) col w (aI u 0 c e) xs (t+1) (qq+1) E' al):=O (fun t qq E' a x N hq=>by
       have:=bk_s x (I T).f0 (I T).cok K ay N hq;rw[ag]at this;exact this)
      have bh:Hid (∀t qq E' a,AftG lb (aI l 0 m o) (aI f 0 m i) m D k p ls (some (U z A)) col w (aI u 0 c e) xs t qq E' a->t=2*j+1->qq<=9000000->Calls prog 53 #[aJ lb 2,E r.co r.cn r.cc] a fun d al=>d=aD (.tuple #[])/\AftG lb (aI l 0 m o) (aI f 0 m i) m D k p ls (some (U z A)) col w (aI u 0 c e) xs (t+1) (qq+1) E' al):=O (fun t qq E' a x N hq=>by
       have:=bk_c x (I T).f0 (I T).cok K ay N hq;rw[ag]at this;exact this)
      have bN:y.sh.length<=200/\y.cs.length<=200:=by
       rw[<-X];exact Jff (I T).f0 (Gd (I T).f0 _ _ (I T).cok) _
      have bw:=O bN;obtain⟨aa,ar⟩:=nm (envA (Kr (D k).F (D k).ce (ls.take j)) (D k).F ls[j]);have b9:Hid (Kr (D k).F (D k).ce (ls.take (j+1))=aa):=O (by rw[NG K,N9,ar]);obtain⟨s,hs⟩:=nm (ls[j]);have bU:=hs▸I cd _ (ND K);have bj:Hid (∀Z,J wr Z->Calls prog 50 #[aJ (D k).yb 0,aE s] Z fun d am=>∃so sn sc co cn cc,d=aD (.agg #[G y.er,G y.at_,E so sn sc,E co cn cc,G y.cost])/\MidW lb (aI l 0 m o) (aI f 0 m i) m D k p ls (some (U z A)) col w (aI u 0 c e) xs (2*j) (q+2*j) aa wr Z (E so sn sc) (E co cn cc) y.sh y.cs am):=O (fun Z x=>by
       have:=J2o B hk s bU x;rw[hs]at X ar;rw[X,ar]at this;exact this)
      have bx:Hid (∀a,J wr a->a.cell? (U lb 1)=some (aI f 0 m i)/\a.cell? (U f k)=some (aJ (D k).yb 0)/\a.cell? (U z (A+j))=some (aE s)):=O (fun a x=>by
       obtain⟨a1,a2,b,N,d,_,a3⟩:=(B.below x).reads hk K;injection d with d;injection d with P W _;subst P W;rw[hs]at a3;exact⟨a1,a2,a3⟩)
      have bz:Hid (∀t qq E' a,AftG lb (aI l 0 m o) (aI f 0 m i) m D k p ls (some (U z A)) col w (aI u 0 c e) xs t qq E' a->a.cell? (U lb 1)=some (aI f 0 m i)/\a.cell? (U f k)=some (aJ (D k).yb 0)/\a.cell? (U z (A+j))=some (aE s)):=O (fun t qq E' a x=>by
       obtain⟨a1,a2,b,N,d,_,a3⟩:=x.reads hk K;injection d with d;injection d with P W _;subst P W;rw[hs]at a3;exact⟨a1,a2,a3⟩)
      rw[hs]at b3;have b0:(0:Int)<=(j:Int):=by omega
      have b1:(j:Int)<(c:Int):=by omega
      obtain⟨da,cY,dc⟩:lb<wr.1.size/\f<wr.1.size/\z<wr.1.size:=by
       obtain⟨_,_,x,_,Y,_⟩:=B;refine⟨x.law.lt,(x.law.yrow.lt f rfl).2,?_⟩;obtain⟨b,N,d,-,W,-⟩:=Y (by omega);injection d with d;injection d with P _ _;rw[P];exact W
      have cq:6<=wr.1.size:=by
       obtain⟨_,_,x,_⟩:=B;have:=x.law.six;have:=x.law.lt;omega
      have cV:=O K;clear B X ar hs cx K bU cJ cK b3 bb ay ag bN;go_upto_region 19 with fail;go_cut [13]from 82 to 126 (fun N x=>∃a8,N=aJ a8 0/\MidF lb (aI l 0 m o) (aI f 0 m i) m D k p ls (some (U z A)) col w (aI u 0 c e) xs (2*j) (q+2*j) aa y a8 x)
      case first =>
       go_region_held3 (fun a=>a.cell? (U lb 1)=some (aI f 0 m i)/\a.cell? (U f k)=some (aJ (D k).yb 0)/\a.cell? (U z (A+j))=some (aE s))
        (first
         | (refine I bx _ ?_;(repeat' (first|exact FQ _ _|refine Below.drew ?_|refine Below.alloc ?_ ?_ _|(show _<=_;first|omega|(simp;done)| (simp;omega))));done)
         | (refine I N _ ?_;(repeat' (first|exact FQ _ _|refine Below.drew ?_|refine Below.alloc ?_ ?_ _|(show _<=_;first|omega|(simp;done)| (simp;omega))));done)
         | (refine⟨?_,?_,?_⟩<;>rw[celO (by omega),celO (by omega),celO (by omega),celO (by omega),celO (by omega)];exact(I N _ aS).1;exact(I N _ aS).2.1;exact(I N _ aS).2.2)
         | (trace_state;fail))
        ((go_at_call 50;refine(I bj _ ?_).mono ?_;(first|exact aS.drew|exact(aS.alloc aT _).drew|exact(aS.drew.alloc (by simp) _));rintro d Y ⟨so,sn,sc,co,cn,cc,rfl,P⟩;have W:=O P;have N:=O (fun a x=>I bz _ _ _ a (P.aft.below x));obtain⟨ah,ai,x⟩:=P.box;(try simp at x);(try have aj:wr.1.size<Y.1.size:=by omega);clear P))
       all_goals go_wp2_with fail
       all_goals go_meet
       all_goals first
        | exact⟨_,rfl,J3n (I W)⟩
        | exact⟨_,rfl,J3o (I W) aT (by simp) (G 0) (G 0) aH aH (G 0) (by simp) (by simp) (by simp) (by simp) (by simp) cq⟩
      obtain⟨a8,rfl,cO,b4,cM,cl,bJ,cj,au,aV,aW,ct,cE,cF,cG,cH,cI⟩:=hcut;rename World=>w7;obtain⟨ah,ai,Y,aj,ak⟩:=I ao _ _ _ w7 au;obtain⟨az,aU⟩:=I bp _ _ _ w7 au aT;obtain⟨cN,dg,cL,ck,cX,ci⟩:=r;dsimp only at Y aj az aU ao bi bh;have P:=(Je aV).trans (Je az).symm;have W:=(Je aW).trans (Je aU).symm;subst P W;have bX:b4<=1000:=by have:=Je aV;have:=(I bw).1;omega
      have bP:bJ<=1000:=by have:=Je aW;have:=(I bw).2;omega
      have bA:=O (fun a x=>Jqw a y.er y.at_ y.cost cN b4 cL ck bJ ci cO cM cl cj y.sh y.cs (az.below x) (aU.below x) (aV.below x) (aW.below x) bX bP);have bn:=O au;clear au aV aW az aU bp bj bx bz bX bP;go_upto_region 20 with fail;go_cut [14]from 82 to 126 (fun N x=>N=.bool true/\AftG lb (aI l 0 m o) (aI f 0 m i) m D k p ls (some (U z A)) col w (aI u 0 c e) xs (2*j) (q+2*j) aa x)
      case first =>
       go_region_law (go_simp;go_at_call 51;refine aR (I bA _ aS.drew) fun b6 x=>?_;have N:=O ((I bn).below (aS.drew.trans x));clear x)
       all_goals go_wp2_with fail
       all_goals go_meet
       all_goals exact⟨rfl,I N⟩
      obtain⟨rfl,a9⟩:=hcut;rename World=>b6;clear cE cF cG cH cI ah ai Y aj ak ct bA bn;obtain⟨ah,ai,Y,aj,ak⟩:=I ao _ _ _ b6 a9;have br:Hid (q+2*j<=9000000/\q+2*j+1<=9000000):=O (by have:=I bq;omega);have bg:=O (fun a x=>I bi _ _ _ a (a9.below x) rfl (I br).1);clear a9 ah ai aj ak;go_upto_region 22 with fail;go_cut [14]from 82 to 126 (fun _ x=>AftG lb (aI l 0 m o) (aI f 0 m i) m D k p ls (some (U z A)) col w (aI u 0 c e) xs (2*j+1) (q+2*j+1) aa x)
      case first =>
       go_region_law (go_simp;go_at_call 52;refine aR (I bg _ aS.drew) fun b7 N=>?_;have x:=O N;clear N)
       all_goals go_wp2_with fail
       all_goals go_meet
       all_goals exact I x
      have N:=hcut;rename World=>b7;clear Y bg hcut;obtain⟨ah,ai,Y,aj,ak⟩:=I ao _ _ _ b7 N;have b8:=O (fun a x=>I bh _ _ _ a (N.below x) rfl (I br).2);clear N ah ai Y ak;go_upto_region 23 with fail;go_region_law (go_simp;go_at_call 53;refine aR (I b8 _ aS.drew) fun dh x=>?_;have cb:=O x;clear x);go_wp2_with fail;go_roundw
      case rel=>exact⟨j+1,by go_num,by omega,rfl,by rw[I b9];exact I cb⟩
      case measure=>simp[intOf];omega
     .have A:j=c:=by omega
      subst A;rename World=>wB;have x:ls.take j=ls:=by rw[<-I n,JV]
      rw[x]at B;have z:=O (bk_r B (by rw[I n];exact aq) (by have:=I bq;omega) rfl);clear B x;go_wp2_with (go_at_call 54;refine aR (I z) fun K u=>?_;have y:=O u;clear u);go_ret;refine⟨rfl,?_⟩;have u:=I y;rw[I n]at u⊢;exact u
   .have Q:runs ls=[]:=FU (by rw[I n];exact aq);have af:(runs ls).length=0:=by rw[Q];rfl
    have cm:(50:Int)<(c:Int):=by omega
    rw[af];have A:=O Q;clear af Q aq;go_wp2_with fail;go_ret;refine⟨rfl,?_⟩;obtain⟨xs,u,x,y,hT,z,-,-⟩:=I ab;refine⟨u,_,z,x.up (by omega),?_,fun j hj=>Zu hj⟩;unfold afD;rw[Yo,I A];exact I bB
end Go.Proofs.YtjobgpahajhbnaaGreatDoor
