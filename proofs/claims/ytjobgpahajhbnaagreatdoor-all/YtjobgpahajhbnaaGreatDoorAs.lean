import Derived.Test.YtjobgpahajhbnaaGreatDoorAm
import Derived.Test.YtjobgpahajhbnaaGreatDoorAq
namespace Go.Proofs.YtjobgpahajhbnaaGreatDoor
open Go.RowKit Go.Proofs Go.Maps Go.Proofs.Tryz
attribute [local go_sem ↓] Go.wp_at_zero Go.wp_at_succ
set_option linter.all false
set_option maxHeartbeats 6000000
set_option maxRecDepth 20000
variable {L bs ts xs:List Int} {d k m:Nat} {t:ByteArray}
theorem Jsa(hk:k<xs.length)(h:d<=k):(xs.take (k+1)).drop d=(xs.take k).drop d++[xs[k]]:=by
 rw[NG hk,List.drop_append_of_le_length (by simp;omega)]
theorem Jr9(h:k<d):(xs.take (k+1)).drop d=(xs.take k).drop d:=by
 rw[YP (by simp;omega),YP (by simp;omega)]
theorem Jlx(hk:k<xs.length)(h:k<m):(xs.take (k+1)).take m=(xs.take k).take m++[xs[k]]:=by
 rw[PC,PC,Pm (by omega),Pm (by omega),NG hk]
theorem Jog(h:m<=k):(xs.take (k+1)).take m=(xs.take k).take m:=by
 rw[PC,PC,ME (by omega),ME (by omega)]
def Vg(xs:List Int)(p:Int):Int:=if 0<=p/\p<(xs.length:Int)then xs.getD p.toNat 0 else 0
theorem Jyz{x:Int}:Vy x xs=(List.range x.natAbs).map fun j:Nat=>Vg xs ((if x<0 then(xs.length:Int)+x else 0)+(j:Int)):=by
 unfold Vy;by_cases b:0<=x
 .rw [FY b];apply YG
  .simp;omega
  intro j e a;simp at a;rw[YJ,JT,FU (by omega)];unfold Vg;by_cases c:j<xs.length
  .rw [FY (by omega),MJ (by simp;omega),H7,NC];have d:(0+(j:Int)).toNat=j:=by omega
   rw[d,FX c];rfl
  rw[FU (by omega),Hi (by simp;omega)];simp
 rw[FU b];apply YG
 .simp;omega
 intro j e a;simp at a;rw[YJ,JT,FY (by omega)];unfold Vg;by_cases c:j<(-x).toNat-xs.length
 .rw [FU (by omega),MJ (by simp;omega)];simp
 rw[Hi (by simp;omega),Pf,FY (by omega),NC,FX (by omega)];simp only[JI,YI];congr 1;omega
theorem Jpu(P)(W)(hP:∀b,W.1.size<=b->P b)(va vb)(a b)(ha:IsArr P W va a)(hb:IsArr P W vb b)(hoa:a.ok)(hob:b.ok):
 Calls prog 125 #[va,vb,.bool true] W (RRes P W (Jaw a b)):=by
 have an:=ha;have ao:=hb;obtain⟨aj,l,sc,bl,H,R,rfl,aw,al⟩:=ha;obtain⟨ak,D,ai,T,d,S,rfl,ax,am⟩:=hb;obtain⟨az,aV⟩:=Jb an;obtain⟨m,aW⟩:=Jb ao;have w:=Bx.n3 W (aM aj l sc bl H R) (aM ak D ai T d S) aG 133 133 133;have bN:d<=200:=by rw[m];exact hob.few
 obtain⟨bg,u⟩:=nm (Jaw a b);rw[u];unfold Jaw at u;have ae:(Zl b).shape.length≠1↔1<b.shape.length:=by
  unfold Zl;split
  .simp [Kk];omega
  omega
 by_cases t:a.shape.length≠0\/(Zl b).shape.length≠1
 .rw [FY t]at u;subst u;have bb:=w.below;by_cases K:a.shape.length≠0
  .have n:((l:Int)== 0)=false:=by simp;omega
   have o:((l:Int) != 0)=true:=by simp;omega
   clear w an ao aw al ax am az m aV aW hP hoa hob t K ae;go_enter func125,ntmps125;go_wp2_with fail;refine FR (by simp[results,results125,go_sem];try rfl) rfl ?_;exact⟨_,_,_,_,_,_,rfl,Jt _ _,bb⟩
  have n:((l:Int)== 0)=true:=by simp;omega
  have o:((l:Int) != 0)=false:=by simp;omega
  have r:(1:Int)<(D:Int):=by
   have:=ae.1 (t.resolve_left K);omega
  clear w an ao aw al ax am az m aV aW hP hoa hob t K ae;go_enter func125,ntmps125;go_wp2_with fail;refine FR (by simp[results,results125,go_sem];try rfl) rfl ?_;exact⟨_,_,_,_,_,_,rfl,Jt _ _,bb⟩
 rw[FU t]at u;have K:a.shape.length=0:=by
  rcases ZB a.shape.length with h|h
  .exact h
  exact absurd (NN (by omega)) t
 have bo:¬ 1<b.shape.length:=fun h=>t (NO (ae.2 h));have n:((l:Int)== 0)=true:=by simp;omega
 have o:((l:Int) != 0)=false:=by simp;omega
 have r:¬ (1:Int)<(D:Int):=by omega
 obtain⟨c,s,af,aY,bu,rfl,bp,br,ay,bt⟩:=Yv al hoa (ZV.1 K);have bv:=hoa.fits c (by rw[aY];simp);have bf:a.cells.headD 0=c:=by rw[aY];rfl
 rw[bf]at u;have bi:∀a8,J W a8->a8.cell? (U s af)=some (G c):=fun a8 bq=>V bq br ay;have bh:(0:Int)<(H:Int):=by omega
 have bE:=bi _ w.below;have bc:s<W.1.size+1:=by omega
 have bd:s<W.1.size+1+1:=by omega
 have be:s<W.1.size+1+1+1:=by omega
 clear an ao aw al ax az aV aW hoa hob t ae K bo aY bu bp bt bf bE;change Hid _ at m;go_enter func125,ntmps125;rcases(by omega:0<=c\/c<0)with hx0|hx0
 .have aq:bg=(⟨[((b.cells.take (b.cells.length)).drop c.toNat).length],((b.cells.take (b.cells.length)).drop c.toNat)⟩,0):=by
   rw[<-u,JV];unfold Xq;rw[FY hx0]
  have d0:decide (0<=c)=true:=by simp;omega
  have bm:decide (c<0)=false:=by simp;omega
  go_wp2_with fail;obtain⟨bJ,C⟩:=nm (((W.alloc (.cells #[E aj l sc,aI s af H R] 133)).alloc (.cells (aL ak D ai T d S) 133)).alloc (.cells aF 133));have au:=C▸w;rw[C];clear C w n o r bh bc bd be ay;go_loopw [10,11] (fun a5 F wr=>∃k:Nat,F=G k/\k<=d/\OwnL (W.1.size+3) wr a5 ((b.cells.take (k)).drop c.toNat)/\Bx W wr [[E aj l sc,aI s af H R],(aM ak D ai T d S),aG]) (fun _ F _=>d-(intOf F).toNat)
  .exact ⟨0,rfl,by omega,by simpa using OwnL.nil _ _,au⟩
  obtain⟨k,rfl,bw,f,e⟩:=hrel;have g:=f;have x:=e;by_cases bx:k<d
  .have p:k<b.cells.length:=by have:=I m;omega
   have ag:=e.b1;have ad:W.1.size+3<=wr.1.size:=e.lt;obtain⟨bj,bD,rfl,z,A,-⟩:=am.at (k:=k) p;have ah:=V e.below z A;generalize hy:b.cells[k]=y at ah;have bA:(0:Int)<=(k:Int):=by omega
   have bB:(k:Int)<(d:Int):=by omega
   have L:((b.cells.take (k)).drop c.toNat).length<=1000:=by simp;omega
   by_cases B:c<=(k:Int)
   .have i:((b.cells.take (k+1)).drop c.toNat)=((b.cells.take (k)).drop c.toNat)++[y]:=by rw[<-hy];exact Jsa p (by omega)
    generalize hys:(b.cells.take (k)).drop c.toNat=ys at g L i;have d1:decide (c<=(k:Int))=true:=by simpa using B
    clear f e A hy hys p B z;go_wp2_with (at_builtin;refine Ju rfl _ _ rfl g L ad y rfl rfl ?_);intro bG bI aU aa;have av:=x.keep aa.bel;clear aa ag;go_wp2_with fail
    (try clear hw2)
    go_roundw
    .exact ⟨k+1,by go_num,by omega,by rw[i];exact aU,av⟩
    simp[intOf];omega
   have i:((b.cells.take (k+1)).drop c.toNat)=((b.cells.take (k)).drop c.toNat):=Jr9 (by omega);generalize hys:(b.cells.take (k)).drop c.toNat=ys at g i;have d1:decide (c<=(k:Int))=false:=by simpa using B
   clear f e A hy hys p B z ah ag;go_wp2_with fail;go_roundw
   .exact ⟨k+1,by go_num,by omega,by rw[i];exact g,x⟩
   simp[intOf];omega
  have ab:k=d:=by omega
  have bK:¬ (k:Int)<(d:Int):=by omega
  have ac:((b.cells.take (k)).drop c.toNat)=((b.cells.take (b.cells.length)).drop c.toNat):=by rw[ab,m]
  rw[ac]at f g;clear ab ac;obtain⟨a7,a6,vc,aX⟩:=f.sl;subst aX;have aZ:=e.c0;have a4:=e.c1;have ad:W.1.size+3<=wr.1.size:=e.lt;have ar:=Kj (OffB W.1.size 3 P) wr (fun b h=>OffB.new hP (by omega)) (E a7 a6 vc) _ (f.nums.imp (fun b h _=>OffB.new hP h.1));clear e f;go_wp2_with (go_at_call 131;refine ar.mono ?_;rintro bn bH ⟨n,o,r,c1,N,Q,rfl,X,Y⟩;have ap:=X;have j:=x.next Y;have a9:=j.c0;have ba:=j.c1;have bL:=j.C0;have bM:=j.C1;clear X Y aZ a4);have Z:=Jl (q:=2) (k:=3) (u0:=E n o r) (u1:=E c1 N Q) j.below (by decide) ap;refine FR (v:=.tuple #[aK n o r c1 N Q,G 0]) (by simp[results,results125,go_sem,a9,ba]) rfl ?_;rw[aq];exact⟨_,_,_,_,_,_,rfl,Z.1,Z.2⟩
 have aq:bg=(⟨[((b.cells.take (b.cells.length)).take (b.cells.length-(-c).toNat)).length],((b.cells.take (b.cells.length)).take (b.cells.length-(-c).toNat))⟩,0):=by
  rw[<-u,JV];unfold Xq;rw[FU (by omega)]
 have d0:decide (0<=c)=false:=by simp;omega
 have bm:decide (c<0)=true:=by simp;omega
 go_wp2_with fail;obtain⟨bJ,C⟩:=nm (((W.alloc (.cells #[E aj l sc,aI s af H R] 133)).alloc (.cells (aL ak D ai T d S) 133)).alloc (.cells aF 133));have au:=C▸w;rw[C];clear C w n o r bh bc bd be ay;go_loopw [10,11] (fun a5 F wr=>∃k:Nat,F=G k/\k<=d/\OwnL (W.1.size+3) wr a5 ((b.cells.take (k)).take (b.cells.length-(-c).toNat))/\Bx W wr [[E aj l sc,aI s af H R],(aM ak D ai T d S),aG]) (fun _ F _=>d-(intOf F).toNat)
 .exact ⟨0,rfl,by omega,by simpa using OwnL.nil _ _,au⟩
 obtain⟨k,rfl,bw,f,e⟩:=hrel;have g:=f;have x:=e;by_cases bx:k<d
 .have p:k<b.cells.length:=by have:=I m;omega
  have ag:=e.b1;have ad:W.1.size+3<=wr.1.size:=e.lt;obtain⟨bj,bD,rfl,z,A,-⟩:=am.at (k:=k) p;have ah:=V e.below z A;generalize hy:b.cells[k]=y at ah;have bA:(0:Int)<=(k:Int):=by omega
  have bB:(k:Int)<(d:Int):=by omega
  have L:((b.cells.take (k)).take (b.cells.length-(-c).toNat)).length<=1000:=by simp;omega
  have bz:wrap64 ((d:Int)+c)=(d:Int)+c:=by have:=bv.1;unfold wrap64;omega
  by_cases B:(k:Int)<(d:Int)+c
  .have i:((b.cells.take (k+1)).take (b.cells.length-(-c).toNat))=((b.cells.take (k)).take (b.cells.length-(-c).toNat))++[y]:=by rw[<-hy];exact Jlx p (by have:=I m;omega)
   generalize hys:(b.cells.take (k)).take (b.cells.length-(-c).toNat)=ys at g L i;have d1:decide ((k:Int)<(d:Int)+c)=true:=by simpa using B
   clear f e A hy hys p z;go_wp2_with (at_builtin;refine Ju rfl _ _ rfl g L ad y rfl rfl ?_);intro bG bI aU aa;have av:=x.keep aa.bel;clear aa ag;go_wp2_with fail
   (try clear hw2)
   go_roundw
   .exact ⟨k+1,by go_num,by omega,by rw[i];exact aU,av⟩
   simp[intOf];omega
  have i:((b.cells.take (k+1)).take (b.cells.length-(-c).toNat))=((b.cells.take (k)).take (b.cells.length-(-c).toNat)):=Jog (by have:=I m;omega);generalize hys:(b.cells.take (k)).take (b.cells.length-(-c).toNat)=ys at g i;have d1:decide ((k:Int)<(d:Int)+c)=false:=by simpa using B
  clear f e A hy hys p z ah ag;go_wp2_with fail;clear bz;go_roundw
  .exact ⟨k+1,by go_num,by omega,by rw[i];exact g,x⟩
  simp[intOf];omega
 have ab:k=d:=by omega
 have bK:¬ (k:Int)<(d:Int):=by omega
 have ac:((b.cells.take (k)).take (b.cells.length-(-c).toNat))=((b.cells.take (b.cells.length)).take (b.cells.length-(-c).toNat)):=by rw[ab,m]
 rw[ac]at f g;clear ab ac;obtain⟨a7,a6,vc,aX⟩:=f.sl;subst aX;have aZ:=e.c0;have a4:=e.c1;have ad:W.1.size+3<=wr.1.size:=e.lt;have ar:=Kj (OffB W.1.size 3 P) wr (fun b h=>OffB.new hP (by omega)) (E a7 a6 vc) _ (f.nums.imp (fun b h _=>OffB.new hP h.1));clear e f;go_wp2_with (go_at_call 131;refine ar.mono ?_;rintro bn bH ⟨n,o,r,c1,N,Q,rfl,X,Y⟩;have ap:=X;have j:=x.next Y;have a9:=j.c0;have ba:=j.c1;have bL:=j.C0;have bM:=j.C1;clear X Y aZ a4);have Z:=Jl (q:=2) (k:=3) (u0:=E n o r) (u1:=E c1 N Q) j.below (by decide) ap;refine FR (v:=.tuple #[aK n o r c1 N Q,G 0]) (by simp[results,results125,go_sem,a9,ba]) rfl ?_;rw[aq];exact⟨_,_,_,_,_,_,rfl,Z.1,Z.2⟩
theorem Jo1(P)(W)(hP:∀b,W.1.size<=b->P b)(va vb)(a b)(ha:IsArr P W va a)(hb:IsArr P W vb b)(hoa:a.ok)(hob:b.ok):
 Calls prog 125 #[va,vb,.bool false] W (RRes P W (Jas a b)):=by
 have az:=ha;have aU:=hb;obtain⟨au,o,sc,bG,Y,ad,rfl,a5,aw⟩:=ha;obtain⟨av,T,ar,af,i,ae,rfl,K,ax⟩:=hb;obtain⟨a7,a8⟩:=Jb az;obtain⟨m,a9⟩:=Jb aU;have w:=Bx.n3 W (aM au o sc bG Y ad) (aM av T ar af i ae) aG 133 133 133;have b6:i<=200:=by rw[m];exact hob.few
 obtain⟨bA,B⟩:=nm (Jas a b);rw[B];unfold Jas at B;have an:(Zl b).shape.length≠1↔1<b.shape.length:=by
  unfold Zl;split
  .simp [Kk];omega
  omega
 by_cases A:a.shape.length≠0\/(Zl b).shape.length≠1
 .rw [FY A]at B;subst B;have bo:=w.below;by_cases u:a.shape.length≠0
  .have r:((o:Int)== 0)=false:=by simp;omega
   have s:((o:Int) != 0)=true:=by simp;omega
   clear w az aU a5 aw K ax a7 m a8 a9 hP hoa hob A u an;go_enter func125,ntmps125;go_wp2_with fail;refine FR (by simp[results,results125,go_sem];try rfl) rfl ?_;exact⟨_,_,_,_,_,_,rfl,Jt _ _,bo⟩
  have r:((o:Int)== 0)=true:=by simp;omega
  have s:((o:Int) != 0)=false:=by simp;omega
  have x:(1:Int)<(T:Int):=by
   have:=an.1 (A.resolve_left u);omega
  clear w az aU a5 aw K ax a7 m a8 a9 hP hoa hob A u an;go_enter func125,ntmps125;go_wp2_with fail;refine FR (by simp[results,results125,go_sem];try rfl) rfl ?_;exact⟨_,_,_,_,_,_,rfl,Jt _ _,bo⟩
 rw[FU A]at B;have u:a.shape.length=0:=by
  rcases ZB a.shape.length with h|h
  .exact h
  exact absurd (NN (by omega)) A
 have bK:¬ 1<b.shape.length:=fun h=>A (NO (an.2 h));have r:((o:Int)== 0)=true:=by simp;omega
 have s:((o:Int) != 0)=false:=by simp;omega
 have x:¬ (1:Int)<(T:Int):=by omega
 obtain⟨c,z,ap,bb,bP,rfl,bL,bN,a6,bO⟩:=Yv aw hoa (ZV.1 u);have bR:=hoa.fits c (by rw[bb];simp);have bw:a.cells.headD 0=c:=by rw[bb];rfl
 rw[bw]at B;have bD:∀bi,J W bi->bi.cell? (U z ap)=some (G c):=fun bi bM=>V bM bN a6;have bB:(0:Int)<(Y:Int):=by omega
 have bX:=bD _ w.below;have bt:z<W.1.size+1:=by omega
 have bu:z<W.1.size+1+1:=by omega
 have bv:z<W.1.size+1+1+1:=by omega
 clear az aU a5 aw K a7 a8 a9 hoa hob A an u bK bb bP bL bO bw bR bX;change Hid _ at m;go_enter func125,ntmps125;by_cases ay:64<c\/c < -64
 .have bq:Hid (bA=(eArr,9)):=O (by rw[<-B,FY ay]);have bp:=w.below;by_cases K:64<c
  .have d1:decide (64<c)=true:=by simpa using K
   go_wp2_with fail;refine FR (by simp[results,results125,go_sem];try rfl) rfl ?_;refine ?_;rw[bq];exact⟨_,_,_,_,_,_,rfl,Jt _ _,bp⟩
  have d1:decide (64<c)=false:=by simpa using K
  have aZ:decide (c < -64)=true:=by simpa using ay.resolve_left K
  go_wp2_with fail;refine FR (by simp[results,results125,go_sem];try rfl) rfl ?_;refine ?_;rw[bq];exact⟨_,_,_,_,_,_,rfl,Jt _ _,bp⟩
 have d1:decide (64<c)=false:=by simp;omega
 have aZ:decide (c < -64)=false:=by simp;omega
 have bz:c.natAbs<=64:=by omega
 obtain⟨ag,Z⟩:=nm ((if c<0 then(b.cells.length:Int)+c else 0):Int);have aa:bA=(⟨[((List.range c.natAbs).map fun ao:Nat=>Vg b.cells (ag+(ao:Int))).length],(List.range c.natAbs).map fun ao:Nat=>Vg b.cells (ag+(ao:Int))⟩,0):=by rw[<-B,FU ay,Jyz,Z]
 have bQ:-64<=ag/\ag<=200:=by have:=I m;rw[<-Z];split<;>omega
 generalize hg:((fun ao:Nat=>Vg b.cells (ag+(ao:Int))):Nat->Int)=g at aa;clear ay;by_cases am:c<0
 .have a4:decide (c<0)=true:=by simpa using am
  rw[FY am,<-m]at Z;subst Z;obtain⟨f,aV⟩:=nm (c.natAbs:Nat);have b7:(f:Int)=-c:=by omega
  have bU:f<=64:=by omega
  rw[aV]at aa;clear aV;go_wp2_with fail;clear d1 aZ a4 bz;obtain⟨b2,S⟩:=nm (((W.alloc (.cells #[E au o sc,aI z ap Y ad] 133)).alloc (.cells (aL av T ar af i ae) 133)).alloc (.cells aF 133));have aY:=S▸w;rw[S];clear S w r s x bB bt bu bv a6;go_loopw [10,13] (fun bf X wr=>∃k:Nat,X=G ((i:Int)+c+k)/\k<=f/\OwnL (W.1.size+3) wr bf ((List.range k).map g)/\Bx W wr [[E au o sc,aI z ap Y ad],(aM av T ar af i ae),aG]) (fun _ X _=>((i:Int)-intOf X).toNat)
  .exact ⟨0,by simp,by omega,by simpa using OwnL.nil _ _,aY⟩
  obtain⟨k,rfl,bS,j,e⟩:=hrel;have t:=j;have C:=e;by_cases bT:k<f
  .have aq:=e.b1;have N:W.1.size+3<=wr.1.size:=e.lt;have d:g k=Vg b.cells ((i:Int)+c+(k:Int)):=by rw[<-hg]
   generalize hy:g k=y at d;have F:(List.range (k+1)).map g=(List.range k).map g++[y]:=by rw[ZZ,NU,<-hy];rfl
   have D:((List.range k).map g).length<=1000:=by simp;omega
   generalize hys:(List.range k).map g=ys at t D F;generalize hp:((i:Int)+c+(k:Int):Int)=p at d⊢;have bW:p<(i:Int):=by omega
   unfold Vg at d;by_cases bJ:0<=p
   .obtain ⟨q,rfl⟩:∃q:Nat,p=q:=⟨p.toNat,by omega⟩;have R:q<b.cells.length:=by have:=I m;omega
    rw[FY (by have:=I m;omega)]at d;simp only[Hx]at d;rw[NC,FX R]at d;simp only[JI]at d;obtain⟨bE,bV,rfl,ai,L,-⟩:=ax.at (k:=q) R;rw[<-d]at L;have bY:=V e.below ai L;have bH:decide ((0:Int)<=(q:Int))=true:=by simp
    have br:decide ((q:Int)<(i:Int))=true:=by simpa using bW
    clear j e L hy hys ai d R;go_wp2_with (at_builtin;refine Ju rfl _ _ rfl t D N y rfl rfl ?_);intro be bj Q n;have H:=C.keep n.bel;clear n aq;go_wp2_with fail
    (try clear hw2)
    go_roundw
    .exact ⟨k+1,(by congr 1;omega),by omega,by rw[F];exact Q,H⟩
    simp[intOf];omega
   have bH:decide (0<=p)=false:=by simpa using bJ
   rw[FU (by omega)]at d;subst d;have b8:-1000<=p:=by omega
   clear j e hy hys;go_wp2_with (at_builtin;refine Ju rfl _ _ rfl t D N 0 rfl rfl ?_);intro be bj Q n;have H:=C.keep n.bel;clear n aq;go_wp2_with fail
   (try clear hw2)
   go_roundw
   .exact ⟨k+1,(by congr 1;omega),by omega,by rw[F];exact Q,H⟩
   simp[intOf];omega
  have al:k=f:=by omega
  have bl:(i:Int)+c+(k:Int)=(i:Int):=by omega
  rw[bl];rw[al]at j t;clear al bl;obtain⟨bh,bg,vc,ba⟩:=j.sl;subst ba;have bc:=e.c0;have bd:=e.c1;have N:W.1.size+3<=wr.1.size:=e.lt;have aX:=Kj (OffB W.1.size 3 P) wr (fun b h=>OffB.new hP (by omega)) (E bh bg vc) _ (j.nums.imp (fun b h _=>OffB.new hP h.1));clear e j;go_wp2_with (go_at_call 131;refine aX.mono ?_;rintro bI bZ ⟨r,s,x,c1,ab,ac,rfl,ah,aj⟩;have aW:=ah;have l:=C.next aj;have bm:=l.c0;have bn:=l.c1;have b3:=l.C0;have b4:=l.C1;clear ah aj bc bd);have ak:=Jl (q:=2) (k:=3) (u0:=E r s x) (u1:=E c1 ab ac) l.below (by decide) aW;refine FR (v:=.tuple #[aK r s x c1 ab ac,G 0]) (by simp[results,results125,go_sem,bm,bn]) rfl ?_;rw[aa];exact⟨_,_,_,_,_,_,rfl,ak.1,ak.2⟩
 have a4:decide (c<0)=false:=by simpa using am
 rw[FU am]at Z;obtain⟨f,aV⟩:∃f:Nat,c=f:=⟨c.toNat,by omega⟩;subst aV;have b5:Hid (f=(f:Int).natAbs):=O (by omega);subst Z;have bU:f<=64:=by omega
 go_wp2_with fail;clear d1 aZ a4 am bz bQ;obtain⟨b2,S⟩:=nm (((W.alloc (.cells #[E au o sc,aI z ap Y ad] 133)).alloc (.cells (aL av T ar af i ae) 133)).alloc (.cells aF 133));have aY:=S▸w;rw[S];clear S w r s x bB bt bu bv a6;go_loopw [10,13] (fun bf X wr=>∃k:Nat,X=G k/\k<=f/\OwnL (W.1.size+3) wr bf ((List.range k).map g)/\Bx W wr [[E au o sc,aI z ap Y ad],(aM av T ar af i ae),aG]) (fun _ X _=>f-(intOf X).toNat)
 .exact ⟨0,rfl,by omega,by simpa using OwnL.nil _ _,aY⟩
 obtain⟨k,rfl,bS,j,e⟩:=hrel;have t:=j;have C:=e;by_cases bT:k<f
 .have aq:=e.b1;have N:W.1.size+3<=wr.1.size:=e.lt;have d:g k=Vg b.cells (k:Int):=by rw[<-hg];simp
  generalize hy:g k=y at d;have F:(List.range (k+1)).map g=(List.range k).map g++[y]:=by rw[ZZ,NU,<-hy];rfl
  have D:((List.range k).map g).length<=1000:=by simp;omega
  generalize hys:(List.range k).map g=ys at t D F;have ca:(k:Int)<(f:Int):=by omega
  have b9:(0:Int)<=(k:Int):=by omega
  unfold Vg at d;by_cases u:(k:Int)<(i:Int)
  .have R:k<b.cells.length:=by have:=I m;omega
   rw[FY (by have:=I m;omega)]at d;simp only[Hx]at d;rw[NC,FX R]at d;simp only[JI]at d;obtain⟨bE,bV,rfl,ai,L,-⟩:=ax.at (k:=k) R;rw[<-d]at L;have bY:=V e.below ai L;have br:decide ((k:Int)<(i:Int))=true:=by simpa using u
   clear j e L hy hys ai d R;go_wp2_with (at_builtin;refine Ju rfl _ _ rfl t D N y rfl rfl ?_);intro be bj Q n;have H:=C.keep n.bel;clear n aq;go_wp2_with fail
   (try clear hw2)
   go_roundw
   .exact ⟨k+1,by go_num,by omega,by rw[F];exact Q,H⟩
   simp[intOf];omega
  have br:decide ((k:Int)<(i:Int))=false:=by simpa using u
  rw[FU (by have:=I m;omega)]at d;subst d;clear j e hy hys;go_wp2_with (at_builtin;refine Ju rfl _ _ rfl t D N 0 rfl rfl ?_);intro be bj Q n;have H:=C.keep n.bel;clear n aq;go_wp2_with fail
  (try clear hw2)
  go_roundw
  .exact ⟨k+1,by go_num,by omega,by rw[F];exact Q,H⟩
  simp[intOf];omega
 have al:k=f:=by omega
 have bl:¬ (k:Int)<(f:Int):=by omega
 have bx:((f:Int)).natAbs=f:=by omega
 rw[al]at j t;rw[bx]at aa;clear al bx;obtain⟨bh,bg,vc,ba⟩:=j.sl;subst ba;have bc:=e.c0;have bd:=e.c1;have N:W.1.size+3<=wr.1.size:=e.lt;have aX:=Kj (OffB W.1.size 3 P) wr (fun b h=>OffB.new hP (by omega)) (E bh bg vc) _ (j.nums.imp (fun b h _=>OffB.new hP h.1));clear e j;go_wp2_with (go_at_call 131;refine aX.mono ?_;rintro bI bZ ⟨r,s,x,c1,ab,ac,rfl,ah,aj⟩;have aW:=ah;have l:=C.next aj;have bm:=l.c0;have bn:=l.c1;have b3:=l.C0;have b4:=l.C1;clear ah aj bc bd);have ak:=Jl (q:=2) (k:=3) (u0:=E r s x) (u1:=E c1 ab ac) l.below (by decide) aW;refine FR (v:=.tuple #[aK r s x c1 ab ac,G 0]) (by simp[results,results125,go_sem,bm,bn]) rfl ?_;rw[aa];exact⟨_,_,_,_,_,_,rfl,ak.1,ak.2⟩
theorem Jwf(h:k<ts.length)(h2:k<bs.length):Qe (ts.drop k) (bs.drop k) L=if 64-(L.length:Int)<ts[k]then none else Qe (ts.drop (k+1)) (bs.drop (k+1)) (L++List.replicate ts[k].toNat bs[k]):=by
 rw[ZC h,ZC h2];rfl
theorem Jrh(h:ts.length<=k):Qe (ts.drop k) (bs.drop k) L=some L:=by
 rw[MP h];rfl
theorem Jo8(P)(W)(hP:∀b,W.1.size<=b->P b)(va vb)(a b)(ha:IsArr P W va a)(hb:IsArr P W vb b)(hoa:a.ok)(hob:b.ok):
 Calls prog 128 #[va,vb] W (RRes P W (Gk a b)):=by
 have ar:=ha;have au:=hb;obtain⟨aW,o,sc,al,i,aj,rfl,a6,Q⟩:=ha;obtain⟨aX,p,aV,am,j,ak,rfl,a8,a9⟩:=hb;obtain⟨s,bi⟩:=Jb ar;obtain⟨R,bj⟩:=Jb au;have ae:=Bx.n3 W (aM aW o sc al i aj) (aM aX p aV am j ak) aG 133 133 133;have cM:i<=200:=by rw[s];exact hoa.few
 have cL:j<=200:=by rw[R];exact hob.few
 obtain⟨aU,l⟩:=nm (Gk a b);rw[l];unfold Gk at l;have aY:=ae.below;by_cases r:b.shape.length≠1\/1<a.shape.length
 .rw [FY r]at l;subst l;by_cases ac:b.shape.length≠1;have T:((p:Int)== 1)=false:=by simp;omega
  have X:((p:Int) != 1)=true:=by simp;omega
  rotate_left;have T:((p:Int)== 1)=true:=by simp;omega
  have X:((p:Int) != 1)=false:=by simp;omega
  have ag:(1:Int)<(o:Int):=by have:=r.resolve_left ac;omega
  all_goals
   clear ae ar au a6 Q a8 a9 s R bi bj hP hoa hob r ac;go_enter func128,ntmps128;go_wp2_with fail;refine FR (by simp[results,results128,go_sem];try rfl) rfl ?_;exact⟨_,_,_,_,_,_,rfl,Jt _ _,aY⟩
 rw[FU r]at l;have ac:b.shape.length=1:=by
  rcases PB b.shape.length 1 with h|h|h
  .exact absurd (NN (by omega)) r
  .exact h
  exact absurd (NN (by omega)) r
 have a5:¬ 1<a.shape.length:=fun h=>r (NO h);have T:((p:Int)== 1)=true:=by simp;omega
 have X:((p:Int) != 1)=false:=by simp;omega
 have ag:¬ (1:Int)<(o:Int):=by omega
 by_cases x:a.shape.length=1/\a.cells.length≠b.cells.length
 .rw [FY x]at l;subst l;have s4:((o:Int)== 1)=true:=by simp;omega
  have bq:((i:Int)== (j:Int))=false:=by simp;omega
  have bZ:((i:Int) != (j:Int))=true:=by simp;omega
  clear ae ar au a6 Q a8 a9 s R bi bj hP hoa hob r ac a5 x;go_enter func128,ntmps128;go_wp2_with fail;refine FR (by simp[results,results128,go_sem];try rfl) rfl ?_;exact⟨_,_,_,_,_,_,rfl,Jt _ _,aY⟩
 rw[FU x]at l;have ai:=Q;have ce:=hoa;obtain⟨ts,aw⟩:=nm (if a.shape.length=0 then List.replicate b.cells.length (a.cells.headD 0)else a.cells);have a4:ts.length=b.cells.length/\∀g,(h:g<ts.length)->∃a5:g % a.cells.length<a.cells.length,ts[g]=a.cells[g % a.cells.length]:=by
  rw[<-aw];by_cases D:a.shape.length=0
  .obtain ⟨Y,_,_,N,_⟩:=Yv Q hoa (ZV.1 D);simp only[D,Pt,N];refine⟨by simp,fun g h=>⟨by simp[Nat.mod_one],by simp[Nat.mod_one]⟩⟩
  have cn:a.cells.length=b.cells.length:=by
   rcases PB a.cells.length b.cells.length with h|h|h
   .exact absurd ⟨by omega,by omega⟩ x
   .exact h
   exact absurd ⟨by omega,by omega⟩ x
  simp only[FU D];exact⟨cn,fun g h=>⟨by rw[YM h];exact h,by congr 1;rw[YM h]⟩⟩
 rw[aw]at l;have bE:∀t ∈ ts,t ∈ a.cells:=by
  rw[<-aw];by_cases D:a.shape.length=0
  .obtain ⟨Y,_,_,N,_⟩:=Yv Q hoa (ZV.1 D);simp only[D,Pt,N];intro t K;have:=(YQ.1 K).2;simp[this]
  simp only[FU D];exact fun t h=>h
 have cj:Hid (((o:Int)== 1)=true->((i:Int)== (j:Int))=true):=O (fun h=>by
  simp at h⊢;rcases PB i j with e|e|e
  .exact absurd ⟨by omega,by omega⟩ x
  .omega
  exact absurd ⟨by omega,by omega⟩ x)
 clear ar au a6 Q a8 bi bj hoa hob r ac a5 x aw;change Hid _ at R s l;go_enter func128,ntmps128;have b8:∀u:Bool,((o:Int)== 1)=u->True:=fun _ _=>trivial;rcases Bool.eq_false_or_eq_true ((o:Int)== 1)with s4|s4;have bq:=cj s4;have bZ:((i:Int) != (j:Int))=false:=by simpa using bq
 go_wp2_with fail;clear s4 bq bZ;rotate_left;go_wp2_with fail;clear s4
 all_goals
  obtain⟨cU,bm⟩:=nm (((W.alloc (.cells (aL aW o sc al i aj) 133)).alloc (.cells (aL aX p aV am j ak) 133)).alloc (.cells aF 133));have cl:=bm▸ae;rw[bm];clear bm ae T X ag b8 aY;go_loopw [6] (fun br wr=>∃g:Nat,br=G g/\g<=i/\(∀ab ∈ a.cells.take g,0<=ab)/\Bx W wr [(aM aW o sc al i aj),(aM aX p aV am j ak),aG]) (fun br _=>i-(intOf br).toNat)
  .exact ⟨0,rfl,by omega,by simp,cl⟩
  obtain⟨g,rfl,cp,an,f⟩:=hrel;have C:=f;have az:=f.a1;have z:=f.c0;have A:=f.c1;have bK:=f.C0;have bL:=f.C1;by_cases cq:g<i
  .have ao:g<a.cells.length:=by have:=I s;omega
   obtain⟨cm,cy,rfl,bT,bb,-⟩:=ai.at (k:=g) ao;generalize N:a.cells[g]=Y at bb;have bY:=V f.below bT bb;have ck:Hid (a.cells.take (g+1)=a.cells.take g++[Y]):=O (by rw[NG ao,N]);have cb:Y ∈ a.cells:=by rw[<-N];exact ND ao
   have cO:(0:Int)<=(g:Int):=by omega
   have cP:(g:Int)<(i:Int):=by omega
   clear f ao bT bb N;by_cases cu:Y<0
   .have aZ:aU=(eArr,7):=by
     rw[<-l,FY];rw[YX];exact⟨Y,cb,by simpa[negB]using cu⟩
    go_wp2_with fail;have y:=Jl (q:=2) (k:=3) (u0:=aH) (u1:=aH) C.below (by decide) (Jt (OffB W.1.size 3 P) _);refine FR (v:=.tuple #[.agg aF,G 7]) (by simp[results,results128,go_sem,z,A]) rfl ?_;rw[aZ];exact⟨_,_,_,_,_,_,rfl,y.1,y.2⟩
   go_wp2_with fail;go_roundw
   .exact ⟨g+1,by go_num,by omega,(by rw[ck];intro ab ba;rcases ZK.1 ba with h|h;exact an ab h;simp at h;omega),C⟩
   simp[intOf];omega
  have bP:a.cells.take g=a.cells:=NJ (by have:=I s;omega);rw[bP]at an;have cG:¬ (g:Int)<(i:Int):=by omega
  have bD:Hid (aU=Ny ts b.cells):=O (by
   rw[<-l,FU];rw[YX];rintro⟨ab,ba,h⟩;have:=an ab ba;simp[negB]at h;omega)
  have ch:Hid (Qe ts b.cells []=Qe (ts.drop 0) (b.cells.drop 0) []):=O (by simp);have H:W.1.size+3<=wr.1.size:=f.lt;clear bP f cp cq z A bK bL H;go_wp2_with fail;clear cG az;go_loopw [7,8] (fun bt bu wr=>∃(c:Nat) (L:List Int),bu=G c/\c<=j/\Qe ts b.cells []=Qe (ts.drop c) (b.cells.drop c) L/\L.length<=64/\OwnL (W.1.size+3) wr bt L/\Bx W wr [(aM aW o sc al i aj),(aM aX p aV am j ak),aG]) (fun _ bu _=>j-(intOf bu).toNat)
  .exact ⟨0,[],rfl,by omega,ch,by simp,OwnL.nil _ _,C⟩
  rename World=>wx;obtain⟨c,L,rfl,cr,aq,bN,w,f⟩:=hrel;have bA:=w;have C:=f;have bx:=aq;have az:=f.a1;have bp:=f.b1;have H:W.1.size+3<=wx.1.size:=f.lt;by_cases cs:c<j
  .have ap:c<b.cells.length:=by have:=I R;omega
   have ad:c<ts.length:=by rw[a4.1];exact ap
   obtain⟨S,ax⟩:=a4.2 c ad;obtain⟨t,K⟩:=nm (ts[c]);obtain⟨n,bn⟩:=nm (b.cells[c]);have bf:=Jwf (L:=L) ad ap;rw[K,bn]at bf;rw[K]at ax;have bl:=an t (bE t (by rw[<-K];exact ND ad));have cw:=ce.fits t (bE t (by rw[<-K];exact ND ad));obtain⟨ay,bh⟩:=nm (c % a.cells.length);simp only[bh]at S ax;obtain⟨cm,cy,rfl,bQ,bc,-⟩:=ai.at (k:=ay) S;obtain⟨bH,bX,rfl,bR,bd,-⟩:=a9.at (k:=c) ap;rw[<-ax]at bc;rw[bn]at bd;have bY:=V f.below bQ bc;have bB:Hid (∀B,Below (W.1.size+3) wx B->B.cell? (U bH (bX+c))=some (G n)):=O (fun B a7=>V a7 (by omega) (V f.below bR bd));have co:0<i:=by have:=I s;omega
   have cA:(c:Int).tmod (i:Int)=(ay:Int):=by rw[ZE (by omega),<-bh,<-s];rfl
   have cv:¬ (i:Int)=0:=by omega
   have cH:(0:Int)<=(ay:Int):=by omega
   have cI:(ay:Int)<(i:Int):=by have:=I s;omega
   have cQ:(0:Int)<=(c:Int):=by omega
   have cR:(c:Int)<(j:Int):=by omega
   clear w f aq ap ad S K bn ax bh bQ bc bR bd co;go_wp2_with fail;go_quiet (fail);obtain⟨ah,af⟩:=nm (wx.drewN nq);have b6:Bx W ah _:=af▸C.drewN nq;have cc:=af▸bA.drewN nq;have cf:Hid (∀B,Below (W.1.size+3) ah B->B.cell? (U bH (bX+c))=some (G n)):=O (by rw[<-af];exact fun B a7=>bB B ((Below.drewN aS nq).trans a7));rw[af];clear af C bA bB az bp bY cA cH cI cv H;have b7:Below (W.1.size+3) ah ah:=FQ _ _;go_wp2_with fail;go_loopw [7,9] (fun bt bv wr=>∃m:Nat,bv=G (t-(m:Int))/\(m:Int)<=t/\L.length+m<=64/\OwnL (W.1.size+3) wr bt (L++List.replicate m n)/\Below (W.1.size+3) ah wr) (fun _ bv _=>(intOf bv).toNat)
   .exact ⟨0,by simp,by simpa using bl,by have:=bN;omega,by simpa using cc,b7⟩
   rename World=>wy;obtain⟨m,rfl,S,bO,w,hb⟩:=hrel;have b4:=hb;have F:=b6.keep hb;have bw:=F;obtain⟨d,hd⟩:=nm (t-(m:Int));rw[hd];by_cases bg:(m:Int)<t
   .have bp:=F.b1;have z:=F.c0;have A:=F.c1;have cz:=cf wy hb;have H:W.1.size+3<=wy.1.size:=F.lt;have d0:(0:Int)<d:=by omega
    have cN:d<=9223372036854775807:=by have:=cw.2;omega
    have bz:(L++List.replicate m n).length<=1000:=by simp;omega
    obtain⟨b3,bo⟩:=nm (L++List.replicate m n);have bG:=O bo;rw[bo]at w bz;clear hb F bo S bO bl;go_wp2_with (at_builtin;refine Ju rfl _ _ rfl w bz H n rfl rfl ?_);intro cS cF av be;obtain⟨cE,cB,rfl⟩:=av.shape;generalize hn4:(b3++[n]).length=n4 at av⊢;have ct:n4=L.length+m+1:=by rw[<-hn4,<-bG];simp;omega
    have cd:OwnL (W.1.size+3) cF (E cE n4 cB) (L++List.replicate (m+1) n):=by
     have e:L++List.replicate (m+1) n=b3++[n]:=by rw[<-bG,M6];congr 1;rw[List.replicate_succ']
     rw[e];exact av
    have b5:=b4.trans be.bel;have aa:=bw.keep be.bel;clear av be hn4 bp cz z A;by_cases bS:64<n4
    .have b2:(64:Int)<(n4:Int):=by omega
     have aZ:aU=(eArr,9):=by
      rw[bD];unfold Ny;rw[bx,bf,FY (by have:=bg;omega)]
     have z:=aa.c0;have A:=aa.c1;have bK:=aa.C0;have bL:=aa.C1;clear bS;go_wp2_with fail;have y:=Jl (q:=2) (k:=3) (u0:=aH) (u1:=aH) aa.below (by decide) (Jt (OffB W.1.size 3 P) _);refine FR (v:=.tuple #[.agg aF,G 9]) (by simp[results,results128,go_sem,z,A]) rfl ?_;rw[aZ];exact⟨_,_,_,_,_,_,rfl,y.1,y.2⟩
    have b2:¬ (64:Int)<(n4:Int):=by omega
    clear bS;go_wp2_with fail;go_roundw
    .exact ⟨m+1,(by congr 1;omega),(by have:=bg;omega),(by have:=ct;omega),cd,b5⟩
    simp[intOf];omega
   have d0:¬ (0:Int)<d:=by omega
   have bW:t=(m:Int):=by omega
   have b9:Qe ts b.cells []=Qe (ts.drop (c+1)) (b.cells.drop (c+1)) (L++List.replicate m n):=by
    rw[bx,bf,FU (by omega)];congr 2;rw[bW];simp
   have ca:(L++List.replicate m n).length<=64:=by simp;omega
   clear hb F hd S bO bg bW bl;go_wp2_with fail;go_roundw
   .exact ⟨c+1,_,by go_num,by omega,b9,ca,w,bw⟩
   simp[intOf];omega
  have bV:c=j:=by omega
  have b2:¬ (c:Int)<(j:Int):=by omega
  have cg:Hid (aU=(⟨[L.length],L⟩,0)):=O (by
   rw[bD];unfold Ny;rw[aq,Jrh (by rw[a4.1,bV,R];exact FP _)])
  clear bV aq bN cr cs az H;obtain⟨cD,cC,vc,cx⟩:=w.sl;subst cx;have z:=f.c0;have A:=f.c1;have H:W.1.size+3<=wx.1.size:=f.lt;have ci:=Kj (OffB W.1.size 3 P) wx (fun b h=>OffB.new hP (by omega)) (E cD cC vc) _ (w.nums.imp (fun b h _=>OffB.new hP h.1));clear f w;go_wp2_with (go_at_call 131;refine ci.mono ?_;rintro e cT ⟨T,X,ag,c1,bI,bJ,rfl,bM,bU⟩;have ai:=bM;have Z:=C.next bU;have cJ:=Z.c0;have cK:=Z.c1;have cV:=Z.C0;have cW:=Z.C1;clear bM bU z A);have y:=Jl (q:=2) (k:=3) (u0:=E T X ag) (u1:=E c1 bI bJ) Z.below (by decide) ai;refine FR (v:=.tuple #[aK T X ag c1 bI bJ,G 0]) (by simp[results,results128,go_sem,cJ,cK]) rfl ?_;rw[cg];exact⟨_,_,_,_,_,_,rfl,y.1,y.2⟩
def TwoR(t:ByteArray)(F:Arr->Arr->Arr × Int):Prop:=∀(P:Nat->Prop) (W:World) (_:∀b,W.1.size<=b->P b) (va vb:Value) (a b:Arr) (_:IsArr P W va a) (_:IsArr P W vb b) (_:a.ok) (_:b.ok),Calls prog 86 #[va,.string t,vb] W (RRes P W (F a b))
theorem two_6:TwoR ⟨#[114,104,111]⟩ Yd/\TwoR ⟨#[116,97,107,101]⟩ Jas/\TwoR ⟨#[100,114,111,112]⟩ Jaw/\TwoR ⟨#[105,110]⟩ inP/\TwoR ⟨#[97,116]⟩ atP/\TwoR ⟨#[107,101,101,112]⟩ Gk:=by
 refine⟨?_,?_,?_,?_,?_,?_⟩
 all_goals
  intro ad C l af ag e f m n g c;have s:=m;have t:=n;obtain⟨Z,X,sc,P,L,H,rfl,_,_⟩:=m;obtain⟨aa,Y,W,Q,N,K,rfl,_,_⟩:=n;have i:=Bx.n3 C (aM Z X sc P L H) (aM aa Y W Q N K) aG 133 133 133;have d:=Vd (k:=3) l i.lt;have a:=Jag (k:=3) s i.below;have b:=Jag (k:=3) t i.below;have u:=Jin _ _ d _ _ e f a b c;have w:=Jo1 _ _ d _ _ e f a b g c;have x:=Jpu _ _ d _ _ e f a b g c;have y:=Jmb _ _ d _ _ e f a b g c;have z:=Jmc _ _ d _ _ e f a b g c;have A:=Jo8 _ _ d _ _ e f a b g c;clear s t l g c d a b;go_enter func86,ntmps86;go_wp2_with (first|(go_at_call 120;refine aQ (Va (r:=false) (by decide) _) ?_)| ((first|(go_at_call 123;refine u.mono ?_)| (go_at_call 125;first|with_reducible refine w.mono ?_|refine x.mono ?_)| (go_at_call 127;first|with_reducible refine y.mono ?_|refine z.mono ?_)| (go_at_call 128;refine A.mono ?_));rintro ae ah ⟨R,S,T,c1,D,F,rfl,j,o⟩;have h:=i.next o;have ab:=h.c0;have ac:=h.c1;have ai:=h.C0;have aj:=h.C1;have B:=j;clear j o));have p:=Jl (q:=2) (k:=3) (u0:=E R S T) (u1:=E c1 D F) h.below (by decide) B;exact FR (by simp[results,results86,go_sem,ab,ac]) rfl ⟨_,_,_,_,_,_,rfl,p.1,p.2⟩
theorem Zn(c){f:Int->Int->Int × Int}{z:Int}(hc:SgC (c.toNat:Int) f z):TwoR ⟨#[c]⟩ (cwR f)/\TwoR ⟨#[c,46]⟩ (outR f):=by
 refine⟨?_,?_⟩
 all_goals
  intro m a g ah ai n o r s j l;have h:=r;have i:=s;obtain⟨X,T,sc,L,H,D,rfl,_,_⟩:=r;obtain⟨Y,W,S,N,K,F,rfl,_,_⟩:=s;have b:=Bx.n3 a (aM X T sc L H D) (aM Y W S N K F) aG 133 133 133;have A:=fun Z=>Va hc.sgn Z;have w:=fun w' (hb':J a w') (hl':a.1.size+3<=w'.1.size)=>Jen hc (OffB a.1.size 3 m) w' (Vd g hl') _ _ n o (Jag h hb') (Jag i hb') j l;have x:=fun w' (hb':J a w') (hl':a.1.size+3<=w'.1.size)=>Jl8 hc (OffB a.1.size 3 m) w' (Vd g hl') _ _ n o (Jag h hb') (Jag i hb') j l;have d:=b;have ad:=b.a0;have ae:=b.a1;have af:=b.b0;have ag:=b.b1;clear b h i g j l hc;go_enter func86,ntmps86;go_wp2_with (go_at_call 120;refine aQ (A _) ?_);go_region_with ((first|(go_at_call 122;refine(w _ d.below.drew d.lt).mono ?_)| (go_at_call 121;refine(x _ d.below.drew d.lt).mono ?_));rintro ac aj ⟨P,Q,R,c1,B,C,rfl,p,t⟩;have e:=d.next (aS.drew.trans t);have aa:=e.c0;have ab:=e.c1;have ak:=e.C0;have al:=e.C1;have y:=p;clear p t)
  all_goals
   go_wp2_with fail;have u:=Jl (q:=2) (k:=3) (u0:=E P Q R) (u1:=E c1 B C) e.below (by decide) y;exact FR (by simp[results,results86,go_sem,aa,ab]) rfl ⟨_,_,_,_,_,_,rfl,u.1,u.2⟩
def Jyr(a b:Arr):Arr × Int:=if a.shape.length≠0 then(eArr,5)else(Gr b (a.cells.headD 0) false,0)
theorem two_rev:TwoR ⟨#[114,101,118]⟩ (Jyr):=by
 intro ap a o a8 a9 z A W Y F H;have C:=W;have D:=Y;obtain⟨w,e,sc,S,h,i,rfl,X,B⟩:=W;obtain⟨x,u,t,m,l,j,rfl,Z,aa⟩:=Y;obtain⟨ad,ai⟩:=Jb C;have b:=Bx.n3 a (aM w e sc S h i) (aM x u t m l j) aG 133 133 133;have ag:a.1.size+3<=(((a.alloc (.cells (aL w e sc S h i) 133)).alloc (.cells (aL x u t m l j) 133)).alloc (.cells aF 133)).1.size:=b.lt;have N:=fun ax=>Va (c:=114) (r:=false) (by decide) ax;have P:=b;have aU:=o;obtain⟨r,d⟩:∃r,Jyr z A=r:=⟨_,rfl⟩;rw[d];unfold Jyr at d;by_cases n:z.shape.length≠0
 .rw [FY n]at d;subst d;have p:((e:Int)== 0)=false:=by simp;omega
  have s:((e:Int) != 0)=true:=by simp;omega
  have ao:=b.below;clear b C D X B Z aa ad ai o F H ag n;go_enter func86,ntmps86;go_wp2_with (go_at_call 120;refine aQ (N _) ?_);exact FR (v:=.tuple #[.agg aF,G 5]) (by simp[results,results86,go_sem]) rfl ⟨_,_,_,_,_,_,rfl,Jt _ _,ao⟩
 rw[FU n]at d;have p:((e:Int)== 0)=true:=by simp;omega
 have s:((e:Int) != 0)=false:=by simp;omega
 obtain⟨K,g,ak,aj,aw,rfl,aq,ar,av,au⟩:=Yv B F (ZV.1 (by omega));have af:z.cells.headD 0=K:=by rw[aj];rfl
 rw[af]at d;have L:=fun w' (hb':J a w') (hl':a.1.size+3<=w'.1.size)=>Jl6 (OffB a.1.size 3 ap) w' (Vd o hl') _ A K (Jag D hb') H;obtain⟨al,ah⟩:∃al,Gr A K false=al:=⟨_,rfl⟩;simp only[ah]at L d;have a7:=V b.below ar av;have aZ:=(b.cell 0 0 _ rfl).1;have a4:=(b.cell 0 1 _ rfl).1;have a5:=(b.cell 1 0 _ rfl).1;have a6:=(b.cell 1 1 _ rfl).1;have ba:(0:Int)<(h:Int):=by omega
 have aW:g<a.1.size+1:=by omega
 have aX:g<a.1.size+1+1:=by omega
 have aY:g<a.1.size+1+1+1:=by omega
 clear b C D X B Z aa ad ai o F H n af ah aj aw aq au;go_enter func86,ntmps86;go_wp2_with (go_at_call 120;refine aQ (N _) ?_);go_region_with (first|(go_at_call 124;refine(L _ P.below.drew ag).mono ?_;rintro aV y ⟨p,s,am,c1,Q,R,rfl,T,ab⟩;have ac:=(FQ (((a.alloc (.cells #[E w e sc,aI g ak h i] 133)).alloc (.cells (aL x u t m l j) 133)).alloc (.cells aF 133)).1.size (((a.alloc (.cells #[E w e sc,aI g ak h i] 133)).alloc (.cells (aL x u t m l j) 133)).alloc (.cells aF 133))).drew.trans ab;clear ab;have f:=P.next ac;have ay:aB y (a.1.size+1+1) 0 aH:=(f.cell 2 0 _ rfl).1;have az:aB y (a.1.size+1+1) 1 aH:=(f.cell 2 1 _ rfl).1;have bb:y.frozen? (U (a.1.size+1+1) 0)=false:=(f.cell 2 0 _ rfl).2;have bc:y.frozen? (U (a.1.size+1+1) 1)=false:=(f.cell 2 1 _ rfl).2;have an:=T;clear T ac))
 all_goals
  go_wp2_with fail;have ae:=Jl (q:=2) (k:=3) (u0:=E p s am) (u1:=E c1 Q R) f.below (by decide) an;refine FR (v:=.tuple #[aK p s am c1 Q R,G 0]) (by simp[results,results86,go_sem,ay,az]) rfl ?_;rw[<-d];exact⟨_,_,_,_,_,_,rfl,ae.1,ae.2⟩
theorem OneR.congr{F Gz:Arr->Arr × Int}(h:OneR t F)(e:∀a,a.ok->F a=Gz a):OneR t Gz:=fun P W hP v a ha hok=>by
 rw[<-e a hok];exact h P W hP v a ha hok
theorem TwoR.congr{F Gz:Arr->Arr->Arr × Int}(h:TwoR t F)(e:∀a b,a.ok->b.ok->F a b=Gz a b):TwoR t Gz:=fun P W hP va vb a b ha hb hoa hob=>by
 rw[<-e a b hoa hob];exact h P W hP va vb a b ha hb hoa hob
theorem Jbc:SgC ((43:UInt8).toNat:Int) V5 0:=Jzu
theorem Fp:SgC ((45:UInt8).toNat:Int) Kn 0:=Jvw
theorem G5:SgC ((42:UInt8).toNat:Int) Kh 1:=Jts
theorem Jbd:SgC ((37:UInt8).toNat:Int) Z8 1:=Jzx
theorem Ja9:SgC ((124:UInt8).toNat:Int) Qi 0:=Jzg
theorem X8:SgC ((38:UInt8).toNat:Int) Zk 9223372036854775807:=Jra
theorem V9:SgC ((33:UInt8).toNat:Int) Yp (-9223372036854775808):=Jm7
theorem Ja7:SgC ((61:UInt8).toNat:Int) V2 1:=Jza
theorem Nf:SgC ((60:UInt8).toNat:Int) Kv 0:=Jxg
theorem tab1_R:AllC (fun k f=>OneR ⟨k.toArray⟩ f) tab1:=.cons ((Jkq 43 (by decide) (Jef _ _ (NN ⟨rfl,rfl⟩))).congr (fun _ _=>by simp)) (.cons (Jkq 45 (by decide) (Jef _ _ (NO (NN ⟨rfl,rfl⟩)))) (.cons (Jkq 124 (by decide) (Jef _ _ (NO (NO (NN ⟨rfl,rfl⟩))))) (.cons (Jkq 42 (by decide) (Jef _ _ (NO (NO (NO ⟨rfl,rfl⟩))))) (.cons one_4.1 (.cons one_4.2.2.2 (.cons Jzz (.cons (one_4.2.1.congr (fun _ h=>Jur h)) (.cons (one_ord.1.congr (fun a _=>Jiw a)) (.cons (one_ord.2.congr (fun a _=>Jix a)) (.cons (one_4.2.2.1.congr (fun a _=>Jr4 a)) (.cons ((Zo 43 false Jbc).congr (fun _ h=>Ko J12 0 h)) (.cons ((Zo 45 false Fp).congr (fun _ h=>Ko Jx4 0 h)) (.cons ((Zo 42 false G5).congr (fun _ h=>Ko Jxp 1 h)) (.cons ((Zo 37 false Jbd).congr (fun _ h=>Ko Jzy 1 h)) (.cons ((Zo 124 false Ja9).congr (fun _ h=>Ko J1x 0 h)) (.cons ((Zo 38 false X8).congr (fun _ h=>Ko Jrb 9223372036854775807 h)) (.cons ((Zo 33 false V9).congr (fun _ h=>Ko Jk7 (-9223372036854775808) h)) (.cons ((Zo 61 false Ja7).congr (fun _ h=>Ko J1u 1 h)) (.cons ((Zo 60 false Nf).congr (fun _ h=>Ko Jyg 0 h)) (.cons ((Zo 43 true Jbc).congr (fun _ h=>Ki J12 0 h)) (.cons ((Zo 45 true Fp).congr (fun _ h=>Ki Jx4 0 h)) (.cons ((Zo 42 true G5).congr (fun _ h=>Ki Jxp 1 h)) (.cons ((Zo 37 true Jbd).congr (fun _ h=>Ki Jzy 1 h)) (.cons ((Zo 124 true Ja9).congr (fun _ h=>Ki J1x 0 h)) (.cons ((Zo 38 true X8).congr (fun _ h=>Ki Jrb 9223372036854775807 h)) (.cons ((Zo 33 true V9).congr (fun _ h=>Ki Jk7 (-9223372036854775808) h)) (.cons ((Zo 61 true Ja7).congr (fun _ h=>Ki J1u 1 h)) (.cons ((Zo 60 true Nf).congr (fun _ h=>Ki Jyg 0 h)) (.nil)))))))))))))))))))))))))))))
theorem J3l(h:t.data.toList ∈ tab1.map (·.1)):OneR t (f1A t):=by
 obtain⟨c,b,e,f⟩:=Xn (d:=fun a=>(a,0)) h;have:=tab1_R.of c b;simp_all[f1A]
theorem J1j(hcat:TwoR ⟨#[99,97,116]⟩ catP):AllC (fun k f=>TwoR ⟨k.toArray⟩ f) tab2:=.cons ((Zn 43 Jbc).1.congr (fun _ _ ha hb=>Xa V5 ha hb)) (.cons ((Zn 45 Fp).1.congr (fun _ _ ha hb=>Xa Kn ha hb)) (.cons ((Zn 42 G5).1.congr (fun _ _ ha hb=>Xa Kh ha hb)) (.cons ((Zn 37 Jbd).1.congr (fun _ _ ha hb=>Xa Z8 ha hb)) (.cons ((Zn 124 Ja9).1.congr (fun _ _ ha hb=>Xa Qi ha hb)) (.cons ((Zn 38 X8).1.congr (fun _ _ ha hb=>Xa Zk ha hb)) (.cons ((Zn 33 V9).1.congr (fun _ _ ha hb=>Xa Yp ha hb)) (.cons ((Zn 61 Ja7).1.congr (fun _ _ ha hb=>Xa V2 ha hb)) (.cons ((Zn 60 Nf).1.congr (fun _ _ ha hb=>Xa Kv ha hb)) (.cons ((Zn 43 Jbc).2.congr (fun _ _ ha hb=>Qk V5 ha hb)) (.cons ((Zn 45 Fp).2.congr (fun _ _ ha hb=>Qk Kn ha hb)) (.cons ((Zn 42 G5).2.congr (fun _ _ ha hb=>Qk Kh ha hb)) (.cons ((Zn 37 Jbd).2.congr (fun _ _ ha hb=>Qk Z8 ha hb)) (.cons ((Zn 124 Ja9).2.congr (fun _ _ ha hb=>Qk Qi ha hb)) (.cons ((Zn 38 X8).2.congr (fun _ _ ha hb=>Qk Zk ha hb)) (.cons ((Zn 33 V9).2.congr (fun _ _ ha hb=>Qk Yp ha hb)) (.cons ((Zn 61 Ja7).2.congr (fun _ _ ha hb=>Qk V2 ha hb)) (.cons ((Zn 60 Nf).2.congr (fun _ _ ha hb=>Qk Kv ha hb)) (.cons two_6.1 (.cons (two_rev.congr (fun _ _ _ hb=>Jn8 hb)) (.cons two_6.2.1 (.cons two_6.2.2.1 (.cons hcat (.cons two_6.2.2.2.1 (.cons two_6.2.2.2.2.1 (.cons two_6.2.2.2.2.2 (.nil))))))))))))))))))))))))))
theorem J3f(hcat:TwoR ⟨#[99,97,116]⟩ catP)(h:t.data.toList ∈ tab2.map (·.1)):TwoR t (f2A t):=by
 obtain⟨c,b,e,f⟩:=Xn (d:=fun a _=>(a,0)) h;have:=(J1j hcat).of c b;simp_all[f2A]
end Go.Proofs.YtjobgpahajhbnaaGreatDoor
