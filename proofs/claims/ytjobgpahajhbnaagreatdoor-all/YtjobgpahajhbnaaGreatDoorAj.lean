import Derived.Test.YtjobgpahajhbnaaGreatDoorAd
namespace Go.Proofs.YtjobgpahajhbnaaGreatDoor
open Go.RowKit Go.Proofs Go.Maps Go.Proofs.Tryz
attribute [local go_sem ↓] Go.wp_at_zero Go.wp_at_succ
set_option linter.all false
set_option maxHeartbeats 6000000
set_option maxRecDepth 20000
variable {B i n:Nat} {Q:Exit->Act->World->Prop} {a:Act} {c zz:Int} {f:Int->Int->Int × Int} {o:Oper} {ops:Array Oper} {v:Value} {w w':World} {xs:List Int}
theorem Jfo(x)(n:Nat):x.tmod (n:Int) % (n:Int)=x % (n:Int):=by
 rw[Int.tmod_def,Int.sub_mul_emod_self_left]
theorem J1d{md:Nat}{y:Int}(hmd:md<n):(((md:Int)+y.tmod n).tmod n+n).tmod n=((((md:Int)+y) % n).toNat:Int)/\((((md:Int)+y) % n).toNat:Nat)<n:=by
 have a:(0:Int)<(n:Int):=by omega
 have:-(n:Int)<((md:Int)+y.tmod n).tmod n:=by
  have:=Pc ((md:Int)+y.tmod n) a;omega
 have c:=Hp ((md:Int)+y) (b:=(n:Int)) (by omega);have:=Ms ((md:Int)+y) a;refine⟨?_,by omega⟩;rw[ZE (by omega),Int.add_emod_right,Jfo,Int.toNat_of_nonneg c,Int.add_emod,Jfo,<-Int.add_emod]
def Gi(n:Nat)(y:Int)(back:Bool)(i:Nat):Nat:=i-i % n+(if back=true then n-1-i % n else(((i % n:Nat):Int)+y) % (n:Int)|>.toNat)
def Gr(a:Arr)(y:Int)(back:Bool):Arr:=⟨a.shape,(List.range a.cells.length).map fun i=>a.cells.getD (Gi (Ve a.shape) y back i) 0⟩
theorem Jft{a:Arr}(h:a.ok):∃K,a.cells.length=K*Ve a.shape:=by
 unfold Ve;by_cases b:a.shape.length=0
 .rw [FY b];exact⟨a.cells.length,by omega⟩
 rw[FU b];exact⟨_,K7 h b⟩
theorem Jo4{K k:Nat}(hi:i<K*n)(hk:k<n):i-i % n+k<K*n:=by
 have a:i-i % n=n*(i / n):=by have:=Ho i n;omega
 have b:=JF (by rw[ZF];exact hi);rw[a];have c:n*(i / n+1)<=n*K:=Hk _ b;rw[Nat.mul_add,MA]at c;rw[ZF K n];omega
theorem Jf0(P)(W)(hP:∀b,W.1.size<=b->P b)(v)(a)(y)(h:IsArr P W v a)(hok:a.ok):
 Calls prog 124 #[v,G y,.bool true] W (RVal P W (Gr a y true)):=by
 have w:=h;obtain⟨e,d,sc,l,c,j,rfl,H,al⟩:=h;have s:=(Jb w).1;have K:c<=200:=by rw[s];exact hok.few
 have T:=Bx.n2 W (aM e d sc l c j) aG 133 133;have B:=O (Vl (P:=P) _ e d sc l c j a (H.below T.below) hok.rank);have X:=(T.alloc (by simp) (aM e d sc l c j) 133).alloc (by simp) [E e d sc,aH] 133;obtain⟨af,ak⟩:=Jft hok;have aw:Ve a.shape<=200:=by
  unfold Ve;split
  .omega
  rename_i h0;rw[<-Jbf h0];exact hok.lens _ (ND _)
 have D:Hid (Gr a y true=⟨a.shape,(List.range a.cells.length).map fun i=>a.cells.getD (Gi (Ve a.shape) y true i) 0⟩):=O rfl;generalize hn:Ve a.shape=n at B ak aw D;obtain⟨g,L⟩:=nm ((fun i=>a.cells.getD (Gi n y true i) 0):Nat->Int);have aY:=O L;have a5:Hid (Gr a y true=⟨a.shape,(List.range c).map g⟩):=O (by rw[D,<-L,s]);have r:Hid (c=af*n):=O (by omega);have aV:=O H;have aW:=O al;clear T w H al hok ak hn L D;change Hid _ at hP s X;go_enter func124,ntmps124;go_wp2_with (go_at_call 164;refine aQ B ?_);obtain⟨bg,Y⟩:=nm ((((W.alloc (.cells (aL e d sc l c j) 133)).alloc (.cells aF 133)).alloc (.cells (aL e d sc l c j) 133)).alloc (.cells #[E e d sc,aH] 133));have ax:Bx W bg [(aM e d sc l c j),aG,(aM e d sc l c j),[E e d sc,aH]]:=Y▸I X;rw[Y];clear Y X B;change Hid _ at ax;go_loopw [9] (fun aa wr=>∃i:Nat,aa=G i/\i<=c/\∃v,Bx W wr [(aM e d sc l c j),aG,(aM e d sc l c j),[E e d sc,v]]/\OwnL (W.1.size+4) wr v ((List.range i).map g)) (fun aa _=>c-(intOf aa).toNat)
 .exact ⟨0,rfl,by omega,_,ax,OwnL.nil _ _⟩
 obtain⟨i,rfl,N,v,f,z⟩:=hrel;have A:=O f;have C:=O z;have bd:=f.a1;have az:=f.b0;have aU:=f.b1;have a7:=f.B0;have a8:=f.B1;have be:=f.d0;have ay:=f.d1;have aj:=f.D1;have ba:W.1.size+4<=wr.1.size:=f.lt;have F:=aW.below f.below;by_cases Q:i<c
 .have bb:0<n:=by
   have:=I r;rcases ZB n with h|h
   .rw [h]at this;omega
   exact h
  have au:i % n<n:=YR _ bb;have av:i % n<=i:=Nat.mod_le _ _;have m:g i=a.cells.getD (Gi n y true i) 0:=by rw[<-aY]
  have ap:i<af*n:=by have:=I r;omega
  unfold Gi at m;have bf:(i:Int).tmod (n:Int)=((i % n:Nat):Int):=by rw[ZE (by omega)];rfl
  have bo:¬ n=0:=by omega
  have bp:((n:Int)== 0)=false:=by simp;omega
  rw[FY rfl]at m;have u:n-1-i % n<n:=by omega
  have o:=Jo4 ap u;generalize hmd':(i % n)=md at au av bf m o u;generalize hkk':n-1-md=kk at m o u;have ag:Hid (wrap64 ((n:Int)-1)=((n-1:Nat):Int)):=O (by unfold wrap64;omega);generalize hn1:n-1=n1 at ag hkk';have a6:Hid (wrap64 ((n1:Int)-(md:Int))=(kk:Int)):=O (by unfold wrap64;omega);generalize hlo:i-md=lo at m o;generalize hpp:lo+kk=p at m o;have S:p<a.cells.length:=by have:=I r;have:=I s;omega
  have bc:p<c:=by have:=I r;omega
  obtain⟨b,bq,rfl,bl,am,-⟩:=F.at (k:=p) S;have ao:a.cells[p]=g i:=by rw[m,NC,FX S];rfl
  rw[ao]at am;have ah:Hid (wrap64 ((i:Int)-(md:Int))=(lo:Int)):=O (by unfold wrap64;omega);have ai:Hid (wrap64 ((lo:Int)+(kk:Int))=(p:Int)):=O (by unfold wrap64;omega);generalize hx:g i=x at am;have ae:Hid ((List.range (i+1)).map g=(List.range i).map g++[x]):=O (by rw[ZZ,NU,<-hx];rfl);have bh:(i:Int)<(c:Int):=by omega
  have bE:(0:Int)<=(p:Int):=by omega
  have bG:(p:Int)<(c:Int):=by omega
  have ac:Hid (((List.range i).map g).length<=1000):=O (by simp;omega);generalize hys:(List.range i).map g=ys at C ac ae;have aZ:=O N;have a4:=O Q;have aX:=O K;have br:=I ag;have bt:=I a6;have bu:=I ah;have bw:=I ai;have bv:=(ZW _).trans ah;have bx:=(ZW _).trans ai;clear f z F hx hys ao S bc m o hlo hpp au av ap hmd' u hkk' hn1 aw K N Q az aU a7 a8 be;have ar:W.1.size+1+1+1<W.1.size+4:=by omega
  have bm:W.1.size+1+1+1<wr.1.size:=by omega
  have bn:W.1.size<wr.1.size:=by omega
  go_wp2_with fail;go_region_law (refine Z3 rfl _ _ rfl rfl (C.below aS.drew) ac ba x rfl rfl ?_;intro bz bD R t;obtain⟨bB,n4,bA,rfl⟩:=R.sl;have ad:=O (Xv 3 (A.next aS.drew) rfl R t);have bi:=V t.bel ar ay;have bj:=bF t.bel ar aj;clear R t)
  all_goals
   clear ay aj bd;have N:=I aZ;have Q:=I a4;have K:=I aX;go_wp2_with fail;go_roundw
   .exact ⟨i+1,by go_num,by omega,_,ad.1,by rw[ae];exact ad.2⟩
   simp[intOf];omega
 have aq:i=c:=by omega
 have bh:¬ (i:Int)<(c:Int):=by omega
 obtain⟨ab,Z,vc,rfl⟩:=z.sl;clear f z F;change Hid _ at aq;go_wp2_with fail;have a9:IsArr (OffB W.1.size 4 P) wr (aK e d sc ab Z vc) ⟨a.shape,(List.range c).map g⟩:=⟨_,_,_,_,_,_,rfl,(aV.imp (fun b h w=>⟨h,NN w⟩)).below A.below,by rw[<-aq];exact C.nums.imp (fun b h _=>OffB.new hP h.1)⟩;have an:=Jl (q:=1) (k:=4) (u0:=E e d sc) (u1:=E ab Z vc) A.below (by decide) a9;refine FR (v:=aK e d sc ab Z vc) (by simp[results,results124,go_sem,az,aU]) rfl ?_;rw[a5];exact⟨_,_,_,_,_,_,rfl,an.1,an.2⟩
theorem Jl6(P)(W)(hP:∀b,W.1.size<=b->P b)(v)(a)(y)(h:IsArr P W v a)(hok:a.ok):
 Calls prog 124 #[v,G y,.bool false] W (RVal P W (Gr a y false)):=by
 have B:=h;obtain⟨e,d,sc,l,c,j,rfl,N,aq⟩:=h;have w:=(Jb B).1;have Q:c<=200:=by rw[w];exact hok.few
 have aa:=Bx.n2 W (aM e d sc l c j) aG 133 133;have F:=O (Vl (P:=P) _ e d sc l c j a (N.below aa.below) hok.rank);have ab:=(aa.alloc (by simp) (aM e d sc l c j) 133).alloc (by simp) [E e d sc,aH] 133;obtain⟨al,ap⟩:=Jft hok;have aU:Ve a.shape<=200:=by
  unfold Ve;split
  .omega
  rename_i h0;rw[<-Jbf h0];exact hok.lens _ (ND _)
 have K:Hid (Gr a y false=⟨a.shape,(List.range a.cells.length).map fun i=>a.cells.getD (Gi (Ve a.shape) y false i) 0⟩):=O rfl;generalize hn:Ve a.shape=n at F ap aU K;obtain⟨g,R⟩:=nm ((fun i=>a.cells.getD (Gi n y false i) 0):Nat->Int);have a8:=O R;have bb:Hid (Gr a y false=⟨a.shape,(List.range c).map g⟩):=O (by rw[K,<-R,w]);have t:Hid (c=al*n):=O (by omega);have a5:=O N;have a6:=O aq;clear aa B N aq hok ap hn R K;change Hid _ at hP w ab;go_enter func124,ntmps124;go_wp2_with (go_at_call 164;refine aQ F ?_);obtain⟨bo,ae⟩:=nm ((((W.alloc (.cells (aL e d sc l c j) 133)).alloc (.cells aF 133)).alloc (.cells (aL e d sc l c j) 133)).alloc (.cells #[E e d sc,aH] 133));have aV:Bx W bo [(aM e d sc l c j),aG,(aM e d sc l c j),[E e d sc,aH]]:=ae▸I ab;rw[ae];clear ae ab F;change Hid _ at aV;go_loopw [9] (fun ag wr=>∃i:Nat,ag=G i/\i<=c/\∃v,Bx W wr [(aM e d sc l c j),aG,(aM e d sc l c j),[E e d sc,v]]/\OwnL (W.1.size+4) wr v ((List.range i).map g)) (fun ag _=>c-(intOf ag).toNat)
 .exact ⟨0,rfl,by omega,_,aV,OwnL.nil _ _⟩
 obtain⟨i,rfl,S,v,f,C⟩:=hrel;have D:=O f;have H:=O C;have bl:=f.a1;have aZ:=f.b0;have a4:=f.b1;have be:=f.B0;have bf:=f.B1;have bm:=f.d0;have aY:=f.d1;have ao:=f.D1;have bh:W.1.size+4<=wr.1.size:=f.lt;have L:=a6.below f.below;by_cases T:i<c
 .have bi:0<n:=by
   have:=I t;rcases ZB n with h|h
   .rw [h]at this;omega
   exact h
  have X:i % n<n:=YR _ bi;have az:i % n<=i:=Nat.mod_le _ _;have o:g i=a.cells.getD (Gi n y false i) 0:=by rw[<-a8]
  have aw:i<al*n:=by have:=I t;omega
  unfold Gi at o;have bn:(i:Int).tmod (n:Int)=((i % n:Nat):Int):=by rw[ZE (by omega)];rfl
  have bw:¬ n=0:=by omega
  have bx:((n:Int)== 0)=false:=by simp;omega
  rw[FU (by decide)]at o;obtain⟨r,A⟩:=J1d (y:=y) X;have s:=Jo4 aw A;have aW:-(n:Int)<y.tmod n:=Pc y (by omega);have aX:y.tmod n<(n:Int):=Int.tmod_lt_of_pos y (by omega);generalize hmd':(i % n)=md at X az bn o s A r;have ac:-(n:Int)<((md:Int)+y.tmod n).tmod n:=Pc _ (by omega);have ad:((md:Int)+y.tmod n).tmod n<(n:Int):=Int.tmod_lt_of_pos _ (by omega);generalize hkk':((((md:Int)+y) % n).toNat)=kk at o s A r;generalize hm:y.tmod n=m at r aW aX ac ad;generalize hu:(((md:Int)+m).tmod n)=u at r ac ad;have bc:Hid (wrap64 ((md:Int)+m)=(md:Int)+m):=O (by unfold wrap64;omega);have bd:Hid (wrap64 (u+(n:Int))=u+(n:Int)):=O (by unfold wrap64;omega);generalize hlo:i-md=lo at o s;generalize hpp:lo+kk=p at o s;have Z:p<a.cells.length:=by have:=I t;have:=I w;omega
  have bj:p<c:=by have:=I t;omega
  obtain⟨b,bz,rfl,bt,ar,-⟩:=L.at (k:=p) Z;have av:a.cells[p]=g i:=by rw[o,NC,FX Z];rfl
  rw[av]at ar;have am:Hid (wrap64 ((i:Int)-(md:Int))=(lo:Int)):=O (by unfold wrap64;omega);have an:Hid (wrap64 ((lo:Int)+(kk:Int))=(p:Int)):=O (by unfold wrap64;omega);generalize hx:g i=x at ar;have ak:Hid ((List.range (i+1)).map g=(List.range i).map g++[x]):=O (by rw[ZZ,NU,<-hx];rfl);have bp:(i:Int)<(c:Int):=by omega
  have bP:(0:Int)<=(p:Int):=by omega
  have bQ:(p:Int)<(c:Int):=by omega
  have ai:Hid (((List.range i).map g).length<=1000):=O (by simp;omega);generalize hys:(List.range i).map g=ys at H ai ak;have a9:=O S;have ba:=O T;have a7:=O Q;have bA:=I bc;have bB:=I bd;have bD:=I am;have bG:=I an;have bE:=(ZW _).trans am;have bH:=(ZW _).trans an;change Hid _ at r hu hm;have bI:=I r;have bJ:=I hm;have bK:=I hu;clear f C L hx hys av Z bj o s hlo hpp X az aw hmd' A hkk' aU Q aW aX ac ad S T aZ a4 be bf bm;have ay:W.1.size+1+1+1<W.1.size+4:=by omega
  have bu:W.1.size+1+1+1<wr.1.size:=by omega
  have bv:W.1.size<wr.1.size:=by omega
  go_wp2_with fail;go_region_law (refine Z3 rfl _ _ rfl rfl (H.below aS.drew) ai bh x rfl rfl ?_;intro bL bO Y z;obtain⟨bN,n4,bM,rfl⟩:=Y.sl;have aj:=O (Xv 3 (D.next aS.drew) rfl Y z);have bq:=V z.bel ay aY;have br:=bF z.bel ay ao;clear Y z)
  all_goals
   clear aY ao bl;have S:=I a9;have T:=I ba;have Q:=I a7;go_wp2_with fail;go_roundw
   .exact ⟨i+1,by go_num,by omega,_,aj.1,by rw[ak];exact aj.2⟩
   simp[intOf];omega
 have ax:i=c:=by omega
 have bp:¬ (i:Int)<(c:Int):=by omega
 obtain⟨ah,af,vc,rfl⟩:=C.sl;clear f C L;change Hid _ at ax;go_wp2_with fail;have bg:IsArr (OffB W.1.size 4 P) wr (aK e d sc ah af vc) ⟨a.shape,(List.range c).map g⟩:=⟨_,_,_,_,_,_,rfl,(a5.imp (fun b h B=>⟨h,NN B⟩)).below D.below,by rw[<-ax];exact H.nums.imp (fun b h _=>OffB.new hP h.1)⟩;have au:=Jl (q:=1) (k:=4) (u0:=E e d sc) (u1:=E ah af vc) D.below (by decide) bg;refine FR (v:=aK e d sc ah af vc) (by simp[results,results124,go_sem,aZ,a4]) rfl ?_;rw[bb];exact⟨_,_,_,_,_,_,rfl,au.1,au.2⟩
def lenOf:Value->Nat
 | .slice _ n _=>n
 | _=>0
def OwnJ(B:Nat)(w:World)(v:Value)(xs:List Int):Prop:=w.ownsRow B 3 1 v xs.length (xs.map (Value.int .i64))
theorem OwnJ.nil(B)(w):OwnJ B w aH []:=NW _ _ _ _
theorem OwnJ.below(h:OwnJ B w v xs)(hb:J w w'):OwnJ B w' v xs:=Jf h hb
theorem OwnJ.nums(h:OwnJ B w v xs):Nums (fun b=>B<=b/\b<w.1.size) w v xs:=(Jv (P:=fun b=>B<=b) h (fun _ h=>h)).imp (fun _ h hl=>⟨h,hl⟩)
theorem OwnJ.shape(h:OwnJ B w v xs):∃vo vc,v=E vo xs.length vc:=by
 obtain⟨a,b,c,_⟩:=h.nums;simp_all
theorem OwnJ.sl(h:OwnJ B w v xs):∃vo n vc,v=E vo n vc:=by
 obtain⟨vo,vc,a⟩:=h.shape;simp_all
theorem OwnJ.set{g c:Nat}(h:OwnJ B w v xs)(hg:g<B)(u):OwnJ B (w.setCell (U g c) u) v xs:=ownsRow_setCell_below h (a:=U g c) hg u
theorem Jyh{o:Obj}{e:TypeId}{xs:List Value}(hown:w.ownsRow B e 1 v n xs)(hB:B<=w.1.size)(hg:(w.alloc o).grownBy w' v.ownBlock):Below B w w' :=
 (aS.alloc hB o).grown hg (by simp;omega) (fun q hq=>(hown.lt q hq).1)
theorem J3s(h:OwnJ B w v xs)(hx:xs.length<=1000)(hB:B<=w.1.size)(x):
 ∃v' w',(Builtin.append_ #[37,37] 37 #[v,aI w.1.size 0 1 1]).run prog (w.alloc (.cells #[G x] 3))=.ok v' w'/\OwnJ B w' v' (xs++[x])/\Below B w w':=by
 obtain⟨f,b,c,d,e⟩:=NY GS;obtain⟨v',w',j,k,l,_,m⟩:=M0 (P:=prog) (w.alloc (.cells #[G x] 3)) B 37 37 3 f (G 0) 1 8 JH b c d e rfl (by decide) v _ _ (MO h _) (adP0 w) 1 1 [G x] rfl (by intro g i a;match g,a with|0,a=>simp at a;subst a;exact alA) (by intro i a;simp at a;subst a;rfl) (by grind[maxLen]) (by omega) (by simp;omega);grind[OwnJ,Jyh]
theorem Jfk{rest:List Oper}(hgd:o.guard=none)(s x)(ho:o.op=.call { callee:=.builtin .append,args:=#[s,x],argTypes:=#[37,37] })
 (h:OwnJ B w v xs) (hx:xs.length<=1000) (hB:B<=w.1.size) (y) (hs:a.eval s=v) (hv:a.eval x=aI w.1.size 0 1 1)
 (hk:∀v' w',OwnJ B w' v' (xs++[y])->Below B w w'->wpList prog ops Q rest (a.put o.dst v') w'):wpList prog ops Q (o::rest) a (w.alloc (.cells #[G y] 3)):=by
 obtain⟨g,c,d,e,f⟩:=NY GS;refine JE _ hgd s x 37 ho B 3 g (G 0) 1 8 JH c d e f rfl (by decide) v _ _ hs (MO h _) (adP0 w) 1 1 [G y] hv rfl (by intro i j b;match i,b with|0,b=>simp at b;subst b;exact alA) (by intro j b;simp at b;subst b;rfl) (by grind[maxLen]) (by omega) (by simp;omega) ?_;intro v' w' i b _ j;exact hk v' w' (by simp[OwnJ];omega) (Jyh h hB b)
theorem Nm{K:Act->World->Prop}{Ez:Prop}(hg:o.guard=none)(s x)(hop:o.op=Op.call { callee:=Callee.builtin Builtin.append,args:=#[s,x],argTypes:=#[37,37] })(hty:o.type=37)
 (h:OwnJ B w v xs) (hx:xs.length<=1000) (hB:B<=w.1.size) (y) (hs:a.eval s=v) (hv:a.eval x=aI w.1.size 0 1 1)
 (hK:∀v' w',OwnJ B w' v' (xs++[y])->Below B w w'->K (a.put o.dst v') w'):if Region.wanted o (yielded ops a.tmps)=true then Oper.wp prog o a (w.alloc (.cells #[G y] 3)) K Q else Ez:=by
 have e:Region.wanted o (yielded ops a.tmps)=true:=by simp[Region.wanted,hg]
 rw[FY e];obtain⟨v',w',d,b,c⟩:=J3s h hx hB y;unfold Oper.wp;simp[execOp,hop,hty,resolve,invoke,builtin,hs,hv,d,Result.andThen];exact hK v' w' b c
theorem Ja6{W:World}{v':Value}{l:List (List Value)}(q j)(hbx:Bx W w l)(hq:(l[q]?.bind (·[j]?))=some v)(hb:Below (W.1.size+l.length) w w'):Bx W (w'.setCell (U (W.1.size+q) j) v') (l.modify q (·.set j v')):=(hbx.keep hb).set q j v v' hq
theorem Jpc(P)(W)(hP:∀b,W.1.size<=b->P b)(v)(a)(h:IsArr P W v a)(hok:a.ok):
 Calls prog 133 #[v] W (RRes P W (Gm a)):=by
 have s:=h;obtain⟨A,u,sc,ah,ag,x,rfl,m,o⟩:=h;have f:=Je m;simp at f;obtain⟨t,e⟩:=nm (Gm a);rw[e];have p:=Bx.n2 W (aM A u sc ah ag x) aG 133 133;have r:=p.below;by_cases c:a.shape=[]
 .obtain ⟨w,b,aa,j,rfl,rfl,az,ak,al,aW⟩:=Yv o hok c;have L:u=0:=by rw[f,c];rfl
  subst L;have aU:b<W.1.size+1:=by omega
  have aV:b<W.1.size+1+1:=by omega
  by_cases z:w<0
  .have g:t=(eArr,7):=by rw[<-e];unfold Gm;rw[FU (by simp[c]),j];simp[z]
   subst g;clear e m o hP hok j f c s p;go_enter func133,ntmps133;go_wp2;refine FR (by simp[results,results133,go_sem];try rfl) rfl ?_;exact⟨_,_,_,_,_,_,rfl,Jt _ _,r⟩
  by_cases Q:64<w
  .have g:t=(eArr,9):=by rw[<-e];unfold Gm;rw[FU (by simp[c]),j];simp[z,Q]
   subst g;clear e m o hP hok j f c s p;go_enter func133,ntmps133;go_wp2;refine FR (by simp[results,results133,go_sem];try rfl) rfl ?_;exact⟨_,_,_,_,_,_,rfl,Jt _ _,r⟩
  obtain⟨n,rfl⟩:∃n:Nat,w=n:=⟨w.toNat,by omega⟩;have aZ:n<=64:=by omega
  have g:t=(⟨[n],(List.range n).map Int.ofNat⟩,0):=by rw[<-e];unfold Gm;rw[FU (by simp[c]),j];simp[z,Q]
  clear e m o hok j f c s r;go_enter func133,ntmps133;go_wp2_with fail;generalize hwS:((W.alloc (.cells #[E A 0 sc,aI b aa 1 x] 133)).alloc (.cells aF 133))=wS at p⊢;clear hwS;go_loopw [4] (fun B wr=>∃k:Nat,k<=n/\OwnL (W.1.size+2) wr B ((List.range k).map Int.ofNat)/\Bx W wr [[E A 0 sc,aI b aa 1 x],aG]) (fun B _=>n-lenOf B)
  .grind [OwnL.nil]
  obtain⟨k,aX,i,d⟩:=hrel;obtain⟨aq,vc,rfl⟩:=i.shape;have Y:((List.range k).map Int.ofNat).length=k:=by simp
  rw[Y]at i⊢;have D:=i;have a4:=d.a1;have a5:=V d.below ak al;have an:W.1.size+2<=wr.1.size:=d.lt;clear Y;by_cases aY:k<n
  .have ar:(k:Int)<n:=by omega
   have C:((List.range k).map Int.ofNat).length<=1000:=by simp;omega
   have F:(List.range (k+1)).map Int.ofNat=(List.range k).map Int.ofNat++[(k:Int)]:=by rw[ZZ,NU];rfl
   generalize hys:(List.range k).map Int.ofNat=ys at D C F;clear i hys;go_wp2_with (at_builtin;refine Ju rfl _ _ rfl D C an (k:Int) rfl rfl ?_);intro a6 ba Z S;obtain⟨a8,a7,rfl⟩:=Z.shape;have X:(ys++[(k:Int)]).length=k+1:=by rw[<-F];simp
   rw[X]at Z⊢;have aw:=d.keep S.bel;clear S X;go_wp2;go_roundw
   .grind
   simp[lenOf];omega
  have ar:¬ (k:Int)<n:=by omega
  have T:k=n:=by omega
  have ao:=d.b0;have ap:=d.b1;have ai:=d.B0;have aj:=d.B1;have af:=Kj (OffB W.1.size 2 P) wr (fun b h=>OffB.new hP (by omega)) (E aq k vc) _ (i.nums.imp (fun b h _=>OffB.new hP h.1));clear i;change Hid _ at T;go_wp2_with (go_at_call 131;refine af.mono ?_;rintro ax a9 ⟨ab,ac,ad,c1,H,K,rfl,N,R⟩;have ae:=N;have l:=d.next R;have au:=l.b0;have av:=l.b1;have bb:=l.B0;have bc:=l.B1;clear N R ao ap ai aj);have y:=Jl (q:=1) (k:=2) (u0:=E ab ac ad) (u1:=E c1 H K) l.below (by decide) ae;refine FR (v:=.tuple #[aK ab ac ad c1 H K,G 0]) (by simp[results,results133,go_sem,au,av]) rfl ?_;rw[g,<-T];have am:((List.range k).map Int.ofNat).length=k:=by simp
  rw[am]at y;exact⟨_,_,_,_,_,_,rfl,y.1,y.2⟩
 have g:t=(eArr,5):=by rw[<-e];unfold Gm;rw[FY c]
 subst g;have L:((u:Int)== 0)=false:=by
  rw[f];simp[c]
 have ay:((u:Int) != 0)=true:=by
  rw[f];simp[c]
 clear e m o hP hok f c s p;go_enter func133,ntmps133;go_wp2;refine FR (by simp[results,results133,go_sem];try rfl) rfl ?_;exact⟨_,_,_,_,_,_,rfl,Jt _ _,r⟩
def cwG(f:Int->Int->Int × Int)(xs ys:List Int)(i:Nat):Int × Int:=f (xs.getD (i % xs.length) 0) (ys.getD (i % ys.length) 0)
def cwR(f:Int->Int->Int × Int)(a b:Arr):Arr × Int :=
 if a.shape.length=0 then Zz (cwG f a.cells b.cells) b.shape b.cells.length
 else if b.shape.length=0 then Zz (cwG f a.cells b.cells) a.shape a.cells.length
 else if a.shape.length≠b.shape.length then(eArr,5)else if a.shape.map Int.ofNat≠b.shape.map Int.ofNat then(eArr,6)
 else Zz (cwG f a.cells b.cells) a.shape a.cells.length
theorem Gp{l r:List Nat}(h:l.map Int.ofNat=r.map Int.ofNat):l=r:=by
 have:=NM (List.map Int.toNat) h;simpa[Function.comp_def]using this
theorem Jyj(h:0<xs.length):∃h2:i % xs.length<xs.length,xs[i % xs.length]=xs.getD (i % xs.length) 0:=⟨YR _ h,by rw[NC,FX (YR _ h)];rfl⟩
theorem J0p(hc:SgC c f zz)(P)(W)(hP:∀b,W.1.size<=b->P b)(va vb)(a b)(ha:IsArr P W va a)(hb:IsArr P W vb b)(hoa:a.ok)(hob:b.ok)
 (hh:a.shape.length=0\/a.shape.length≠0/\(b.shape.length=0\/b.shape.length≠0/\a.shape=b.shape)):
 Calls prog 122 #[.int .u8 c,va,vb] W (RRes P W (cwR f a b)):=by
 have bE:=ha;have bG:=hb;obtain⟨ai,h,sc,bo,r,bm,rfl,av,K⟩:=ha;obtain⟨aj,l,ah,bp,s,bn,rfl,aw,L⟩:=hb;obtain⟨u,bL⟩:=Jb bE;obtain⟨w,bM⟩:=Jb bG;have aZ:∀{d:Arr},d.ok->d.shape.length=0->d.cells.length=1:=fun{d} j e=>by
  have t:=j.size;rw[ZV.1 e]at t;simpa[Jd]using t
 obtain⟨m,C⟩:=nm (cwG f a.cells b.cells);obtain⟨n,y,z,A,ab,bt,aX,bB,bK,b8⟩:∃(n:Nat) (y:Option Addr) (z A:Nat) (ab:List Nat),cwR f a b=Zz m ab n/\n<=200/\(0<n->0<r/\0<s)/\Nums P W (.slice y z A) (ab.map Int.ofNat)/\(h=0/\n=s/\Value.slice y z A=.slice aj l ah\/h≠0/\n=r/\Value.slice y z A=.slice ai h sc/\(l=0\/l≠0/\a.shape=b.shape)):=by
  unfold cwR;rcases hh with e|⟨t,e⟩
  .exact ⟨s,_,_,_,b.shape,by rw[FY e,C,w],w▸hob.few,fun j=>⟨by rw[u,aZ hoa e];decide,j⟩,aw,NN ⟨by omega,rfl,rfl⟩⟩
  refine⟨r,_,_,_,a.shape,?_,u▸hoa.few,fun j=>⟨j,?_⟩,av,NO ⟨by omega,rfl,rfl,?_⟩⟩
  .rcases e with e|⟨o,B⟩
   .rw [FU t,FY e,C,u]
   rw[FU t,FU o,FU (by simp[B]),FU (by simp[B]),C,u]
  .rcases e with e|⟨o,B⟩
   .rw [w,aZ hob e];decide
   rw[w,hob.size,<-B,<-hoa.size];omega
  rcases e with e|⟨o,B⟩
  .exact NN (by omega)
  exact NO ⟨by omega,B⟩
 have F:=O (Bx.n4 W [.slice ai h sc,.slice bo r bm] [.slice aj l ah,.slice bp s bn] aG [.slice y z A,aH] 133 133 133 133);have aq:=O (fun w' (bu:J W w')=>Jbz (P:=P) (Q:=P) w' ai h sc aj l ah _ _ (av.below bu) (aw.below bu) (by simp;have:=hoa.rank;omega) (by simp;have:=hob.rank;omega));have b5:=O bK;have bY:=O K;have bZ:=O L;rw[bt];have bJ:a.shape=b.shape->h=l:=fun j=>by rw[bL,bM,j]
 clear bE bG av K aw L hoa hob aZ hh bt bK bL bM;change Hid _ at hP w u aX bB C;obtain⟨B1,br⟩:=nm (W.1.size+4);have an:Hid (W.1.size+4<=B1):=O (by omega);change Hid _ at br;obtain⟨e,ae,ag⟩| ⟨e,ae,ag,t|⟨t,o⟩⟩:=b8
 all_goals
  rw[ag]at F;first|(have bP:((h:Int)== 0)=true:=by simp;omega)| (have bP:((h:Int)== 0)=false:=by simp;omega)
  first|(have bQ:(0:Int)<(h:Int):=by omega)| (have bQ:¬ (0:Int)<(h:Int):=by omega)
  try first|(have bR:(0:Int)<(l:Int):=by omega)| (have bR:¬ (0:Int)<(l:Int):=by omega)
  try
   have a8:=bJ o;have cd:((h:Int)== (l:Int))=true:=by simp[a8]
   have ce:((h:Int) != (l:Int))=false:=by simp[a8]
   have bD:decide (a.shape.map Int.ofNat=b.shape.map Int.ofNat)=true:=by simp[o]
   rw[bD]at aq;clear a8 o bD
  clear e bJ;change Hid _ at ag ae;try clear t
  go_enter func122,ntmps122;go_wp2_with fail;try
   refine aR (I aq _ F.below) fun cC bv=>?_;have F:=O ((I F).next bv);clear bv;go_wp2_with fail
  clear aq;try clear bP
  try clear bQ
  try clear bR
  try clear cd ce
  go_loopw [11] (fun a9 wr=>∃i:Nat,a9=G i/\i<=n/\Yc m i=0/\∃v,Bx W wr [[.slice ai h sc,.slice bo r bm],[.slice aj l ah,.slice bp s bn],aG,[.slice y z A,v]]/\OwnL B1 wr v (Yx m i)) (fun a9 _=>n-(intOf a9).toNat)
  .exact ⟨0,rfl,by omega,rfl,_,by rw[ag];exact F,OwnL.nil _ _⟩
  obtain⟨i,rfl,az,H,v,g,af⟩:=hrel;have aa:=O g;have ao:=O af;have cf:=g.a1;have cg:=g.b1;have X:=g.c0;have Y:=g.c1;have ar:=g.C0;have au:=g.C1;have ch:=g.d0;have ci:=g.d1;by_cases aV:i<n
  .obtain ⟨bz,bA⟩:=bB (by omega);have K:=I bY;have L:=I bZ;obtain⟨a4,bH⟩:=Jyj (xs:=a.cells) (i:=i) (by rw[<-u];exact bz);obtain⟨a6,bI⟩:=Jyj (xs:=b.cells) (i:=i) (by rw[<-w];exact bA);have x:f (a.cells.getD (i % a.cells.length) 0) (b.cells.getD (i % b.cells.length) 0)=m i:=by rw[<-C];rfl
   rw[<-bH,<-bI]at x;obtain⟨T,a5⟩:=nm (i % a.cells.length);obtain⟨q,a7⟩:=nm (i % b.cells.length);simp only[a5]at a4 x;simp only[a7]at a6 x;obtain⟨ct,cz,rfl,bw,ax,-⟩:=K.at (k:=T) a4;obtain⟨bl,bT,rfl,bx,ay,-⟩:=L.at (k:=q) a6;obtain⟨co,bN⟩:=nm a.cells[T];obtain⟨bb,bO⟩:=nm b.cells[q];rw[bN]at ax x;rw[bO]at ay x;have cj:=V g.below bw ax;have bh:Hid (∀k,(wr.drewN k).cell? (U bl (bT+q))=some (G bb)):=O (fun k=>V (Below.drewN g.below k) bx ay);have cm:(i:Int).tmod (r:Int)=(T:Int):=by rw[ZE (by omega),<-a5,<-u];rfl
   have bj:Hid ((i:Int).tmod (s:Int)=(q:Int)):=O (by rw[ZE (by omega),<-a7,<-w];rfl);have cb:¬ (r:Int)=0:=by omega
   have cc:¬ (s:Int)=0:=by omega
   generalize hgg:m i=gi at x;obtain⟨cs,ac⟩:=gi;have ap:=O (fun w'=>hc.pair co bb w');simp only[x]at ap;have ak:(i:Int)<(n:Int):=by omega
   rw[ae]at ak;have cp:(0:Int)<=(T:Int):=by omega
   have cq:(T:Int)<(r:Int):=by have:=I u;omega
   have cr:(0:Int)<=(q:Int):=by omega
   have al:(q:Int)<(s:Int):=by have:=I w;omega
   have bi:=O al;have bc:=O az;have bd:=O aV;have be:Hid (B1<=wr.1.size):=O (by have:=I br;have o:=g.lt;simp at o;omega);clear g af K L a4 a6 bH bI a5 a7 bw bx ax ay bN bO x bz bA az aV X Y ar au ch ci al C;change Hid _ at hgg H;go_wp2_with fail;go_quiet (fail);obtain⟨Z,D⟩:=nm (wr.drewN nq);have am:Hid (Bx W Z _):=O (D▸aa.drewN nq);have bg:Hid (OwnL B1 Z v (Yx m i)):=O (D▸ao.drewN nq);have bf:Hid (B1<=Z.1.size):=O (D▸I be);have ck:aB Z bl (bT+q) (G bb):=D▸I bh nq;rw[D];have cl:=am.b1;have cn:=I bj;have al:=I bi;clear D aa ao cf cg cj cm cp cq cb bh be ak;go_wp2_with fail;go_quiet (fail);obtain⟨ba,S⟩:=nm (Z.drewN nq);have p:Hid (Bx W ba _):=O (S▸am.drewN nq);have b3:Hid (OwnL B1 ba v (Yx m i)):=O (S▸bg.drewN nq);have ca:B1<=ba.1.size:=S▸I bf;rw[S];have X:=p.c0;have Y:=p.c1;have ar:=p.C0;have au:=p.C1;have bU:=p.d1;have bq:=p.D1;clear S am bg bf ck cl cn cr al cc bi bj;by_cases N:ac=0
   .subst N;have b2:Hid ((Yx m i).length<=1000):=O (by rw[Vw];have:=I bc;have:=I aX;omega);go_wp2_with (first|(go_at_call 162;refine aQ (I ap _) ?_)| (at_builtin;refine Ju rfl _ _ rfl b3 b2 ca cs rfl rfl ?_));intro cA cB aY ad;obtain⟨bX,n4,bV,rfl⟩:=aY.sl;have aW:W.1.size+1+1+1<B1:=by have:=I an;omega
    have b6:=O ((p.keep (ad.bel.mono an)).set 3 1 v (.slice bX n4 bV) rfl);have b4:=O (Qj (c:=1) aY aW (.slice bX n4 bV));have cu:=V ad.bel aW bU;have cv:=bF ad.bel aW bq;clear aY ad bU bq X Y ar au;have az:=I bc;have aV:=I bd;have cw:=I aX;go_wp2_with fail;go_roundw
    .exact ⟨i+1,by go_num,by omega,Vu H (by rw[hgg]),_,b6,by rw[Vv,hgg];exact b4⟩
    simp[intOf];omega
   have cx:(ac == 0)=false:=by simp[N]
   have cy:(ac != 0)=true:=by simp[N]
   go_wp2_with (go_at_call 162;refine aQ (I ap _) ?_);have R:=Jl (q:=2) (k:=4) (u0:=aH) (u1:=aH) p.below (by decide) (Jt (OffB W.1.size 4 P) _);refine FR (v:=.tuple #[.agg aF,G ac]) (by simp[results,results122,go_sem,X,Y]) rfl ?_;rw[Xs _ H (by rw[hgg];exact N) bd,hgg];exact⟨_,_,_,_,_,_,rfl,by simpa[N]using R.1,R.2⟩
  have aU:i=n:=by omega
  have ak:¬ (i:Int)<(n:Int):=by omega
  rw[ae]at ak;obtain⟨bW,bS,vc,rfl⟩:=af.sl;clear g af;change Hid _ at aU H;go_wp2_with fail;have b7:IsArr (OffB W.1.size 4 P) wr (.agg #[.slice y z A,.slice bW bS vc]) ⟨ab,Yx m n⟩:=⟨_,_,_,_,_,_,rfl,((b5.imp (fun b j b9=>⟨j,NN b9⟩)).below aa.below),by rw[<-aU];exact ao.nums.imp (fun b j _=>OffB.new hP (NE an j.1))⟩;have R:=Jl (q:=2) (k:=4) (u0:=.slice y z A) (u1:=.slice bW bS vc) aa.below (by decide) b7;rw[K6 _ (by have:=I H;rw[aU]at this;exact this)];exact FR (by simp[results,results122,go_sem,X,Y]) rfl ⟨_,_,_,_,_,_,rfl,R.1,R.2⟩
theorem J0o(_hc:SgC c f zz)(P)(W)(_hP:∀b,W.1.size<=b->P b)(va vb)(a b)(ha:IsArr P W va a)(hb:IsArr P W vb b)(_hoa:a.ok)(_hob:b.ok)(h1:a.shape.length≠0)(h2:b.shape.length≠0)(h3:a.shape.length≠b.shape.length):
 Calls prog 122 #[.int .u8 c,va,vb] W (RRes P W (cwR f a b)):=by
 have g:=ha;have h:=hb;obtain⟨j,d,sc,q,o,m,rfl,s,t⟩:=ha;obtain⟨C,e,B,r,p,n,rfl,u,w⟩:=hb;obtain⟨x,z⟩:=Jb g;obtain⟨y,A⟩:=Jb h;have i:=Bx.n4 W (aM j d sc q o m) (aM C e B r p n) aG [E j d sc,aH] 133 133 133 133;have l:=O i.below;have k:Hid (cwR f a b=(eArr,5)):=O (by unfold cwR;rw[FU h1,FU h2,FY h3]);have:((d:Int)== 0)=false:=by simp;omega
 have:(0:Int)<(d:Int):=by omega
 have:(0:Int)<(e:Int):=by omega
 have:((d:Int)== (e:Int))=false:=by simp;omega
 have:((d:Int) != (e:Int))=true:=by simp;omega
 clear i g h s t u w x y z A _hP _hoa _hob h1 h2 h3 _hc;go_enter func122,ntmps122;go_wp2_with fail;refine FR (v:=.tuple #[.agg aF,G 5]) (by simp[results,results122,go_sem]) rfl ?_;rw[k];exact⟨_,_,_,_,_,_,rfl,Jt _ _,l⟩
theorem Jsj(_hc:SgC c f zz)(P)(W)(_hP:∀b,W.1.size<=b->P b)(va vb)(a b)(ha:IsArr P W va a)(hb:IsArr P W vb b)(hoa:a.ok)(hob:b.ok)(h1:a.shape.length≠0)(h2:b.shape.length≠0)(h3:a.shape.length=b.shape.length)(h4:a.shape.map Int.ofNat≠b.shape.map Int.ofNat):
 Calls prog 122 #[.int .u8 c,va,vb] W (RRes P W (cwR f a b)):=by
 have t:=ha;have u:=hb;obtain⟨l,d,sc,F,C,A,rfl,m,K⟩:=ha;obtain⟨y,g,x,H,D,B,rfl,o,L⟩:=hb;obtain⟨N,S⟩:=Jb t;obtain⟨R,T⟩:=Jb u;have w:=Bx.n4 W (aM l d sc F C A) (aM y g x H D B) aG [E l d sc,aH] 133 133 133 133;have i:=O w;have z:Hid (cwR f a b=(eArr,6)):=O (by unfold cwR;rw[FU h1,FU h2,FU (by simp[h3]),FY h4]);have ab:((d:Int)== 0)=false:=by simp;omega
 have ac:(0:Int)<(d:Int):=by omega
 have ad:(0:Int)<(g:Int):=by omega
 have ae:((d:Int)== (g:Int))=true:=by simp;omega
 have af:((d:Int) != (g:Int))=false:=by simp;omega
 have j:=O (fun w' (n:J W w')=>Jbz (P:=P) (Q:=P) w' l d sc y g x _ _ (m.below n) (o.below n) (by simp;have:=hoa.rank;omega) (by simp;have:=hob.rank;omega));have r:decide (a.shape.map Int.ofNat=b.shape.map Int.ofNat)=false:=by simpa using h4
 rw[r]at j;clear w t u m K o L N R S T _hP hoa hob h1 h2 h3 _hc h4 r;go_enter func122,ntmps122;go_wp2_with fail;refine aR (I j _ i.below) fun h p=>?_;have e:=O ((I i).next p);have X:aB h (W.1.size+1+1) 0 aH:=(e.cell 2 0 _ rfl).1;have Y:aB h (W.1.size+1+1) 1 aH:=(e.cell 2 1 _ rfl).1;have Z:h.frozen? (U (W.1.size+1+1) 0)=false:=(e.cell 2 0 _ rfl).2;have aa:h.frozen? (U (W.1.size+1+1) 1)=false:=(e.cell 2 1 _ rfl).2;clear p i j;go_wp2_with fail;have s:=Jl (q:=2) (k:=4) (u0:=aH) (u1:=aH) e.below (by decide) (Jt (OffB W.1.size 4 P) _);refine FR (v:=.tuple #[.agg aF,G 6]) (by simp[results,results122,go_sem,X,Y]) rfl ?_;rw[z];exact⟨_,_,_,_,_,_,rfl,s.1,s.2⟩
theorem Jen(hc:SgC c f zz)(P)(W)(hP:∀b,W.1.size<=b->P b)(va vb)(a b)(ha:IsArr P W va a)(hb:IsArr P W vb b)(hoa:a.ok)(hob:b.ok):
 Calls prog 122 #[.int .u8 c,va,vb] W (RRes P W (cwR f a b)):=by
 by_cases d:a.shape.length=0
 .exact J0p hc P W hP va vb a b ha hb hoa hob (NN d)
 by_cases e:b.shape.length=0
 .exact J0p hc P W hP va vb a b ha hb hoa hob (NO ⟨d,NN e⟩)
 by_cases g:a.shape.length=b.shape.length
 .by_cases h:a.shape.map Int.ofNat=b.shape.map Int.ofNat
  .exact J0p hc P W hP va vb a b ha hb hoa hob (NO ⟨d,NO ⟨e,Gp h⟩⟩)
  exact Jsj hc P W hP va vb a b ha hb hoa hob d e g h
 exact J0o hc P W hP va vb a b ha hb hoa hob d e g
end Go.Proofs.YtjobgpahajhbnaaGreatDoor
