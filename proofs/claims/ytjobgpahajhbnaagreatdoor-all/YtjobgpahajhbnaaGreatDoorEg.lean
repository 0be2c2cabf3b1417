import Derived.Test.YtjobgpahajhbnaaGreatDoorEd
namespace Go.Proofs.YtjobgpahajhbnaaGreatDoor
open Go.RowKit Go.Proofs Go.Proofs.Tryz
attribute [local go_sem ↓] Go.wp_at_zero Go.wp_at_succ
set_option linter.all false
set_option maxRecDepth 20000
set_option maxHeartbeats 40000000
variable {W0 w w1 w2:World} {b:Nat}
theorem Jrq{B:Nat}:∀{x:Ex} {q:Option Addr},IsEx B w q x->∃a,q=some a
 | .num _,_,⟨_,_,h,_⟩=>⟨_,h⟩
 | .name _ _,_,⟨_,_,_,h,_⟩=>⟨_,h⟩
 | .one _ _ _,_,⟨_,_,_,h,_⟩=>⟨_,h⟩
 | .two _ _ _ _,_,⟨_,_,_,_,h,_⟩=>⟨_,h⟩
theorem Jhb{A:Array Value}(hlt:W0.1.size<w1.1.size)(hk:Kp W0 ((w1.alloc (.cells A 89)).alloc (.cells #[G 0,G 0] 117)) w2):
 (w2.cell? (U (w1.1.size+1) 0)=some (G 0)/\w2.cell? (U (w1.1.size+1) 1)=some (G 0))/\(w2.frozen? (U (w1.1.size+1) 0)=false/\w2.frozen? (U (w1.1.size+1) 1)=false):=by
 have d:=fun a=>hk.cell (b:=w1.1.size+1) (by simp) (by omega) a;have c:=fun a=>hk.frozen (b:=w1.1.size+1) (by simp) (by omega) a;rw[d,d,c,c];simp
structure Aft2 (P:Nat->Prop) (n:Nat) (W0 w1 w2 W4:World) (mv:Value) (fuel:Int) (c2 b:Nat) (t:ByteArray) (p:Nat) (r0 r1 l0 l1:Value) (a a2:Arr) (w:World):Prop where
 keep:∀ W,J W4 W->Wk W0 mv fuel c2 W
 sz:W4.1.size=w2.1.size+1
 kp:∀ W,Kp W0 W w2->W.1.size<=w1.1.size+1->Kp W0 W W4
 cells:∀ w',J W4 w'->w'.cell? (U b 3)=some (.string t)/\w'.cell? (U b 4)=some (.int .i64 p)/\w'.cell? (U w1.1.size 0)=some r0/\w'.cell? (U w1.1.size 1)=some r1/\w'.cell? (U w2.1.size 0)=some l0/\w'.cell? (U w2.1.size 1)=some l1
 right:IsArr (But P n) W4 (.agg #[r0,r1]) a
 left:IsArr (But P n) W4 (.agg #[l0,l1]) a2
 e:W4.cell? (U w.1.size 0)=some aH/\W4.cell? (U w.1.size 1)=some aH/\W4.cell? (U (w.1.size+1) 0)=some (.int .i64 0)/\W4.cell? (U (w.1.size+1) 1)=some (.int .i64 0)
 g:W4.frozen? (U w.1.size 0)=false/\W4.frozen? (U w.1.size 1)=false/\W4.frozen? (U (w.1.size+1) 0)=false/\W4.frozen? (U (w.1.size+1) 1)=false
theorem Yt{W:World}{c i:Nat}{v0 v1:Value}(h:c≠b):((W.setCell (U b 0) v0).setCell (U b 1) v1).cell? (U c i)=W.cell? (U c i):=by
 rw[FZ,FZ]<;>(intro a;injection a;omega)
theorem J06{P:Nat->Prop}{mv:Value}{fuel:Int}{c2:Nat}{t:ByteArray}{p:Nat}{r0 r1 l0 l1:Value}{a a2:Arr}(hlt:W0.1.size<w.1.size)(hs1:w.1.size+1<w1.1.size)(hl1:W0.1.size<w1.1.size)(hs3:w1.1.size+1<w2.1.size)(hk:Kp W0 w1 w2)(hw2:Wk W0 mv fuel c2 w2)(hb:b<W0.1.size)
 (y3:w2.cell? (U b 3)=some (aE t)) (y4:w2.cell? (U b 4)=some (G p)) (t0:w2.cell? (U w1.1.size 0)=some r0) (t1:w2.cell? (U w1.1.size 1)=some r1)
 (hr:IsArr (fun b'=>But P w.1.size b'/\b'<w1.1.size) w1 (.agg #[r0,r1]) a) (hR:¬ But P w.1.size W0.1.size) (hl:IsArr (But (But P w.1.size) w1.1.size) w2 (.agg #[l0,l1]) a2)
 (e:w2.cell? (U w.1.size 0)=some aH/\w2.cell? (U w.1.size 1)=some aH/\w2.cell? (U (w.1.size+1) 0)=some (G 0)/\w2.cell? (U (w.1.size+1) 1)=some (G 0))
 (g:w2.frozen? (U w.1.size 0)=false/\w2.frozen? (U w.1.size 1)=false/\w2.frozen? (U (w.1.size+1) 0)=false/\w2.frozen? (U (w.1.size+1) 1)=false):
 Aft2 P w.1.size W0 w1 w2 (((w2.setCell (U (w1.1.size+1) 0) (G 0)).setCell (U (w1.1.size+1) 1) (G 0)).alloc (.cells #[l0,l1] 89)) mv fuel c2 b t p r0 r1 l0 l1 a a2 w:=by
 have l:(((w2.setCell (U (w1.1.size+1) 0) (G 0)).setCell (U (w1.1.size+1) 1) (G 0)).alloc (.cells #[l0,l1] 89)).1.size=w2.1.size+1:=by simp
 have h:∀(c d:Nat),c<w2.1.size->c≠w1.1.size+1->(((w2.setCell (U (w1.1.size+1) 0) (G 0)).setCell (U (w1.1.size+1) 1) (G 0)).alloc (.cells #[l0,l1] 89)).cell? (U c d)=w2.cell? (U c d):=by
  intro c d i f;rw[Mc _ _ ⟨c,d,none⟩ (by simpa using i),Yt f]
 have j:∀(c d:Nat),c<w2.1.size->(((w2.setCell (U (w1.1.size+1) 0) (G 0)).setCell (U (w1.1.size+1) 1) (G 0)).alloc (.cells #[l0,l1] 89)).frozen? (U c d)=w2.frozen? (U c d):=by
  intro c d i;rw[NI (w:=(w2.setCell (U (w1.1.size+1) 0) (G 0)).setCell (U (w1.1.size+1) 1) (G 0)) (a:=U c d) (NB _ _ _ (by simpa using i)),NA,NA]
 have o:=hw2.below.size;have m:=((hw2.other (b:=w1.1.size+1) (by omega) 0 (G 0)).other (b:=w1.1.size+1) (by omega) 1 (G 0)).alloc (.cells #[l0,l1] 89);refine⟨fun i hb=>m.keep hb,l,fun i hk f=>((hk.new f _ _).new f _ _).alloc _,?_,?_,?_,?_,?_⟩
 .intro n k;have i:∀(c d:Nat),c<w2.1.size+1->n.cell? (U c d)=(((w2.setCell (U (w1.1.size+1) 0) (G 0)).setCell (U (w1.1.size+1) 1) (G 0)).alloc (.cells #[l0,l1] 89)).cell? (U c d):=fun c d f=>k.cell (p:=U c d) (by rw[l];exact f);refine⟨?_,?_,?_,?_,?_,?_⟩
  .rw [i _ _ (by omega),h _ _ (by omega) (by omega)];exact y3
  .rw [i _ _ (by omega),h _ _ (by omega) (by omega)];exact y4
  .rw [i _ _ (by omega),h _ _ (by omega) (by omega)];exact t0
  .rw [i _ _ (by omega),h _ _ (by omega) (by omega)];exact t1
  .rw [i _ _ (by omega),NH _ _ _ _ (by simp)];rfl
  rw[i _ _ (by omega),NH _ _ _ _ (by simp)];rfl
 .have i:=hr.keep hk.size (fun b' k f=>hk.block b' f (fun e=>by
   have:=NS e;subst this;exact hR k.1))
  exact(((i.set (b:=w1.1.size+1) (fun f=>by have:=f.2;omega) 0 (G 0)).set (b:=w1.1.size+1) (fun f=>by have:=f.2;omega) 1 (G 0)).below (aS.alloc aT _)).imp (fun _ f _=>f.1)
 .exact (((hl.set (fun f=>f.2.2 rfl) 0 (G 0)).set (fun f=>f.2.2 rfl) 1 (G 0)).below (aS.alloc aT _)).imp (fun _ f _=>f.1)
 .rw [h _ _ (by omega) (by omega),h _ _ (by omega) (by omega),h _ _ (by omega) (by omega),h _ _ (by omega) (by omega)];exact e
 rw[j _ _ (by omega),j _ _ (by omega),j _ _ (by omega),j _ _ (by omega)];exact g
theorem J2k(env)(fuel)(f1)(f2)(B)(W0)(mv)(t)(p)(l r)(hfl:fuel<=1000)(he:∀t a,env t=some a->a.ok)(hf:TwoC t (f2 t))(hgl:Good f1 f2 l)(hg:Good f1 f2 r)(ihl:ExC env fuel f1 f2 B W0 mv l)(ih:ExC env fuel f1 f2 B W0 mv r):ExC env fuel f1 f2 B W0 mv (.two t p l r):=by
 intro P w N cL bh bc bw ba bv cA;obtain⟨b,b5,cM,cC,rfl,ct,ao,c0,b6,b7,bU,bV,bW,a6,bD,b3⟩:=cA;obtain⟨cB,rfl⟩:=Jrq bD;have C:=bh.lt;have bb:=bh.below;have d0:=(bb.cell (p:=U b 0) ao).trans c0;have cs:=(bb.cell (p:=U b 6) ao).trans a6;have cJ:(b5 == 0)=false:=NT.2 b6;have cK:(b5 == 1)=false:=NT.2 b7;have cu:b<w.1.size:=FT ao bb.size;have cv:b<w.1.size+1:=by omega
 have bn:=O (ih (But P w.1.size) ((w.alloc (.cells aF 89)).alloc (.cells #[G 0,G 0] 117)) N cC ((bh.alloc _).alloc _) bc (Jjt bw) (fun i=>ba i.1) (Nc bv (by omega)) b3);have cm:=O (fun Z=>Vf he r N Z hg bc);have bp:=O hf;have cn:=O (fun(N:Nat) (Z:Arr × Nat) (bc:(N:Int)<=fuel)=>Vf (f1:=f1) (f2:=f2) he l N Z hgl bc);have ck:=O ihl;have co:=O bD;have cl:=O bv;have a4:Hid (∀b,w.1.size<=b->P b):=bw;have ah:=O ao;have cf:=O bU;have cg:=O bV;have ch:=O bW;clear bh bw bv c0 bU bV bW a6 bb b3 ih b6 b7 he hf hg ao hgl ihl bD;go_enter func77,ntmps77;go_wp2_with fail;refine bn.mono ?_;intro e w1 H;cases hev:Js env fuel f1 f2 r N with
 | inl er =>
  rw[hev]at H;have L:Hid (Js env fuel f1 f2 (.two t p l r) N=.inl er):=O (by simp[Js,hev]);obtain⟨i,ay⟩:=er;obtain⟨W,rfl,c,f,K⟩:=H;obtain⟨⟨k,m,o,q⟩,Q,R,S,T⟩:=Vn C W;have h:(i != 0)=true:=by simpa using c
  have aZ:=O (Jap W);have d:=O K;have aw:w.1.size+1<w1.1.size:=by have:=W.size;simp at this;omega
  have bB:w.1.size<w1.1.size:=by omega
  clear W K hev bn;unfold zArr;go_wp2_with fail;go_region
  all_goals
   go_wp2_with fail;refine FR (v:=.tuple #[zArr,.agg #[G i,G ay]]) (by simp[results,He,go_sem,zArr,k,m,o,q,aw,bB]) rfl ?_;rw[L];exact Jc6 (((aZ.four aT _ _ _ _).alloc _).alloc _).drew (((d.four C _ _ _ _).alloc _).alloc _).drew c
 | inr Z =>
  rw[hev]at H;have bE:=cm Z hev;have bO:Hid (∀F,Js env fuel f1 f2 l Z.2=.inl F->Js env fuel f1 f2 (.two t p l r) N=.inl F):=fun F bG=>by simp[Js,hev,bG]
  have bP:Hid (∀F,Js env fuel f1 f2 l Z.2=.inr F->Js env fuel f1 f2 (.two t p l r) N=payP fuel (f2 t F.1 Z.1) p F.2):=fun F bG=>by simp[Js,hev,bG]
  obtain⟨a,c1⟩:=Z;obtain⟨W,v,rfl,bx,K,be⟩:=H;simp only at bE bx K be bO bP;obtain⟨⟨k,m,o,q⟩,Q,R,S,T⟩:=Vn C W;have aZ:=O (Jap W);have cd:=O bx;obtain⟨bj,bi,sc,a9,a8,a7,rfl,_,_⟩:=bx;have aw:w.1.size+1<w1.1.size:=by have:=W.size;simp at this;omega
  have bB:w.1.size<w1.1.size:=by omega
  have cw:b<w1.1.size:=FT ah K.below.size;have cx:b<w1.1.size+1:=by omega
  have cR:=(K.below.cell (p:=U b 5) ah).trans ch;have bo:=O (I ck (But (But P w.1.size) w1.1.size) ((w1.alloc (.cells (aL bj bi sc a9 a8 a7) 89)).alloc (.cells #[G 0,G 0] 117)) c1 (some cB) ((K.alloc _).alloc _) be (Jjt (fun X i=>⟨a4 X (by omega),by omega,by omega⟩)) (fun i=>ba i.1.1) (Nc (Nc cl (by omega)) (by have:=K.lt;omega)) co);have bN:=O (show _/\_/\_/\_ from⟨k,m,o,q⟩);have bQ:=O (show _/\_/\_/\_ from⟨Q,R,S,T⟩);have bS:=O bE;have ci:=O be;have bf:=K.lt;clear W K hev bn d0 cs cu cv ct k m o q Q R S T bE be;go_wp2_with fail;refine bo.mono ?_;intro e w2 bg;cases hev2:Js env fuel f1 f2 l c1 with
  | inl er =>
   rw[hev2]at bg;have L:=O (I bO _ hev2);obtain⟨i,ay⟩:=er;obtain⟨A,rfl,c,f,ac⟩:=bg;have ab:=Jap A;obtain⟨⟨k,m,o,q⟩,Q,R,S,T⟩:=Vm C aw aS ab bN bQ;obtain⟨⟨b8,b9⟩,cb,cc⟩:=Jhb bf A;have h:(i != 0)=true:=by simpa using c
   have bq:=O ab;have d:=O ac;have Y:w1.1.size+1<w2.1.size:=by have:=A.size;simp at this;omega
   have j:w.1.size<w2.1.size:=by omega
   have s:w.1.size+1<w2.1.size:=by omega
   have n1:w.1.size≠w1.1.size+1:=by omega
   have n2:w.1.size+1≠w1.1.size+1:=by omega
   clear A ab ac hev2 bo;unfold zArr;go_wp2_with fail;go_region
   all_goals
    go_wp2_with fail;refine FR (v:=.tuple #[zArr,.agg #[G i,G ay]]) (by simp[results,He,go_sem,zArr,k,m,o,q,j,s]) rfl ?_;rw[L];exact Jc6 ((((((aZ.trans bq).new (by omega) _ _).new (by omega) _ _).four aT _ _ _ _).alloc _).drew) ((((((d.other (by omega) _ _).other (by omega) _ _).four C _ _ _ _).alloc _).drew)) c
  | inr F =>
   rw[hev2]at bg;have bH:=cn c1 F ci hev2;have L:=O (I bP _ hev2);obtain⟨a2,bu⟩:=F;obtain⟨A,cP,rfl,bz,ac,bA⟩:=bg;simp only at bH bz ac bA L;have ab:=Jap A;obtain⟨⟨k,m,o,q⟩,Q,R,S,T⟩:=Vm C aw aS ab bN bQ;obtain⟨⟨b8,b9⟩,cb,cc⟩:=Jhb bf A;have bI:=(A.cell (b:=w1.1.size) (by simp;omega) (by omega) 0);have bJ:=(A.cell (b:=w1.1.size) (by simp;omega) (by omega) 1);simp at bI bJ;have ce:=O bz;obtain⟨aX,aV,az,am,ak,ai,rfl,_,_⟩:=bz;have Y:w1.1.size+1<w2.1.size:=by have:=A.size;simp at this;omega
   have ca:=(ac.below.cell (p:=U b 3) ah).trans cf;have bL:=(ac.below.cell (p:=U b 4) ah).trans cg;have bY:=I ah;have x:Hid (Aft2 P w.1.size W0 w1 w2 (((w2.setCell (U (w1.1.size+1) 0) (G 0)).setCell (U (w1.1.size+1) 1) (G 0)).alloc (.cells (aL aX aV az am ak ai) 89)) mv fuel bu b t p (E bj bi sc) (E a9 a8 a7) (E aX aV az) (E am ak ai) a a2 w):=
    J06 C aw bf Y ab ac bY ca bL bI bJ (cd.imp (fun _ i H=>⟨i,H⟩)) (fun i=>ba i.1) ce ⟨k,m,o,q⟩ ⟨Q,R,S,T⟩
   have bq:=O ab;have cj:=O bA;have bT:=O bH;clear A ab ac hev2 bo ca bL bH bA bI bJ bY k m o q Q R S T bB cw cx;go_wp2_with fail;obtain⟨c,bX⟩:∃c,((w2.setCell (U (w1.1.size+1) 0) (G 0)).setCell (U (w1.1.size+1) 1) (G 0)).alloc (.cells (aL aX aV az am ak ai) 89)=c:=⟨_,rfl⟩;rw[bX]at x⊢;clear bX b8 b9 cb cc;have u:Hid (∀j,J c j->j.cell? (U b 3)=some (aE t)/\j.cell? (U b 4)=some (G p)/\j.cell? (U w1.1.size 0)=some (E bj bi sc)/\j.cell? (U w1.1.size 1)=some (E a9 a8 a7)/\j.cell? (U w2.1.size 0)=some (E aX aV az)/\j.cell? (U w2.1.size 1)=some (E am ak ai)):=x.cells;have b4:=x.sz;have cH:=O b4;have af:Hid (w.1.size+1<c.1.size):=O (by omega);clear b4 Y bf;go_region_held3 (fun j=>j.cell? (U b 3)=some (aE t)/\j.cell? (U b 4)=some (G p)/\j.cell? (U w1.1.size 0)=some (E bj bi sc)/\j.cell? (U w1.1.size 1)=some (E a9 a8 a7)/\j.cell? (U w2.1.size 0)=some (E aX aV az)/\j.cell? (U w2.1.size 1)=some (E am ak ai))
    (first|exact u _ aS.drew|exact u _ (aS.alloc aT _).drew|exact u _ ((FQ c.1.size c).drew.trans d)| exact u _ (((FQ c.1.size c).drew.trans d).alloc d.size _)| exact u _ (((FQ c.1.size c).alloc aT _).drew.trans (d.mono (by simp)))| exact u _ ((FQ c.1.size c).drew.trans (d.trans (s.mono d.size)))| exact u _ ((((FQ c.1.size c).drew.trans d).alloc d.size _).trans (s.mono (NE d.size (by simp))))| exact u _ (((FQ c.1.size c).alloc aT _).drew.trans ((d.mono (by simp)).trans (s.mono (NE (by simp) d.size))))| exact u _ (((FQ c.1.size c).drew.trans (d.trans (s.mono d.size))).alloc (NE d.size s.size) _)| exact u _ ((((((FQ c.1.size c).drew.trans d).alloc d.size _).trans (s.mono (NE d.size (by simp)))).setCell (p:=U D.1.size 0) d.size _).setCell (p:=U D.1.size 1) d.size _)| exact u _ (((((FQ c.1.size c).alloc aT _).drew.trans ((d.mono (by simp)).trans (s.mono (NE (by simp) d.size)))).setCell (p:=U c.1.size 0) aT _).setCell (p:=U c.1.size 1) aT _))
    (first|(go_at_call 111;refine(bp.finds _).mono ?_;rintro e D ⟨g,ag,rfl,h,f,y⟩;have bZ:∀args w,(callFunc g args).run prog w=.ok (.enter g args) w:=h;have d:=O f;have aa:=O y;obtain⟨bd,b2⟩:=Yy f;have Y:=f.size;(simp at Y);have ap:=Nat.lt_of_succ_le Y;clear f y h)| (go_at_call 111;refine(bp.finds _).mono ?_;rintro e D ⟨g,ag,rfl,h,f,y⟩;have bZ:∀args w,(callFunc g args).run prog w=.ok (.enter g args) w:=h;have d:=O f;have aa:=O y;obtain⟨bd,b2⟩:=Yy f;have Y:=f.size;(simp at Y);clear f y h)| (go_at_fn g;refine(FnTwo.call aa (P:=fun X=>But P w.1.size X/\X<c.1.size) (a:=a2) (b:=a) ?_ ?_ ?_ bT.1 bS.1).mono ?_;(first|exact FQ _ _|exact aS.alloc aT _);(refine(x.left.imp (fun _ i H=>⟨i,H⟩)).below ?_;first|exact((FQ c.1.size c).drew.trans d)| exact(((FQ c.1.size c).drew.trans d).alloc d.size _)| exact(((FQ c.1.size c).alloc aT _).drew.trans (d.mono (by simp))));(refine(x.right.imp (fun _ i H=>⟨i,H⟩)).below ?_;first|exact((FQ c.1.size c).drew.trans d)| exact(((FQ c.1.size c).drew.trans d).alloc d.size _)| exact(((FQ c.1.size c).alloc aT _).drew.trans (d.mono (by simp))));rintro e ad ⟨aY,aW,aU,an,al,aj,rfl,ae,i⟩;have s:=O i;have bl:=O ae;obtain⟨aq,cy⟩:=Yy i;clear i ae))
   have ag:=I af;have aa:=Jlm (P:=P) (n:=w.1.size) (w1:=c) ((FQ c.1.size c).drew.trans (d.trans (s.mono d.size))) bl a4 (FT ag d.size);have h:=O aa;obtain⟨f,y⟩:∃f,ad.alloc (.cells (aL aY aW aU an al aj) 89)=f:=⟨_,rfl⟩;obtain⟨n8,X⟩:∃n8,ad.1.size=n8:=⟨_,rfl⟩;simp only[y,X]at h⊢;clear y X aa ag;rotate_left;have ag:=I af;have ap:=d.size;have ar:ad.cell? (U D.1.size 0)=some aH:=by rw[aq _ _ (by simp)];simp
   have au:ad.cell? (U D.1.size 1)=some aH:=by rw[aq _ _ (by simp)];simp
   have aa:=Jbn (P:=P) (n:=w.1.size) (n8:=D.1.size) (w1:=c) ((((FQ c.1.size c).drew.trans d).alloc d.size _).trans (s.mono (NE d.size (by simp)))) bl a4 (by have i:c.1.size<=D.1.size:=ap;simp;omega) ap (by simp) s.size ar au;have h:=O aa;obtain⟨f,y⟩:∃f,(ad.setCell (U D.1.size 0) (E aY aW aU)).setCell (U D.1.size 1) (E an al aj)=f:=⟨_,rfl⟩;obtain⟨n8,X⟩:∃n8,D.1.size=n8:=⟨_,rfl⟩;rw[y]at h⊢;simp only[X]at h⊢;clear y X aa ar au ag ap;rotate_left;have ag:=I af;have ap:c.1.size+1<=D.1.size:=by have:=d.size;simpa using this
   have ar:ad.cell? (U c.1.size 0)=some aH:=by rw[aq _ _ (by omega),bd _ _ (by simp)];simp
   have au:ad.cell? (U c.1.size 1)=some aH:=by rw[aq _ _ (by omega),bd _ _ (by simp)];simp
   have aa:=Jbn (P:=P) (n:=w.1.size) (n8:=c.1.size) (w1:=c) (((FQ c.1.size c).alloc aT _).drew.trans ((d.mono (by simp)).trans (s.mono (NE (by simp) d.size)))) bl a4 (by omega) aT (by omega) s.size ar au;have h:=O aa;obtain⟨f,y⟩:∃f,(ad.setCell (U c.1.size 0) (E aY aW aU)).setCell (U c.1.size 1) (E an al aj)=f:=⟨_,rfl⟩;obtain⟨n8,X⟩:∃n8,c.1.size=n8:=⟨_,rfl⟩;rw[y]at h⊢;have bM:Hid (Aft P w.1.size c f n8 (E aY aW aU) (E an al aj) (f2 t a2 a).1):=by rw[<-X];exact h
   rw[X];clear y X aa ar au ag ap h;have h:=bM;clear bM;rotate_left
   all_goals
    have cN:=h.c0;have cO:=h.c1;have bL:=(I u f (h.bel)).2.1;have y:=x.keep f h.bel;have a5:=O (Jpz (But P w.1.size) W0 mv fuel bu f.drew y.drew (aK aY aW aU an al aj) (f2 t a2 a) p cj hfl (h.arr.below aS.drew) (bp.ok a2 a bT.1 bS.1).1 (fun i=>ba i.1));have bm:=O (I h).bel;have cG:Hid (w.1.size+1<c.1.size):=af;have bR:Hid (Kp W0 w f):=(x.kp w (aZ.trans bq) (by omega)).trans (Kp.of_below bm);clear y bd b2 aq cy Y bZ;cases hpay:payP fuel (f2 t a2 a) p bu with
    | inl er =>
     obtain⟨i,ay⟩:=er;rw[hpay]at a5 L;clear hpay;go_wp2_with fail;go_region_with (first|(go_at_call 110;refine a5.mono ?_;rintro e bK ⟨av,rfl,cp,a6,ax⟩;have ae:Kp W0 f bK:=(Kp.refl W0 f).drew.trans av;obtain⟨⟨k,m,o,q⟩,Q,R,S,T⟩:=Vm C af bm ae x.e x.g;have br:=O ae;have bt:=O ax;clear av ae ax;unfold zArr))
     all_goals
      go_wp2_with fail;refine FR (v:=.tuple #[zArr,.agg #[G i,G ay]]) (by simp[results,He,go_sem,zArr,k,m,o,q]) rfl ?_;rw[L];exact Jc6 ((bR.trans br).four aT _ _ _ _) (bt.four C _ _ _ _) cp
    | inr z =>
     obtain⟨cI,a6⟩:=z;rw[hpay]at a5 L;clear hpay;go_wp2_with fail;go_region_with (first|(go_at_call 110;refine a5.mono ?_;rintro e bK ⟨av,cQ,rfl,i,ax,cz⟩;have ae:Kp W0 f bK:=(Kp.refl W0 f).drew.trans av;obtain⟨⟨k,m,o,q⟩,Q,R,S,T⟩:=Vm C af bm ae x.e x.g;have br:=O ae;have bt:=O ax;have ay:=O i;obtain⟨cF,cE,cD,cr,cq,cp,rfl,_,_⟩:=i;clear av ae ax))
     all_goals
      go_wp2_with fail;refine FR (v:=.tuple #[aK cF cE cD cr cq cp,.agg #[G 0,G 0]]) (by simp[results,He,go_sem,k,m,o,q]) rfl ?_;rw[L];exact Jnw ((bR.trans br).four aT _ _ _ _) (bt.four C _ _ _ _) (Jju ay _ _ _ _) cz
end Go.Proofs.YtjobgpahajhbnaaGreatDoor
