import Derived.Test.YtjobgpahajhbnaaGreatDoorTa
namespace Go.Proofs.YtjobgpahajhbnaaGreatDoor
open Go.RowKit Go.Proofs Go.Maps Go.Proofs.Tryz
attribute [local go_sem ↓] Go.wp_at_zero Go.wp_at_succ
set_option linter.all false
set_option maxHeartbeats 1000000
set_option maxRecDepth 20000
variable {P:Nat->Prop} {f n:Nat} {k1 k2:Lit} {t:ByteArray} {w:World}
theorem Kd{D:DataW Value}{b:Nat}{m e:TypeId}{zv:Value}(hm:prog.underlying m=some (.map 9 e))(hz:(zeroValue e).run prog w=.ok zv w)(h:w.ownsMap prog 9 J0 b n D){kl:Lit}{v:Value}(hk:keyOf prog 9 (aE t)=some kl)(hat:D.atKey kl (.held zv)=.held v):
 (Instr.lookup m (.map (some b)) (aE t) false).run prog w=.ok v w:=by
 obtain⟨c,g,d,a⟩:=h.lookup VM hm hz (show J0 zv=some (.held zv,[])from rfl) hk;rw[hat]at a;have:DataW.held c=DataW.held v:=NM Prod.fst (NS a);simp_all
theorem XN(w):(zeroValue 235).run prog w=.ok .nilFunc w:=by kernel_rfl
theorem XO(w):(zeroValue 201).run prog w=.ok .nilFunc w:=by kernel_rfl
theorem XP(w):(binOp .eql 235 .nilFunc .nilFunc).run prog w=.ok (.bool true) w:=by kernel_rfl
theorem Kq(h1:1<=t.size)(hk1:keyOf prog 9 (.string (t.extract 1 t.size))=some k1)(ha1:formsOneD.atKey k1 (.held .nilFunc)=.held .nilFunc)(hk2:keyOf prog 9 (.string t)=some k2)(ha2:onesD.atKey k2 (.held .nilFunc)=.held (.func (.func f) #[] #[]))(w):
 Calls prog 109 #[.string t] w fun e w'=>e=.returned (.func (.func f) #[] #[])/\Below w.1.size w w':=by
 have i:∀w' b,w'.ownsMap prog 9 J0 b 2 formsOneD->(Instr.lookup 236 (.map (some b)) (.string (t.extract 1 t.size)) false).run prog w'=.ok .nilFunc w':=fun w' b j=>Kd underlying236 (XN w') j hk1 ha1;have m:∀w' b,w'.ownsMap prog 9 J0 b 11 onesD->(Instr.lookup 238 (.map (some b)) (.string t) false).run prog w'=.ok (.func (.func f) #[] #[]) w':=fun w' b j=>Kd JP (XO w') j hk2 ha2;have x:=XP;go_enter func109,ntmps109;go_wp2_with fail;go_region_with (first|(go_at_call 152;refine aR (Q5 _) ?_;rintro d ⟨c,a⟩;have q:=i _ w.1.size (by exact c);have u:=i (d.alloc (.cells #[.nilFunc] 235)) w.1.size (MN (by exact c) _);have h:=a;obtain⟨n,o⟩:=Yy a;have k:=a.size;(try simp at k);(try have s:w.1.size<d.1.size:=by omega))| (go_at_call 152;refine aR (Q5 _) ?_;rintro d ⟨c,a⟩;have q:=(by have:=i _ _ c;simpa[World.drew]using this);have h:=a;obtain⟨n,o⟩:=Yy a;have k:=a.size;(try simp at k);(try have s:w.1.size<d.1.size:=by omega)))
 all_goals
  go_wp2_with (go_at_call 153;refine aR (Jvq _) ?_;rintro y ⟨c,a⟩;have r:=m _ _ c;(try simp only[MT,World.size_setCell]at r);have l:=a);first
  | (have g:Below w.1.size w (d.alloc (.cells #[.nilFunc] 235)):=(Jw h).alloc (Jw h).size _;go_ret;exact⟨rfl,g.trans (l.mono g.size)⟩)
  | (have g:Below w.1.size w (d.setCell (adP0 w) .nilFunc):=(((belA1).drew.trans (h.mono (by simp))).setCell (p:=adP0 w) aT _);go_ret;exact⟨rfl,g.trans (l.mono g.size)⟩)
  | trace_state
theorem XQ(w):(zeroValue 246).run prog w=.ok .nilFunc w:=by kernel_rfl
theorem XR(w):(zeroValue 205).run prog w=.ok .nilFunc w:=by kernel_rfl
theorem XS(w):(binOp .eql 246 .nilFunc .nilFunc).run prog w=.ok (.bool true) w:=by kernel_rfl
theorem Q6(h1:1<=t.size)(hk2:keyOf prog 9 (.string t)=some k2)(hh:Maps.has signsD k2=false)(hk1:keyOf prog 9 (.string (t.extract 1 t.size))=some k1)(ha1:formsTwoD.atKey k1 (.held .nilFunc)=.held .nilFunc)(ha2:twosD.atKey k2 (.held .nilFunc)=.held (.func (.func f) #[] #[]))(w):
 Calls prog 111 #[.string t] w fun e w'=>e=.returned (.func (.func f) #[] #[])/\Below w.1.size w w':=by
 have o:∀w' a,w'.ownsMap prog 9 J0 a 9 signsD->(Instr.lookup 242 (.map (some a)) (.string t) true).run prog w'=.ok (.tuple #[.agg #[.nilFunc,G 0],.bool false]) w':=fun w' a h=>Xm YW (VN w') h hk2 hh (atKey_of_not_has hh _);have k:∀w' a,w'.ownsMap prog 9 J0 a 1 formsTwoD->(Instr.lookup 247 (.map (some a)) (.string (t.extract 1 t.size)) false).run prog w'=.ok .nilFunc w':=fun w' a h=>Kd underlying247 (XQ w') h hk1 ha1;have q:∀w' a,w'.ownsMap prog 9 J0 a 8 twosD->(Instr.lookup 249 (.map (some a)) (.string t) false).run prog w'=.ok (.func (.func f) #[] #[]) w':=fun w' a h=>Kd MS (XR w') h hk2 ha2;have B:=XS;go_enter func111,ntmps111;go_wp2_with (go_at_call 154;refine aR (Qs _) ?_;rintro c ⟨d,b⟩;have z:=o _ _ d;have m:=b);have g:Below w.1.size w (c.alloc (.cells #[.nilFunc,G 0] 241)):=m.alloc m.size _;generalize(c.alloc (.cells #[.nilFunc,G 0] 241))=W1 at g⊢;go_region_with (first|(go_at_call 157;refine aR (Q4 _) ?_;rintro c ⟨d,b⟩;have u:=k _ W1.1.size (by exact d);have A:=k (c.alloc (.cells #[.nilFunc] 246)) W1.1.size (MN (by exact d) _);have j:=b;obtain⟨r,s⟩:=Yy b;have l:=b.size;(try simp at l);(try have y:W1.1.size<c.1.size:=by omega))| (go_at_call 157;refine aR (Q4 _) ?_;rintro c ⟨d,b⟩;have u:=(by have:=k _ _ d;simpa[World.drew]using this);have j:=b;obtain⟨r,s⟩:=Yy b;have l:=b.size;(try simp at l);(try have y:W1.1.size<c.1.size:=by omega)))
 all_goals
  go_wp2_with (go_at_call 158;refine aR (Jtn _) ?_;rintro C ⟨d,b⟩;have x:=q _ _ d;(try simp only[MT,World.size_setCell]at x);have n:=b);first
  | (have i:Below W1.1.size W1 (c.alloc (.cells #[.nilFunc] 246)):=(Jw j).alloc (Jw j).size _;go_ret;exact⟨rfl,g.trans ((i.trans (n.mono i.size)).mono g.size)⟩)
  | (have i:Below W1.1.size W1 (c.setCell (adP0 W1) .nilFunc):=(((belA1).drew.trans (j.mono (by simp))).setCell (p:=adP0 W1) aT _);go_ret;exact⟨rfl,g.trans ((i.trans (n.mono i.size)).mono g.size)⟩)
  | trace_state
theorem XT:Enters prog 179:=NF func179 (by decide) rfl
theorem Jrp(w):FnOne 179 #[] w (fun a=>(a,0)):=by
 intro b P v a _ k f l;have j:=O f;obtain⟨i,h,sc,e,d,c,rfl,_,_⟩:=f;go_enter func179,ntmps179;go_wp2_with fail;have g:J b ((b.alloc (.cells (aL i h sc e d c) 89)).alloc (.cells (aL i h sc e d c) 89)):=belA2;refine FR (by simp[results,results179,go_sem];try rfl) rfl ?_;exact⟨_,_,_,_,_,_,rfl,j.below g,g⟩
theorem Jm3:OneC ⟨#[43]⟩ (fun a=>(a,0)):=⟨fun w=>(Kq (t:=⟨#[43]⟩) (k1:=.string []) (k2:=.string [43]) (f:=179) (by decide) (by kernel_rfl) (by kernel_rfl) (by kernel_rfl) (by kernel_rfl) w).mono (by rintro e w' ⟨rfl,hb⟩;exact⟨179,#[],rfl,XT,hb,Jrp w'⟩),fun a ha=>⟨ha.few,fun _=>ha⟩⟩
structure CellC (g:Nat) (h:Int->Int):Prop where
 enters:Enters prog g
 call:∀ (x:Int) (w:World),Jk x->Calls prog g #[.int .i64 x] w fun e w'=>e=.returned (.int .i64 (h x))/\w'=w
 fits:∀ x:Int,Jk x->Jk (h x)
theorem Je5(h)(g)(hg:CellC g h)(P)(w)(hP:∀b,w.1.size<=b->P b)(so)(sn sc)(co)(cn cc)(a)(ha:IsArr P w (aK so sn sc co cn cc) a)(hoa:a.ok):
 Calls prog 227 #[aK so sn sc co cn cc,aC g] w fun e w'=>∃c1 c2 c3,e=aD (aK so sn sc c1 c2 c3)/\IsArr P w' (aK so sn sc c1 c2 c3) ⟨a.shape,a.cells.map h⟩/\J w w':=by
 obtain⟨ac,t,Z,aa,ab⟩:=NY VI;have R:=t;have:∀args w,(callFunc g args).run prog w=.ok (.enter g args) w:=hg.enters;have l:=(Jb ha).1;have:cn<=200:=by rw[l];exact hoa.few
 have A:0<cn->∃b q,co=some (U b q)/\b<w.1.size/\∀i,(t:i<a.cells.length)->w.cell? (U b (q+i))=some (G a.cells[i]):=by
  intro y;obtain⟨C,B,z,s,r,o,j,_,⟨m,n,c,_,d,_⟩⟩:=ha;injection j with j;simp at j;obtain⟨_,rfl,rfl,rfl⟩:=j;obtain⟨b,q,e,_,f,k⟩:=d (by omega);injection c with c;exact⟨b,q,c.trans e,f,k⟩
 have B:=hoa.fits;generalize hxs:a.cells=xs at l;simp only[hxs]at A B⊢;clear t hoa;change Hid _ at l;go_enter func227,ntmps227;go_wp2_with fail;have k:J w ((w.alloc (.cells (aL so sn sc co cn cc) 89)).alloc (.cells aF 89)):=(aS.alloc aT _).alloc (by simp) _;have N:((w.alloc (.cells (aL so sn sc co cn cc) 89)).alloc (.cells aF 89)).cell? (U w.1.size 0)=some (E so sn sc):=by simp
 have K:((w.alloc (.cells (aL so sn sc co cn cc) 89)).alloc (.cells aF 89)).cell? (U (w.1.size+1) 0)=some aH:=(NH _ _ _ _ (by simp)).trans rfl;have L:((w.alloc (.cells (aL so sn sc co cn cc) 89)).alloc (.cells aF 89)).cell? (U (w.1.size+1) 1)=some aH:=(NH _ _ _ _ (by simp)).trans rfl;have F:((w.alloc (.cells (aL so sn sc co cn cc) 89)).alloc (.cells aF 89)).frozen? (U (w.1.size+1) 0)=false:=NL _ _ _ _ (by simp);have H:((w.alloc (.cells (aL so sn sc co cn cc) 89)).alloc (.cells aF 89)).frozen? (U (w.1.size+1) 1)=false:=NL _ _ _ _ (by simp);have f:w.1.size+1<((w.alloc (.cells (aL so sn sc co cn cc) 89)).alloc (.cells aF 89)).1.size:=by simp
 generalize hwS:((w.alloc (.cells (aL so sn sc co cn cc) 89)).alloc (.cells aF 89))=wS at k N K L F H f⊢;clear hwS;go_loopw [5,11] (fun j d wr=>∃(c:Nat) (m:List Int),d=G c/\c<=cn/\(xs.take c).map h=m/\wr.ownsRow wS.1.size 2 1 j c (m.map (Value.int .i64))/\J wS wr) (fun _ d _=>cn-(intOf d).toNat)
 .exact ⟨0,[],rfl,ZL _,rfl,NW _ _ _ _,FQ _ _⟩
 obtain⟨c,m,rfl,aj,s,o,d⟩:=hrel;have:=V d (by omega) N;have af:=V d f K;have ag:=V d f L;have:=bF d f F;have:=bF d f H;by_cases W:c<cn
 .obtain ⟨aq,ar,rfl,D,Y⟩:=A (by omega);have y:c<xs.length:=by rw[<-l];exact W
  have S:=V d (FT D k.size) (V k D (Y c y));have r:(xs.take (c+1)).map h=(xs.take c).map h++[h xs[c]]:=by rw[NG y,NU];rfl
  have C:=B _ (ND y);generalize xs[c]=x at S C r;have z:=fun w=>hg.call x w C;generalize hu:h x=u at r;simp only[hu]at z;have:(c:Int)<cn:=by omega
  go_wp2_with (first|(go_at_fn g;refine aQ (z _) ?_)| (at_builtin;refine JA _ rfl _ _ 32 rfl wS.1.size 2 ac (G 0) 1 8 ZP R Z aa ab rfl (by decide) _ _ _ rfl (o.alloc _) (adP0 wr) 1 1 [G u] rfl rfl ?c1 ?c2 ?c3 ?c4 ?c5 ?_))
  case c1=>intro ad v n;match ad,n with|0,n=>simp at n;subst n;exact alA
  case c2=>intro v j;simp at j;subst j;rfl
  case c3=>grind[maxLen]
  case c4=>omega
  case c5=>have:=d.size;simp;omega
  intro ao ap al T _;have Q:=(d.alloc d.size _).grown T (by have:=d.size;simp;omega) (fun ae X=>(o.lt ae X).1);go_wp2;go_roundw
  .exact ⟨c+1,m++[u],by go_num,by omega,by rw[r,s],by simp;omega,Q⟩
  simp[intOf];omega
 have y:c=cn:=by omega
 subst y;obtain⟨C,vc,z,S,Q⟩:=Zm o;subst z;have r:=NJ (by rw[<-l];exact FP _);rw[r]at s;subst s;have j:=k.trans (d.mono k.size);have n:=Jv (P:=fun b=>P b/\b≠w.1.size+1) o (fun b D=>⟨hP b (by omega),by omega⟩);go_wp2;refine FR (by simp[results,results227,go_sem,af,ag]) rfl ⟨C,c,vc,rfl,N6 ha j n,?_⟩;exact(j.setCell (p:=adQ0 w) (ZO _) _).setCell (p:=adQ1 w) (ZO _) _
def Km(x:Int):Int:=wrap64 (-x)
theorem XU:Enters prog 228:=NF func228 (by decide) rfl
theorem XV:Enters prog 180:=NF func180 (by decide) rfl
theorem negated_cell:CellC 228 Km where
 enters:=XU
 call:=by
  intro a w _;unfold Km;go_enter func228,ntmps228;go_wp2;go_ret;simp
 fits:=by
  simp[Km,Jk,wrap64];omega
theorem Jmq(w):FnOne 180 #[] w (fun a=>(⟨a.shape,a.cells.map Km⟩,0)):=by
 intro b P v a _ x f A;obtain⟨h,g,sc,l,k,j,rfl,y,z⟩:=f;have f:IsArr P b (agV h g sc l k j) a:=⟨_,_,_,_,_,_,rfl,y,z⟩;have i:=fun e (c:J b e) (H:b.1.size+1<e.1.size)=>Je5 Km 228 negated_cell (fun d=>P d/\d≠b.1.size+1) e (fun d m=>⟨x d (by omega),by omega⟩) h g sc l k j a ((f.imp (fun d m n=>⟨m,by omega⟩)).below c) A;obtain⟨K,B⟩:=nm ((⟨a.shape,a.cells.map Km⟩:Arr):Arr);simp only[B]at i⊢;go_enter func180,ntmps180;go_wp2_with (go_at_call 227;refine(i _ (belA2) (by simp)).mono ?_;rintro C L ⟨c1,s,t,rfl,u,m⟩;have q:=u;have r:=m;obtain⟨n,o⟩:=Yy m;have d0:=((n (b.1.size+1) 0 (by simp)).trans (NH _ _ _ _ (by simp))).trans rfl;have d1:=((n (b.1.size+1) 1 (by simp)).trans (NH _ _ _ _ (by simp))).trans rfl;have:=(o (b.1.size+1) 0 (by simp)).trans (NL _ _ _ _ (by simp));have:=(o (b.1.size+1) 1 (by simp)).trans (NL _ _ _ _ (by simp)));refine FR (v:=.tuple #[(agV h g sc c1 s t),G 0]) (by simp[results,results180,go_sem,d0,d1]) rfl ⟨_,_,_,_,_,_,rfl,?_,?_⟩
 .exact ((q.set (fun c=>c.2 rfl) 0 _).set (fun c=>c.2 rfl) 1 _).imp (fun d c _=>c.1)
 exact((belA2).trans (r.mono (by simp<;>omega))).setCell (p:=adQ0 b) (ZO _) _ |>.setCell (p:=adQ1 b) (ZO _) _
theorem Ji2:OneC ⟨#[45]⟩ (fun a=>(⟨a.shape,a.cells.map Km⟩,0)):=⟨fun w=>(Kq (t:=⟨#[45]⟩) (k1:=.string []) (k2:=.string [45]) (f:=180) (by decide) (by kernel_rfl) (by kernel_rfl) (by kernel_rfl) (by kernel_rfl) w).mono (by rintro e w' ⟨rfl,hb⟩;exact⟨180,#[],rfl,XV,hb,Jmq w'⟩),fun a ha=>⟨by simpa using ha.few,fun _=>⟨ha.rank,ha.lens,by simpa using ha.size,by simpa using ha.few,by intro c hc;obtain⟨x,hx,rfl⟩:=NZ.1 hc;exact negated_cell.fits x (ha.fits x hx)⟩⟩⟩
def Yg(x:Int):Int:=max x (wrap64 (-x))
theorem XW:Enters prog 231:=NF func231 (by decide) rfl
theorem XX:Enters prog 182:=NF func182 (by decide) rfl
theorem magnitude_cell:CellC 231 Yg where
 enters:=XW
 call:=by
  intro a w _;unfold Yg;go_enter func231,ntmps231;go_wp2;go_ret;simp
 fits:=by
  simp[Yg,Jk,wrap64];omega
theorem Jgw(w):FnOne 182 #[] w (fun a=>(⟨a.shape,a.cells.map Yg⟩,0)):=by
 intro b P v a _ x f A;obtain⟨h,g,sc,l,k,j,rfl,y,z⟩:=f;have f:IsArr P b (agV h g sc l k j) a:=⟨_,_,_,_,_,_,rfl,y,z⟩;have i:=fun e (c:J b e) (H:b.1.size+1<e.1.size)=>Je5 Yg 231 magnitude_cell (fun d=>P d/\d≠b.1.size+1) e (fun d m=>⟨x d (by omega),by omega⟩) h g sc l k j a ((f.imp (fun d m n=>⟨m,by omega⟩)).below c) A;obtain⟨K,B⟩:=nm ((⟨a.shape,a.cells.map Yg⟩:Arr):Arr);simp only[B]at i⊢;go_enter func182,ntmps182;go_wp2_with (go_at_call 227;refine(i _ (belA2) (by simp)).mono ?_;rintro C L ⟨c1,s,t,rfl,u,m⟩;have q:=u;have r:=m;obtain⟨n,o⟩:=Yy m;have d0:=((n (b.1.size+1) 0 (by simp)).trans (NH _ _ _ _ (by simp))).trans rfl;have d1:=((n (b.1.size+1) 1 (by simp)).trans (NH _ _ _ _ (by simp))).trans rfl;have:=(o (b.1.size+1) 0 (by simp)).trans (NL _ _ _ _ (by simp));have:=(o (b.1.size+1) 1 (by simp)).trans (NL _ _ _ _ (by simp)));refine FR (v:=.tuple #[(agV h g sc c1 s t),G 0]) (by simp[results,results182,go_sem,d0,d1]) rfl ⟨_,_,_,_,_,_,rfl,?_,?_⟩
 .exact ((q.set (fun c=>c.2 rfl) 0 _).set (fun c=>c.2 rfl) 1 _).imp (fun d c _=>c.1)
 exact((belA2).trans (r.mono (by simp<;>omega))).setCell (p:=adQ0 b) (ZO _) _ |>.setCell (p:=adQ1 b) (ZO _) _
theorem Jey:OneC ⟨#[124]⟩ (fun a=>(⟨a.shape,a.cells.map Yg⟩,0)):=⟨fun w=>(Kq (t:=⟨#[124]⟩) (k1:=.string []) (k2:=.string [124]) (f:=182) (by decide) (by kernel_rfl) (by kernel_rfl) (by kernel_rfl) (by kernel_rfl) w).mono (by rintro e w' ⟨rfl,hb⟩;exact⟨182,#[],rfl,XX,hb,Jgw w'⟩),fun a ha=>⟨by simpa using ha.few,fun _=>⟨ha.rank,ha.lens,by simpa using ha.size,by simpa using ha.few,by intro c hc;obtain⟨x,hx,rfl⟩:=NZ.1 hc;exact magnitude_cell.fits x (ha.fits x hx)⟩⟩⟩
def Yj(x:Int):Int:=if x<0 then -1 else if 0<x then 1 else 0
theorem XY:Enters prog 229:=NF func229 (by decide) rfl
theorem XZ:Enters prog 181:=NF func181 (by decide) rfl
theorem Jg5(x)(w):Calls prog 273 #[G x] w fun e w'=>e=aD (.bool false)/\w'=w:=by
 go_enter func273,ntmps273;go_wp2;go_ret;simp
theorem Jcn(x y r)(hr:(if x<y then -1 else if y<x then 1 else 0)=r)(w):Calls prog 230 #[G x,G y] w fun e w'=>e=aD (G r)/\w'=w:=by
 subst hr;by_cases a:x<y
 .rw [FY a];go_enter func230,ntmps230;go_wp2_with (go_at_call 273;refine aQ (Jg5 _ _) ?_);go_ret;simp
 by_cases b:y<x;rw[FU a,FY b];rotate_left;rw[FU a,FU b]
 all_goals
  go_enter func230,ntmps230;go_wp2_with (go_at_call 273;refine aQ (Jg5 _ _) ?_);go_ret;simp
theorem direction_cell:CellC 229 Yj where
 enters:=XY
 call:=by
  intro b w _;obtain⟨d,a⟩:=nm (Yj b);rw[a];unfold Yj at a;have c:=Jcn b 0 d a;go_enter func229,ntmps229;go_wp2_with (go_at_call 230;refine aQ (c _) ?_);go_ret;simp
 fits:=by
  simp[Yj,Jk];omega
theorem Jhi(w):FnOne 181 #[] w (fun a=>(⟨a.shape,a.cells.map Yj⟩,0)):=by
 intro b P v a _ x f A;obtain⟨h,g,sc,l,k,j,rfl,y,z⟩:=f;have f:IsArr P b (agV h g sc l k j) a:=⟨_,_,_,_,_,_,rfl,y,z⟩;have i:=fun e (c:J b e) (H:b.1.size+1<e.1.size)=>Je5 Yj 229 direction_cell (fun d=>P d/\d≠b.1.size+1) e (fun d m=>⟨x d (by omega),by omega⟩) h g sc l k j a ((f.imp (fun d m n=>⟨m,by omega⟩)).below c) A;obtain⟨K,B⟩:=nm ((⟨a.shape,a.cells.map Yj⟩:Arr):Arr);simp only[B]at i⊢;go_enter func181,ntmps181;go_wp2_with (go_at_call 227;refine(i _ (belA2) (by simp)).mono ?_;rintro C L ⟨c1,s,t,rfl,u,m⟩;have q:=u;have r:=m;obtain⟨n,o⟩:=Yy m;have d0:=((n (b.1.size+1) 0 (by simp)).trans (NH _ _ _ _ (by simp))).trans rfl;have d1:=((n (b.1.size+1) 1 (by simp)).trans (NH _ _ _ _ (by simp))).trans rfl;have:=(o (b.1.size+1) 0 (by simp)).trans (NL _ _ _ _ (by simp));have:=(o (b.1.size+1) 1 (by simp)).trans (NL _ _ _ _ (by simp)));refine FR (v:=.tuple #[(agV h g sc c1 s t),G 0]) (by simp[results,results181,go_sem,d0,d1]) rfl ⟨_,_,_,_,_,_,rfl,?_,?_⟩
 .exact ((q.set (fun c=>c.2 rfl) 0 _).set (fun c=>c.2 rfl) 1 _).imp (fun d c _=>c.1)
 exact((belA2).trans (r.mono (by simp<;>omega))).setCell (p:=adQ0 b) (ZO _) _ |>.setCell (p:=adQ1 b) (ZO _) _
theorem Je7:OneC ⟨#[42]⟩ (fun a=>(⟨a.shape,a.cells.map Yj⟩,0)):=⟨fun w=>(Kq (t:=⟨#[42]⟩) (k1:=.string []) (k2:=.string [42]) (f:=181) (by decide) (by kernel_rfl) (by kernel_rfl) (by kernel_rfl) (by kernel_rfl) w).mono (by rintro e w' ⟨rfl,hb⟩;exact⟨181,#[],rfl,XZ,hb,Jhi w'⟩),fun a ha=>⟨by simpa using ha.few,fun _=>⟨ha.rank,ha.lens,by simpa using ha.size,by simpa using ha.few,by intro c hc;obtain⟨x,hx,rfl⟩:=NZ.1 hc;exact direction_cell.fits x (ha.fits x hx)⟩⟩⟩
theorem KA:Enters prog 185:=NF func185 (by decide) rfl
def Kk(a:Arr):Arr:=⟨[a.cells.length],a.cells⟩
theorem Ju6(w):FnOne 185 #[] w (fun a=>(Kk a,0)):=by
 intro b P v a _ t u L;obtain⟨R,Q,sc,r,q,o,rfl,K,x⟩:=u;have f:=fun e (c:J b e) (N:b.1.size+1<e.1.size)=>Vb (fun d=>P d/\d≠b.1.size+1) e (fun d g=>⟨t d (by omega),by omega⟩) (E r q o) a.cells ((x.imp (fun d g h=>⟨g,by omega⟩)).below c);obtain⟨z,j⟩:=nm (Kk a:Arr);have y:(⟨[a.cells.length],a.cells⟩:Arr)=z:=j;simp only[y]at f;simp only[j];go_enter func185,ntmps185;go_wp2_with (go_at_call 151;refine(f _ (belA2) (by simp)).mono ?_;rintro D S ⟨A,B,C,c1,m,n,rfl,s,g⟩;have k:=s;have l:=g;obtain⟨h,i⟩:=Yy g;have d0:=((h (b.1.size+1) 0 (by simp)).trans (NH _ _ _ _ (by simp))).trans rfl;have d1:=((h (b.1.size+1) 1 (by simp)).trans (NH _ _ _ _ (by simp))).trans rfl;have:=(i (b.1.size+1) 0 (by simp)).trans (NL _ _ _ _ (by simp));have:=(i (b.1.size+1) 1 (by simp)).trans (NL _ _ _ _ (by simp)));refine FR (v:=.tuple #[(agV A B C c1 m n),G 0]) (by simp[results,results185,go_sem,d0,d1]) rfl ⟨_,_,_,_,_,_,rfl,?_,?_⟩
 .exact ((k.set (fun c=>c.2 rfl) 0 _).set (fun c=>c.2 rfl) 1 _).imp (fun d c _=>c.1)
 exact((belA2).trans (l.mono (by simp<;>omega))).setCell (p:=adQ0 b) (ZO _) _ |>.setCell (p:=adQ1 b) (ZO _) _
theorem Jpv:OneC ⟨#[114,97,118,101,108]⟩ (fun a=>(Kk a,0)):=⟨fun w=>(Kq (t:=⟨#[114,97,118,101,108]⟩) (k1:=.string [97,118,101,108]) (k2:=.string [114,97,118,101,108]) (f:=185) (by decide) (by kernel_rfl) (by kernel_rfl) (by kernel_rfl) (by kernel_rfl) w).mono (by rintro e w' ⟨rfl,hb⟩;exact⟨185,#[],rfl,KA,hb,Ju6 w'⟩),fun a ha=>⟨ha.few,fun _=>⟨by simp[Kk],by simp[Kk];exact ha.few,by simp[Kk,Jd],ha.few,ha.fits⟩⟩⟩
def Qd(n k:Nat):List Value:=(List.range n).map fun i=>.int .i64 (if i<k then(i:Int)else 0)
theorem Jgd(n):Qd n 0=List.replicate n (G 0):=by
 simp[Qd,PP]
theorem Jiu{k:Nat}(_h:k<n):(Qd n k).set k (G (k:Int))=Qd n (k+1):=by
 apply YG
 .simp [Qd]
 intro c a b;simp[Qd,PG];grind
theorem Jiv(n):Qd n n=((List.range n).map Int.ofNat).map (Value.int .i64):=by
 simp[Qd];omega
theorem Jdn(n:Nat)(hn:n<=200)(w):Calls prog 232 #[G n] w fun e w'=>e=aD (aI w.1.size 0 n n)/\w'.ownsRow w.1.size 2 1 (aI w.1.size 0 n n) n (((List.range n).map Int.ofNat).map (Value.int .i64))/\J w w':=by
 obtain⟨k,g,i,j,t⟩:=NY VI;go_enter func232,ntmps232;go_wp2_with (at_make;refine YV _ rfl _ _ 32 rfl w.1.size 2 k (G 0) 1 ZP g i j .i64 .i64 n n n rfl rfl rfl rfl ?c1 ?c2 aT ?_)
 case c1=>grind
 case c2=>grind[maxLen]
 intro l c f;have c:l.ownsRow w.1.size 2 1 (E (some (adP0 w)) n n) n (Qd n 0):=by
  rw[Jgd];have:=YN (G 0) (n*1);rw[MA]at this;rw[<-this];simpa using c
 have m:=aS.grown f aT (fun _ a=>by cases a);go_wp2_with fail;go_loopw [9] (fun v wr=>∃a:Nat,v=G a/\a<=n/\wr.ownsRow w.1.size 2 1 (E (some (adP0 w)) n n) n (Qd n a)/\J w wr) (fun v _=>n-(intOf v).toNat)
 .grind
 obtain⟨a,rfl,o,b,d⟩:=hrel;by_cases r:a<n
 .have c0:=b.cellAt a (by omega);have h:=b.frozenAt a;rw[FX (by simp[Qd];omega)]at c0;generalize((Qd n a)[a]'(by grind))=u at c0;have s:=(b.stored a (G (a:Int))).1;have p:(0:Int)<=a:=by omega
  have q:(a:Int)<n:=by omega
  go_wp2;go_roundw
  .exact ⟨a+1,by go_num,by omega,by simp_all[Jiu],d.setCell aT _⟩
  simp[intOf];omega
 have h:a=n:=by omega
 subst h;rw[Jiv]at b;go_wp2;go_ret;simp_all
theorem KB:Enters prog 183:=NF func183 (by decide) rfl
def Gm(a:Arr):Arr × Int:=if a.shape≠[]then(eArr,5)else if a.cells.headD 0<0 then(eArr,7)else if 64<a.cells.headD 0 then(eArr,9)else(⟨[(a.cells.headD 0).toNat],(List.range (a.cells.headD 0).toNat).map Int.ofNat⟩,0)
theorem Jt(P)(w):IsArr P w (.agg aF) eArr:=⟨none,0,0,none,0,0,rfl,Ym _ _,Ym _ _⟩
theorem Je{so:Option Addr}{sn sc:Nat}{xs:List Int}(h:Nums P w (E so sn sc) xs):sn=xs.length:=by
 obtain⟨b,c,a,_⟩:=h;injection a
theorem Yv{co:Option Addr}{cn cc:Nat}{a:Arr}(h:Nums P w (E co cn cc) a.cells)(ho:a.ok)(hs:a.shape=[]):∃x b off,a.cells=[x]/\cn=1/\co=some (U b off)/\P b/\b<w.1.size/\w.cell? (U b off)=some (G x)/\1<=cc:=by
 have c:=ho.size;rw[hs]at c;simp[Jd]at c;obtain⟨x,d⟩:=Mq.1 c;rw[d]at h;obtain⟨e,f,j,i,g,_⟩:=h;simp_all
theorem Jbl(W:World)(o1 o3 o4)(A)(i):((((W.alloc o1).alloc (.cells A 89)).alloc o3).alloc o4).cell? (U (W.1.size+1) i)=A[i]?:=by
 rw[WA (a:=U (W.1.size+1) i) (NB _ _ _ (by simp)),WA (a:=U (W.1.size+1) i) (NB _ _ _ (by simp))];simp
theorem Gc(W:World)(o1 o3 o4)(A)(i):((((W.alloc o1).alloc (.cells A 89)).alloc o3).alloc o4).frozen? (U (W.1.size+1) i)=false:=by
 rw[NI (a:=U (W.1.size+1) i) (NB _ _ _ (by simp)),NI (a:=U (W.1.size+1) i) (NB _ _ _ (by simp))];simp
theorem Jyn(w):FnOne 183 #[] w Gm:=by
 intro a P v H _ m ae s;obtain⟨ak,B,sc,aa,Z,Y,rfl,o,q⟩:=ae;have i:=Je o;simp at i;obtain⟨x,d⟩:=nm (Gm H);simp only[d];have k:=fun f=>Jo f ak B sc aa Z Y;by_cases c:H.shape=[]
 .obtain ⟨y,b,az,j,rfl,rfl,ao,ap,aw,av⟩:=Yv q s c;have K:B=0:=by rw[i,c];rfl
  subst K;have:b<a.1.size+1:=by omega
  have:b<a.1.size+1+1:=by omega
  have:b<a.1.size+1+1+1:=by omega
  by_cases A:y<0
  .have h:x=(eArr,7):=by rw[<-d];unfold Gm;rw[FU (by simp[c]),j];simp[A]
   subst h;clear d o q m s j i c;go_enter func183,ntmps183;go_wp2_with (go_at_call 220;refine(k _).mono ?_;rintro l C ⟨rfl,rfl⟩);refine FR (by simp[results,results183,go_sem];try rfl) rfl ?_;refine⟨_,_,_,_,_,_,rfl,Jt _ _,?_⟩
   first
   | exact(((((FQ a.1.size a).alloc aT _).alloc (by simp) _).alloc (by simp;omega) _).alloc (by simp;omega) _)
   | (trace_state;fail)
  .by_cases Q:64<y
   .have h:x=(eArr,9):=by rw[<-d];unfold Gm;rw[FU (by simp[c]),j];simp[A,Q]
    subst h;clear d o q m s j i c;go_enter func183,ntmps183;go_wp2_with (go_at_call 220;refine(k _).mono ?_;rintro l C ⟨rfl,rfl⟩);refine FR (by simp[results,results183,go_sem];try rfl) rfl ?_;refine⟨_,_,_,_,_,_,rfl,Jt _ _,?_⟩;exact(((((FQ a.1.size a).alloc aT _).alloc (by simp) _).alloc (by simp;omega) _).alloc (by simp;omega) _)
   .obtain ⟨n,rfl⟩:∃n:Nat,y=n:=⟨y.toNat,by omega⟩;have af:n<=200:=by omega
    have h:x=(⟨[n],(List.range n).map Int.ofNat⟩,0):=by rw[<-d];unfold Gm;rw[FU (by simp[c]),j];simp[A,Q]
    subst h;have D:=fun f=>Jdn n af f;have F:=fun f v' (hb:a.1.size+2<=f.1.size) (e:Nums (fun b=>P b/\b≠a.1.size+1) f v' ((List.range n).map Int.ofNat))=>Vb (fun b=>P b/\b≠a.1.size+1) f (fun b g=>⟨m b (by omega),by omega⟩) v' _ e;clear d o q s j i c;go_enter func183,ntmps183;go_wp2_with (go_at_call 220;refine(k _).mono ?_;rintro l C ⟨rfl,rfl⟩);go_at_call 232;refine(D _).mono ?_;rintro l S ⟨rfl,R,r⟩;obtain⟨t,u⟩:=Yy r;simp only[MT]at R r t u⊢;have ag:=r.size;simp at ag;have N:=Jv (P:=fun b=>P b/\b≠a.1.size+1) R (fun b e=>⟨m b (by omega),by omega⟩);have d0:S.cell? (adQ0 a)=some M:=(t (a.1.size+1) 0 (by omega)).trans ((Jbl a _ _ _ _ 0).trans rfl);have d1:S.cell? (adQ1 a)=some M:=(t (a.1.size+1) 1 (by omega)).trans ((Jbl a _ _ _ _ 1).trans rfl);have z:=((Jnr).alloc (by simp;omega) _).trans (r.mono (by simp<;>omega));go_wp2_with fail;refine(F _ _ (by omega) N).mono ?_;rintro l al ⟨ah,ai,aj,c1,W,X,rfl,L,g⟩;have:=g.size;have ab:=V g (by omega) d0;have ac:=V g (by omega) d1;have:=bF g (by omega) ((u (a.1.size+1) 0 (by omega)).trans (Gc a _ _ _ _ 0));have:=bF g (by omega) ((u (a.1.size+1) 1 (by omega)).trans (Gc a _ _ _ _ 1));have T:=z.trans (g.mono z.size);have:a.1.size+1<al.1.size:=by omega
    have ad:((List.range n).map Int.ofNat).length=n:=by simp
    rw[ad]at L;clear g d0 d1 t u N r z F D k;go_wp2;refine FR (v:=.tuple #[aK ah ai aj c1 W X,G 0]) (by simp[results,results183,go_sem,ab,ac]) rfl ⟨_,_,_,_,_,_,rfl,?_,?_⟩
    .exact ((L.set (fun e=>e.2 rfl) 0 _).set (fun e=>e.2 rfl) 1 _).imp (fun b e _=>e.1)
    .exact (T.setCell (p:=U (a.1.size+1) 0) (ZO _) _).setCell (p:=U (a.1.size+1) 1) (ZO _) _
 .have h:x=(eArr,5):=by rw[<-d];unfold Gm;rw[FY c]
  subst h;have K:((B:Int)== 0)=false:=by
   rw[i];simp[c]
  clear d o q m s i c;go_enter func183,ntmps183;go_wp2_with (go_at_call 220;refine(k _).mono ?_;rintro l C ⟨rfl,rfl⟩);refine FR (by simp[results,results183,go_sem];try rfl) rfl ?_;refine⟨_,_,_,_,_,_,rfl,Jt _ _,?_⟩;exact((Jnr).alloc (by simp;omega) _)
theorem Jwm:OneC ⟨#[105,111,116,97]⟩ Gm:=⟨fun w=>(Kq (t:=⟨#[105,111,116,97]⟩) (k1:=.string [111,116,97]) (k2:=.string [105,111,116,97]) (f:=183) (by decide) (by kernel_rfl) (by kernel_rfl) (by kernel_rfl) (by kernel_rfl) w).mono (by rintro e w' ⟨rfl,hb⟩;exact⟨183,#[],rfl,KB,hb,Jyn w'⟩),fun a ha=>by
 unfold Gm;split
 .simp [eArr]
 split
 .simp [eArr]
 split
 .simp [eArr]
 rename_i h1 h2 h3;have hn:(a.cells.headD 0).toNat<=64:=by omega
 generalize(a.cells.headD 0).toNat=m at hn⊢;exact⟨by simp;omega,fun _=>⟨by simp,by simp;omega,by simp[Jd],by simp;omega,fun c b=>by simp at b;obtain⟨g,d,rfl⟩:=b;grind[Jk]⟩⟩⟩
theorem Jrt(P)(w)(co)(cn cc)(xs)(h:Nums P w (E co cn cc) xs)(hl:xs.length<=200)(x):
 Calls prog 280 #[E co cn cc,G x] w fun e w'=>∃r:Int,e=aD (G r)/\(0<=r↔x ∈ xs)/\w'=w:=by
 have l:=Je h;have k:0<cn->∃b c,co=some (U b c)/\b<w.1.size/\∀i,(hi:i<xs.length)->w.cell? (U b (c+i))=some (G xs[i]):=by
  intro s;obtain⟨n,o,m,_,f,_⟩:=h;injection m with a p q;obtain⟨b,c,j,_,g,d⟩:=f (by omega);exact⟨b,c,a.trans j,g,d⟩
 have s:cn<=200:=by omega
 go_enter func280,ntmps280;go_wp2_with fail;go_loop [8] (fun v=>∃a:Nat,v=G a/\a<=cn/\∀i,(hi:i<xs.length)->i<a->xs[i]≠x) (fun v=>cn-(intOf v).toNat)
 case atStart=>grind
 case round =>
  obtain⟨a,rfl,t,q⟩:=hrel;by_cases m:a<cn
  .obtain ⟨b,c,rfl,g,d⟩:=k (by omega);have n:a<xs.length:=by rw[<-l];exact m
   have c0:=d a n;obtain⟨f,p⟩:=nm (xs[a]);rw[p]at c0;have:(a:Int)<cn:=by omega
   have:(0:Int)<=a:=by omega
   by_cases j:x=f
   .have o:(x == f)=true:=by simpa using j
    go_wp2;go_ret;exact⟨a,rfl,⟨fun _=>by grind,fun _=>by omega⟩,rfl⟩
   .have o:(x == f)=false:=by simpa using j
    go_wp2;grind[intOf]
  .have d:a=cn:=by omega
   go_wp2;go_ret;refine⟨-1,rfl,⟨fun h=>absurd h (by decide),fun h=>?_⟩,rfl⟩;grind[List.getElem_of_mem]
theorem Jhk(P)(w)(co)(cn cc)(xs)(h:Nums P w (E co cn cc) xs)(hl:xs.length<=200)(x):
 Calls prog 260 #[E co cn cc,G x] w fun e w'=>e=aD (.bool (decide (x ∈ xs)))/\w'=w:=by
 have a:=Jrt P w co cn cc xs h hl x;go_enter func260,ntmps260;go_wp2_with (go_at_call 280;refine a.mono ?_;rintro e w' ⟨d,rfl,b,rfl⟩;have:=b);refine FR ?_ rfl ⟨rfl,rfl⟩;simp[results]
structure CellB (g pb:Nat) (W0:World) (Dm:Int->Prop) (h:Int->Int):Prop where
 enters:Enters prog g
 call:∀ (x:Int) (w:World),J W0 w->Dm x->Calls prog g #[.int .i64 x,aJ pb 0] w fun e w'=>e=.returned (.int .i64 (h x))/\w'=w
theorem Jlf(h)(g pb)(P)(w)(Dm)(hg:CellB g pb w Dm h)(hP:∀b,w.1.size<=b->P b)(so)(sn sc)(co)(cn cc)(a)(ha:IsArr P w (aK so sn sc co cn cc) a)(hoa:a.ok)(hDm:∀c ∈ a.cells,Dm c):
 Calls prog 227 #[aK so sn sc co cn cc,.func (.func g) #[] #[aJ pb 0]] w fun e w'=>∃c1 c2 c3,e=aD (aK so sn sc c1 c2 c3)/\IsArr P w' (aK so sn sc c1 c2 c3) ⟨a.shape,a.cells.map h⟩/\J w w':=by
 obtain⟨ae,y,ab,ac,ad⟩:=NY VI;have S:=y;have:∀args w,(callFunc g args).run prog w=.ok (.enter g args) w:=hg.enters;have m:=(Jb ha).1;have:cn<=200:=by rw[m];exact hoa.few
 have B:0<cn->∃b r,co=some (U b r)/\b<w.1.size/\∀i,(y:i<a.cells.length)->w.cell? (U b (r+i))=some (G a.cells[i]):=by
  intro z;obtain⟨D,C,A,t,s,q,l,_,⟨n,o,d,_,f,_⟩⟩:=ha;injection l with l;simp at l;obtain⟨_,rfl,rfl,rfl⟩:=l;obtain⟨b,r,e,_,k,j⟩:=f (by omega);injection d with d;exact⟨b,r,d.trans e,k,j⟩
 generalize hxs:a.cells=xs at m;simp only[hxs]at B hDm⊢;clear y hoa;change Hid _ at m;go_enter func227,ntmps227;go_wp2_with fail;have j:J w ((w.alloc (.cells (aL so sn sc co cn cc) 89)).alloc (.cells aF 89)):=(aS.alloc aT _).alloc (by simp) _;have N:((w.alloc (.cells (aL so sn sc co cn cc) 89)).alloc (.cells aF 89)).cell? (U w.1.size 0)=some (E so sn sc):=by simp
 have K:((w.alloc (.cells (aL so sn sc co cn cc) 89)).alloc (.cells aF 89)).cell? (U (w.1.size+1) 0)=some aH:=(NH _ _ _ _ (by simp)).trans rfl;have L:((w.alloc (.cells (aL so sn sc co cn cc) 89)).alloc (.cells aF 89)).cell? (U (w.1.size+1) 1)=some aH:=(NH _ _ _ _ (by simp)).trans rfl;have F:((w.alloc (.cells (aL so sn sc co cn cc) 89)).alloc (.cells aF 89)).frozen? (U (w.1.size+1) 0)=false:=NL _ _ _ _ (by simp);have H:((w.alloc (.cells (aL so sn sc co cn cc) 89)).alloc (.cells aF 89)).frozen? (U (w.1.size+1) 1)=false:=NL _ _ _ _ (by simp);have k:w.1.size+1<((w.alloc (.cells (aL so sn sc co cn cc) 89)).alloc (.cells aF 89)).1.size:=by simp
 generalize hwS:((w.alloc (.cells (aL so sn sc co cn cc) 89)).alloc (.cells aF 89))=wS at j N K L F H k⊢;clear hwS;go_loopw [5,11] (fun l f wr=>∃(d:Nat) (n:List Int),f=G d/\d<=cn/\(xs.take d).map h=n/\wr.ownsRow wS.1.size 2 1 l d (n.map (Value.int .i64))/\J wS wr) (fun _ f _=>cn-(intOf f).toNat)
 .exact ⟨0,[],rfl,ZL _,rfl,NW _ _ _ _,FQ _ _⟩
 obtain⟨d,n,rfl,al,t,q,f⟩:=hrel;have:=V f (by omega) N;have ah:=V f k K;have ai:=V f k L;have:=bF f k F;have:=bF f k H;by_cases Y:d<cn
 .obtain ⟨au,av,rfl,D,aa⟩:=B (by omega);have z:d<xs.length:=by rw[<-m];exact Y
  have T:=V f (FT D j.size) (V j D (aa d z));have s:(xs.take (d+1)).map h=(xs.take d).map h++[h xs[d]]:=by rw[NG z,NU];rfl
  have C:=hDm _ (ND z);generalize xs[d]=x at T C s;have A:=fun w' W=>hg.call x w' W C;have R:=j.trans (f.mono j.size);generalize hu:h x=u at s;simp only[hu]at A;have:(d:Int)<cn:=by omega
  go_wp2_with (first|(go_at_fn g;refine aQ (A _ R) ?_)| (at_builtin;refine JA _ rfl _ _ 32 rfl wS.1.size 2 ae (G 0) 1 8 ZP S ab ac ad rfl (by decide) _ _ _ rfl (q.alloc _) (adP0 wr) 1 1 [G u] rfl rfl ?c1 ?c2 ?c3 ?c4 ?c5 ?_))
  case c1=>intro af v o;match af,o with|0,o=>simp at o;subst o;exact alA
  case c2=>intro v l;simp at l;subst l;rfl
  case c3=>grind[maxLen]
  case c4=>omega
  case c5=>have:=f.size;simp;omega
  intro aq ar an X _;have Q:=(f.alloc f.size _).grown X (by have:=f.size;simp;omega) (fun ag Z=>(q.lt ag Z).1);go_wp2;go_roundw
  .exact ⟨d+1,n++[u],by go_num,by omega,by rw[s,t],by simp;omega,Q⟩
  simp[intOf];omega
 have z:d=cn:=by omega
 subst z;obtain⟨C,vc,A,R,Q⟩:=Zm q;subst A;have s:=NJ (by rw[<-m];exact FP _);rw[s]at t;subst t;have l:=j.trans (f.mono j.size);have o:=Jv (P:=fun b=>P b/\b≠w.1.size+1) q (fun b D=>⟨hP b (by omega),by omega⟩);go_wp2;refine FR (by simp[results,results227,go_sem,ah,ai]) rfl ⟨C,d,vc,rfl,N6 ha l o,?_⟩;exact(l.setCell (p:=adQ0 w) (ZO _) _).setCell (p:=adQ1 w) (ZO _) _
theorem KC:Enters prog 258:=NF func258 (by decide) rfl
theorem KD:Enters prog 205:=NF func205 (by decide) rfl
def Kx(xs:List Int)(x:Int):Int:=if x ∈ xs then 1 else 0
theorem J0d{W0:World}(pb)(hpb:pb<W0.1.size)(co)(cn cc)(xs)(c1:W0.cell? (U pb 1)=some (E co cn cc))(h:Nums P W0 (E co cn cc) xs)(hl:xs.length<=200):CellB 258 pb W0 Jk (Kx xs) where
 enters:=KC
 call:=by
  intro a w d _;have:=V d hpb c1;have b:=Jhk P w co cn cc xs (h.below d) hl a;obtain⟨c,hd⟩:=nm (decide (a ∈ xs));rw[hd]at b;have f:(if c=true then(1:Int)else 0)=Kx xs a:=by
   unfold Kx;rw[<-hd];by_cases e:a ∈ xs
   .simp [e]
   .simp [e]
  obtain⟨i,e⟩:=nm (Kx xs a);rw[e]at f;rw[e];have g:=fun j=>Jcd c i f j;go_enter func258,ntmps258;go_wp2_with (first|(go_at_call 260;refine aQ b ?_)| (go_at_call 259;refine aQ (g _) ?_));go_ret;simp
def inP(a b:Arr):Arr × Int:=(⟨a.shape,a.cells.map (Kx b.cells)⟩,0)
theorem J3p(w):FnTwo 205 #[] w inP:=by
 intro b P ai v a c _ F r L u R;obtain⟨i,h,sc,l,k,j,rfl,H,K⟩:=r;obtain⟨ab,aa,Z,q,o,n,rfl,f,N⟩:=L;have r:IsArr P b (agV i h sc l k j) a:=⟨_,_,_,_,_,_,rfl,H,K⟩;obtain⟨d,e⟩:=nm (((b.alloc (.cells (aL i h sc l k j) 89)).alloc (.cells (aL ab aa Z q o n) 89)).alloc (.cells aF 89));have m:J b d:=by rw[<-e];exact Jnr
 have:d.1.size=b.1.size+1+1+1:=by rw[<-e];simp
 have k1:d.cell? (adQ1 b)=some (E q o n):=by
  rw[<-e,WA (a:=adQ1 b) (NB _ _ _ (by simp))];exact(NH _ _ _ _ (by simp)).trans rfl
 have:d.cell? (adP0 b)=some (E i h sc):=by
  rw[<-e,WA (a:=adP0 b) (NB _ _ _ (by simp;omega)),WA (a:=adP0 b) (NB _ _ _ (by simp))];exact alA
 have:d.cell? (adP1 b)=some (E l k j):=by
  rw[<-e,WA (a:=adP1 b) (NB _ _ _ (by simp;omega)),WA (a:=adP1 b) (NB _ _ _ (by simp))];exact alA
 have X:d.cell? (adR0 b)=some M:=by rw[<-e];exact(NH _ _ _ _ (by simp)).trans rfl
 have Y:d.cell? (adR1 b)=some M:=by rw[<-e];exact(NH _ _ _ _ (by simp)).trans rfl
 have t:∀y,d.frozen? (U (b.1.size+1+1) y)=false:=fun y=>by rw[<-e];exact NL _ _ _ _ (by simp)
 have s:=Jlf (Kx c.cells) 258 (b.1.size+1) (fun c=>P c/\c≠b.1.size+1+1) d Jk (J0d (b.1.size+1) (by omega) q o n c.cells k1 (N.below m) R.few) (fun c g=>⟨F c (by omega),by omega⟩) i h sc l k j a ((r.imp (fun c g x=>⟨g,by omega⟩)).below m) u u.fits;obtain⟨W,x⟩:=nm ((⟨a.shape,a.cells.map (Kx c.cells)⟩:Arr):Arr);have Q:inP a c=(W,0):=by unfold inP;rw[x]
 simp only[x]at s;simp only[Q];have S:=t 0;have T:=t 1;go_enter func205,ntmps205;go_wp2_with fail;try rw[e]
 refine s.mono ?_;rintro ac z ⟨c1,B,C,rfl,D,f⟩;have:=f.size;have d0:=V f (by omega) X;have d1:=V f (by omega) Y;have:=bF f (by omega) S;have:=bF f (by omega) T;have A:J b z:=m.trans (f.mono m.size);have:b.1.size+1+1<z.1.size:=by omega
 go_wp2_with fail;refine FR (v:=.tuple #[(agV i h sc c1 B C),G 0]) (by simp[results,results205,go_sem,d0,d1]) rfl ⟨_,_,_,_,_,_,rfl,?_,?_⟩
 .exact ((D.set (fun g=>g.2 rfl) 0 _).set (fun g=>g.2 rfl) 1 _).imp (fun c g _=>g.1)
 exact(A.setCell (p:=adR0 b) (by show b.1.size<=b.1.size+1+1;omega) _).setCell (p:=adR1 b) (by show b.1.size<=b.1.size+1+1;omega) _
theorem J2c:TwoC ⟨#[105,110]⟩ inP:=⟨fun w=>(Q6 (t:=⟨#[105,110]⟩) (k1:=.string [110]) (k2:=.string [105,110]) (f:=205) (by decide) (by kernel_rfl) (by kernel_rfl) (by kernel_rfl) (by kernel_rfl) (by kernel_rfl) w).mono (by rintro e w' ⟨rfl,hb⟩;exact⟨205,#[],rfl,KD,hb,J3p w'⟩),fun a b ha hb=>⟨by simpa[inP]using ha.few,fun _=>⟨ha.rank,ha.lens,by simpa[inP]using ha.size,by simpa[inP]using ha.few,by intro c hc;obtain⟨x,_,rfl⟩:=NZ.1 hc;simp[Kx,Jk];omega⟩⟩⟩
structure PredC (g:Nat) (lb:Array Value) (W0:World) (p:Int->Bool):Prop where
 enters:Enters prog g
 call:∀ (x:Int) (w:World),J W0 w->Calls prog g (#[.int .i64 x]++lb) w fun e w'=>e=.returned (.bool (p x))/\w'=w
theorem Jm4(P)(w W0)(hW:J W0 w)(g)(lb)(p)(hg:PredC g lb W0 p)(co)(cn cc)(xs)(h:Nums P w (E co cn cc) xs)(hl:xs.length<=200):
 Calls prog 289 #[E co cn cc,.func (.func g) #[] lb] w fun e w'=>∃r:Int,e=aD (G r)/\(decide (0<=r)=xs.any p)/\w'=w:=by
 have j:=Je h;have m:0<cn->∃b c,co=some (U b c)/\b<w.1.size/\∀i,(hi:i<xs.length)->w.cell? (U b (c+i))=some (G xs[i]):=by
  intro u;obtain⟨o,q,n,_,d,_⟩:=h;injection n with a s t;obtain⟨b,c,l,_,k,f⟩:=d (by omega);exact⟨b,c,a.trans l,k,f⟩
 have l:=fun q=>hg.call q w hW;have u:∀args w,(callFunc g args).run prog w=.ok (.enter g args) w:=hg.enters;have t:cn<=200:=by omega
 clear h hl hg hW;change Hid _ at j;go_enter func289,ntmps289;go_wp2_with fail;go_loop [8] (fun v=>∃a:Nat,v=G a/\a<=cn/\∀i,(hi:i<xs.length)->i<a->p xs[i]=false) (fun v=>cn-(intOf v).toNat)
 .grind
 obtain⟨a,rfl,x,s⟩:=hrel;by_cases n:a<cn
 .obtain ⟨b,c,rfl,k,f⟩:=m (by omega);have o:a<xs.length:=by rw[<-j];exact n
  have c0:=f a o;generalize xs[a]=y at c0;have:(a:Int)<cn:=by omega
  have:(0:Int)<=a:=by omega
  have d:=l y;clear f;cases hp:p y
  .rw [hp]at d;go_wp2_with (go_at_fn g;refine aQ d ?_);grind[intOf]
  rw[hp]at d;go_wp2_with (go_at_fn g;refine aQ d ?_);go_ret;refine⟨a,rfl,?_,rfl⟩;grind
 have d:a=cn:=by omega
 go_wp2;go_ret;refine⟨-1,rfl,?_,rfl⟩;grind[List.getElem_of_mem,I]
theorem Jfa(P)(w W0)(hW:J W0 w)(g)(lb)(p)(hg:PredC g lb W0 p)(co)(cn cc)(xs)(h:Nums P w (E co cn cc) xs)(hl:xs.length<=200):
 Calls prog 278 #[E co cn cc,.func (.func g) #[] lb] w fun e w'=>e=aD (.bool (xs.any p))/\w'=w:=by
 have a:=Jm4 P w W0 hW g lb p hg co cn cc xs h hl;go_enter func278,ntmps278;go_wp2_with (go_at_call 289;refine a.mono ?_;rintro e w' ⟨d,rfl,b,rfl⟩;have:=b);refine FR ?_ rfl ⟨rfl,rfl⟩;simp[results]
theorem Jjf(P)(w W0)(hW:J W0 w)(g)(lb)(p)(hg:PredC g lb W0 p)(so)(sn sc)(co)(cn cc)(xs)(h:Nums P w (E co cn cc) xs)(hl:xs.length<=200):
 Calls prog 251 #[aK so sn sc co cn cc,.func (.func g) #[] lb] w fun e w'=>e=aD (.bool (xs.any p))/\w'=w.alloc (.cells (aL so sn sc co cn cc) 89):=by
 have b:J w (w.alloc (.cells (aL so sn sc co cn cc) 89)):=belA1;have a:=Jfa P (w.alloc (.cells (aL so sn sc co cn cc) 89)) W0 (hW.trans (b.mono hW.size)) g lb p hg co cn cc xs (h.below b) hl;generalize xs.any p=d at a⊢;go_enter func251,ntmps251;go_wp2_with (go_at_call 278;refine aQ a ?_);go_ret;simp
theorem Qu(w)(so)(sn sc)(co)(cn cc):
 Calls prog 255 #[aK so sn sc co cn cc] w fun e w'=>e=aD (.bool ((sn:Int)== 1))/\w'=(w.alloc (.cells (aL so sn sc co cn cc) 89)).alloc (.cells (aL so sn sc co cn cc) 89):=by
 go_enter func255,ntmps255;go_wp2_with (go_at_call 221;refine aQ (Z7 _ so sn sc co cn cc) ?_);go_ret;simp
end Go.Proofs.YtjobgpahajhbnaaGreatDoor
