import Derived.Maps.Views
import Derived.Lib.LaidTab
import Derived.Lib.AppendIntMem
import Derived.Maps.AppendAt
import Derived.Test.YtjobgpahajhbnaaGreatDoorKg
namespace Go.Proofs.YtjobgpahajhbnaaGreatDoor
open Go.RowKit Go.Proofs Go.Maps Go.Proofs.Tryz
attribute [local go_sem ↓] Go.wp_at_zero Go.wp_at_succ
set_option linter.all false
set_option maxHeartbeats 2000000
set_option maxRecDepth 20000
variable {B N b c db g k mb n o p q:Nat} {D:DataW Value} {P' S S':Nat->Prop} {Q:Exit->Act->World->Prop} {W W' w w' w1 w2:World} {env:ByteArray->Option Arr} {fuel:Int} {mo:Option Nat} {ops:Array Oper} {t:ByteArray} {u0 u1 u2 u3 v:Value} {xs:List Int}
theorem Nv(P)(w):IsArr P w (.agg aF) ⟨[],[]⟩:=⟨none,0,0,none,0,0,rfl,Ym _ _,Ym _ _⟩
section
variable {W3 w5:World} {s0 s1:Value} {a:Arr} {P:Nat->Prop} {e0 e1:Int}
theorem J35(hb:J W3 w5)(hA:IsArr P w5 (.agg #[s0,s1]) a):
 AftX W3 ((w5.alloc (.cells #[s0,s1] 89)).alloc (.cells #[G e0,G e1] 117)) w5.1.size (w5.1.size+1) s0 s1 e0 e1/\IsArr (Not2 w5.1.size (w5.1.size+1)) ((w5.alloc (.cells #[s0,s1] 89)).alloc (.cells #[G e0,G e1] 117)) (.agg #[s0,s1]) a:=by
 have c:=hb.size;exact⟨⟨(hb.alloc hb.size _).alloc (by simp;omega) _,c,by omega,by simp;omega,by simp,by simp,by simp,by simp,by simp⟩,(hA.imp (fun b _ d=>⟨by omega,by omega⟩)).below ((aS.alloc aT _).alloc (by simp) _)⟩
theorem J34(hb:J W3 w5)(hA:IsArr P w5 (.agg #[s0,s1]) a):
 AftX W3 ((w5.alloc (.cells #[G e0,G e1] 117)).alloc (.cells #[s0,s1] 89)) (w5.1.size+1) w5.1.size s0 s1 e0 e1/\IsArr (Not2 (w5.1.size+1) w5.1.size) ((w5.alloc (.cells #[G e0,G e1] 117)).alloc (.cells #[s0,s1] 89)) (.agg #[s0,s1]) a:=by
 have c:=hb.size;exact⟨⟨(hb.alloc hb.size _).alloc (by simp;omega) _,by omega,c,by simp,by simp;omega,by simp,by simp,by simp,by simp⟩,(hA.imp (fun b _ d=>⟨by omega,by omega⟩)).below ((aS.alloc aT _).alloc (by simp) _)⟩
theorem J33(hb:J W3 w5)(hA:IsArr (fun b=>b<W3.1.size\/k<=b) w5 (.agg #[s0,s1]) a)(hk:W3.1.size<k)(hl:W3.1.size<w5.1.size)(c0:w5.cell? (U W3.1.size 0)=some u0)(c1:w5.cell? (U W3.1.size 1)=some u1):
 AftX W3 (((w5.setCell (U W3.1.size 0) s0).setCell (U W3.1.size 1) s1).alloc (.cells #[G e0,G e1] 117)) W3.1.size w5.1.size s0 s1 e0 e1/\IsArr (Not2 W3.1.size w5.1.size) (((w5.setCell (U W3.1.size 0) s0).setCell (U W3.1.size 1) s1).alloc (.cells #[G e0,G e1] 117)) (.agg #[s0,s1]) a:=by
 have h:=hb.size;have d:¬ (fun b=>b<W3.1.size\/k<=b) W3.1.size:=by intro h;rcases h with h|h<;>omega
 have c:((w5.setCell (U W3.1.size 0) s0).setCell (U W3.1.size 1) s1).1.size=w5.1.size:=by simp
 refine⟨⟨((hb.setCell aT _).setCell aT _).alloc (by rw[c];exact h) _,FP _,h,by simp;omega,by simp,?_,?_,?_,?_⟩,?_⟩
 .rw [NV _ _ _ (by simp;omega)];exact Y9 c0
 .rw [NV _ _ _ (by simp;omega)];exact Y8 c1
 .exact (NH _ _ _ _ c.symm).trans rfl
 .exact (NH _ _ _ _ c.symm).trans rfl
 refine IsArr.below ?_ (aS.alloc aT _);refine IsArr.imp ((hA.set d 0 _).set d 1 _) (fun b hb hl=>?_);rw[c]at hl;exact⟨by rcases hb with h|h<;>omega,by omega⟩
theorem J32(hb:J W3 w5)(hA:IsArr (fun b=>b<W3.1.size\/k<=b) w5 (.agg #[s0,s1]) a)(hk:W3.1.size<k)(hl:W3.1.size<w5.1.size)(c0:w5.cell? (U W3.1.size 0)=some u0)(c1:w5.cell? (U W3.1.size 1)=some u1):
 AftX W3 (((w5.setCell (U W3.1.size 0) (G e0)).setCell (U W3.1.size 1) (G e1)).alloc (.cells #[s0,s1] 89)) w5.1.size W3.1.size s0 s1 e0 e1/\IsArr (Not2 w5.1.size W3.1.size) (((w5.setCell (U W3.1.size 0) (G e0)).setCell (U W3.1.size 1) (G e1)).alloc (.cells #[s0,s1] 89)) (.agg #[s0,s1]) a:=by
 have h:=hb.size;have d:¬ (fun b=>b<W3.1.size\/k<=b) W3.1.size:=by intro h;rcases h with h|h<;>omega
 have c:((w5.setCell (U W3.1.size 0) (G e0)).setCell (U W3.1.size 1) (G e1)).1.size=w5.1.size:=by simp
 refine⟨⟨((hb.setCell aT _).setCell aT _).alloc (by rw[c];exact h) _,h,FP _,by simp,by simp;omega,?_,?_,?_,?_⟩,?_⟩
 .exact (NH _ _ _ _ c.symm).trans rfl
 .exact (NH _ _ _ _ c.symm).trans rfl
 .rw [NV _ _ _ (by simp;omega)];exact Y9 c0
 .rw [NV _ _ _ (by simp;omega)];exact Y8 c1
 refine IsArr.below ?_ (aS.alloc aT _);refine IsArr.imp ((hA.set d 0 _).set d 1 _) (fun b hb hl=>?_);rw[c]at hl;exact⟨by omega,by rcases hb with h|h<;>omega⟩
theorem J25(hb:J W3 w5)(hA:IsArr (fun b=>b<W3.1.size\/k<=b) w5 (.agg #[s0,s1]) a)(hp:W3.1.size<=p/\p<k/\p<w5.1.size)(hq:W3.1.size<=q/\q<k/\q<w5.1.size)(hpq:p≠q)(c0:w5.cell? (U p 0)=some u0)(c1:w5.cell? (U p 1)=some u1)(c2:w5.cell? (U q 0)=some u2)(c3:w5.cell? (U q 1)=some u3):
 AftX W3 ((((w5.setCell (U p 0) s0).setCell (U p 1) s1).setCell (U q 0) (G e0)).setCell (U q 1) (G e1)) p q s0 s1 e0 e1/\IsArr (Not2 p q) ((((w5.setCell (U p 0) s0).setCell (U p 1) s1).setCell (U q 0) (G e0)).setCell (U q 1) (G e1)) (.agg #[s0,s1]) a:=by
 have c:¬ (fun b=>b<W3.1.size\/k<=b) p:=by intro h;rcases h with h|h<;>omega
 have nq:¬ (fun b=>b<W3.1.size\/k<=b) q:=by intro h;rcases h with h|h<;>omega
 refine⟨⟨(((hb.setCell hp.1 _).setCell hp.1 _).setCell hq.1 _).setCell hq.1 _,hp.1,hq.1,by simp;omega,by simp;omega,?_,?_,?_,?_⟩,?_⟩
 .rw [Yt hpq];exact Y9 c0
 .rw [Yt hpq];exact Y8 c1
 .exact Y9 (u:=u2) (by rw[Yt (JC hpq)];exact c2)
 .exact Y8 (u:=u3) (by rw[Yt (JC hpq)];exact c3)
 .exact IsArr.imp ((((hA.set c 0 _).set c 1 _).set nq 0 _).set nq 1 _) (fun b hb d=>⟨by rcases hb with h|h<;>omega,by rcases hb with h|h<;>omega⟩)
end
def RepE(w:World)(er at_:Int)(e:Ending)(w':World):Prop:=e=.returned (.agg #[.int .i64 er,.int .i64 at_,aH,aH,.int .i64 0])/\J w w'
theorem Jmf(env)(fuel)(f1)(f2)(db)(w)(mr)(s)(hs:s.size<=9223372036854775807)(hD:Dsk db fuel mr w)(h0:0<=fuel)(hfl:fuel<=1000)(he:∀t a,env t=some a->a.ok)(hL:Look (fun _=>True) w (.map mr) env)
 (hp:(Jr s).1=0) (hp2:(Jr s).2=0) (hg:∀x,Zs s x->Good f1 f2 x) (er) (pl) (hev:∀x,Zs s x->Js env fuel f1 f2 x 0=.inl (er,pl)) (hne:er≠0):
 Calls prog 42 #[aJ db 0,aE s] w (RepE w er pl):=by
 have o:J w (w.alloc (.cells #[G 0,G 0,aH,aH,G 0] 47)):=aS.alloc aT _;have H:=Vr s _ (hD.keep o).evs hs;have D:=fun x (h:Zs s x) B W q af P ad n=>Je4 env fuel f1 f2 B W (.map mr) ⟨_,rfl⟩ h0 hfl he x (hg x h) q af P ad n;obtain⟨y,N⟩:=nm ((pl:Int):Int);rw[N];obtain⟨nm,ag⟩:=nm (Z2 s);have A:=hD;have am:=hD.lt;clear hD h0 hfl he hg hs;go_enter func42,ntmps42;go_wp2_with (go_at_call 59;refine H.mono ?_;rintro j w2 ⟨q,rfl,m,h⟩;obtain⟨x,R,h⟩:=h hp;rw[hp,hp2,ag];have z:=o.trans (m.mono o.size);have L:=R;have Z:=h;have ae:=m;clear m R h);have f:J w2 (w2.alloc (.cells #[aE nm,.pointer q] 113)):=aS.alloc aT _;have T:(w2.alloc (.cells #[aE nm,.pointer q] 113)).cell? (U w2.1.size 1)=some (.pointer q):=alA;have S:(w2.alloc (.cells #[aE nm,.pointer q] 113)).cell? (U w2.1.size 0)=some (aE nm):=alA;have X:w2.1.size<(w2.alloc (.cells #[aE nm,.pointer q] 113)).1.size:=by simp
 obtain⟨W3,Q⟩:∃W3,w2.alloc (.cells #[aE nm,.pointer q] 113)=W3:=⟨_,rfl⟩;rw[Q]at f T S X⊢;have g:=z.trans (f.mono z.size);have C:=A.keep g;clear Q S;have F:∀w',J W3 w'->Calls prog 60 #[.pointer q,.map mr,G fuel] w' fun j u=>J w' u/\J W3 u/\j=aD (.tuple #[.agg aF,G 0,.agg #[G er,G y]]):=fun w' e=>by
  have i:=f.trans (e.mono f.size);have l:=g.trans (e.mono g.size);refine(D x L _ w' q (Z.keep (Behind.of_below i)) (fun b=>b<W3.1.size\/w'.1.size<=b) (fun b c=>.inr c) (hL.later l (fun b _ n=>.inl (FT n g.size)))).mono ?_;rintro j u ⟨c,d⟩;rw[hev x L]at d;simp only[N]at d;exact⟨c,e.trans (c.mono e.size),d.1⟩
 have K:Hid (∀w',J W3 w'->w'.cell? (U w2.1.size 1)=some (.pointer q)/\w'.cell? (U db 1)=some (.map mr)/\w'.cell? (U db 0)=some (G fuel)):=by
  intro w' e;have c:=C.keep e;exact⟨V e X T,c.c1,c.c0⟩
 clear D H hL hev;go_upto_region 4 with fail;go_cut [8,9,10]from 22 to 36 (fun d i c l=>i=G 0/\∃p q,d=aJ p 0/\c=aJ q 0/\AftX W3 l p q aH aH er y)
 .go_region_held3 (fun w'=>w'.cell? (U w2.1.size 1)=some (.pointer q)/\w'.cell? (U db 1)=some (.map mr)/\w'.cell? (U db 0)=some (G fuel))
   (exact K _ (by repeat' (first|exact FQ _ _|refine Below.drew ?_|refine Below.alloc ?_ ?_ _|refine Below.setCell ?_ ?_ _|(show _<=_;first|omega|(simp;done)| (simp;omega))| exact d)))
   ((go_at_call 60;refine(F _ ?_).mono ?_;(first|exact aS.drew|exact(aS.alloc aT _).drew|exact((aS.alloc aT _).alloc (by simp) _).drew);rintro j w5 ⟨i,l,rfl⟩; have d:=l;have ac:=l.size;have Y:=i.size;(try simp at Y);(try have r:W3.1.size<w5.1.size:=by omega);(try have ah:W3.1.size+1<w5.1.size:=by omega);(try have ai:W3.1.size≠w5.1.size:=by omega);(try have ab:W3.1.size+1≠w5.1.size:=by omega);obtain⟨c,aa⟩:=Yy i;clear i l))
  all_goals go_wp2_with fail
  all_goals go_meet
  case rel=>exact⟨rfl,_,_,rfl,rfl,(J35 (P:=fun _=>True) d (Nv _ _)).1⟩
  case rel=>exact⟨rfl,_,_,rfl,rfl,(J34 (P:=fun _=>True) d (Nv _ _)).1⟩
  case rel=>exact⟨rfl,_,_,rfl,rfl,(J33 (k:=W3.1.size+1) (u0:=aH) (u1:=aH) d (Nv _ _) (by simp) r ((c _ 0 (by simp)).trans (by simp)) ((c _ 1 (by simp)).trans (by simp))).1⟩
  case rel=>exact⟨rfl,_,_,rfl,rfl,(J25 (k:=W3.1.size+2) (u0:=aH) (u1:=aH) (u2:=G 0) (u3:=G 0) d (Nv _ _) ⟨by omega,(by simp<;>omega),by omega⟩ ⟨by omega,(by simp<;>omega),by omega⟩ (by omega) ((c _ 0 (by simp<;>omega)).trans (by simp)) ((c _ 1 (by simp<;>omega)).trans (by simp)) ((c _ 0 (by simp<;>omega)).trans (by simp)) ((c _ 1 (by simp<;>omega)).trans (by simp))).1⟩
  .exact ⟨rfl,_,_,rfl,rfl,(J32 (k:=W3.1.size+1) (u0:=G 0) (u1:=G 0) d (Nv _ _) (by simp) r ((c _ 0 (by simp)).trans (by simp)) ((c _ 1 (by simp)).trans (by simp))).1⟩
  exact⟨rfl,_,_,rfl,rfl,(J25 (k:=W3.1.size+2) (u0:=aH) (u1:=aH) (u2:=G 0) (u3:=G 0) d (Nv _ _) ⟨by omega,(by simp<;>omega),by omega⟩ ⟨by omega,(by simp<;>omega),by omega⟩ (by omega) ((c _ 0 (by simp<;>omega)).trans (by simp)) ((c _ 1 (by simp<;>omega)).trans (by simp)) ((c _ 0 (by simp<;>omega)).trans (by simp)) ((c _ 1 (by simp<;>omega)).trans (by simp))).1⟩
 obtain⟨rfl,p,aq,rfl,rfl,i⟩:=hcut;have bel:=i.bel;have ar:=i.f0;have au:=i.f1;have ao:=i.hq;have l:Below (w.1.size+1) (w.alloc (.cells #[G 0,G 0,aH,aH,G 0] 47)) wc:=by
  have c:=I ae;simp only[MT]at c;have d:=f.size;have r:=c.size;simp at r;exact(c.trans (f.mono (by omega))).trans (bel.mono (by omega))
 have c:=fun r=>l.cell (p:=U w.1.size r) (by show w.1.size<w.1.size+1;omega);have d:=fun r=>(l.frozen (p:=U w.1.size r) (by show w.1.size<w.1.size+1;omega)).trans (NL _ _ _ _ rfl);have e0:=(c 0).trans (alA);have e1:=(c 1).trans (alA);have aa:=(c 2).trans (alA);have ab:=(c 3).trans (alA);have ac:=(c 4).trans (alA);have ah:=d 0;have ai:=d 1;have aj:=d 2;have ak:=d 3;have al:=d 4;have ap:w.1.size<wc.1.size:=by have:=l.size;simp at this;omega
 have an:(er != 0)=true:=by simpa using hne
 have Y:=g.trans (bel.mono g.size);clear i bel l c d F K A C hne;go_wp2_with fail
 all_goals first
  | (refine FR (by simp[results,results42,go_sem,e0,e1,aa,ab,ac]) rfl ⟨rfl,?_⟩;exact((((Y.setCell (p:=U w.1.size 0) aT _).setCell (p:=U w.1.size 1) aT _).setCell (p:=U w.1.size 2) aT _).setCell (p:=U w.1.size 3) aT _).setCell (p:=U w.1.size 4) aT _)
  | (trace_state;fail)
theorem Jiy{P:Nat->Prop}{so:Option Addr}{sn sc:Nat}(h:Nums P w (E so sn sc) xs):sn=xs.length/\xs.length<=sc/\(0<xs.length->∃b off,so=some (U b off)/\b<w.1.size/\∀i,(h:i<xs.length)->w.cell? (U b (off+i))=some (G xs[i])):=by
 obtain⟨a,c,f,e,d,_⟩:=h;grind
structure Bs (S:Nat->Prop) (w w':World):Prop where
 os:w'.os=w.os
 tape:w'.tape=w.tape
 output:w'.output=w.output
 size:w.1.size<=w'.1.size
 block:∀ k,k<w.1.size->¬ S k->w'.heap[k]?=w.heap[k]?
theorem Bs.of(h:J w w'):Bs S w w':=⟨h.os,h.tape,h.output,h.size,fun k hk _=>h.block k hk⟩
theorem Bs.trans(h:Bs S w w1)(h':Bs S' w1 w2)(hs:∀k,k<w.1.size->S' k->S k):Bs S w w2 :=
 ⟨h'.os.trans h.os,h'.tape.trans h.tape,h'.output.trans h.output,NE h.size h'.size,fun k hk hn=>(h'.block k (FT hk h.size) (fun hs'=>hn (hs k hk hs'))).trans (h.block k hk hn)⟩
theorem Bs.cell(h:Bs S w w')(hb:b<w.1.size)(hn:¬ S b):w'.cell? (U b o)=w.cell? (U b o):=WA (h.block b hb hn)
theorem Bs.frozen(h:Bs S w w')(hb:b<w.1.size)(hn:¬ S b):w'.frozen? (U b o)=w.frozen? (U b o):=NI (a:=U b o) (h.block b hb hn)
def keyT(t:ByteArray):Lit:=.string t.data.toList
theorem Jk2(ht:t.size<=200):keyOf prog 9 (aE t)=some (keyT t):=Go.WideMaps.keyOf_string_mk YY (by grind[maxLen])
theorem Jv9{u:ByteArray}(h:keyT t=keyT u):t=u:=by
 grind[keyT,J2w]
def Holds(D:DataW Value)(P:Nat->Prop)(W:World)(env:ByteArray->Option Arr):Prop :=
 IsMap D/\∀t:ByteArray,match env t with
  | none=>Maps.has D (keyT t)=false
  | some a=>∃v,Maps.has D (keyT t)=true/\(∀z,D.atKey (keyT t) z=.held v)/\IsArr P W v a
theorem Vo(h:W.ownsMap prog 9 J0 mb n D)(hb:J W w):w.ownsMap prog 9 J0 mb n D:=by
 obtain⟨b,a,c,d⟩:=h;refine⟨b,a,(hb.block mb ?_).trans c,d⟩;grind
theorem Jz7{P:Nat->Prop}(hO:W.ownsMap prog 9 J0 mb n D)(hH:Holds D P W env):Look P W (.map (some mb)) env:=by
 intro t d;have b:=hH.2 t;cases he:env t with
 | none =>
  rw[he]at b;refine⟨zArr,fun w c=>?_,rfl⟩;exact Xm Hy (KN w) (Vo hO c) (Jk2 d) b (atKey_of_not_has b _)
 | some a =>
  rw[he]at b;obtain⟨v,e,f,g⟩:=b;exact⟨v,fun w c=>Xm Hy (KN w) (Vo hO c) (Jk2 d) e (f _),g⟩
def upd(env:ByteArray->Option Arr)(nm:ByteArray)(a:Arr):ByteArray->Option Arr:=fun t=>if t=nm then some a else env t
theorem Holds.put{P:Nat->Prop}(h:Holds D P W env)(nm:ByteArray)(hk:WideAt.IsKeyLit (keyT nm)){a:Arr}(hv:IsArr P' W' v a)(hold:∀u b,IsArr P W u b->IsArr P' W' u b):Holds (D.put (keyT nm) (.held v)) P' W' (upd env nm a):=by
 refine⟨h.1.put _ _,fun t=>?_⟩;unfold upd;by_cases c:t=nm
 .subst c;rw[FY rfl];exact⟨v,has_put_same h.1 hk _,fun d=>atKey_put_same h.1 hk _ _,hv⟩
 rw[FU c];have d:keyT t≠keyT nm:=fun h=>c (Jv9 h);have:=h.2 t;grind[has_put_other,atKey_put_other]
theorem Jhq(s)(w)(hlim:s.size<=200):Calls prog 78 #[aE s] w fun e w'=>e=aD (aE s)/\J w w':=by
 have b:=O (QF s w (by omega));go_enter func78,ntmps78;go_wp2_with (go_at_call 112;refine aR b fun w' c=>?_;have a:=O c);go_ret;exact⟨rfl,a⟩
theorem KP(b)(w):(binOp .eql 87 (.map (some b)) (.map none)).run prog w=.ok (.bool false) w:=by kernel_rfl
theorem KQ(w):(binOp .eql 87 (.map none) (.map none)).run prog w=.ok (.bool true) w:=by kernel_rfl
theorem Jwb(db)(w)(mb n)(D)(nm:ByteArray)(hnm:nm.size<=200)(so)(sn sc)(co)(cn cc)(hdb:db<w.1.size)(c1:w.cell? (U db 1)=some (.map (some mb)))(hO:w.ownsMap prog 9 J0 mb n D)(hn:n<5000000)(hdm:db≠mb):
 Calls prog 61 #[aJ db 0,aE nm,aK so sn sc co cn cc] w fun e w'=>e=aD (.tuple #[])/\w'.ownsMap prog 9 J0 mb (n+1) (D.put (keyT nm) (.held (aK so sn sc co cn cc)))/\Bs (fun b=>b=mb) w w':=by
 have:mb<w.1.size:=by
  obtain⟨d,c,l,_⟩:=hO;exact(YE.1 l).1
 have d:J w (w.alloc (.cells (aL so sn sc co cn cc) 89)):=belA1;obtain⟨c,h⟩:∃c,w.alloc (.cells (aL so sn sc co cn cc) 89)=c:=⟨_,rfl⟩;have y:c.cell? (adP0 w)=some (E so sn sc):=by rw[<-h];exact alA
 have z:c.cell? (adP1 w)=some (E co cn cc):=by rw[<-h];exact alA
 have p:w.1.size<c.1.size:=by rw[<-h];simp
 rw[h]at d;have j:∀w',J c w'->w'.cell? (U db 1)=some (.map (some mb))/\w'.cell? (adP0 w)=some (E so sn sc)/\w'.cell? (adP1 w)=some (E co cn cc):=fun w' i=>⟨V (d.trans (i.mono d.size)) hdb c1,V i p y,V i p z⟩
 have t:∀w',J c w'->∃w'',(Instr.mapUpdate 87 (.map (some mb)) (aE nm) (agV so sn sc co cn cc)).run prog w'=.ok () w''/\w''.ownsMap prog 9 J0 mb (n+1) (D.put (keyT nm) (.held (agV so sn sc co cn cc)))/\w'.grownBy w'' (some mb):=fun w' i=>(Vo hO (d.trans (i.mono d.size))).update VM Hy (by unfold maxLen;omega) (Jk2 hnm) (show J0 (agV so sn sc co cn cc)=some (.held (agV so sn sc co cn cc),[])from rfl);have q:=fun w'=>Jhq nm w' hnm;have:db<c.1.size:=by omega
 have:=(j c aS).1;have o:w.1.size≠mb:=by omega
 have:=KP mb;go_enter func61,ntmps61;go_wp2_with fail;try rw[h]
 go_region_held3 (fun w'=>w'.cell? (U db 1)=some (.map (some mb))/\w'.cell? (adP0 w)=some (E so sn sc)/\w'.cell? (adP1 w)=some (E co cn cc))
  (first
   | exact j _ aS.drew
   | exact j _ f
   | exact s
   | (trace_state;fail))
  ((go_at_call 78;refine aR (q _) fun w1 u=>?_;have f:J c w1:=aS.drew.trans u;obtain⟨w2,H,x,l⟩:=t w1 f;have r:=x;have g:=l;have s:Hid (w2.cell? (U db 1)=some (.map (some mb))/\w2.cell? (adP0 w)=some (E so sn sc)/\w2.cell? (adP1 w)=some (E co cn cc)):=O (by have m:=j w1 f;have:=f.size;rw[WA (a:=U db 1) (l.block db (by omega) (fun e=>hdm (NS e))),WA (a:=adP0 w) (l.block w.1.size (by omega) (fun e=>o (NS e))),WA (a:=adP1 w) (l.block w.1.size (by omega) (fun e=>o (NS e)))];exact m)))
 have s:Bs (fun b=>b=mb) w w2:=by
  have l:=d.trans (f.mono d.size);exact(Bs.of l).trans ⟨g.os,g.tape,g.output,g.size,fun k m hn=>g.block k m (fun e=>hn (NS e))⟩ (fun k _ m=>m)
 go_wp2_with fail;exact MI (v:=.tuple #[]) (by simp[results,results61,go_sem]) rfl ⟨rfl,r,s⟩
theorem Jwc(db)(w)(nm:ByteArray)(hnm:nm.size<=200)(so)(sn sc)(co)(cn cc)(hdb:db<w.1.size)(c1:w.cell? (U db 1)=some (.map none))(f1:w.frozen? (U db 1)=false):
 Calls prog 61 #[aJ db 0,aE nm,aK so sn sc co cn cc] w fun e w'=>e=aD (.tuple #[])/\w'.cell? (U db 1)=some (.map (some (w.1.size+1)))/\w'.cell? (U db 0)=w.cell? (U db 0)/\w'.frozen? (U db 1)=false/\w'.ownsMap prog 9 J0 (w.1.size+1) 1 ((DataW.map []).put (keyT nm) (.held (aK so sn sc co cn cc)))/\Bs (fun b=>b=db) w w':=by
 obtain⟨c,d⟩:∃c,((w.alloc (.cells (aL so sn sc co cn cc) 89)).alloc (.map #[] 0)).setCell (U db 1) (.map (some (w.1.size+1)))=c:=⟨_,rfl⟩;have:c.1.size=w.1.size+1+1:=by rw[<-d];simp
 have C:∀k,k<w.1.size->k≠db->c.heap[k]?=w.heap[k]?:=fun k i m=>by
  rw[<-d,FV _ _ _ _ (fun e=>m e),NB _ _ _ (by simp;omega),NB _ _ _ (by simpa using i)]
 have H:c.cell? (adP0 w)=some (E so sn sc):=by
  rw[<-d,celO (by omega),NV _ _ _ (by simp)];exact alA
 have K:c.cell? (adP1 w)=some (E co cn cc):=by
  rw[<-d,celO (by omega),NV _ _ _ (by simp)];exact alA
 have L:c.cell? (U db 1)=some (.map (some (w.1.size+1))):=by
  rw[<-d];exact FW _ _ _ (u:=.map none) (by rw[NV _ _ _ (by simp;omega),NV _ _ _ (by simpa using hdb)];exact c1)
 have N:c.cell? (U db 0)=w.cell? (U db 0):=by
  rw[<-d,celO (by omega),NV _ _ _ (by simp;omega),NV _ _ _ (by simpa using hdb)]
 have P:c.frozen? (U db 1)=false:=by
  rw[<-d,NA,NI (a:=U db 1) (NB _ _ _ (by simp;omega)),NI (a:=U db 1) (NB _ _ _ (by simpa using hdb))];exact f1
 have A:c.ownsMap prog 9 J0 (w.1.size+1) 0 (.map []):=by
  have g:=MW (w.alloc (.cells (aL so sn sc co cn cc) 89)) prog 9 J0;obtain⟨j,f,h,l⟩:=g;refine⟨j,f,?_,l⟩;rw[<-d,FV _ _ _ _ (by simp;omega)];simpa using h
 have D:Bs (fun b=>b=db) w c:=by
  refine⟨?_,?_,?_,by omega,fun k i m=>C k i m⟩<;>(rw[<-d];rfl)
 have n:∀w',J c w'->w'.cell? (U db 1)=some (.map (some (w.1.size+1)))/\w'.cell? (adP0 w)=some (E so sn sc)/\w'.cell? (adP1 w)=some (E co cn cc):=fun w' l=>⟨V l (by omega) L,V l (by omega) H,V l (by omega) K⟩
 have x:∀w',J c w'->∃w'',(Instr.mapUpdate 87 (.map (some (w.1.size+1))) (aE nm) (agV so sn sc co cn cc)).run prog w'=.ok () w''/\w''.ownsMap prog 9 J0 (w.1.size+1) (0+1) ((DataW.map []).put (keyT nm) (.held (agV so sn sc co cn cc)))/\w'.grownBy w'' (some (w.1.size+1)):=fun w' l=>(Vo A l).update VM Hy (by unfold maxLen;omega) (Jk2 hnm) (show J0 (agV so sn sc co cn cc)=some (.held (agV so sn sc co cn cc),[])from rfl);have s:=fun w'=>Jhq nm w' hnm;have y:=O P;have:=KQ;have:=@run_makeMap prog;have o:db≠w.1.size+1:=by omega
 have:db<w.1.size+1:=by omega
 have:db<w.1.size+1+1:=by omega
 go_enter func61,ntmps61;go_wp2_with fail;try rw[d]
 go_region_held3 (fun w'=>w'.cell? (U db 1)=some (.map (some (w.1.size+1)))/\w'.cell? (adP0 w)=some (E so sn sc)/\w'.cell? (adP1 w)=some (E co cn cc))
  (first
   | exact n _ aS.drew
   | exact n _ f
   | exact I q
   | (trace_state;fail))
  ((go_at_call 78;refine aR (s _) fun w1 B=>?_;have f:J c w1:=aS.drew.trans B;obtain⟨w2,X,F,h⟩:=x w1 f;have t:=F;have j:=h;have q:Hid (w2.cell? (U db 1)=some (.map (some (w.1.size+1)))/\w2.cell? (adP0 w)=some (E so sn sc)/\w2.cell? (adP1 w)=some (E co cn cc)):=O (by have g:=n w1 f;have r:=f.size;rw[WA (a:=U db 1) (h.block db (by omega) (fun e=>o (NS e))),WA (a:=adP0 w) (h.block w.1.size (by omega) (fun e=>absurd (NS e) (by omega))),WA (a:=adP1 w) (h.block w.1.size (by omega) (fun e=>absurd (NS e) (by omega)))];exact g);have g:Hid (w2.cell? (U db 0)=w.cell? (U db 0)):=O (by have r:=f.size;rw[WA (a:=U db 0) (h.block db (by omega) (fun e=>o (NS e))),f.cell (p:=U db 0) (by show db<c.1.size;omega)];exact N);have z:Hid (w2.frozen? (U db 1)=false):=O (by have r:=f.size;rw[NI (a:=U db 1) (h.block db (by omega) (fun e=>o (NS e))),f.frozen (p:=U db 1) (by show db<c.1.size;omega)];exact I y)))
 have r:Bs (fun b=>b=db) w w2:=by
  have h:=D.trans (Bs.of (S:=fun _=>False) f) (fun _ _ g=>absurd g id);exact h.trans (S':=fun b=>b=w.1.size+1) ⟨j.os,j.tape,j.output,j.size,fun k i m=>j.block k i (fun e=>m (NS e))⟩ (fun k i g=>absurd g (by omega))
 go_wp2_with fail;exact MI (v:=.tuple #[]) (by simp[results,results61,go_sem]) rfl ⟨rfl,(I q).1,I g,I z,t,r⟩
section
variable {W3 w5:World} {s0 s1:Value} {a:Arr} {X:Nat->Prop} {e0 e1:Int}
theorem J3x(hb:J W3 w5)(hA:IsArr X w5 (.agg #[s0,s1]) a):
 AftX W3 ((w5.alloc (.cells #[s0,s1] 89)).alloc (.cells #[G e0,G e1] 117)) w5.1.size (w5.1.size+1) s0 s1 e0 e1/\IsArr (fun b=>Not2 w5.1.size (w5.1.size+1) b/\X b) ((w5.alloc (.cells #[s0,s1] 89)).alloc (.cells #[G e0,G e1] 117)) (.agg #[s0,s1]) a:=by
 have c:=hb.size;exact⟨⟨(hb.alloc hb.size _).alloc (by simp;omega) _,c,by omega,by simp;omega,by simp,by simp,by simp,by simp,by simp⟩,(hA.imp (fun b hb d=>⟨⟨by omega,by omega⟩,hb⟩)).below ((aS.alloc aT _).alloc (by simp) _)⟩
theorem J3w(hb:J W3 w5)(hA:IsArr X w5 (.agg #[s0,s1]) a):
 AftX W3 ((w5.alloc (.cells #[G e0,G e1] 117)).alloc (.cells #[s0,s1] 89)) (w5.1.size+1) w5.1.size s0 s1 e0 e1/\IsArr (fun b=>Not2 (w5.1.size+1) w5.1.size b/\X b) ((w5.alloc (.cells #[G e0,G e1] 117)).alloc (.cells #[s0,s1] 89)) (.agg #[s0,s1]) a:=by
 have c:=hb.size;exact⟨⟨(hb.alloc hb.size _).alloc (by simp;omega) _,by omega,c,by simp,by simp;omega,by simp,by simp,by simp,by simp⟩,(hA.imp (fun b hb d=>⟨⟨by omega,by omega⟩,hb⟩)).below ((aS.alloc aT _).alloc (by simp) _)⟩
theorem J3v(hb:J W3 w5)(hA:IsArr (fun b=>(b<W3.1.size\/k<=b)/\X b) w5 (.agg #[s0,s1]) a)(hk:W3.1.size<k)(hl:W3.1.size<w5.1.size)(c0:w5.cell? (U W3.1.size 0)=some u0)(c1:w5.cell? (U W3.1.size 1)=some u1):
 AftX W3 (((w5.setCell (U W3.1.size 0) s0).setCell (U W3.1.size 1) s1).alloc (.cells #[G e0,G e1] 117)) W3.1.size w5.1.size s0 s1 e0 e1/\IsArr (fun b=>Not2 W3.1.size w5.1.size b/\X b) (((w5.setCell (U W3.1.size 0) s0).setCell (U W3.1.size 1) s1).alloc (.cells #[G e0,G e1] 117)) (.agg #[s0,s1]) a:=by
 have h:=hb.size;have d:¬ (fun b=>(b<W3.1.size\/k<=b)/\X b) W3.1.size:=by rintro⟨h|h,_⟩<;>omega
 have c:((w5.setCell (U W3.1.size 0) s0).setCell (U W3.1.size 1) s1).1.size=w5.1.size:=by simp
 refine⟨⟨((hb.setCell aT _).setCell aT _).alloc (by omega) _,FP _,h,by simp;omega,by simp,?_,?_,?_,?_⟩,?_⟩
 .simp_all [NV,Y9]
 .simp_all [NV,Y8]
 .exact (NH _ _ _ _ c.symm).trans rfl
 .exact (NH _ _ _ _ c.symm).trans rfl
 refine IsArr.below ?_ (aS.alloc aT _);refine IsArr.imp ((hA.set d 0 _).set d 1 _) (fun b hb hl=>?_);rw[c]at hl;exact⟨⟨by omega,by omega⟩,hb.2⟩
theorem J3u(hb:J W3 w5)(hA:IsArr (fun b=>(b<W3.1.size\/k<=b)/\X b) w5 (.agg #[s0,s1]) a)(hk:W3.1.size<k)(hl:W3.1.size<w5.1.size)(c0:w5.cell? (U W3.1.size 0)=some u0)(c1:w5.cell? (U W3.1.size 1)=some u1):
 AftX W3 (((w5.setCell (U W3.1.size 0) (G e0)).setCell (U W3.1.size 1) (G e1)).alloc (.cells #[s0,s1] 89)) w5.1.size W3.1.size s0 s1 e0 e1/\IsArr (fun b=>Not2 w5.1.size W3.1.size b/\X b) (((w5.setCell (U W3.1.size 0) (G e0)).setCell (U W3.1.size 1) (G e1)).alloc (.cells #[s0,s1] 89)) (.agg #[s0,s1]) a:=by
 have h:=hb.size;have d:¬ (fun b=>(b<W3.1.size\/k<=b)/\X b) W3.1.size:=by rintro⟨h|h,_⟩<;>omega
 have c:((w5.setCell (U W3.1.size 0) (G e0)).setCell (U W3.1.size 1) (G e1)).1.size=w5.1.size:=by simp
 refine⟨⟨((hb.setCell aT _).setCell aT _).alloc (by omega) _,h,FP _,by simp,by simp;omega,?_,?_,?_,?_⟩,?_⟩
 .exact (NH _ _ _ _ c.symm).trans rfl
 .exact (NH _ _ _ _ c.symm).trans rfl
 .simp_all [NV,Y9]
 .simp_all [NV,Y8]
 .refine IsArr.below ?_ (aS.alloc aT _);refine IsArr.imp ((hA.set d 0 _).set d 1 _) (fun b hb hl=>?_);rw[c]at hl;exact⟨⟨by omega,by omega⟩,hb.2⟩
theorem J23(hb:J W3 w5)(hA:IsArr (fun b=>(b<W3.1.size\/k<=b)/\X b) w5 (.agg #[s0,s1]) a)(hp:W3.1.size<=p/\p<k/\p<w5.1.size)(hq:W3.1.size<=q/\q<k/\q<w5.1.size)(hpq:p≠q)(c0:w5.cell? (U p 0)=some u0)(c1:w5.cell? (U p 1)=some u1)(c2:w5.cell? (U q 0)=some u2)(c3:w5.cell? (U q 1)=some u3):
 AftX W3 ((((w5.setCell (U p 0) s0).setCell (U p 1) s1).setCell (U q 0) (G e0)).setCell (U q 1) (G e1)) p q s0 s1 e0 e1/\IsArr (fun b=>Not2 p q b/\X b) ((((w5.setCell (U p 0) s0).setCell (U p 1) s1).setCell (U q 0) (G e0)).setCell (U q 1) (G e1)) (.agg #[s0,s1]) a:=by
 have c:¬ (fun b=>(b<W3.1.size\/k<=b)/\X b) p:=by rintro⟨h|h,_⟩<;>omega
 have nq:¬ (fun b=>(b<W3.1.size\/k<=b)/\X b) q:=by rintro⟨h|h,_⟩<;>omega
 refine⟨⟨(((hb.setCell hp.1 _).setCell hp.1 _).setCell hq.1 _).setCell hq.1 _,hp.1,hq.1,by simp;omega,by simp;omega,?_,?_,?_,?_⟩,?_⟩
 .simp_all [Yt,Y9]
 .simp_all [Yt,Y8]
 .exact Y9 (u:=u2) (by simp_all[Yt,JC])
 .exact Y8 (u:=u3) (by simp_all[Yt,JC])
 exact IsArr.imp ((((hA.set c 0 _).set c 1 _).set nq 0 _).set nq 1 _) (fun b hb d=>⟨⟨by omega,by omega⟩,hb.2⟩)
end
structure DskN (X:Nat->Prop) (db:Nat) (fuel:Int) (env:ByteArray->Option Arr) (N:Nat) (mo:Option Nat) (w:World):Prop where
 lt:db<w.1.size
 low:6<=db
 evs:Evs w
 c0:w.cell? (U db 0)=some (.int .i64 fuel)
 c1:w.cell? (U db 1)=some (.map mo)
 fr:w.frozen? (U db 1)=false
 out:¬ X db
 map:match mo with
  | none=>env=fun _=>none
  | some mb=>mb≠db/\6<=mb/\¬ X mb/\∃ D,w.ownsMap prog 9 J0 mb N D/\Holds D X w env
theorem Holds.later{P:Nat->Prop}(h:Holds D P W env)(hk:∀u b,IsArr P W u b->IsArr P' W' u b):Holds D P' W' env:=by
 refine⟨h.1,fun t=>?_⟩;have:=h.2 t;grind
theorem DskN.below{X:Nat->Prop}(h:DskN X db fuel env N mo w)(hb:J w w'):DskN X db fuel env N mo w':=by
 refine⟨FT h.lt hb.size,h.low,h.evs.below hb h.evs.1,V hb h.lt h.c0,V hb h.lt h.c1,bF hb h.lt h.fr,h.out,?_⟩;have a:=h.map;cases mo with
 | none=>exact a
 | some mb =>
  obtain⟨b,c,d,D,e,f⟩:=a;exact⟨b,c,d,D,Vo e hb,f.later (fun _ _ h=>h.below hb)⟩
theorem DskN.set{X:Nat->Prop}(h:DskN X db fuel env N mo w){r:Nat}(hr:¬ X r)(h6:6<=r)(hd:r≠db)(hm:mo≠some r)(i)(u):DskN X db fuel env N mo (w.setCell (U r i) u):=by
 have b:∀k,k≠r->(w.setCell (U r i) u).heap[k]?=w.heap[k]?:=fun k d=>FV _ _ _ _ (fun c=>d c);refine⟨by simpa using h.lt,h.low,?_,?_,?_,?_,h.out,?_⟩
 .exact h.evs.below (B:=6) ⟨rfl,rfl,rfl,by simp,fun k d=>b k (by omega)⟩ aT
 .exact (WA (a:=U db 0) (b db (JC hd))).trans h.c0
 .exact (WA (a:=U db 1) (b db (JC hd))).trans h.c1
 .exact (NI (a:=U db 1) (b db (JC hd))).trans h.fr
 have e:=h.map;cases mo with
 | none=>exact e
 | some mb =>
  obtain⟨m,n,o,D,⟨g,f,j,l⟩,p⟩:=e;exact⟨m,n,o,D,⟨g,f,(b mb (fun c=>hm (by rw[c]))).trans j,l⟩,p.later (fun _ _ h=>h.set hr i u)⟩
theorem DskN.imp{X X':Nat->Prop}(h:DskN X db fuel env N mo w)(hx:∀b,X b->b<w.1.size->X' b)(hd:¬ X' db)(hm:∀mb,mo=some mb->¬ X' mb):DskN X' db fuel env N mo w:=by
 refine⟨h.lt,h.low,h.evs,h.c0,h.c1,h.fr,hd,?_⟩;have a:=h.map;cases mo with
 | none=>exact a
 | some mb =>
  obtain⟨c,d,g,D,e,f⟩:=a;exact⟨c,d,hm mb rfl,D,e,f.later (fun _ _ h=>h.imp hx)⟩
theorem DskN.look{X:Nat->Prop}(h:DskN X db fuel env N mo w):Look X w (.map mo) env:=by
 have:=h.map;grind[Jqy,Jz7]
def Own(db:Nat)(mo:Option Nat)(b:Nat):Prop:=b=db\/mo=some b
theorem Jwd(X)(db)(fuel)(env)(N)(mo)(w)(h:DskN X db fuel env N mo w)(hN:N<4000000)(nm:ByteArray)(hnm:nm.size<=200)(so)(sn sc)(co)(cn cc)(a)(hA:IsArr X w (aK so sn sc co cn cc) a)(hx:¬ X (w.1.size+1)):
 Calls prog 61 #[aJ db 0,aE nm,aK so sn sc co cn cc] w fun e w'=>e=aD (.tuple #[])/\(∃mo',DskN X db fuel (upd env nm a) (N+1) mo' w'/\∀b,b<w.1.size->mo'=some b->mo=some b)/\Bs (Own db mo) w w':=by
 have s:WideAt.IsKeyLit (keyT nm):=trivial;have l:=h.map;cases mo with
 | none =>
  have l:env=fun _=>none:=l;subst l;refine aR (Jwc db w nm hnm so sn sc co cn cc h.lt h.c1 h.fr) ?_;rintro w' ⟨r,u,x,j,c⟩;have d:=c.size;have:w.1.size+1<w'.1.size:=by
   obtain⟨m,f,q,_⟩:=j;exact(YE.1 q).1
  have i:∀g b,IsArr X w g b->IsArr X w' g b:=fun g b p=>p.keep d (fun k f n=>c.block k n (fun e=>h.out (by simp_all)));have n:Holds (DataW.map []) X w (fun _=>none):=⟨isMap_empty,fun t=>rfl⟩;refine⟨rfl,⟨some (w.1.size+1),⟨FT h.lt d,h.low,?_,u.trans h.c0,r,?_,h.out,?_⟩,fun b f e=>absurd (NS e) (by omega)⟩,⟨c.os,c.tape,c.output,d,fun k f o=>c.block k f (fun e=>o (NN e))⟩⟩
  .exact h.evs.below (B:=6) ⟨c.os,c.tape,c.output,d,fun k f=>c.block k (by have:=h.lt;have:=h.low;omega) (by have:=h.low;omega)⟩ aT
  .exact x
  refine⟨by have:=h.lt;omega,by have:=h.lt;have:=h.low;omega,hx,_,?_,n.put nm s (i _ _ hA) i⟩;obtain⟨m,f,q,o,A,y⟩:=j;exact⟨m,f,q,o,by omega,y⟩
 | some mb =>
  obtain⟨m,u,r,D,x,y⟩:=l;refine aR (Jwb db w mb N D nm hnm so sn sc co cn cc h.lt h.c1 x (by omega) (JC m)) ?_;rintro w' ⟨j,c⟩;have d:=c.size;have i:∀g b,IsArr X w g b->IsArr X w' g b:=fun g b p=>p.keep d (fun k f n=>c.block k n (fun e=>r (by simp_all)));have n:=c.block db h.lt (fun e=>m e.symm);refine⟨rfl,⟨some mb,⟨FT h.lt d,h.low,?_,(WA (a:=U db 0) n).trans h.c0,(WA (a:=U db 1) n).trans h.c1,(NI (a:=U db 1) n).trans h.fr,h.out,?_⟩,fun b _ e=>e⟩,⟨c.os,c.tape,c.output,d,fun k f o=>c.block k f (fun e=>o (NO (by rw[e])))⟩⟩
  .exact h.evs.below (B:=6) ⟨c.os,c.tape,c.output,d,fun k f=>c.block k (by have:=h.lt;have:=h.low;omega) (by omega)⟩ aT
  exact⟨m,u,r,_,j,y.put nm s (i _ _ hA) i⟩
theorem DskN.moLt{X:Nat->Prop}(h:DskN X db fuel env N mo w):∀mb,mo=some mb->mb<w.1.size:=by
 intro mb a;subst a;obtain⟨_,_,_,D,⟨c,b,d,_⟩,_⟩:=h.map;grind
theorem Jeu(h1:b≠db)(h2:mo≠some b):¬ Own db mo b:=fun h=>h.elim h1 h2
structure Xr (X0:Nat->Prop) (db:Nat) (mo:Option Nat) (n b:Nat):Prop where
 old:X0 b\/n<=b
 nd:b≠db
 nm:mo≠some b
 nr:b≠n
def KeepS(S:Nat->Prop)(w w':World):Prop:=Bs (fun b=>¬ S b/\6<=b) w w'
theorem KeepS.of(h:J w w'):KeepS S w w':=Bs.of h
theorem KeepS.block(h:KeepS S w w')(hb:b<w.1.size)(hs:S b):w'.heap[b]?=w.heap[b]?:=Bs.block h b hb (fun hn=>hn.1 hs)
theorem KeepS.cell(h:KeepS S w w')(hb:b<w.1.size)(hs:S b):w'.cell? (U b o)=w.cell? (U b o):=WA (h.block hb hs)
theorem KeepS.trans(h:KeepS S w w1)(h':KeepS S' w1 w2)(hs:∀b,b<w.1.size->S b->S' b):KeepS S w w2:=Bs.trans h h' (fun k hk hn=>⟨fun h=>hn.1 (hs k hk h),hn.2⟩)
def OwnL(B:Nat)(w:World)(v:Value)(xs:List Int):Prop:=w.ownsRow B 2 1 v xs.length (xs.map (Value.int .i64))
def Aprt(u v:Value):Prop:=∀g,u.ownBlock=some g->v.ownBlock≠some g
theorem Aprt.or{u:Value}(h:Aprt u v):u.ownBlock=none\/u.ownBlock≠v.ownBlock:=by
 cases hu:u.ownBlock with
 | none=>simp
 | some g=>exact NO (fun a=>h g hu a.symm)
theorem OwnL.below(h:OwnL B w v xs)(hb:J w w'):OwnL B w' v xs:=Jf h hb
theorem OwnL.nil(B)(w):OwnL B w aH []:=NW _ _ _ _
theorem OwnL.nums(h:OwnL B w v xs):Nums (fun b=>B<=b/\b<w.1.size) w v xs:=(Jv (P:=fun b=>B<=b) h (fun _ h=>h)).imp (fun _ h hl=>⟨h,hl⟩)
theorem OwnL.shape(h:OwnL B w v xs):∃vo vc,v=E vo xs.length vc:=by
 obtain⟨vo,vc,a,_⟩:=Zm h;simp_all
structure Grew (B:Nat) (w:World) (v v':Value) (w':World):Prop where
 bel:Below B w w'
 own:∀ u ys,OwnL B w u ys->Aprt u v->OwnL B w' u ys
 apart:∀ u ys,OwnL B w u ys->Aprt u v->Aprt u v'
theorem Jrw{v':Value}{o:Obj}{xs:List Value}(hown:w.ownsRow B 2 1 v n xs)(hB:B<=w.1.size)(hg:(w.alloc o).grownBy w' v.ownBlock)(hat:v'.ownBlock=v.ownBlock\/v'.ownBlock=some (w.alloc o).1.size):Grew B w v v' w':=by
 refine⟨(aS.alloc hB o).grown hg (by simp;omega) (fun q a=>(hown.lt q a).1),fun d f b a=>((MO b o).kept hg a.or),fun d f b a g c=>?_⟩;rcases hat with e|e
 .rw [e];exact a g c
 rw[e];have:=(Mj b g c).2;simp;omega
theorem app1(h:OwnL B w v xs)(hx:xs.length<=1000)(hB:B<=w.1.size)(x):
 ∃v' w',(Builtin.append_ #[32,32] 32 #[v,aI w.1.size 0 1 1]).run prog (w.alloc (.cells #[G x] 2))=.ok v' w'/\OwnL B w' v' (xs++[x])/\Grew B w v v' w':=by
 obtain⟨f,b,c,d,e⟩:=NY VI;obtain⟨v',w',j,k,l,_,m⟩:=M0 (P:=prog) (w.alloc (.cells #[G x] 2)) B 32 32 2 f (G 0) 1 8 ZP b c d e rfl (by decide) v _ _ (MO h _) (adP0 w) 1 1 [G x] rfl (by intro g i a;match g,a with|0,a=>simp at a;subst a;exact alA) (by intro i a;simp at a;subst a;rfl) (by grind[maxLen]) (by omega) (by simp;omega);grind[OwnL,Jrw]
theorem Ju{rest:List Oper}{o:Oper}{a:Act}(hgd:o.guard=none)(s x)(ho:o.op=.call { callee:=.builtin .append,args:=#[s,x],argTypes:=#[32,32] })
 (h:OwnL B w v xs) (hx:xs.length<=1000) (hB:B<=w.1.size) (y) (hs:a.eval s=v) (hv:a.eval x=aI w.1.size 0 1 1)
 (hk:∀v' w',OwnL B w' v' (xs++[y])->Grew B w v v' w'->wpList prog ops Q rest (a.put o.dst v') w'):wpList prog ops Q (o::rest) a (w.alloc (.cells #[G y] 2)):=by
 obtain⟨i,d,e,f,g⟩:=NY VI;refine JE _ hgd s x 32 ho B 2 i (G 0) 1 8 ZP d e f g rfl (by decide) v _ _ hs (MO h _) (adP0 w) 1 1 [G y] hv rfl (by intro c j b;match c,b with|0,b=>simp at b;subst b;exact alA) (by intro j b;simp at b;subst b;rfl) (by grind[maxLen]) (by omega) (by simp;omega) ?_;intro v' w' j b _ c;exact hk v' w' (by simp[OwnL];omega) (Jrw h hB b c)
theorem KR:(prog.info? 89).map (fun i=>(i.zero,i.size,i.bytes))=some (some (.agg aF),2,48):=by kernel_rfl
theorem Jvx(z)(n):(madeCells #[z,z] n).toList=List.replicate n z:=by
 apply Pe;grind[madeCells]
theorem Z3{o:Oper}{a:Act}{K:Act->World->Prop}{Ez:Prop}(hg:o.guard=none)(s x)(hop:o.op=Op.call { callee:=Callee.builtin Builtin.append,args:=#[s,x],argTypes:=#[32,32] })(hty:o.type=32)
 (h:OwnL B w v xs) (hx:xs.length<=1000) (hB:B<=w.1.size) (y) (hs:a.eval s=v) (hv:a.eval x=aI w.1.size 0 1 1)
 (hK:∀v' w',OwnL B w' v' (xs++[y])->Grew B w v v' w'->K (a.put o.dst v') w'):if Region.wanted o (yielded ops a.tmps)=true then Oper.wp prog o a (w.alloc (.cells #[G y] 2)) K Q else Ez:=by
 have e:Region.wanted o (yielded ops a.tmps)=true:=by simp[Region.wanted,hg]
 rw[FY e];obtain⟨v',w',d,b,c⟩:=app1 h hx hB y;unfold Oper.wp;simp[execOp,hop,hty,resolve,invoke,builtin,hs,hv,d,Result.andThen];exact hK v' w' b c
structure Into (g c:Nat) (w w':World):Prop where
 bs:Bs (fun b=>b=g) w w'
 cell:∀ j,j≠c->w'.cell? (U g j)=w.cell? (U g j)
 fr:∀ j,w'.frozen? (U g j)=w.frozen? (U g j)
theorem Into.refl(g c)(w):Into g c w w:=⟨Bs.of aS,fun _ _=>rfl,fun _=>rfl⟩
theorem Into.below(h:Into g c w w1)(hg:g<n)(hn:w.1.size<=n)(hb:Below n w1 w2):Into g c w w2 :=
 ⟨⟨hb.os.trans h.bs.os,hb.tape.trans h.bs.tape,hb.output.trans h.bs.output,NE h.bs.size hb.size,fun k hk hne=>(hb.block k (by omega)).trans (h.bs.block k hk hne)⟩,fun j hj=>V hb hg (h.cell j hj),fun j=>bF hb hg (h.fr j)⟩
theorem Into.set(h:Into g c w w1)(v):Into g c w (w1.setCell (U g c) v):=
 ⟨⟨h.bs.os,h.bs.tape,h.bs.output,by simpa using h.bs.size,fun k hk hne=>(FV _ _ _ _ (by omega)).trans (h.bs.block k hk hne)⟩,fun j hj=>celN (by omega) (h.cell j hj),fun j=>(NA ..).trans (h.fr j)⟩
end Go.Proofs.YtjobgpahajhbnaaGreatDoor
