import Derived.Test.YtjobgpahajhbnaaGreatDoorZl
namespace Go.Proofs.YtjobgpahajhbnaaGreatDoor
open Go.RowKit Go.Proofs Go.Maps Go.Proofs.Tryz
attribute [local go_sem ↓] Go.wp_at_zero Go.wp_at_succ
set_option linter.all false
variable {PD:Nat->Prop} {T:List Tok} {e e0:Ex} {f1:ByteArray->Arr->Arr × Int} {f2:ByteArray->Arr->Arr->Arr × Int} {j j0 k o:Nat} {x:Int × Nat}
def Xw:Ex->Prop
 | .num _=>True
 | .name _ _=>True
 | .one t _ r=>OneR t (f1A t)/\Xw r
 | .two t _ l r=>TwoR t (f2A t)/\Xw l/\Xw r
theorem Jam{env:ByteArray->Option Arr}{F:Int}{c:Nat}(h:Sp T o k j0 e0 j e)(he:Js env F f1 f2 e c=.inl x):Js env F f1 f2 e0 c=.inl x:=by
 induction h with
 | root h=>exact he
 | one j r h1 h2 h3 ih=>simp_all[Js]
 | two j l m r h1 h2 h3 h4 h5 ih=>simp_all[Js]
theorem Jii(h:Sp T o k j0 e0 j e)(h1:Good f1 f2 e0)(h2:Xw e0):Good f1 f2 e/\Xw e:=by
 induction h with
 | root h=>simp_all
 | one j r h1 h2 h3 ih=>exact⟨ih.1.2,ih.2.2⟩
 | two j l m r h1 h2 h3 h4 h5 ih=>exact⟨ih.1.2.2,ih.2.2.2⟩
structure ESt (W0:World) (yb:Nat) (ao:Option Addr) (n cap:Nat) (w:World) (X:Nat) (i c er at_:Int) (s1:Option Addr) (s2 s3:Nat) (d1:Option Addr) (d2 d3:Nat) (wr:World):Prop where
 bs:Bs (fun b=>b=W0.1.size) w wr
 wok:Wok W0.1.size yb ao n cap i c er at_ wr
 bel:J W0 wr
 lt0:W0.1.size<w.1.size
 xl:w.1.size<X
 xr:X<wr.1.size
 r0:wr.cell? (U w.1.size 0)=some aH
 r1:wr.cell? (U w.1.size 1)=some aH
 e0:wr.frozen? (U w.1.size 0)=false
 e1:wr.frozen? (U w.1.size 1)=false
 x0:wr.cell? (U X 0)=some (.slice s1 s2 s3)
 x1:wr.cell? (U X 1)=some (.slice d1 d2 d3)
 y0:wr.frozen? (U X 0)=false
 y1:wr.frozen? (U X 1)=false
def PE(w:World)(X:Nat)(PD:Nat->Prop)(b:Nat):Prop:=PD b\/(w.1.size<b/\b≠X)
section
variable {W0:World} {yb:Nat} {ao:Option Addr} {n cap:Nat} {w:World} {X:Nat} {i c er at_:Int} {s1:Option Addr} {s2 s3:Nat} {d1:Option Addr} {d2 d3:Nat} {wr wx:World}
theorem ESt.bsk(h:ESt W0 yb ao n cap w X i c er at_ s1 s2 s3 d1 d2 d3 wr){i' c' er' at':Int}(hb:Bs (fun b=>b=W0.1.size) wr wx)(hw:Wok W0.1.size yb ao n cap i' c' er' at' wx):ESt W0 yb ao n cap w X i' c' er' at' s1 s2 s3 d1 d2 d3 wx:=by
 have g:=h.lt0;have j:=h.xl;have a:=h.xr;have e:w.1.size≠W0.1.size:=by omega
 have f:X≠W0.1.size:=by omega
 have d:w.1.size<wr.1.size:=by omega
 exact⟨h.bs.trans hb (fun _ _ h=>h),hw,Nd h.bel hb,g,j,FT a hb.size,(hb.cell d e).trans h.r0,(hb.cell d e).trans h.r1,(hb.frozen d e).trans h.e0,(hb.frozen d e).trans h.e1,(hb.cell a f).trans h.x0,(hb.cell a f).trans h.x1,(hb.frozen a f).trans h.y0,(hb.frozen a f).trans h.y1⟩
theorem ESt.below(h:ESt W0 yb ao n cap w X i c er at_ s1 s2 s3 d1 d2 d3 wr)(hb:J wr wx):ESt W0 yb ao n cap w X i c er at_ s1 s2 s3 d1 d2 d3 wx:=h.bsk (Bs.of hb) (h.wok.below hb)
theorem ESt.put(h:ESt W0 yb ao n cap w X i c er at_ s1 s2 s3 d1 d2 d3 wr)(a1)(a2 a3)(b1)(b2 b3):ESt W0 yb ao n cap w X i c er at_ a1 a2 a3 b1 b2 b3 ((wr.setCell (U X 0) (E a1 a2 a3)).setCell (U X 1) (E b1 b2 b3)):=by
 have a:=h.lt0;have b:=h.xl;have d:(wr.setCell (U X 0) (E a1 a2 a3)).cell? (U X 1)=some (E d1 d2 d3):=celN (by omega) h.x1;refine⟨Jar h.bs (by omega),(h.wok.other (by omega) _ _).other (by omega) _ _,(h.bel.setCell (p:=U X 0) (show W0.1.size<=X by omega) _).setCell (p:=U X 1) (show W0.1.size<=X by omega) _,a,b,by simpa using h.xr,?_,?_,?_,?_,?_,FW _ _ _ d,?_,?_⟩
 .rw [celO (by omega),celO (by omega)];exact h.r0
 .rw [celO (by omega),celO (by omega)];exact h.r1
 .rw [NA,NA];exact h.e0
 .rw [NA,NA];exact h.e1
 .rw [celO (by omega)];exact FW _ _ _ h.x0
 .rw [NA,NA];exact h.y0
 rw[NA,NA];exact h.y1
end
def ERel(env:ByteArray->Option Arr)(F:Int)(T:List Tok)(o k j0:Nat)(e0:Ex)(c:Nat)(W0:World)(yb:Nat)(ao:Option Addr)(cap:Nat)(PD:Nat->Prop)(w:World)(X g:Nat)(wr:World):Prop :=
 ∃s1 s2 s3 d1 d2 d3,(∃j e a c',Sp T o k j0 e0 j e/\Js env F f1A f2A e c=.inr (a,c')/\j<=g/\ESt W0 yb ao T.length cap w X ((j:Int)-1) ((c':Nat):Int) 0 0 s1 s2 s3 d1 d2 d3 wr/\IsArr (PE w X PD) wr (aK s1 s2 s3 d1 d2 d3) a)\/(∃i cc x,Js env F f1A f2A e0 c=.inl x/\x.1≠0/\ESt W0 yb ao T.length cap w X i cc x.1 ((x.2:Nat):Int) s1 s2 s3 d1 d2 d3 wr)
theorem ESt.err{W0:World}{yb:Nat}{ao:Option Addr}{n cap:Nat}{w:World}{X:Nat}{i c er at_:Int}{s1:Option Addr}{s2 s3:Nat}{d1:Option Addr}{d2 d3:Nat}{wr:World}(h:ESt W0 yb ao n cap w X i c er at_ s1 s2 s3 d1 d2 d3 wr)(h1:er=x.1)(h2:at_=((x.2:Nat):Int))(a1)(a2 a3)(b1)(b2 b3):
 WRes W0 yb ao n cap PD j w (.inl x) (aD (aK a1 a2 a3 b1 b2 b3)) ((wr.setCell (U w.1.size 0) (E a1 a2 a3)).setCell (U w.1.size 1) (E b1 b2 b3)):=by
 have:=h.lt0;subst h1 h2;exact⟨Jar h.bs aT,_,_,_,_,_,_,rfl,i,c,(h.wok.other (by omega) _ _).other (by omega) _ _⟩
theorem ESt.fin{W0:World}{yb:Nat}{ao:Option Addr}{n cap:Nat}{w:World}{X:Nat}{c:Nat}{s1:Option Addr}{s2 s3:Nat}{d1:Option Addr}{d2 d3:Nat}{wr:World}(h:ESt W0 yb ao n cap w X ((j:Int)-1) (c:Int) 0 0 s1 s2 s3 d1 d2 d3 wr)(hpd:∀b,PD b->b<W0.1.size){a:Arr}(hA:IsArr (PE w X PD) wr (aK s1 s2 s3 d1 d2 d3) a):
 WRes W0 yb ao n cap PD j w (.inr (a,c)) (aD (aK s1 s2 s3 d1 d2 d3)) ((wr.setCell (U w.1.size 0) (E s1 s2 s3)).setCell (U w.1.size 1) (E d1 d2 d3)):=by
 have:=h.lt0;have f:¬ PE w X PD w.1.size:=fun hh=>by
  rcases hh with hh|hh
  .grind
  omega
 refine⟨Jar h.bs aT,_,_,_,_,_,_,rfl,?_,(h.wok.other (by omega) _ _).other (by omega) _ _⟩;obtain⟨k,l,m,o,p,q,e,g,i⟩:=J5 (J5 hA f 0 (E s1 s2 s3)) f 1 (E d1 d2 d3);have d:∀b,PE w X PD b->b<((wr.setCell (U w.1.size 0) (E s1 s2 s3)).setCell (U w.1.size 1) (E d1 d2 d3)).1.size->PW w PD b:=fun b h _=>h.imp id (fun h=>by omega);exact⟨k,l,m,o,p,q,e,g.imp d,i.imp d⟩
def Qv:Code->Option Code
 | .loop c=>some c
 | .seq a b=>match Qv a with
  | some c=>some c
  | none=>Qv b
 | .block _ c=>Qv c
 | .scope c=>Qv c
 | .cond _ a b=>match Qv a with
  | some c=>some c
  | none=>Qv b
 | _=>none
noncomputable def Jye:Code:=((f66.body.bind Qv).getD .skip)
end Go.Proofs.YtjobgpahajhbnaaGreatDoor
