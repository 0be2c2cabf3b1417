import Derived.Test.YtjobgpahajhbnaaGreatDoorAs
namespace Go.Proofs.YtjobgpahajhbnaaGreatDoor
open Go.RowKit Go.Proofs Go.Maps Go.Proofs.Tryz
attribute [local go_sem ↓] Go.wp_at_zero Go.wp_at_succ
set_option linter.all false
variable {A B a:Arr} {P:Nat->Prop} {W w w1:World} {a1 a4 co co2 so so2:Option Addr} {a2 a3 a5 a6 cc cc2 cn cn2 k la lb n q sc sc2 sn sn2:Nat} {v:Value} {xs ys:List Int}
theorem Qq(sh)(n):(J6 sh n).length=sh.length:=by simp[J6]
theorem Jcj(s)(c n):J6 (s++[c]) n=J6 s (n / c)++[n % c]:=by
 apply YG
 .simp [J6]
 grind[J6,Ji,J7,Nat.div_div_eq_div_mul,Jd]
theorem Gw:∀(s is:List Nat) (c j n:Nat),s.length=is.length->Zd (s++[c]) (is++[j]) n=Zd s is n*c+j
 | [],[],c,j,n,_=>rfl
 | x::s,i::is,c,j,n,h=>by
  show Zd (s++[c]) (is++[j]) (n*x+i)=Zd s is (n*x+i)*c+j;exact Gw s is c j (n*x+i) (by simpa using h)
theorem Jb4:∀(k:Nat) (sh:List Nat),sh.length=k->∀n,n<Jd sh->Zd sh (J6 sh n) 0=n
 | 0,sh,h,n,hn=>by
  rw[ZV.1 h]at hn⊢;simp[Jd]at hn;subst hn;rfl
 | k+1,sh,h,n,hn=>by
  have hs:=Yi (l:=sh) (by omega);obtain⟨s,hs1⟩:=nm sh.dropLast;obtain⟨c,hc1⟩:=nm (Jq sh);rw[hs1,hc1]at hs;subst hs;rw[Ji,J7]at hn;have hsl:s.length=k:=by simpa using h
  rw[Jcj,Gw _ _ _ _ _ (by rw[Qq]),Jb4 k s hsl (n / c) (JF (by grind)),ZF];simp[Ho]
def Jwg(xs ys:List Int)(la lb i:Nat):Int:=if i % (la+lb)<la then xs.getD (i / (la+lb)*la+i % (la+lb)) 0 else ys.getD (i / (la+lb)*lb+(i % (la+lb)-la)) 0
theorem Jkz{j:Nat}(hj:j<la)(h:(q+1)*la<=xs.length):(Vq xs la q)[j]?=some (xs.getD (q*la+j) 0):=by
 rw[ZG,YA]at h;unfold Vq;grind
theorem Jlj{xs ys:List Int}{la lb:Nat}:∀m,m*la<=xs.length->m*lb<=ys.length->catC xs ys la lb m=(List.range (m*(la+lb))).map (Jwg xs ys la lb)
 | 0,_,_=>by simp[catC]
 | m+1,hx,hy=>by
  have hx':=hx;have hy':=hy;rw[ZG,YA]at hx' hy';have l1:(Vq xs la m).length=la:=by unfold Vq;simp;omega
  have g:(Vq ys lb m).length=lb:=by unfold Vq;simp;omega
  have d:catC xs ys la lb (m+1)=catC xs ys la lb m++(Vq xs la m++Vq ys lb m):=by
   unfold catC;rw[ZZ,NU,JY];simp
  rw[d,Jlj m (by omega) (by omega),ZG,YA,List.range_add,NU,PZ];congr 1;apply Pe;intro a;by_cases c:a<la+lb
  .have e:0<la+lb:=by omega
   rw[MK,PV c];simp only[Option.map_some,Function.comp_apply];have hd:(m*(la+lb)+a) / (la+lb)=m:=by rw[ZF,Nat.mul_add_div e,Hh c,MQ]
   have f:(m*(la+lb)+a) % (la+lb)=a:=by rw[ZF,PR,YM c]
   unfold Jwg;rw[hd,f];by_cases b:a<la
   .rw [FY b,ZU (by omega),Jkz b hx]
   rw[FU b,ZA (by omega),l1,Jkz (by omega) hy]
  rw[MF (by simp[l1,g];omega),MF (by simp;omega)]
theorem Jm1{s:List Nat}{i:Nat}(hi:i<Jd s*(la+lb)):J6 (s++[la+lb]) i=J6 s (i / (la+lb))++[i % (la+lb)]/\∀c j,Zd (s++[c]) (J6 s (i / (la+lb))++[j]) 0=i / (la+lb)*c+j:=by
 have a:=JF (by rw[ZF];exact hi);exact⟨Jcj _ _ _,fun c j=>by rw[Gw _ _ _ _ _ (by rw[Qq]),Jb4 _ s rfl _ a]⟩
theorem Jly{ops:Array Oper}{o:Oper}{a:Act}{K:Act->World->Prop}{Q:Exit->Act->World->Prop}{Ez:Prop}(hg:o.guard=none)(s x)(hop:o.op=Op.call { callee:=Callee.builtin Builtin.append,args:=#[s,x],argTypes:=#[37,37] })(hty:o.type=37)
 {B:Nat} {xo:Option Addr} {c:Nat} (h:OwnJ B w v xs) (hN:Nums P w (E xo n c) ys) (hx:xs.length<=1000) (hy:ys.length<=1000) (hB:B<=w.1.size) (hs:a.eval s=v) (hv:a.eval x=E xo n c)
 (hK:∀v' w',OwnJ B w' v' (xs++ys)->Below B w w'->K (a.put o.dst v') w'):if Region.wanted o (yielded ops a.tmps)=true then Oper.wp prog o a w K Q else Ez:=by
 have p:Region.wanted o (yielded ops a.tmps)=true:=by simp[Region.wanted,hg]
 rw[FY p];obtain⟨y,j,r,t,u⟩:=NY GS;have e:∃v' w',(Builtin.append_ #[37,37] 37 #[v,E xo n c]).run prog w=.ok v' w'/\OwnJ B w' v' (xs++ys)/\Below B w w':=by
  have l:=Je hN;by_cases g:n=0
  .have b:ys=[]:=NK (by omega);subst g;subst b;have d:=h;obtain⟨f,i,rfl,m,_⟩:=Jv (P:=fun _=>True) h (fun _ _=>trivial);grind[Xh,underlying37,Below.refl]
  obtain⟨f,z,rfl,-,-,-⟩:=hN.at (k:=0) (by omega);subst l;obtain⟨v',w',b,d,i,_,_⟩:=M0 (P:=prog) w B 37 37 3 y (G 0) 1 8 JH j r t u rfl (by decide) v _ _ h ⟨f,z,none⟩ ys.length c (ys.map (Value.int .i64)) (by simp) (Fj hN) X9 (by grind[maxLen]) (by omega) hB;exact⟨v',w',b,by simp[OwnJ];omega,aS.grown i hB (fun q m=>(Mj h q m).1)⟩
 obtain⟨v',w',e,b,d⟩:=e;unfold Oper.wp;simp[execOp,hop,hty,resolve,invoke,builtin,hs,hv,e,Result.andThen];exact hK v' w' b d
theorem Jrl(h:a.ok):(Zl a).ok:=by
 unfold Zl;split
 .exact ⟨by simp[Kk],by simp[Kk];exact h.few,by simp[Kk,Jd],h.few,h.fits⟩
 exact h
theorem Jg4(a):(Zl a).shape.length≠0:=by
 grind[Zl,Kk]
def JS(W:World)(P:Nat->Prop)(w:World)(so:Option Addr)(sn sc:Nat)(co:Option Addr)(cn cc:Nat)(so2:Option Addr)(sn2 sc2:Nat)(co2:Option Addr)(cn2 cc2:Nat)(A B:Arr):Prop :=
 Bx W w [(aM so sn sc co cn cc),(aM so2 sn2 sc2 co2 cn2 cc2),aG]/\IsArr (OffB W.1.size 3 P) w (aK so sn sc co cn cc) A/\IsArr (OffB W.1.size 3 P) w (aK so2 sn2 sc2 co2 cn2 cc2) B
theorem Jao(h:q<k):¬ OffB n k P (n+q):=fun hh=>by have:=hh.2;omega
theorem Js8(h:IsArr P W v a)(hb:J W w):IsArr (OffB W.1.size k P) w v a:=by
 obtain⟨so,sn,sc,co,cn,cc,rfl,d,e⟩:=h;exact⟨so,sn,sc,co,cn,cc,rfl,(d.imp (fun c hb b=>⟨hb,NN b⟩)).below hb,(e.imp (fun c hb b=>⟨hb,NN b⟩)).below hb⟩
theorem Ng{w':World}(h:IsArr P w v a)(hb:J w w'):IsArr P w' v a:=by
 obtain⟨so,sn,sc,co,cn,cc,rfl,b,c⟩:=h;exact⟨so,sn,sc,co,cn,cc,rfl,b.below hb,c.below hb⟩
theorem Xu(h:IsArr P w v a){b:Nat}(hb:¬ P b)(i)(u):IsArr P (w.setCell (U b i) u) v a:=by
 obtain⟨so,sn,sc,co,cn,cc,rfl,c,d⟩:=h;exact⟨so,sn,sc,co,cn,cc,rfl,c.set hb i u,d.set hb i u⟩
theorem JS.row1{A':Arr}(h:JS W P w so sn sc co cn cc so2 sn2 sc2 co2 cn2 cc2 A B)(hb:J w w1)(hA:IsArr (OffB W.1.size 3 P) w1 (aK a1 a2 a3 a4 a5 a6) A'):
 JS W P ((w1.setCell (U W.1.size 0) (E a1 a2 a3)).setCell (U W.1.size 1) (E a4 a5 a6)) a1 a2 a3 a4 a5 a6 so2 sn2 sc2 co2 cn2 cc2 A' B :=
 ⟨((h.1.next hb).set 0 0 _ (E a1 a2 a3) rfl).set 0 1 _ (E a4 a5 a6) rfl,Xu (Xu hA (Jao (q:=0) (by decide)) _ _) (Jao (q:=0) (by decide)) _ _,Xu (Xu (Ng h.2.2 hb) (Jao (q:=0) (by decide)) _ _) (Jao (q:=0) (by decide)) _ _⟩
theorem JS.row2{B':Arr}(h:JS W P w so sn sc co cn cc so2 sn2 sc2 co2 cn2 cc2 A B)(hb:J w w1)(hA:IsArr (OffB W.1.size 3 P) w1 (aK a1 a2 a3 a4 a5 a6) B'):
 JS W P ((w1.setCell (U (W.1.size+1) 0) (E a1 a2 a3)).setCell (U (W.1.size+1) 1) (E a4 a5 a6)) so sn sc co cn cc a1 a2 a3 a4 a5 a6 A B' :=
 ⟨((h.1.next hb).set 1 0 _ (E a1 a2 a3) rfl).set 1 1 _ (E a4 a5 a6) rfl,Xu (Xu (Ng h.2.1 hb) (Jao (q:=1) (by decide)) _ _) (Jao (q:=1) (by decide)) _ _,Xu (Xu hA (Jao (q:=1) (by decide)) _ _) (Jao (q:=1) (by decide)) _ _⟩
theorem JS.next(h:JS W P w so sn sc co cn cc so2 sn2 sc2 co2 cn2 cc2 A B)(hb:J w w1):JS W P w1 so sn sc co cn cc so2 sn2 sc2 co2 cn2 cc2 A B :=
 ⟨h.1.next hb,Ng h.2.1 hb,Ng h.2.2 hb⟩
end Go.Proofs.YtjobgpahajhbnaaGreatDoor
