import Derived.Test.YtjobgpahajhbnaaGreatDoorCe
namespace Go.Proofs.YtjobgpahajhbnaaGreatDoor
open Go.Shelf Go.RowKit Go.Proofs Go.Maps Go.Proofs.Tryz
attribute [local go_sem ↓] Go.wp_at_zero Go.wp_at_succ
set_option linter.all false
set_option maxHeartbeats 8000000
set_option maxRecDepth 20000
variable {B cc cn g i m n p sc sn:Nat} {P Q:Nat->Prop} {a b:Arr} {co so:Option Addr} {cs:List Arr} {f:Arr->Arr->Arr × Int} {sh:List Nat} {v:Value} {w w' w0:World} {xs:List Int}
def KX:Go.Shelf.Ren:=⟨fun|35=>238|n=>n,fun|22=>37|23=>3|3=>3|4=>4|0=>0|n=>n,fun|n=>n⟩
theorem KY:Go.Proofs.SlLaysE.n35 prog KX:={
 mixed:=by kernel_rfl
 f35:=⟨f238.name,by decide,func238.trans (NM some (by kernel_rfl))⟩
 t0:=Ma
 a0:=isAgg0
 z0:=sizeOf0
 v0:=Mn
 t3:=MR
 a3:=isAgg3
 z3:=Ht
 v3:=Mf
 t4:=JZ
 a4:=isAgg4
 z4:=Hn
 v4:=ML
 t22:=JH
 a22:=isAgg37
 z22:=sizeOf37
 v22:=zeroValue37
 a23:=isAgg3
 z23:=Ht }
theorem Jf8(W)(g)(L)(h:RowAt W g L)(p)(hp:p.1+p.2<=L.length)(hl:L.length<=1000)(cp):
 Calls prog 238 #[aI g p.1 p.2 cp] W fun e W'=>e=aD (.tuple #[])/\RowAt W' g (Q0 L p)/\OnlyB g W W':=by
 obtain⟨d,i⟩:=nm ((L.drop p.1).take p.2);have f:d.length=p.2:=by rw[<-i];simp;omega
 have k:Go.Sort.Holds (Value.int .i64) W g p.1 d.toArray:=by
  intro a c;have j:a<p.2:=by rw[<-f];simpa using c
  have b:(d.toArray[a]!)=L[p.1+a]'(by omega):=by
   rw[Pr _ a c];subst i;simp
  rw[b];exact h (p.1+a) (by omega)
 have:=AnyE.slices_Reverse KY (Value.int .i64) (fun _=>rfl) g p.1 cp d W k (by omega);rw[f]at this;refine aR this ?_;rintro W' ⟨n,rfl⟩;refine⟨rfl,?_,Jgl W n g p.1 _⟩;have m:Go.Sort.Holds (Value.int .i64) (Go.Sort.ahead W n) g p.1 d.toArray:=k;intro a c;rw[Xi hp]at c;refine⟨?_,by rw[Go.Sort.frozen?_putRow];exact(h a c).2⟩;have b:(Q0 L p)[a]?=some ((Q0 L p)[a]'(by omega)):=FX _;generalize hv:(Q0 L p)[a]'(by rw[Xi hp];exact c)=v at b⊢;unfold Q0 at b;rw[i]at b;by_cases j:a<p.1
 .rw [MY _ _ _ _ _ _ (NO (NN j))];rw[ZU (by simp;omega),Mp,FY j,FX c]at b;rw[<-NS b];exact(h a c).1
 rw[ZA (by simp;omega),YD,ME (by omega)]at b;by_cases o:a<p.1+p.2
 .rw [ZU (by simp;omega)]at b;have l:=Go.Sort.cell?_putRow (Value.int .i64) (Go.Sort.ahead W n) g p.1 d.toArray d.reverse.toArray m (by simp) (a-p.1) (by simp;omega);rw[show p.1+(a-p.1)=a by omega]at l;rw[l,Pr _ _ (by simp;omega)];obtain⟨q,b⟩:=YO.1 b;rw[<-b];simp
 rw[MY _ _ _ _ _ _ (NO (NO (by simp;omega)))];rw[ZA (by simp;omega),MU,Hm,f,show p.1+p.2+(a-p.1-p.2)=a by omega,FX c]at b;rw[<-NS b];exact(h a c).1
def fpl:List Nat->Nat->Nat->Nat
 | [],s,_=>s
 | n::r,s,p=>fpl r (s*n+p % n) (p / n)
theorem Ky(n)(r):Jd (n::r)=n*Jd r:=by
 have:=Ji [n] r;simp_all[J7]
theorem X5:∀{r:List Nat},0<Jd r->∀n ∈ r,0<n
 | [],_,n,hn=>by cases hn
 | m::r,h,n,hn=>by
  rw[Ky]at h;rcases JO.1 hn with e|e
  .grind
  exact X5 (Nat.pos_of_mul_pos_left h) n e
theorem Jkl:∀{r:List Nat},(∀n ∈ r,0<n)->0<Jd r
 | [],_=>by decide
 | m::r,h=>by
  rw[Ky];exact Nat.mul_pos (h m (by simp)) (Jkl (fun n hn=>h n (by simp[hn])))
theorem Jya{s S q:Nat}(hs:s<S)(hn:0<n):s*n+q % n<S*n:=by
 have:(s+1)*n<=S*n:=NR n hs;have:=YR q hn;grind
theorem Jrz:∀(r:List Nat) (s p S:Nat),(∀n ∈ r,0<n)->s<S->fpl r s p<S*Jd r
 | [],s,p,S,_,hs=>by simp[fpl,Jd];omega
 | n::r,s,p,S,h,hs=>by
  rw[fpl,Ky,<-Pi];exact Jrz r _ _ _ (fun m hm=>h m (by simp[hm])) (Jya hs (h n (by simp)))
def Jjh(a:Arr):List Int:=(List.range a.cells.length).map fun i=>a.cells.getD (fpl a.shape 0 i) 0
def N5(a:Arr):Arr × Int:=(⟨a.shape.reverse,Jjh a⟩,0)
theorem Jcl(a):(Jjh a).length=a.cells.length:=by simp[Jjh]
theorem Jb3:∀r:List Nat,Jd r.reverse=Jd r
 | []=>rfl
 | n::r=>by rw[List.reverse_cons,Ji,J7,Jb3 r,Ky,ZF]
theorem Jk9(h:a.ok):(N5 a).1.ok:=by
 refine⟨by simp[N5];exact h.rank,fun n b=>h.lens n (by simp_all[N5]),by simp only[N5];rw[Jcl,Jb3];exact h.size,by simp only[N5];rw[Jcl];exact h.few,?_⟩;intro c b;simp only[N5,Jjh,NZ]at b;obtain⟨i,_,rfl⟩:=b;rw[NC];cases hg:a.cells[fpl a.shape 0 i]? with
 | none=>simp[Jk]
 | some v=>exact h.fits v (M8 hg)
section
theorem Jpy(W)(so)(sn sc)(co)(cn cc)(a)(ha:IsArr P W (aK so sn sc co cn cc) a)(hok:a.ok)(p)(hp:p<a.cells.length):
 Calls prog 239 #[aK so sn sc co cn cc,G p] W fun e W'=>e=aD (G (fpl a.shape 0 p))/\J W W':=by
 have D:=(Jb ha).2;have y:=hok.few;have F:Jd a.shape<=200:=by rw[<-hok.size];exact y
 have r:=X5 (by rw[<-hok.size];omega);have Z:p<=200:=by omega
 have ar:sn<=3:=by have:=hok.rank;omega
 have x:J W (W.alloc (.cells (aL so sn sc co cn cc) 89)):=belA1;have Q:(W.alloc (.cells (aL so sn sc co cn cc) 89)).cell? (U W.1.size 0)=some (E so sn sc):=alA;have h:Nums P (W.alloc (.cells (aL so sn sc co cn cc) 89)) (E so sn sc) (a.shape.map Int.ofNat):=by
  obtain⟨_,_,_,_,_,_,b,h,_⟩:=ha.below x;injection b with b;simp at b;obtain⟨⟨rfl,rfl,rfl⟩,_⟩:=b;exact h
 have k:=O D;clear Q ha hok hp D y;obtain⟨sh,C⟩:=nm a.shape;rw[C]at h k r F⊢;clear C;obtain⟨l,N⟩:=nm (fpl sh 0 p);rw[N];go_enter func239,ntmps239;go_wp2_with fail;obtain⟨u,w⟩:=nm (W.alloc (.cells (aL so sn sc co cn cc) 89));rw[w]at h x⊢;clear w;go_loopw [1,5,11] (fun g f d wr=>∃i q b:Nat,g=G q/\f=G b/\d=G i/\i<=sn/\q<=200/\b<=200/\Hid (fpl (sh.drop i) b q=l/\∃c,b<c/\c*Jd (sh.drop i)=Jd sh)/\wr=u) (fun _ _ d _=>sn-(intOf d).toNat)
 case atStart=>exact⟨0,p,0,rfl,rfl,rfl,by omega,Z,by omega,O ⟨by simp;omega,1,by omega,by simp⟩,rfl⟩
 case round =>
  obtain⟨i,q,b,rfl,rfl,rfl,am,ab,ap,t,ad⟩:=hrel;have ae:=ad.symm;subst ae;by_cases T:i<sn
  .have z:i<sh.length:=by rw[<-I k];exact T
   obtain⟨-,-,L⟩:=Jiy h;obtain⟨ag,ah,rfl,aq,R⟩:=L (by simp;omega);have c0:=R i (by simp;omega);rw[YJ]at c0;have B:=ND z;have o:=ZC z;obtain⟨n,X⟩:=nm (sh[i]);rw[X]at c0 B o;have c0:u.cell? (U ag (ah+i))=some (G (n:Int)):=c0;have Y:=r n B;obtain⟨g,c,ai,s⟩:=I t;rw[o,fpl]at g;rw[o,Ky,<-Pi]at s;have A:=Jya (q:=q) ai Y;have aa:0<Jd (sh.drop (i+1)):=Jkl (fun m j=>r m (ZX j));have aj:=NE (JW _ aa) (by rw[s];exact F);obtain⟨m,j⟩:=nm (q % n);obtain⟨d,hd⟩:=nm (q / n);obtain⟨f,H⟩:=nm (b*n);rw[j,H]at g A;rw[hd]at g;have S:d<=200:=by rw[<-hd];exact NE (PQ _ _) ab
   have an:(q:Int).tmod (n:Int)=m:=by rw[<-j];exact(Int.ofNat_tmod q n).symm
   have ao:(q:Int) % (n:Int)=m:=by rw[<-j];simp
   have ak:(q:Int).tdiv (n:Int)=d:=by rw[<-hd];exact(Int.ofNat_tdiv q n).symm
   have al:(q:Int) / (n:Int)=d:=by rw[<-hd];simp
   have au:IntKind.i64.wrap ((b:Int)*(n:Int))=(f:Int):=by
    rw[<-MC,H];exact Jg (by omega) (by omega)
   have av:IntKind.i64.wrap ((f:Int)+(m:Int))=((f+m:Nat):Int):=by
    rw[<-MM];exact Jg (by omega) (by omega)
   have aw:IntKind.i64.wrap (d:Int)=d:=Jg (by omega) (by omega);have ay:((n:Int)== 0)=false:=ZD (by omega);have az:¬ (n:Int)=0:=by omega
   have aU:¬ n=0:=by omega
   have ax:(0:Int)<=i:=by omega
   have af:(i:Int)<sn:=by omega
   have K:fpl (sh.drop (i+1)) (f+m) d=l/\∃c,f+m<c/\c*Jd (sh.drop (i+1))=Jd sh:=⟨g,c*n,A,s⟩;have ac:f+m<=200:=by omega
   go_wp2;go_roundw
   case rel=>exact⟨i+1,d,f+m,by simp,by simp,by go_num,by omega,S,ac,K,by simp⟩
   simp[intOf];omega
  .have c:i=sh.length:=by have:=I k;omega
   have d:b=l:=by
    have:=(I t).1;rw[c,List.drop_length,fpl]at this;exact this
   subst d;have af:¬ (i:Int)<sn:=by omega
   go_wp2;go_ret;simp;omega
end
theorem Jm6(ha:IsArr P w (aK so sn sc co cn cc) a)(hm:sn=m+1):Nums P w (E so m sc) (a.shape.dropLast.map Int.ofNat):=by
 have:=(Jb ha).2;obtain⟨_,_,_,_,_,_,b,e,_⟩:=ha;injection b with b;simp at b;obtain⟨⟨rfl,rfl,rfl⟩,_⟩:=b;have c:=J1 e (k:=m) (by omega);have d:(a.shape.map Int.ofNat).take m=a.shape.dropLast.map Int.ofNat:=by
  rw[<-Mh,JN];rw[show a.shape.length-1=m by omega]
 rw[d]at c;exact c
theorem Jop(ha:IsArr P w (aK so sn sc co cn cc) a):sn<=sc:=by
 obtain⟨_,_,_,_,_,_,b,c,_⟩:=ha;injection b with b;simp at b;obtain⟨⟨rfl,rfl,rfl⟩,_⟩:=b;exact Zp c
theorem Jdw(h:a.ok):Lens a.shape.dropLast:=⟨by have:=h.rank;simp;omega,fun n hn=>by have:=h.lens n (PM _ hn);omega⟩
theorem Jd3(h1:Nums P w (E so sn sc) (sh.map Int.ofNat))(h2:Nums P w (E co cn cc) xs):IsArr P w (aK so sn sc co cn cc) ⟨sh,xs⟩:=⟨_,_,_,_,_,_,rfl,h1,h2⟩
theorem Jwu(z)(hen:Enters prog g)(hfn:FnTwo g #[] w0 f)(hev:Evens f)(P)(W)(hW:J w0 W)(hP:∀b,W.1.size<=b->P b)(so)(sn sc)(co)(cn cc)(a)(ha:IsArr P W (aK so sn sc co cn cc) a)(hok:a.ok):
 Calls prog 177 #[aK so sn sc co cn cc,.agg #[aC g,G z]] W fun e W'=>∃so sn sc co cn cc,e=aD (.tuple #[aK so sn sc co cn cc,G (Zw f z a).2])/\IsArr P W' (aK so sn sc co cn cc) (Zw f z a).1/\J W W':=by
 have T:=(Jb ha).2;have L:=Bx.n3 W (aM so sn sc co cn cc) [aC g,G z] aG 89 241 89;have S:IsArr (OffB W.1.size 3 P) W (aK so sn sc co cn cc) a:=ha.imp (fun b a7 bb=>⟨a7,NN bb⟩);have ab:∀b,W.1.size+3<=b->OffB W.1.size 3 P b:=fun b j=>OffB.new hP j;have ai:=O hW;have aX:=Jop ha;clear ha hP hW;change Hid _ at T L;by_cases Z:sn=0
 .have am:((sn:Int)== 0)=true:=by simpa using Z
  have i:Zw f z a=(a,0):=by unfold Zw;rw[FY (by have:=I T;omega)]
  clear Z;go_enter func177,ntmps177;go_wp2_with fail;refine aR (Jo _ so sn sc co cn cc) fun w' N=>?_;have c:Hid (Bx W w' [(aM so sn sc co cn cc),[aC g,G z],aG]):=O ((I L).next (by rw[N];exact(aS.alloc aT _).alloc (by simp) _));clear N L;have b0:=c.a0;have b1:=c.a1;have p:=c.c0;have r:=c.c1;have w:=c.C0;have x:=c.C1;go_wp2_with fail;have l:=Ze (q:=2) (u0:=E so sn sc) (u1:=E co cn cc) c.below (by decide) (S.below c.below);refine FR (v:=.tuple #[aK so sn sc co cn cc,G 0]) (by simp[results,results177,go_sem,p,r]) rfl ⟨so,sn,sc,co,cn,cc,by rw[i],by rw[i];exact l.1,l.2⟩
 have am:((sn:Int)== 0)=false:=ZD (by omega);obtain⟨m,ae⟩:∃m,sn=m+1:=⟨sn-1,by omega⟩;have A:a.shape.length≠0:=by have:=I T;omega
 obtain⟨s,t,rfl,br,-⟩:=Ja5 S am;have bm:=O ae;have bq:m<=3:=by have:=hok.rank;have:=I T;omega
 have bc:IntKind.i64.wrap ((sn:Int)-1)=(m:Int):=by
  have e:((sn:Int)-1)=(m:Int):=by omega
  rw[e];exact Jg (by omega) (by omega)
 have bj:(0:Int)<=(m:Int):=by omega
 have bl:(m:Int)<=(sc:Int):=by have:=aX;omega
 have Y:∀w',J W w'->Nums (OffB W.1.size 3 P) w' (aI s t m sc) (a.shape.dropLast.map Int.ofNat):=fun w' j=>(Jm6 S ae).below j;clear Z ae;go_enter func177,ntmps177;go_wp2_with fail;refine aR (Jo _ (some (U s t)) sn sc co cn cc) fun w' N=>?_;have c:Hid (Bx W w' [[aI s t sn sc,E co cn cc],[aC g,G z],aG]):=O ((I L).next (by rw[N];exact(aS.alloc aT _).alloc (by simp) _));clear N L;have b0:=c.a0;have b1:=c.a1;have ad:W.1.size<w'.1.size:=by have:=c.lt;simp at this;omega
 have R:∀o,J w' o->o.cell? (U W.1.size 0)=some (aI s t sn sc)/\o.cell? (U W.1.size 1)=some (E co cn cc):=fun o j=>⟨V j ad b0,V j ad b1⟩
 go_wp2_with fail;go_region_held3 (fun o=>o.cell? (U W.1.size 0)=some (aI s t sn sc)/\o.cell? (U W.1.size 1)=some (E co cn cc))
  (first
   | exact R _ aS.drew
   | exact R _ (aS.drew.alloc aT _)
   | exact R _ ((aS.alloc aT _).drew)
   | (trace_state;fail))
  ((go_at_call 221;refine aQ (Z7 _ _ _ _ _ _ _) ?_))
 go_wp2_with fail;have d:=O ((I c).next ((aS.alloc aT (.cells #[aI s t sn sc,E co cn cc] 89)).drew));generalize hw2:((w'.alloc (.cells #[aI s t sn sc,E co cn cc] 89)).drew)=o at d⊢;clear hw2 c R b0 b1 ad bc bj bl;refine aR (Jbh o _ _ _ _ (Y o d.below) (Jdw hok)) fun bu ax=>?_;have bd:=ax.symm;subst bd;clear ax;have p:=d.c0;have r:=d.c1;have w:=d.C0;have x:=d.C1;have b0:=d.a0;have b1:=d.a1;by_cases y:Yb a.shape.dropLast=true
 .rw [y];have ar:=d.lt;simp at ar;have ah:=Jco (OffB W.1.size 3 P) o (fun b j=>ab b (by omega)) _ _ _ _ _ _ a (S.below d.below) hok A;clear ar;go_wp2_with fail;refine ah.mono ?_;rintro e Q ⟨a6,rfl,bp,ba,aa,aq⟩;have h:=O ((I d).next aq);clear aq d ah p r w x b0 b1;have p:=h.c0;have r:=h.c1;have w:=h.C0;have x:=h.C1;have bh:=h.b0;have bi:=h.b1;obtain⟨n,u⟩:=nm (Jq a.shape);rw[u];by_cases K:n=0
  .have a5:((n:Int)== 0)=true:=by simpa using K
   have i:Zw f z a=(⟨a.shape.dropLast,List.replicate (Jd a.shape.dropLast) z⟩,0):=by
    unfold Zw;rw[FU A,y,FU (by simp),u,FY K]
   have aw:Jd a.shape.dropLast<=200:=by
    have:=y;unfold Yb at this;simp only[ZJ,JM]at this;omega
   have B:=h.below;have ag:=fun w' j=>F3 w' _ _ _ _ (Y w' j) (Jdw hok);generalize hpl:Jd a.shape.dropLast=pl at i ag aw;have H:=h.lt;simp at H;have bt:W.1.size+1<Q.1.size:=by omega
   have X:W.1.size+1+1<Q.1.size:=by omega
   have aZ:=Nq (OffB W.1.size 3 P) (Q.alloc (.cells #[G z] 2)).drew (fun b j=>ab b (by simp at j;omega)) Q.1.size 0 1 z pl aw (by simp) (by simp);clear K u aa hpl H;go_wp2_with fail;go_region_with (first|(go_at_call 225;refine aR (ag _ (by first|exact B.drew|exact(B.alloc B.size _).drew|exact B.drew.alloc (by simpa using B.size) _)) fun aW ay=>?_;have be:=ay.symm;subst be;clear ay)| (go_at_call 224;refine aZ.mono ?_;rintro e aW ⟨an,rfl,av,F⟩;have aY:=av;have C:=(aS.alloc aT _).drew.trans (F.mono (by simp));have bf:=V C X p;have bg:=V C X r;have bn:=bF C X w;have bo:=bF C X x;clear av F))
   all_goals
    go_wp2_with fail;have ap:=h.next C;have l:=Ze (q:=2) (u0:=aI s t m sc) (u1:=aI an 0 pl pl) ap.below (by decide) (Jd3 (Y _ ap.below) aY);refine FR (v:=.tuple #[.agg #[aI s t m sc,aI an 0 pl pl],G 0]) (by simp[results,results177,go_sem,bf,bg]) rfl ⟨_,_,_,_,_,_,by rw[i],by rw[i];exact l.1,l.2⟩
  have a5:((n:Int)== 0)=false:=ZD (by omega);have i:Zw f z a=Jn f (cols a):=by
   unfold Zw;rw[FU A,y,FU (by simp),u,FU K]
  have au:n<=200:=by
   have ao:=Yi A;rw[u]at ao;exact hok.lens n (by rw[ao];simp)
  have H:=h.lt;simp at H;have af:=Jct z hen hfn (OffB W.1.size 3 P) Q (ai.trans (h.below.mono ai.size)) (fun b j=>ab b (by omega)) a6 n n (cols a) (by rw[Gf,u]) (by omega) au ba aa (fun a4 a9=>(Jfb hok A a4 a9).1) hev.ok;clear K u H aa au;go_wp2_with fail;refine af.mono ?_;rintro e aW ⟨az,aU,aV,aj,ak,al,rfl,a8,F⟩;have D:=O ((I h).next F);clear F h af p r w x bh bi;have p:=D.c0;have r:=D.c1;have w:=D.C0;have x:=D.C1;go_wp2_with fail;have l:=Ze (q:=2) (u0:=E az aU aV) (u1:=E aj ak al) D.below (by decide) a8;refine FR (v:=.tuple #[aK az aU aV aj ak al,G (Jn f (cols a)).2]) (by simp[results,results177,go_sem,p,r]) rfl ⟨_,_,_,_,_,_,by rw[i],by rw[i];exact l.1,l.2⟩
 have ac:Yb a.shape.dropLast=false:=by simpa using y
 rw[ac];have i:Zw f z a=(eArr,9):=by unfold Zw;rw[FU A,FY ac]
 clear y ac;go_wp2_with fail;have l:=Ze (q:=2) (P:=P) (k:=3) (a:=eArr) (u0:=aH) (u1:=aH) d.below (by decide) (Jt _ _);refine FR (v:=.tuple #[.agg aF,G 9]) (by simp[results,results177,go_sem,p,r]) rfl ⟨none,0,0,none,0,0,by rw[i],by rw[i];exact l.1,l.2⟩
structure Rw (w:World) (g:Nat) (xs:List Int):Prop where
 lt:g<w.1.size
 cell:∀ p x,xs[p]?=some x->w.cell? (U g p)=some (.int .i64 x)
 fr:∀ p,w.frozen? (U g p)=false
theorem Rw.below(h:Rw w g xs)(hb:J w w'):Rw w' g xs :=
 ⟨FT h.lt hb.size,fun p x hp=>V hb h.lt (h.cell p x hp),fun p=>bF hb h.lt (h.fr p)⟩
theorem Rw.set(h:Rw w g xs)(hp:p<xs.length)(x):Rw (w.setCell (U g p) (G x)) g (xs.set p x):=by
 refine⟨by simpa using h.lt,fun a d b=>?_,fun a=>(NA ..).trans (h.fr a)⟩;by_cases c:a=p
 .subst c;rw[List.getElem?_set_self hp]at b;rw[<-NS b];exact FW _ _ _ (h.cell a _ (FX hp))
 rw[FZ _ _ _ _ (by intro h;injection h with _ b;exact c b.symm)];rw[List.getElem?_set_ne (fun h=>c h.symm)]at b;exact h.cell a d b
theorem Rw.nums(h:Rw w g xs)(hP:P g)(hn:xs.length=n):Nums P w (aI g 0 n n) xs:=by
 subst hn;exact⟨_,_,rfl,FP _,fun _=>⟨g,0,rfl,hP,h.lt,fun i b=>by rw[ZY];exact h.cell i _ (FX b)⟩,fun a b=>by cases b;rfl⟩
theorem Cols.keep{gb:Nat}(h:Cols Q w gb cs)(hg:gb<w.1.size)(hne:gb≠g)(hb:Bs (fun b=>b=g) w w')(hq:∀b,Q b->b≠g):Cols Q w' gb cs:=fun i hi=>by
 obtain⟨so,sn,sc,co,cn,cc,a,b,c⟩:=h i hi;exact⟨so,sn,sc,co,cn,cc,(hb.cell hg hne).trans a,(hb.cell hg hne).trans b,c.keep hb.size (fun b hb' hl=>hb.block b hl (hq b hb'))⟩
theorem Bx.bs{W:World}{l:List (List Value)}(h:Bx W w l)(hb:Bs (fun b=>b=g) w w')(hg:W.1.size+l.length<=g):Bx W w' l :=
 h.keep ⟨hb.os,hb.tape,hb.output,hb.size,fun k hk=>by have hk:=hk;exact hb.block k (FT hk h.lt) (fun(e:k=g)=>by omega)⟩
theorem Jyd{w1:World}(h:Bs (fun b=>b=g) w w1)(v):Bs (fun b=>b=g) w (w1.setCell (U g p) v):=
 ⟨h.os,h.tape,h.output,by simpa using h.size,fun k hk hne=>(FV _ _ _ _ (by intro e;exact hne e)).trans (h.block k hk hne)⟩
theorem Ns{b:Nat}{u0 u1:Value}(h0:w.cell? (U b 0)=some u0)(h1:w.cell? (U b 1)=some u1)(v0 v1):((w.setCell (U b 0) v0).setCell (U b 1) v1).cell? (U b 0)=some v0/\((w.setCell (U b 0) v0).setCell (U b 1) v1).cell? (U b 1)=some v1 :=
 ⟨celN (by omega) (FW _ _ _ h0),FW _ _ _ (u:=u1) (celN (by omega) h1)⟩
def Gj(f:Arr->Arr->Arr × Int)(cs:List Arr)(m n i j:Nat):List Int:=(List.range (m*n)).map fun p=>if p % n<i\/(p % n=i/\p / n<j)then(Jn f (cs.take (p % n+1))).1.cells.getD (p / n) 0 else 0
theorem Jou(f)(cs)(m n i j):(Gj f cs m n i j).length=m*n:=by simp[Gj]
theorem Jow(f)(cs)(m n i):(V1 f cs m n i).length=m*n:=by simp[V1]
theorem Jl3(f)(cs)(m n):V1 f cs m n 0=List.replicate (m*n) 0:=by
 simp[V1,PP]
theorem Jl2(f)(cs)(m n i):Gj f cs m n i 0=V1 f cs m n i:=by
 unfold Gj V1;apply YZ;intro p _;simp
theorem Jov(f)(cs)(m n i):Gj f cs m n i m=V1 f cs m n (i+1):=by
 unfold Gj V1;apply YZ;intro p a;have a:p<m*n:=by simpa using a
 have:p / n<m:=by
  rcases ZB n with e|e
  .subst e;omega
  exact JF (by rw[ZF];exact a)
 by_cases b:p % n<i+1
 .rw [FY b,FY (by omega)]
 rw[FU b,FU (by omega)]
theorem Jot{j:Nat}(hi:i<n)(_hj:j<m):(Gj f cs m n i j).set (j*n+i) ((Jn f (cs.take (i+1))).1.cells.getD j 0)=Gj f cs m n i (j+1):=by
 have e:(j*n+i) % n=i:=by rw[Hg,Nat.add_mul_mod_self_right,YM hi]
 have d:(j*n+i) / n=j:=by rw[Hg,Nat.add_mul_div_right _ _ (by omega),Hh hi,ZY]
 apply YG
 .simp [Gj]
 intro p g h;simp only[Gj,PG,YJ,JT];by_cases a:j*n+i=p
 .subst a;rw[FY rfl,e,d,FY (by omega)]
 rw[FU a];have k:¬ (p % n=i/\p / n=j):=by
  rintro⟨b,c⟩;have:=Ho p n;rw[b,c,ZF]at this;exact a this
 by_cases b:p % n<i\/(p % n=i/\p / n<j)
 .rw [FY b,FY (by omega)]
 rw[FU b,FU (by omega)]
theorem Jub(z)(hen:Enters prog g)(hfn:FnTwo g #[] w0 f)(hev:Evens f)(P)(W)(hW:J w0 W)(hP:∀b,W.1.size<=b->P b)(so)(sn sc)(co)(cn cc)(a)(ha:IsArr P W (aK so sn sc co cn cc) a)(hok:a.ok):
 Calls prog 178 #[aK so sn sc co cn cc,.agg #[aC g,G z]] W fun e W'=>∃so sn sc co cn cc,e=aD (.tuple #[aK so sn sc co cn cc,G (Z1 f a).2])/\IsArr P W' (aK so sn sc co cn cc) (Z1 f a).1/\J W W':=by
 have a8:=(Jb ha).2;have a6:=(Jb ha).1;have aa:=Bx.n3 W (aM so sn sc co cn cc) [aC g,G z] aG 89 241 89;have aw:=O hev;have ae:=O hW;have D:=O hok;clear hev hW hok;change Hid _ at a6 a8 hen hfn hP aa;by_cases aW:sn=0
 .have bZ:((sn:Int)== 0)=true:=by simpa using aW
  have r:Hid (Z1 f a=(a,0)):=O (by unfold Z1;rw[FY (by have:=I a8;omega)]);clear aW;go_enter func178,ntmps178;go_wp2_with fail;refine aR (Jo _ so sn sc co cn cc) fun w' ab=>?_;have j:Hid (Bx W w' [(aM so sn sc co cn cc),[aC g,G z],aG]):=O ((I aa).next (by rw[ab];exact(aS.alloc aT _).alloc (by simp) _));clear ab aa;have b0:=j.a0;have b1:=j.a1;have ac:=j.c0;have ad:=j.c1;have bq:=j.C0;have br:=j.C1;go_wp2_with fail;have y:=Ze (q:=2) (k:=3) (P:=P) (u0:=E so sn sc) (u1:=E co cn cc) j.below (by decide) ((ha.imp (fun b h A=>⟨h,NN A⟩)).below j.below);refine FR (v:=.tuple #[aK so sn sc co cn cc,G 0]) (by simp[results,results178,go_sem,ac,ad]) rfl ⟨so,sn,sc,co,cn,cc,by rw[r],by rw[r];exact y.1,y.2⟩
 have bZ:((sn:Int)== 0)=false:=ZD (by omega);have ao:a.shape.length≠0:=by have:=I a8;omega
 have N:=O ao;obtain⟨ct,bx,bJ,bK,bL⟩:=NY VI;obtain⟨n,B⟩:=nm (Jq a.shape);obtain⟨m,am⟩:=nm (Jd a.shape.dropLast);have a9:=K7 D ao;rw[B,am]at a9;have H:cn=m*n:=by rw[a6,a9]
 have cF:cn<=200:=by have:=D.few;have:=I a6;omega
 have cO:n<=200:=by
  have d:=Yi ao;rw[B]at d;exact D.lens n (by rw[d];simp)
 clear aW ao a9;change Hid _ at H am B bL bK bJ bx;go_enter func178,ntmps178;go_wp2_with fail;refine aR (Jo _ so sn sc co cn cc) fun cw ab=>?_;have j:Hid (Bx W cw [(aM so sn sc co cn cc),[aC g,G z],aG]):=O ((I aa).next (by rw[ab];exact(aS.alloc aT _).alloc (by simp) _));clear ab aa;have b0:=j.a0;have b1:=j.a1;go_wp2_with fail;refine aR (Y0 _ so sn sc co cn cc) fun t ba=>?_;have bp:Hid (Bx W t [(aM so sn sc co cn cc),[aC g,G z],aG]):=O ((I j).next (by rw[ba];exact aS.alloc aT _));clear ba j b0 b1;go_wp2_with (at_make;refine YV _ rfl _ _ 32 rfl t.1.size 2 ct (G 0) 1 ZP bx bJ bK .i64 .i64 cn cn cn rfl rfl rfl rfl ?c1 ?c2 aT ?_)
 case c1=>rw[bL];omega
 case c2=>unfold maxLen;omega
 intro ar Z ce;have Z:ar.ownsRow t.1.size 2 1 (E (some (adP0 t)) cn cn) cn (List.replicate cn (G 0)):=by
  have:=YN (G 0) (cn*1);rw[MA]at this;rw[<-this];simpa using Z
 have b9:=aS.grown ce aT (fun _ h=>by cases h);have bB:=Z.lt t.1.size rfl |>.2;have cd:∀p C,(V1 f (cols a) m n 0)[p]?=some C->ar.cell? (U t.1.size p)=some (G C):=by
  intro p C an;rw[Jl3,<-H,YK]at an;split at an
  .rename_i hpl;have d:=Z.cellAt p (by simpa using hpl);rw[YK,FY hpl]at d;rw[<-NS an];exact d
  cases an
 have bm:Hid (Rw ar t.1.size (V1 f (cols a) m n 0)):=O ⟨bB,cd,fun p=>Z.frozenAt p⟩;have af:=O ((I bp).next b9);have a7:W.1.size+3<=t.1.size:=bp.lt;generalize t.1.size=gk at bm a7 bB⊢;have bS:=O (Jco (OffG W.1.size gk P) ar (fun b u=>⟨hP b (by omega),NO (by omega)⟩) _ _ _ _ _ _ a ((ha.imp (fun b h A=>⟨h,NN A⟩)).below af.below) D N);have b0:=af.a0;have b1:=af.a1;go_wp2_with fail;refine bS.mono ?_;rintro e bM ⟨X,rfl,cH,cf,b8,bv⟩;rw[B];have bY:=O ((I af).next bv);have bW:=O ((I bm).below bv);have cI:gk<X:=by omega
 have cJ:gk<bM.1.size:=by omega
 go_wp2_with fail;go_loopw [23] (fun bi wr=>∃i:Nat,bi=G i/\i<=n/\Hid (Vk f (cols a) i=0)/\Bs (fun b=>b=gk) bM wr/\Rw wr gk (V1 f (cols a) m n i)) (fun bi _=>n-(intOf bi).toNat)
 .exact ⟨0,rfl,by omega,O rfl,Bs.of aS,bW⟩
 obtain⟨i,rfl,cK,aZ,ah,cp⟩:=hrel;rename World=>wr;have l:=O ((I bY).bs ah (by simpa using a7));have bn:=O cp;have cR:=ah.size;have ci:=l.lt;simp at ci;by_cases bz:i<n
 .have cZ:=l.b0;have aq:=l.b1;have bu:Cols (OffG W.1.size gk P) wr X ((cols a).take (i+1)):=(b8.keep cf (by omega) ah (fun b u e=>by subst e;rcases u.2 with h|h<;>omega)).take _;have bA:((cols a).take (i+1)).length=i+1:=by rw[YD,Gf,B];omega
  have bD:=Gs D N (k:=i+1);have ag:=l.below;have ak:X<wr.1.size:=by omega
  have a4:J wr (wr.alloc (.cells #[M,M] 89)).drew:=(belA1).drew;have bw:J wr wr.drew:=aS.drew;have au:=O (Jct z hen hfn (fun b=>OffG W.1.size gk P b/\b≠wr.1.size) (wr.alloc (.cells #[M,M] 89)).drew (ae.trans ((ag.trans (a4.mono ag.size)).mono ae.size)) (fun b u=>by simp at u;exact⟨⟨hP b (by omega),NO (by omega)⟩,by omega⟩) X (i+1) n ((cols a).take (i+1)) bA (by omega) (by omega) (FT ak a4.size) ((bu.imp (fun b h A=>⟨h,by omega⟩)).below ak a4) (fun ax a5=>(bD ax a5).1) aw.ok);have av:=O (Jct z hen hfn (OffG W.1.size gk P) wr.drew (ae.trans ((ag.trans (bw.mono ag.size)).mono ae.size)) (fun b u=>by simp at u;exact⟨hP b (by omega),NO (by omega)⟩) X (i+1) n ((cols a).take (i+1)) bA (by omega) (by omega) ak (bu.below ak bw) (fun ax a5=>(bD ax a5).1) aw.ok);generalize hR:Jn f ((cols a).take (i+1))=R at au av;generalize hk1:i+1=k1 at au av;have cM:IntKind.i64.wrap ((i:Int)+1)=(k1:Int):=by
   have e:(i:Int)+1=(k1:Int):=by omega
   rw[e];exact Jg (by omega) (by omega)
  have c3:(0:Int)<=i:=by omega
  have c4:(i:Int)<n:=by omega
  have c5:(k1:Int)<=n:=by omega
  have c6:(0:Int)<=k1:=by omega
  have c7:W.1.size+1<wr.1.size:=by omega
  have bE:¬ (OffG W.1.size gk P wr.1.size/\wr.1.size≠wr.1.size):=fun h=>h.2 rfl;go_upto_region 8 with fail;go_cut [9,10]from 26 to 34 (fun cv cu o=>∃F aq bd be c1 c2 ay,cv=aJ F 0/\cu=G R.2/\o.cell? (U F 0)=some (E aq bd be)/\o.cell? (U F 1)=some (E c1 c2 ay)/\IsArr (OffG W.1.size gk P) o (agV aq bd be c1 c2 ay) R.1/\F≠gk/\F<o.1.size/\J wr o)
  .go_region_with (first
    | (go_at_call 226;(with_reducible refine(I au).mono ?_);rintro e bl ⟨bf,bg,bh,az,aU,aV,rfl,aY,w⟩;have bN:=aY;have L:=((FQ wr.1.size wr).alloc aT (.cells #[M,M] 89)).drew.trans (w.mono (by simp));have bb:=(w.cell (p:=adP0 wr) (by simp));have bc:=(w.cell (p:=adP1 wr) (by simp));have b2:=(w.frozen (p:=adP0 wr) (by simp));have b3:=(w.frozen (p:=adP1 wr) (by simp));simp at bb bc b2 b3;have cr:wr.1.size<bl.1.size:=(by have:=w.size;simp at this;omega))
    | (go_at_call 226;(with_reducible refine(I av).mono ?_);rintro e bl ⟨bf,bg,bh,az,aU,aV,rfl,aY,w⟩;have bO:=aY;have L:=(FQ wr.1.size wr).drew.trans w))
   all_goals go_wp2_with fail
   all_goals go_meet
   all_goals first
    | exact⟨wr.1.size,bf,bg,bh,az,aU,aV,rfl,rfl,(Ns bb bc _ _).1,(Ns bb bc _ _).2,((bN.set bE 0 _).set bE 1 _).imp (fun b h _=>h.1),by omega,by simpa using cr,(L.setCell (p:=adP0 wr) aT _).setCell (p:=adP1 wr) aT _⟩
    | exact⟨bl.1.size,bf,bg,bh,az,aU,aV,rfl,rfl,alA,alA,bO.below (belA1),by have:=L.size;omega,by simp,L.alloc L.size _⟩
    | (trace_state;fail)
  obtain⟨F,aq,bd,be,c1,c2,ay,rfl,rfl,cV,cW,bt,cP,cN,aj⟩:=hcut;rename World=>wc;have T:=O ((I l).next aj);have bX:=O ((I bn).below aj);have bR:=ah.trans (Bs.of (S:=fun b=>b=gk) aj) (fun _ _ h=>h);have cQ:=aj.size;by_cases x:R.2=0
  .have ck:(cols a).take (i+1)≠[]:=by
    intro e;have d:=NM List.length e;rw[YD,Gf,B]at d;simp at d;omega
   have bG:R.1.ok/\R.1.shape=a.shape.dropLast:=by
    rw[<-hR]at x⊢;exact Jbk aw ck (Gs D N) x
   have al:R.1.cells.length=m:=by rw[bG.1.size,bG.2];exact am
   have ca:c2=m:=by rw[(Jb bt).1,al]
   have bT:Hid (Vk f (cols a) (i+1)=0):=O (by
    rw[Vk,FU (by rw[aZ];simp),hR];exact x)
   subst ca;rw[x];have cC:c2<=200:=by
    have d:c2*1<=c2*n:=Hk _ (by omega);have aX:=I H;omega
   go_wp2_with fail;go_loopw [42] (fun bj o=>∃c:Nat,bj=G c/\c<=c2/\Bs (fun b=>b=gk) wc o/\Rw o gk (Gj f (cols a) c2 n i c)) (fun bj _=>c2-(intOf bj).toNat)
   .exact ⟨0,rfl,by omega,Bs.of aS,by rw[Jl2];exact bX⟩
   obtain⟨c,rfl,cL,ai,K⟩:=hrel;rename World=>o;have cx:=O K;by_cases Y:c<c2
   .have b5:=bt.keep ai.size (fun b u A=>ai.block b A (fun(e:b=gk)=>by subst e;rcases u.2 with h|h<;>omega));have cj:=J8 b5;obtain⟨cy,cz,rfl,cE,cb,cD⟩:=cj.at (k:=c) (by rw[al];exact Y);obtain⟨C,bI⟩:=nm (R.1.cells[c]'(by rw[al];exact Y));rw[bI]at cb;have cs:(Jn f ((cols a).take (i+1))).1.cells.getD c 0=C:=by
     rw[hR,NC,FX (by rw[al];exact Y),bI];rfl
    have bH:=Jx9 Y bz;have cl:i+c*n<cn:=by rw[H];exact bH
    generalize hjn:c*n=jn at cl bH;have bo:Hid ((Gj f (cols a) c2 n i c).set (jn+i) C=Gj f (cols a) c2 n i (c+1)):=O (by rw[<-hjn,<-cs];exact Jot bz Y);have cS:IntKind.i64.wrap ((c:Int)*(n:Int))=(jn:Int):=by
     rw[<-MC,hjn];exact Jg (by omega) (by omega)
    obtain⟨s,cm⟩:=nm (jn+i);have ba:IntKind.i64.wrap ((jn:Int)+(i:Int))=(s:Int):=by
     have e:((jn:Int)+(i:Int))=(s:Int):=by omega
     rw[e];exact Jg (by omega) (by omega)
    rw[cm]at bo;have cX:(0:Int)<=s:=by omega
    have cY:(s:Int)<cn:=by omega
    have cT:(0:Int)<=c:=by omega
    have cU:(c:Int)<c2:=by omega
    have cq:(Gj f (cols a) c2 n i c).length=cn:=by rw[Jou,H]
    have hplt:s<(Gj f (cols a) c2 n i c).length:=by rw[cq];omega
    have b4:=K.cell s _ (FX hplt);generalize(Gj f (cols a) c2 n i c)[s]'hplt=old at b4;have cA:=K.fr s;have cB:=K.lt;have bV:=O (K.set hplt C);have bP:=Jyd (p:=s) ai (G C);go_wp2_with fail;go_roundw
    .exact ⟨c+1,by go_num,by omega,bP,by rw[<-bo];exact bV⟩
    simp[intOf];omega
   have ch:c=c2:=by omega
   subst ch;have bU:Hid (Rw o gk (V1 f (cols a) c n (i+1))):=O (by rw[<-Jov];exact K);have bQ:=bR.trans ai (fun _ _ h=>h);go_wp2_with fail;go_roundw
   .exact ⟨i+1,by go_num,by omega,bT,bQ,bU⟩
   simp[intOf];omega
  have r:Hid (Z1 f a=(eArr,R.2)):=O (by
   have d:Vk f (cols a) (i+1)=R.2:=by
    rw[Vk,FU (by rw[aZ];simp),hR]
   have aX:Vk f (cols a) n=R.2:=by
    rw[<-d];exact Jbx (by rw[d];exact x) (by omega)
   unfold Z1;rw[FU (I N),B,FY (by rw[aX];exact x),aX])
  generalize R.2=er at x r⊢;have cG:(er != 0)=true:=by simpa using x
  have ac:=T.c0;have ad:=T.c1;have bq:=T.C0;have br:=T.C1;go_wp2_with fail;have y:=Ze (q:=2) (P:=P) (k:=3) (a:=eArr) (u0:=M) (u1:=M) T.below (by decide) (Jt _ _);refine FR (v:=.tuple #[.agg #[M,M],G er]) (by simp[results,results178,go_sem,ac,ad]) rfl ⟨none,0,0,none,0,0,by rw[r],by rw[r];exact y.1,y.2⟩
 have cg:i=n:=by omega
 subst cg;have r:Hid (Z1 f a=(⟨a.shape,V1 f (cols a) m i i⟩,0)):=O (by
  unfold Z1;rw[FU (I N),B,aZ,FU (by simp),am])
 have b0:=l.a0;have ac:=l.c0;have ad:=l.c1;have bq:=l.C0;have br:=l.C1;go_wp2_with fail;have b6:=(ha.imp (Q:=OffB W.1.size 3 P) (fun b h A=>⟨h,NN A⟩)).below l.below;have b7:IsArr (OffB W.1.size 3 P) wr (agV so sn sc (some (U gk 0)) cn cn) ⟨a.shape,V1 f (cols a) m i i⟩:=by
  obtain⟨_,_,_,_,_,_,ap,d,_⟩:=b6;injection ap with ap;simp at ap;obtain⟨⟨rfl,rfl,rfl⟩,_⟩:=ap;exact Jd3 d (bn.nums (OffB.new hP a7) (by rw[Jow,H]))
 have y:=Ze (q:=2) (u0:=E so sn sc) (u1:=aI gk 0 cn cn) l.below (by decide) b7;refine FR (v:=.tuple #[(agV so sn sc (some (U gk 0)) cn cn),G 0]) (by simp[results,results178,go_sem,ac,ad]) rfl ⟨_,_,_,_,_,_,by rw[r],by rw[r];exact y.1,y.2⟩
theorem KZ:Enters prog 200:=NF func200 (by decide) rfl
def OwnI(B:Nat)(w:World)(v:Value)(xs:List Int):Prop:=w.ownsRow B 3 1 v xs.length (xs.map (Value.int .i64))
theorem OwnI.nil(B)(w):OwnI B w aH []:=NW _ _ _ _
theorem OwnI.nums(h:OwnI B w v xs):Nums (fun b=>B<=b) w v xs:=Jv (P:=fun b=>B<=b) h (fun _ h=>h)
theorem OwnI.shape(h:OwnI B w v xs):∃vo vc,v=E vo xs.length vc:=by
 obtain⟨vo,vc,a,_⟩:=Zm h;simp_all
theorem Jh6{ops:Array Oper}{rest:List Oper}{o:Oper}{a:Act}{Q:Exit->Act->World->Prop}(hgd:o.guard=none)(s x)(ho:o.op=.call { callee:=.builtin .append,args:=#[s,x],argTypes:=#[37,37] })
 (h:OwnI B w v xs) (hx:xs.length<=1000) (hB:B<=w.1.size) (y) (hs:a.eval s=v) (hv:a.eval x=aI w.1.size 0 1 1)
 (hk:∀v' w',OwnI B w' v' (xs++[y])->Below B w w'->wpList prog ops Q rest (a.put o.dst v') w'):wpList prog ops Q (o::rest) a (w.alloc (.cells #[G y] 3)):=by
 obtain⟨i,c,e,f,g⟩:=NY VK;refine JE _ hgd s x 37 ho B 3 i (G 0) 1 8 JH c e f g rfl (by decide) v _ _ hs (MO h _) (adP0 w) 1 1 [G y] hv rfl (by intro d j b;match d,b with|0,b=>simp at b;subst b;exact alA) (by intro j b;simp at b;subst b;rfl) (by grind[maxLen]) (by omega) (by simp;omega) ?_;intro v' w' k b _ l;exact hk v' w' (by simp[OwnI];omega) ((aS.alloc hB _).grown b (by simp;omega) (fun j d=>(Mj h j d).1))
def Jp(xs:List Int):List Nat:=xs.map fun c=>(min c 65).toNat
def reC(n:Nat)(bs:List Int)(i:Nat):List Int:=(List.range n).map fun p=>if p<i then bs.getD (p % bs.length) 0 else 0
def Yd(a b:Arr):Arr × Int :=
 if 1<a.shape.length\/3<a.cells.length then(eArr,5)else if a.cells.any negB=true then(eArr,7)
 else if Yb (Jp a.cells)=false then(eArr,9)else if b.cells.length=0/\0<Jd (Jp a.cells)then(eArr,6)
 else(⟨Jp a.cells,reC (Jd (Jp a.cells)) b.cells (Jd (Jp a.cells))⟩,0)
theorem Jb1(n)(bs)(i):(reC n bs i).length=n:=by simp[reC]
theorem Ju1(n)(bs):reC n bs 0=List.replicate n 0:=by simp[reC,PP]
theorem Jzl{bs:List Int}(_hi:i<n):(reC n bs i).set i (bs.getD (i % bs.length) 0)=reC n bs (i+1):=by
 apply YG
 .simp [reC]
 intro p a b;simp only[reC,PG,YJ,JT];grind
theorem Jbw(xs):(Jp xs).length=xs.length:=by simp[Jp]
theorem Jl0(h:n ∈ Jp xs):n<=65:=by
 simp only[Jp,NZ]at h;omega
theorem Jfu(h:xs.any negB=false):(Jp xs).map Int.ofNat=xs.map fun c=>min c 65:=by
 grind[Jp,List.map_congr_left,negB]
theorem Jla(h:Yb sh=true):(∀n ∈ sh,n<=64)/\Jd sh<=64:=by
 simp_all[Yb]
theorem Jis(hb:b.ok)(h0:(Yd a b).2=0):(Yd a b).1.ok:=by
 unfold Yd at h0⊢;split
 .simp_all
 rename_i h1;rw[FU h1]at h0;split
 .simp_all
 rename_i h2;rw[FU h2]at h0;split
 .simp_all
 rename_i h3;rw[FU h3]at h0;split
 .simp_all
 have f:=Jla (by simpa using h3);refine⟨by simp[Jbw];omega,fun n g=>by grind,by simp[Jb1],by simp[Jb1];omega,?_⟩;intro e c;simp only[reC,NZ,MX]at c;obtain⟨p,d,rfl⟩:=c;rw[FY d,NC];cases hg:b.cells[p % b.cells.length]? with
 | none=>simp[Jk]
 | some v=>exact hb.fits v (M8 hg)
theorem Jel(h:(Yd a b).2≠0):(Yd a b).1=eArr:=by
 unfold Yd at h⊢;grind
def GA:Go.Shelf.Ren:=⟨fun|4=>277|n=>n,fun|22=>37|25=>3|3=>3|4=>4|9=>9|20=>20|0=>0|n=>n,fun|n=>n⟩
theorem GB:Go.Proofs.Lays8.n4 prog GA:={
 mixed:=by kernel_rfl
 f4:=⟨f277.name,by decide,func277.trans (NM some (by kernel_rfl))⟩
 t0:=Ma
 a0:=isAgg0
 z0:=sizeOf0
 v0:=Mn
 t3:=MR
 a3:=isAgg3
 z3:=Ht
 v3:=Mf
 t4:=JZ
 a4:=isAgg4
 z4:=Hn
 v4:=ML
 t9:=YY
 a9:=isAgg9
 z9:=PK
 v9:=Mg
 t20:=underlying20
 a20:=isAgg20
 z20:=sizeOf20
 v20:=zeroValue20
 t22:=JH
 a22:=isAgg37
 z22:=sizeOf37
 v22:=zeroValue37 }
theorem Jrv(n:Nat)(hn:n<=1000000)(w):Calls prog 277 #[aH,G n] w fun e w'=>∃v,e=aD v/\w'.ownsRow w.1.size 3 1 v 0 []/\J w w':=by
 obtain⟨h,d,g,j,k⟩:=NY VK;by_cases b:n=0
 .subst b;refine aQ (Any8.slices_Grow_room GB none 0 0 0 w (by omega) (by omega) (by omega) (by omega)) ?_;exact⟨_,rfl,NW _ _ _ _,FQ _ _⟩
 refine aQ (Any8.slices_Grow_grow GB h (G 0) d g (by omega) none 0 0 n [] w (by omega) (by omega) (by grind) (by omega) (by simp) (by simp) (by simp)) ?_;have c:∀a,(w.drew.alloc a).heap[w.1.size]?=some a:=fun a=>by show(w.heap.push a)[w.1.size]?=_;simp
 have:=grownCap_ge w (0+n) 0 3;have f:=grownCap_le_maxLen w (0+n) 0 3 (by grind[maxLen]);refine⟨_,rfl,⟨by simp,.inr ⟨_,_,_,rfl,FP _,c _,by omega,f,?_,by simp⟩⟩,?_⟩
 .simp only[Array.size_append,Md,YT,Jc4];show _=grownCap w (0+n) 0 3*1;show 0+(0+n-0)+(grownCap w (0+n) 0 3-(0+n))=_;omega
 exact aS.drew.alloc (by simp) _
theorem Jjo(P)(w)(hP:∀b,w.1.size<=b->P b)(gb k cap)(L)(hk:L.length=k)(hk3:k<=200)(hgb:gb<w.1.size)(hL:Jj0 Q w gb L)(hfew:L.flatten.length<=1000000):
 Calls prog 250 #[.slice (some ⟨gb,0,none⟩) k cap] w fun e w'=>∃so sn sc,e=aD (.slice so sn sc)/\Nums P w' (.slice so sn sc) L.flatten/\Below w.1.size w w':=by
 obtain⟨W,H,R,S,T⟩:=NY VK;have B:=H;have aa:=R;have ab:=S;have ac:=T;have r:=hfew;have Y:=fun n (h:n<=1000000) w'=>Jrv n h w';clear H R S T hfew;go_enter func250,ntmps250;go_wp2_with fail;go_loopw [3,11] (fun c a wr=>∃i:Nat,c=.int .i64 (lens L i)/\a=.int .i64 i/\i<=k/\wr=w) (fun _ a _=>k-(intOf a).toNat)
 .exact ⟨0,by simp[lens],rfl,by omega,rfl⟩
 obtain⟨i,rfl,rfl,aY,ap⟩:=hrel;have aq:=ap.symm;subst aq;by_cases z:i<k
 .have c:i<L.length:=by rw[hk];exact z
  obtain⟨ar,n,D,u,o⟩:=hL i c;have p:=Je o;have j:=Fs c;rw[<-p]at j;have g:=Nx L (i+1);have x:=r;have aj:(0:Int)<=i:=by omega
  have ak:(i:Int)<k:=by omega
  obtain⟨m,l⟩:=nm (lens L i);obtain⟨d,a⟩:=nm (lens L (i+1));rw[l,a]at j;rw[a]at g;rw[l];have s:IntKind.i64.wrap ((m:Int)+(n:Int))=(d:Int):=by rw[Jg (by omega) (by omega)];omega
  have q:¬ ((d:Int)<0):=by omega
  have f:=a;clear o p j g x l a;go_wp2;go_roundw
  .grind
  simp[intOf];omega
 have al:i=k:=by omega
 subst al;have g:=NE (Nx L i) r;obtain⟨m,l⟩:=nm (lens L i);rw[l]at g⊢;clear l;go_wp2_with fail;refine(Y m g _).mono ?_;rintro e a4 ⟨v,rfl,c,d⟩;have q:=c;have f:=d;clear c d;go_wp2_with fail;go_loopw [6,27] (fun o j wr=>∃a:Nat,j=.int .i64 a/\a<=i/\wr.ownsRow w.1.size 3 1 o (lens L a) ((L.take a).flatten.map (Value.int .i64))/\Below w.1.size w wr) (fun _ j _=>i-(intOf j).toNat)
 .exact ⟨0,rfl,by omega,by simp[lens];omega,f⟩
 obtain⟨a,rfl,aZ,c,d⟩:=hrel;by_cases z:a<i
 .have y:a<L.length:=by rw[hk];exact z
  obtain⟨ar,n,D,u,o⟩:=hL a y;have aX:=V d hgb u;have K:=o.below d;have p:=Je o;have j:=Fs y;rw[<-p]at j;have g:=Nx L (a+1);have x:=r;have A:=Jhd y;have aj:(0:Int)<=a:=by omega
  have ak:(a:Int)<i:=by omega
  obtain⟨X,vc,rfl,N,-⟩:=Zm c;have q:=c;have f:=d;have s:=O K;have t:=O p;have C:=j;have aW:lens L a+n<=1000000:=by omega
  clear o K c d u j g x p;by_cases am:n=0
  .subst am;have F:=NK (I t).symm;have Z:wr.ownsRow w.1.size 3 1 (.slice X (lens L a) vc) (lens L (a+1)) ((L.take (a+1)).flatten.map (Value.int .i64)):=by
    rw[C,A,F,YU,MQ];exact q
   clear F;go_wp2_with (at_builtin;refine Za rfl _ _ 37 rfl 3 W JH B _ _ _ ?c1 rfl _ _ rfl ?_)
   case c1=>exact N
   go_wp2;go_roundw
   .grind
   simp[intOf];omega
  obtain⟨az,aU,ao,ag,F,_⟩:=I s;obtain⟨b,au,rfl,_,aV,ah⟩:=F (by rw[<-I t];omega);injection ao with ad ae af;subst ad;clear F ah ag ae af;go_wp2_with (at_builtin;refine JA _ rfl _ _ 37 rfl w.1.size 3 W (.int .i64 0) 1 8 JH B aa ab ac rfl (by decide) _ _ _ rfl q ⟨b,au,none⟩ n D (L[a].map (Value.int .i64)) rfl (by simp[I t]) ?c2 X9 ?c3 ?c4 ?c5 ?_)
  case c2 =>
   grind[I,Fj]
  case c3=>grind[maxLen]
  case c4=>omega
  case c5=>exact f.size
  intro aw ax an ai _;have ay:=f.grown ai f.size (fun av Z=>(q.lt av Z).1);have Z:ax.ownsRow w.1.size 3 1 aw (lens L (a+1)) ((L.take (a+1)).flatten.map (Value.int .i64)):=by
   rw[C,A,NU];simpa using an
  go_wp2;go_roundw
  .grind
  simp[intOf];omega
 have p:a=i:=by omega
 subst p;have o:(L.take a).flatten=L.flatten:=by rw[<-hk,JV]
 rw[o]at c;have j:=Jv (P:=P) c hP;obtain⟨X,vc,rfl,N,-⟩:=Zm c;have s:=O j;have f:=d;go_wp2;go_ret;exact⟨_,_,_,rfl,I s,f⟩
theorem Jjn(P)(w)(hP:∀b,w.1.size<=b->P b)(gb k cap)(L)(hk:L.length=k)(hk3:k<=200)(hgb:gb<w.1.size)(hL:Jj0 Q w gb L)(hfew:L.flatten.length<=1000):
 Calls prog 250 #[aI gb 0 k cap] w fun e w'=>∃so sn sc,e=aD (E so sn sc)/\Nums P w' (E so sn sc) L.flatten/\J w w':=Jjo P w hP gb k cap L hk hk3 hgb hL (by omega)
end Go.Proofs.YtjobgpahajhbnaaGreatDoor
