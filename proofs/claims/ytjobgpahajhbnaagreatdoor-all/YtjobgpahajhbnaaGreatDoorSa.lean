import Derived.Test.YtjobgpahajhbnaaGreatDoorWa
import Derived.Deep.QuietTactic
import Derived.BigQuiet
import Derived.Deep.RegionHeld3
import Derived.Deep.RegionWith
namespace Go.Proofs.YtjobgpahajhbnaaGreatDoor
open Go.RowKit Go.Proofs.Tryz
set_option linter.all false
set_option maxHeartbeats 1000000
variable {d j k:Nat} {e:Ending} {l:List UInt8} {p:UInt8->Bool} {s:ByteArray} {w:World}
def tokX(k r x:Int)(t:ByteArray)(p:Int):Value:=.agg #[.int .i64 k,.int .i64 r,.int .i64 x,.string t,.int .i64 p]
structure Tok where
 k:Int
 r:Int
 x:Int
 t:ByteArray
 p:Nat
def Tok.v(q:Tok):Value:=tokX q.k q.r q.x q.t q.p
structure Rd (W0:World) (tk:Value) (j o:Nat) (w:World):Prop where
 below:J W0 w
 tok:w.cell? (U W0.1.size 0)=some tk
 nxt:w.cell? (U W0.1.size 1)=some (.int .i64 j)
 opn:w.cell? (U W0.1.size 2)=some (.int .i64 o)
 fr1:w.frozen? (U W0.1.size 1)=false
 fr2:w.frozen? (U W0.1.size 2)=false
 lt:W0.1.size<w.1.size
structure TokIn (W0:World) (ao:Option Addr) (tb:Nat) (S:List Tok):Prop where
 few:S.length<=200
 addr:0<S.length->ao=some (U tb 0)/\tb<W0.1.size
 cell:∀ i,(h:i<S.length)->W0.cell? (U tb (i*5))=some (.int .i64 S[i].k)/\W0.cell? (U tb (i*5+1))=some (.int .i64 S[i].r)/\W0.cell? (U tb (i*5+2))=some (.int .i64 S[i].x)/\W0.cell? (U tb (i*5+3))=some (.string S[i].t)/\W0.cell? (U tb (i*5+4))=some (.int .i64 S[i].p)
def kr(S:List Tok):List (Int × Int):=S.map fun q=>(q.k,q.r)
theorem Z4(S):(kr S).length=S.length:=by simp[kr]
def Zc(a b:Int):Bool:=bits BinOp.and IntKind.i64 a b != 0
def fB(T:List (Int × Int))(j:Nat)(role:Int):Bool:=match T[j]? with
 | some q=>Zc q.2 role
 | none=>false
def kB(T:List (Int × Int))(j:Nat)(kind:Int):Bool:=match T[j]? with
 | some q=>q.1 == kind
 | none=>false
theorem J0w(q:Tok)(role)(B)(w)(hB:B<w.1.size)(hc:w.cell? (U B 0)=some (G role)):
 Calls prog 216 #[q.v,aJ B 0] w fun e w'=>e=aD (.bool (Zc q.r role))/\J w w':=by
 obtain⟨k,r,b,a,p⟩:=q;unfold Tok.v tokX;go_enter func216,ntmps216;go_wp2;go_ret;exact⟨rfl,belA1⟩
theorem J0x(q:Tok)(kind)(B)(w)(hB:B<w.1.size)(hc:w.cell? (U B 0)=some (G kind)):
 Calls prog 271 #[q.v,aJ B 0] w fun e w'=>e=aD (.bool (q.k == kind))/\J w w':=by
 obtain⟨k,a,c,b,p⟩:=q;unfold Tok.v tokX;go_enter func271,ntmps271;go_wp2;go_ret;exact⟨rfl,belA1⟩
theorem Jt6(s:ByteArray)(h:1<s.size)(ht:Gt s[1]=true):sgnE (s.data.toList.drop 1)=2:=by
 rw[Z5 s 1 h];simp[sgnE];omega
theorem Jt8(s:ByteArray)(h:1<s.size)(ht:Gt s[1]=false):sgnE (s.data.toList.drop 1)=1:=by
 grind[Z5,sgnE]
theorem Jl1(s:ByteArray)(h:¬ 1<s.size):sgnE (s.data.toList.drop 1)=1:=by
 rw[YP (by simp;omega)];rfl
theorem F0(s:ByteArray)(n)(h:n<=s.size):(s.extract 0 n).size=n:=by
 simp;omega
def tokV(k r:Int)(t:ByteArray)(p:Int):Value:=.agg #[.int .i64 k,.int .i64 r,.int .i64 0,.string t,.int .i64 p]
theorem Jjk(s)(w)(h0:0<s.size)(hs:s.size<=200)(n)(hn:n=sgnE (s.data.toList.drop 1)):
 Calls prog 148 #[aE s] w fun e w'=>e=aD (tokV 3 (Jat (s.extract 0 n)) (s.extract 0 n) 0)/\J w w':=by
 by_cases a:1<s.size
 .cases ht:Gt s[1];rw[Jt8 s a ht]at hn;subst hn;have b:=F0 s 1 (by omega);have:=b;have c:=ht;go_enter func148,ntmps148;go_wp2_with fail;refine aQ (Jrn _ _ c) ?_;rotate_left;rw[Jt6 s a ht]at hn;subst hn;have b:=F0 s 2 (by omega);go_enter func148,ntmps148;go_wp2_with fail;refine(Jm2 _ _ ht).mono ?_;rintro e w' ⟨v,f,rfl,rfl⟩
  all_goals
   go_wp2_with fail;refine aQ (Fb _ _ (by omega) (by omega)) ?_;go_wp2;refine FR (by simp[results,results148,go_sem];try rfl) rfl ?_;refine⟨rfl,?_⟩;exact belA1
 rw[Jl1 s a]at hn;subst hn;have b:=F0 s 1 (by omega);go_enter func148,ntmps148;go_wp2_with fail;refine aQ (Fb _ _ (by omega) (by omega)) ?_;go_wp2;refine FR (by simp[results,results148,go_sem];try rfl) rfl ?_;refine⟨rfl,?_⟩;exact belA1
def wlen(s:ByteArray):Nat:=(s.data.toList.takeWhile lU).length
theorem Jnv(s):wlen s<=s.size:=by
 unfold wlen;have a:=(Hu (l:=s.data.toList) lU).length_le;simpa using a
def Q9(t:ByteArray):Int:=bif Zb t != 0 then 3 else bif t.toList == [105,115]then 2 else 1
def wOk(t:ByteArray):Bool:=Zb t != 0 || t.toList == [105,115]|| decide ((t.size:Int)<=4)
theorem Jjj(s)(w)(hs:s.size<=200)(n)(hn:n=wlen s):
 Calls prog 146 #[aE s] w fun e w'=>e=aD (.tuple #[tokV (Q9 (s.extract 0 n)) (Zb (s.extract 0 n)) (s.extract 0 n) 0,.bool (wOk (s.extract 0 n))])/\J w w':=by
 have g:=Jnv s;have d:((s.data.toList.takeWhile lU).length:Int)=(n:Int):=by rw[hn];rfl
 have h:n<=s.size:=by omega
 clear hn g;obtain⟨b,a⟩:=nm (s.extract 0 n);have f:=O a;have:b.size<=200:=by rw[<-a,F0 s n h];omega
 rw[a];clear a;cases hr:(Zb b != 0)
 .have c:=show Zb b=0 by simp_all
  clear hr;cases hi:(b.toList == [105,115]);rotate_left
  all_goals
   go_enter func146,ntmps146;go_wp2_with fail;refine aQ (Jlg _ _ hs) ?_;rw[d];go_wp2_with fail;rw[f];refine aQ (G3 _ _) ?_;rw[c];go_wp2;refine FR (by simp[results,results146,go_sem];try rfl) rfl ?_;refine⟨?_,?_⟩
   .simp [tokV,Q9,wOk,c,hi]
   exact belA1
 go_enter func146,ntmps146;go_wp2_with fail;refine aQ (Jlg _ _ hs) ?_;rw[d];go_wp2_with fail;rw[f];refine aQ (G3 _ _) ?_;go_wp2;refine FR (by simp[results,results146,go_sem];try rfl) rfl ?_;refine⟨?_,?_⟩
 .grind [tokV,Q9,wOk]
 exact belA1
def valF(a:Nat)(l:List UInt8):Nat:=l.foldl (fun n c=>10*n+(c.toNat-48)) a
theorem Jgf(Mz)(hM:10000000000000000000<=Mz):∀(l:List UInt8) (a:Nat),l.all dU=true->(a+1)*10 ^ l.length<=10000000000000000000->Lib.parseUintM Mz a l=.ok (valF a l)
 | [],a,_,_=>rfl
 | c::r,a,ha,hb=>by
  simp only[Ph,ZJ]at ha;have hc:=ha.1;simp[dU,digB]at hc;have hp:1<=10 ^ r.length:=Nat.pow_pos (by decide);rw[ZN,Nat.pow_succ]at hb;have hb2:(a+1)*10*10 ^ r.length<=10000000000000000000:=by
   rw[Pi,ZF 10];exact hb
  have:=NE (by simpa using Hk ((a+1)*10) hp) hb2;have b:=Jgf Mz hM r (a*10+(c.toNat-48)) ha.2 (NE (NR _ (by omega)) hb2);unfold Lib.parseUintM;rw[FY (by omega),FU (by omega),FU (by omega),b];simp[valF,ZF]
theorem Jb7(l)(h0:l≠[])(hl:l.length<=19)(ha:l.all dU=true):Lib.parseIntB 64 l=if 9223372036854775807<val l then .range else .ok (val l:Int):=by
 match l,h0 with
 | c::r,_ =>
  have:Lib.parseUintB 64 (c::r)=.ok (val (c::r)):=by
   unfold Lib.parseUintB;rw[FU (by simp)];exact Jgf _ (by decide) _ _ ha (by
    have:10 ^ (c::r).length<=10 ^ 19:=Mb (by decide) hl;omega)
  simp only[Ph,ZJ]at ha;have a:=ha.1;simp[dU,digB]at a;unfold Lib.parseIntB;grind
def ErrV(w:World)(b:Nat):Prop:=∃ev,w.cell? (U b 0)=some ev/\(ev=.nilIface\/∃te pe,ev=.iface te pe)
def Evs(w:World):Prop:=6<=w.1.size/\ErrV w 4/\ErrV w 5
theorem Evs.below{B:Nat}{w':World}(h:Evs w)(hb:Below B w w')(hB:6<=B):Evs w':=by
 obtain⟨e,⟨c,c1,d1⟩,⟨d,a,b⟩⟩:=h;exact⟨NE e hb.size,⟨c,V hb (by omega) c1,d1⟩,⟨d,V hb (by omega) a,b⟩⟩
theorem Evs.alloc(h:Evs w)(o):Evs (w.alloc o):=
 h.below ((FQ w.1.size w).alloc aT o) h.1
theorem Jjx(w)(e)(s):J w (Lib.bytesWorld w e s):=by
 have a:J w (w.drew.alloc (.cells (Lib.bytesCells w e s) e)):=((FQ w.1.size w).drew).alloc aT _;refine a.trans ?_;unfold Lib.bytesWorld;refine⟨rfl,rfl,rfl,?_,?_⟩
 .simp [World.freeze]
 simp[World.freeze,Array.getElem?_modify];omega
theorem Jb8(s)(w)(hs:s.size<=200)(v)(h:Lib.parseIntB 64 s.data.toList=.ok v):
 Calls prog 171 #[aE s,G 10,G 64] w fun e w'=>e=aD (.tuple #[G v,.nilIface])/\J w w':=by
 refine(QI s (by omega) v h w).mono ?_;rintro e w' ⟨a,b⟩;refine⟨a,?_⟩;rcases b with rfl|⟨c,rfl⟩
 .simp [FQ]
 simp[Jjx]
theorem Jan(s)(w)(hs:s.size<=19)(hv:Evs w)(h:s.size=0\/(s.data.toList.all dU=true/\9223372036854775807<val s.data.toList)):
 Calls prog 171 #[aE s,G 10,G 64] w fun e w'=>∃v N,e=aD (.tuple #[G v,.iface 300 (aJ N 0)])/\J w w':=by
 obtain⟨_,⟨d,c1,d1⟩,⟨f,b,c⟩⟩:=hv;by_cases a:s.size=0
 .exact VF s a d w c1 d1
 rcases h with h|⟨g,i⟩
 .exact absurd h a
 refine VE s (by omega) ?_ f w b c;rw[Jb7 _ (fun e=>a (by grind[ByteArray.size_data,Array.length_toList])) (by simp;omega) g,FY i]
theorem Je3(s:ByteArray):(s.extract 1 s.size).data.toList=s.data.toList.drop 1:=by
 simp[NJ]
theorem Kf{w1:World}{o:Obj}(hb:Below (w.alloc o).1.size (w.alloc o) w1)(v0 v1 v2 v3 v4):
 J w (((((w1.setCell (U w.1.size 0) v0).setCell (U w.1.size 1) v1).setCell (U w.1.size 2) v2).setCell (U w.1.size 3) v3).setCell (U w.1.size 4) v4):=by
 have a:=((FQ w.1.size w).alloc aT o).trans (hb.mono (by simp));exact((((a.setCell aT _).setCell aT _).setCell aT _).setCell aT _).setCell aT _
theorem Xf(p)(l:List UInt8):l.take (l.takeWhile p).length=l.takeWhile p:=by
 grind[List.prefix_iff_eq_take,List.takeWhile_prefix]
theorem Jd6(p):∀l:List UInt8,(l.takeWhile p).all p=true
 | []=>rfl
 | c::r=>by
  simp
theorem Jjl(s)(w)(d)(h0:0<s.size)(h5:((s[0].toNat:Int)== 95)=false)(hs:s.size<=200)(hdl:((s.data.toList).takeWhile dU).length=d)(hdb:0+d<=s.size)(h19:19<d):
 Calls prog 144 #[aE s] w fun e w'=>e=aD (.tuple #[tokV 0 0 ⟨#[]⟩ 0,.bool false])/\J w w':=by
 have a:Hid (((s.data.toList.takeWhile dU).length:Int)=(d:Int)):=by rw[<-hdl];rfl
 have b:(s.extract 0 d).data.toList.all dU=true:=by
  rw[Zf,<-hdl];simp only[Mi,Nat.sub_zero,Xf];exact Jd6 _ _
 generalize ht:s.extract 0 d=t at b;have:t.size=d:=by rw[<-ht,ZR];omega
 have:(t.size:Int)=(d:Int):=by omega
 go_enter func144,ntmps144;go_wp2_with fail;refine aQ (Ge _ _ (by omega)) ?_;rw[a];go_wp2;refine FR (by simp[results,results144,go_sem];try rfl) rfl ?_;refine⟨rfl,?_⟩;exact belA1
theorem Jng(s)(w)(d)(h0:0<s.size)(h5:((s[0].toNat:Int)== 95)=false)(hs:s.size<=200)(hdl:((s.data.toList).takeWhile dU).length=d)(hdb:0+d<=s.size)(hv:Evs w)(h19:d<=19)(hb:d=0\/9223372036854775807<val (s.extract 0 d).data.toList):
 Calls prog 144 #[aE s] w fun e w'=>e=aD (.tuple #[tokV 0 0 ⟨#[]⟩ 0,.bool false])/\J w w':=by
 have a:Hid (((s.data.toList.takeWhile dU).length:Int)=(d:Int)):=by rw[<-hdl];rfl
 have c:(s.extract 0 d).data.toList.all dU=true:=by
  rw[Zf,<-hdl];simp only[Mi,Nat.sub_zero,Xf];exact Jd6 _ _
 generalize ht:s.extract 0 d=t at c;have:t.size=d:=by rw[<-ht,ZR];omega
 have b:=O ht;rw[ht]at hb;clear ht;have:(t.size:Int)=(d:Int):=by omega
 go_enter func144,ntmps144;go_wp2_with fail;refine aQ (Ge _ _ (by omega)) ?_;rw[a];go_wp2_with fail;rw[b];refine(Jan t _ (by omega) (hv.alloc _) ?_).mono ?_
 .simp_all
 rintro e l ⟨v,h,rfl,f⟩;obtain⟨g,i⟩:=Yy f;go_wp2;refine FR (v:=.tuple #[.agg #[G 0,G 0,G 0,.string ⟨#[]⟩,G 0],.bool false]) (by simp[results,results144,go_sem,g]) rfl ⟨rfl,?_⟩;grind[Kf]
theorem Jso(s)(w)(d)(h0:0<s.size)(h5:((s[0].toNat:Int)== 95)=false)(hs:s.size<=200)(hdl:((s.data.toList).takeWhile dU).length=d)(hdb:0+d<=s.size)(h19:d<=19)(hd1:1<=d)(Vz)(hV:Vz=(val (s.extract 0 d).data.toList:Int))(hb:val (s.extract 0 d).data.toList<=9223372036854775807):
 Calls prog 144 #[aE s] w fun e w'=>e=aD (.tuple #[tokX 0 0 (Vz) (s.extract 0 (d)) 0,.bool true])/\J w w':=by
 have h:Hid (((s.data.toList.takeWhile dU).length:Int)=(d:Int)):=by rw[<-hdl];rfl
 have f:(s.extract 0 d).data.toList.all dU=true:=by
  rw[Zf,<-hdl];simp only[Mi,Nat.sub_zero,Xf];exact Jd6 _ _
 obtain⟨b,a⟩:=nm (s.extract 0 d);rw[a]at f;have k:b.size=d:=by rw[<-a,ZR];omega
 have i:=O a;rw[a]at hb;have c:=Jb7 b.data.toList (fun e=>by grind[ByteArray.size_data,Array.length_toList]) (by simp;omega) f;rw[FU (by omega)]at c;rw[a]at hV;rw[<-hV]at c;have:0<=Vz:=by omega
 have:Vz<=9223372036854775807:=by omega
 clear hb hV a;have:(b.size:Int)=(d:Int):=by omega
 clear k;go_enter func144,ntmps144;go_wp2_with fail;refine aQ (Ge _ _ (by omega)) ?_;rw[h];go_wp2_with fail;rw[i];refine aR (Jb8 b _ (by omega) _ c) fun p g=>?_;obtain⟨j,n⟩:=Yy g;go_wp2_with fail;refine FR (v:=.tuple #[.agg #[G 0,G 0,G (Vz),aE (s.extract 0 (d)),G 0],.bool true]) (by simp[results,results144,go_sem,j]) rfl ⟨rfl,?_⟩;exact Kf g _ _ _ _ _
theorem Jjm(s)(w)(d)(h0:0<s.size)(h5:((s[0].toNat:Int)== 95)=true)(hs:s.size<=200)(hdl:((s.data.toList.drop 1).takeWhile dU).length=d)(hdb:1+d<=s.size)(h19:19<d):
 Calls prog 144 #[aE s] w fun e w'=>e=aD (.tuple #[tokV 0 0 ⟨#[]⟩ 0,.bool false])/\J w w':=by
 have a:Hid ((((s.extract 1 s.size).data.toList.takeWhile dU).length:Int)=(d:Int)):=by rw[<-hdl,Je3 s];rfl
 have b:(s.extract 1 (1+d)).data.toList.all dU=true:=by
  rw[Zf,<-hdl];simp only[JU,Xf];exact Jd6 _ _
 generalize ht:s.extract 1 (1+d)=t at b;have:t.size=d:=by rw[<-ht,ZR];omega
 have:(t.size:Int)=(d:Int):=by omega
 go_enter func144,ntmps144;go_wp2_with fail;refine(Ge _ _ (by first|omega|(rw[ZR];omega))).mono ?_;rintro e w' ⟨rfl,rfl⟩;rw[a];go_wp2_with fail;refine FR (by simp[results,results144,go_sem];try rfl) rfl ?_;refine⟨rfl,?_⟩;exact belA1
theorem Jnh(s)(w)(d)(h0:0<s.size)(h5:((s[0].toNat:Int)== 95)=true)(hs:s.size<=200)(hdl:((s.data.toList.drop 1).takeWhile dU).length=d)(hdb:1+d<=s.size)(hv:Evs w)(h19:d<=19)(hb:d=0\/9223372036854775807<val (s.extract 1 (1+d)).data.toList):
 Calls prog 144 #[aE s] w fun e w'=>e=aD (.tuple #[tokV 0 0 ⟨#[]⟩ 0,.bool false])/\J w w':=by
 have f:Hid ((((s.extract 1 s.size).data.toList.takeWhile dU).length:Int)=(d:Int)):=by rw[<-hdl,Je3 s];rfl
 have a:(s.extract 1 (1+d)).data.toList.all dU=true:=by
  rw[Zf,<-hdl];simp only[JU,Xf];exact Jd6 _ _
 generalize ht:s.extract 1 (1+d)=t at a;have c:t.size=d:=by rw[<-ht,ZR];omega
 rw[ht]at hb;have:(t.size:Int)=(d:Int):=by omega
 go_enter func144,ntmps144;go_wp2_with fail;refine(Ge _ _ (by first|omega|(rw[ZR];omega))).mono ?_;rintro e w' ⟨rfl,rfl⟩;rw[f];go_wp2_with fail;rw[ht];refine(Jan t _ (by rw[c];exact h19) (hv.alloc _) ?_).mono ?_
 .rcases hb with h|h
  .exact NN (by rw[c];exact h)
  exact NO ⟨a,h⟩
 rintro e l ⟨v,i,rfl,b⟩;obtain⟨g,j⟩:=Yy b;go_wp2_with fail;refine FR (v:=.tuple #[.agg #[G 0,G 0,G 0,.string ⟨#[]⟩,G 0],.bool false]) (by simp[results,results144,go_sem,g]) rfl ⟨rfl,?_⟩;exact Kf b _ _ _ _ _
theorem Jsp(s)(w)(d)(h0:0<s.size)(h5:((s[0].toNat:Int)== 95)=true)(hs:s.size<=200)(hdl:((s.data.toList.drop 1).takeWhile dU).length=d)(hdb:1+d<=s.size)(h19:d<=19)(hd1:1<=d)(Vz)(hV:Vz=(val (s.extract 1 (1+d)).data.toList:Int))(hb:val (s.extract 1 (1+d)).data.toList<=9223372036854775807):
 Calls prog 144 #[aE s] w fun e w'=>e=aD (.tuple #[tokX 0 0 (-Vz) (s.extract 0 (1+d)) 0,.bool true])/\J w w':=by
 have g:Hid ((((s.extract 1 s.size).data.toList.takeWhile dU).length:Int)=(d:Int)):=by rw[<-hdl,Je3 s];rfl
 have c:(s.extract 1 (1+d)).data.toList.all dU=true:=by
  rw[Zf,<-hdl];simp only[JU,Xf];exact Jd6 _ _
 clear hdl;generalize ht:s.extract 1 (1+d)=t at c;have a:t.size=d:=by rw[<-ht,ZR];omega
 have h:=a;rw[ht]at hb;have b:=Jb7 t.data.toList (fun e=>by rw[<-PS,<-JX,e]at a;simp at a;omega) (by simp;omega) c;rw[FU (by omega)]at b;rw[ht]at hV;rw[<-hV]at b;have:0<=Vz:=by omega
 have:Vz<=9223372036854775807:=by omega
 clear hb hV;have:(t.size:Int)=(d:Int):=by omega
 clear a;go_enter func144,ntmps144;go_wp2_with fail;refine(Ge _ _ (by first|omega|(rw[ZR];omega))).mono ?_;rintro e w' ⟨rfl,rfl⟩;rw[g];go_wp2_with fail;rw[ht];refine(Jb8 t _ (by rw[h];omega) _ b).mono ?_;rintro e n ⟨rfl,f⟩;obtain⟨i,l⟩:=Yy f;go_wp2_with fail;refine FR (v:=.tuple #[.agg #[G 0,G 0,G (-Vz),aE (s.extract 0 (1+d)),G 0],.bool true]) (by simp[results,results144,go_sem,i]) rfl ⟨rfl,?_⟩;exact Kf f _ _ _ _ _
theorem Jw4(s)(w)(h0:0<s.size)(hs:s.size<=200)(h40:((s[0].toNat:Int)== 40)=true):
 Calls prog 105 #[aE s] w fun e w'=>e=aD (.tuple #[tokV 4 0 (s.extract 0 1) 0,.bool true])/\J w w':=by
 go_enter func105,ntmps105;go_wp2_with (first|(go_at_call 143;refine aQ (Zg _ _) ?_)| (go_at_call 145;refine aQ (Ys _ _) ?_));refine FR (by simp[results,results105,go_sem];try rfl) rfl ?_;refine⟨rfl,?_⟩;exact belA1
theorem Jsm(s)(w)(h0:0<s.size)(hs:s.size<=200)(h40:((s[0].toNat:Int)== 40)=false)(h41:((s[0].toNat:Int)== 41)=true):
 Calls prog 105 #[aE s] w fun e w'=>e=aD (.tuple #[tokV 5 0 (s.extract 0 1) 0,.bool true])/\J w w':=by
 go_enter func105,ntmps105;go_wp2_with (first|(go_at_call 143;refine aQ (Zg _ _) ?_)| (go_at_call 145;refine aQ (Ys _ _) ?_));refine FR (by simp[results,results105,go_sem];try rfl) rfl ?_;refine⟨rfl,?_⟩;exact belA1
theorem Jw5(s)(w)(h0:0<s.size)(h40:((s[0].toNat:Int)== 40)=false)(h41:((s[0].toNat:Int)== 41)=false)(h95:((s[0].toNat:Int)== 95)=false)(hd:digB (s[0].toNat:Int)=false)(hl:letB (s[0].toNat:Int)=false)(hg:gU s[0]=false):
 Calls prog 105 #[aE s] w fun e w'=>e=aD (.tuple #[tokV 0 0 (⟨#[]⟩) 0,.bool false])/\J w w':=by
 go_enter func105,ntmps105;go_wp2_with (first|(go_at_call 143;refine aQ (Zg _ _) ?_)| (go_at_call 145;refine aQ (Ys _ _) ?_)| (go_at_call 147;refine aQ (Jwh _ _ hg) ?_));refine FR (by simp[results,results105,go_sem];try rfl) rfl ?_;refine⟨rfl,?_⟩;exact belA1
theorem Jsk(s)(w)(h0:0<s.size)(k r x)(t)(b)(hk:∀W,Evs W->Calls prog 144 #[aE s] W fun e w'=>e=aD (.tuple #[tokX k r x t 0,.bool b])/\J W w')(hv:Evs w)(h40:((s[0].toNat:Int)== 40)=false)(h41:((s[0].toNat:Int)== 41)=false)(h95:((s[0].toNat:Int)== 95)=true):
 Calls prog 105 #[aE s] w fun e w'=>e=aD (.tuple #[tokX k r x t 0,.bool (b)])/\J w w':=by
 have d:∀a,Calls prog 144 #[aE s] (w.alloc a) fun e w'=>e=aD (.tuple #[tokX k r x t 0,.bool b])/\Below (w.alloc a).1.size (w.alloc a) w':=fun a=>hk _ (hv.alloc a);go_enter func105,ntmps105;go_wp2_with (first|(go_at_call 143;refine aQ (Zg _ _) ?_)| (go_at_call 145;refine aQ (Ys _ _) ?_));refine aR (d _) fun h c=>?_;unfold tokX;obtain⟨f,g⟩:=Yy c;go_wp2_with fail;refine FR (v:=.tuple #[.agg #[G (k),G (r),G x,aE (t),G 0],.bool (b)]) (by simp[results,results105,go_sem,f]) rfl ⟨rfl,?_⟩;exact Kf c _ _ _ _ _
theorem Jsl(s)(w)(h0:0<s.size)(k r x)(t)(b)(hk:∀W,Evs W->Calls prog 144 #[aE s] W fun e w'=>e=aD (.tuple #[tokX k r x t 0,.bool b])/\J W w')(hv:Evs w)(h40:((s[0].toNat:Int)== 40)=false)(h41:((s[0].toNat:Int)== 41)=false)(h95:((s[0].toNat:Int)== 95)=false)(hd:digB (s[0].toNat:Int)=true):
 Calls prog 105 #[aE s] w fun e w'=>e=aD (.tuple #[tokX k r x t 0,.bool (b)])/\J w w':=by
 have d:∀a,Calls prog 144 #[aE s] (w.alloc a) fun e w'=>e=aD (.tuple #[tokX k r x t 0,.bool b])/\Below (w.alloc a).1.size (w.alloc a) w':=fun a=>hk _ (hv.alloc a);go_enter func105,ntmps105;go_wp2_with (first|(go_at_call 143;refine aQ (Zg _ _) ?_)| (go_at_call 145;refine aQ (Ys _ _) ?_));refine aR (d _) fun h c=>?_;unfold tokX;obtain⟨f,g⟩:=Yy c;go_wp2_with fail;refine FR (v:=.tuple #[.agg #[G (k),G (r),G x,aE (t),G 0],.bool (b)]) (by simp[results,results105,go_sem,f]) rfl ⟨rfl,?_⟩;exact Kf c _ _ _ _ _
theorem Jw2(s)(w)(h0:0<s.size)(k r)(t)(b)(hk:∀W,Evs W->Calls prog 146 #[aE s] W fun e w'=>e=aD (.tuple #[tokV k r t 0,.bool b])/\J W w')(hv:Evs w)(h40:((s[0].toNat:Int)== 40)=false)(h41:((s[0].toNat:Int)== 41)=false)(h95:((s[0].toNat:Int)== 95)=false)(hd:digB (s[0].toNat:Int)=false)(hl:letB (s[0].toNat:Int)=true):
 Calls prog 105 #[aE s] w fun e w'=>e=aD (.tuple #[tokV (k) (r) (t) 0,.bool (b)])/\J w w':=by
 have d:∀a,Calls prog 146 #[aE s] (w.alloc a) fun e w'=>e=aD (.tuple #[tokV k r t 0,.bool b])/\Below (w.alloc a).1.size (w.alloc a) w':=fun a=>hk _ (hv.alloc a);go_enter func105,ntmps105;go_wp2_with (first|(go_at_call 143;refine aQ (Zg _ _) ?_)| (go_at_call 145;refine aQ (Ys _ _) ?_));refine aR (d _) fun h c=>?_;unfold tokV;obtain⟨f,g⟩:=Yy c;go_wp2_with fail;refine FR (v:=.tuple #[.agg #[G (k),G (r),G 0,aE (t),G 0],.bool (b)]) (by simp[results,results105,go_sem,f]) rfl ⟨rfl,?_⟩;exact Kf c _ _ _ _ _
theorem Jw3(s)(w)(h0:0<s.size)(k r)(t)(hk:∀W,Evs W->Calls prog 148 #[aE s] W fun e w'=>e=aD (tokV k r t 0)/\J W w')(hv:Evs w)(h40:((s[0].toNat:Int)== 40)=false)(h41:((s[0].toNat:Int)== 41)=false)(h95:((s[0].toNat:Int)== 95)=false)(hd:digB (s[0].toNat:Int)=false)(hl:letB (s[0].toNat:Int)=false)(hg:gU s[0]=true):
 Calls prog 105 #[aE s] w fun e w'=>e=aD (.tuple #[tokV (k) (r) (t) 0,.bool (true)])/\J w w':=by
 have c:∀a,Calls prog 148 #[aE s] (w.alloc a) fun e w'=>e=aD (tokV k r t 0)/\Below (w.alloc a).1.size (w.alloc a) w':=fun a=>hk _ (hv.alloc a);have:=hv;go_enter func105,ntmps105;go_wp2_with (first|(go_at_call 143;refine aQ (Zg _ _) ?_)| (go_at_call 145;refine aQ (Ys _ _) ?_)| (go_at_call 147;refine(Jro _ _ hg).mono ?_;rintro e i ⟨v,hv,rfl,rfl⟩));refine aR (c _) fun h b=>?_;unfold tokV;obtain⟨d,g⟩:=Yy b;go_wp2_with fail;refine FR (v:=.tuple #[.agg #[G (k),G (r),G 0,aE (t),G 0],.bool (true)]) (by simp[results,results105,go_sem,d]) rfl ⟨rfl,?_⟩;exact Kf b _ _ _ _ _
def rch(s:ByteArray)(a:Nat):Int:=match tl (s.data.toList.drop a)with
 | none=>-1
 | some n=>((a+n:Nat):Int)
theorem Jdl(s)(a)(h:a<s.size):rch s a=match tl (s[a]::s.data.toList.drop (a+1))with
 | none=>-1
 | some n=>((a+n:Nat):Int):=by
 simp_all[rch,Z5]
def nrch(s:ByteArray)(f:Nat):Int:=match numE 0 (s.data.toList.drop f)with
 | none=>-1
 | some n=>((f+n:Nat):Int)
theorem Jzp(s)(a)(h:a<s.size)(hd:digB (s[a].toNat:Int)=true):rch s a=nrch s a:=by
 simp_all[Jdl,nrch,Z5,dU,tl]
theorem J29(l):numE 1 l=(numE 0 l).map (·+1):=by
 grind[numE]
theorem Jzo(s)(a)(h:a<s.size)(hd:digB (s[a].toNat:Int)=false)(h9:(s[a].toNat:Int)=95):rch s a=nrch s (a+1):=by
 rw[Jdl s a h,nrch];have b:dU s[a]=false:=hd;have c:(s[a]== 95)=true:=by
  rw[NQ];exact Mt.1 (by simp;omega)
 simp only[tl,b,c,NX,NP];grind[numE]
theorem Jgt(s)(f j)(ha:((s.data.toList.drop f).take j).all dU=true)(hj:j<=(s.data.toList.drop f).length)(hl:19<j):nrch s f=-1:=by
 have:=Jn5 ha hj;simp only[nrch,numE];grind
theorem Jku(s)(f j)(hj:j<=(s.data.toList.drop f).length)(hl:j<=19)(ha:((s.data.toList.drop f).take j).all dU=true)(hs:∀c,(s.data.toList.drop f)[j]?=some c->dU c=false):
 nrch s f=if j=0\/9223372036854775807<val ((s.data.toList.drop f).take j)then -1 else((f+j:Nat):Int):=by
 have e:=Jbr ha hs;have a:((s.data.toList.drop f).take j).length=j:=by rw[YD];omega
 simp only[nrch,numE,e,a];grind
theorem Jxy(j)(h:j<19):10 ^ j<=1000000000000000000:=by
 have:10 ^ j<=10 ^ 18:=Mb (by decide) (by omega);omega
theorem J19{N:Nat}{c:UInt8}(hN:val (l.take j)=N)(hc:l[j]?=some c)(hd:digB (c.toNat:Int)=true)(hv:N<1000000000000000000):
 Value.int .u64 (IntKind.u64.wrap (IntKind.u64.wrap (10*(N:Int))+((c.toNat:Int)-48) % 256))=Value.int .u64 ((val (l.take (j+1)):Nat):Int):=by
 rw[Joh hc,Jj5,hN];grind[digB,IntWalk.u64_in]
theorem X7(s)(f j N:Nat)(x y:Int)(hj:f+j<=s.size)(hl:j<=19)(ha:((s.data.toList.drop f).take j).all dU=true)(hs:∀c,(s.data.toList.drop f)[j]?=some c->dU c=false)
 (hN:val ((s.data.toList.drop f).take j)=N) (hx:x=(f:Int)+j) (hy:y=f) (h:(x == y)=true\/9223372036854775807<(N:Int)):nrch s f=-1:=by
 rw[Jku s f j (by simp;omega) hl ha hs,hN,FY];grind
theorem Jev(s)(f j N:Nat)(x y:Int)(hj:f+j<=s.size)(hl:j<=19)(ha:((s.data.toList.drop f).take j).all dU=true)(hs:∀c,(s.data.toList.drop f)[j]?=some c->dU c=false)
 (hN:val ((s.data.toList.drop f).take j)=N) (hx:x=(f:Int)+j) (hy:y=f) (h:(x == y)=false/\(N:Int)<=9223372036854775807):nrch s f=x:=by
 rw[Jku s f j (by simp;omega) hl ha hs,hN,FU]
 .omega
 grind
theorem Nl{d:UInt8}(hat:l[j]?=some d)(h:p d=false):∀c,l[j]?=some c->p c=false:=by
 simp_all
theorem Xy(hat:l[j]?=none):∀c,l[j]?=some c->p c=false:=by
 simp_all
theorem Jpt(s)(a:Nat)(w:World)(hs:s.size<=200)(h:a<s.size)(hd:digB (s[a].toNat:Int)=true):
 Calls prog 113 #[aE s,G a] w fun e w'=>e=aD (G (nrch s (a)))/\w'=w:=by
 go_enter func113,ntmps113;go_wp2_with fail;refine aQ (J4 _ _) ?_;go_wp2_with fail;refine aQ (Yh _ _) ?_;go_wp2_with fail;refine aQ (Y5 _ _) ?_;go_wp2_with fail;go_loop [6,11] (fun k b=>∃j:Nat,j<=19/\a+j<=s.size/\k=G ((a:Int)+(j:Int))/\b=.int .u64 (val ((s.data.toList.drop (a)).take j))/\((s.data.toList.drop (a)).take j).all dU=true) (fun k _=>s.size-(intOf k).toNat)
 .grind [val]
 obtain⟨j,f,d,rfl,rfl,c⟩:=hrel;have m:=Jd9 s (a) j d;have g:=Jn1 j _ m c;generalize hN:val ((s.data.toList.drop (a)).take j)=N at g⊢;by_cases hlt:a+j<s.size
 .have b:=Jai s (a) j hlt;cases hdg:digB ((s[a+j]'hlt).toNat:Int)
  .go_wp2_with (go_at_call 160;refine aQ (J4 _ _) ?_)
   all_goals go_ret
   .grind
   .exact ⟨Jm (X7 s (a) j N ((a:Int)+(j:Int)) ((a:Int)) d f c (Nl b hdg) hN (by omega) (by omega) (by assumption)).symm,rfl⟩
   exact⟨Jm (Jev s (a) j N ((a:Int)+(j:Int)) ((a:Int)) d f c (Nl b hdg) hN (by omega) (by omega) (by assumption)).symm,rfl⟩
  by_cases l:j<19
  .have n:=Jxy j l;have i:N<1000000000000000000:=by omega
   clear g n;change Hid _ at i;go_wp2_with (go_at_call 160;refine aQ (J4 _ _) ?_);go_round
   .exact ⟨j+1,by omega,by omega,by go_num,J19 hN b hdg i,Q8 b c hdg⟩
   simp[intOf];omega
  clear g;go_wp2_with (go_at_call 160;refine aQ (J4 _ _) ?_);go_ret;exact⟨Jm (Jgt s (a) (j+1) (Q8 b c hdg) (by simp;omega) (by omega)).symm,rfl⟩
 have b:=Xt s (a) j (by omega);by_cases i:j=0
 .omega
 go_wp2_with (go_at_call 160;refine aQ (J4 _ _) ?_)
 all_goals go_ret
 .exact ⟨Jm (X7 s (a) j N ((a:Int)+(j:Int)) ((a:Int)) d f c (Xy b) hN (by omega) (by omega) (by assumption)).symm,rfl⟩
 exact⟨Jm (Jev s (a) j N ((a:Int)+(j:Int)) ((a:Int)) d f c (Xy b) hN (by omega) (by omega) (by assumption)).symm,rfl⟩
theorem Jps(s)(a:Nat)(w:World)(hs:s.size<=200)(h:a<s.size)(hd:digB (s[a].toNat:Int)=false)(h9:(s[a].toNat:Int)=95):
 Calls prog 113 #[aE s,G a] w fun e w'=>e=aD (G (nrch s (a+1)))/\w'=w:=by
 go_enter func113,ntmps113;go_wp2_with fail;refine aQ (J4 _ _) ?_;go_wp2_with fail;refine aQ (Yh _ _) ?_;go_wp2_with fail;refine aQ (Y5 _ _) ?_;go_wp2_with fail;go_loop [6,11] (fun k b=>∃j:Nat,j<=19/\a+1+j<=s.size/\k=G ((a:Int)+1+(j:Int))/\b=.int .u64 (val ((s.data.toList.drop (a+1)).take j))/\((s.data.toList.drop (a+1)).take j).all dU=true) (fun k _=>s.size-(intOf k).toNat)
 .grind [val]
 obtain⟨j,f,d,rfl,rfl,c⟩:=hrel;have m:=Jd9 s (a+1) j d;have g:=Jn1 j _ m c;generalize hN:val ((s.data.toList.drop (a+1)).take j)=N at g⊢;by_cases hlt:a+1+j<s.size
 .have b:=Jai s (a+1) j hlt;cases hdg:digB ((s[a+1+j]'hlt).toNat:Int)
  .go_wp2_with (go_at_call 160;refine aQ (J4 _ _) ?_)
   all_goals go_ret
   .exact ⟨Jm (X7 s (a+1) j N ((a:Int)+1+(j:Int)) ((a:Int)+1) d f c (Nl b hdg) hN (by omega) (by omega) (NN (by simp;omega))).symm,rfl⟩
   .exact ⟨Jm (X7 s (a+1) j N ((a:Int)+1+(j:Int)) ((a:Int)+1) d f c (Nl b hdg) hN (by omega) (by omega) (by assumption)).symm,rfl⟩
   exact⟨Jm (Jev s (a+1) j N ((a:Int)+1+(j:Int)) ((a:Int)+1) d f c (Nl b hdg) hN (by omega) (by omega) (by assumption)).symm,rfl⟩
  by_cases l:j<19
  .have n:=Jxy j l;have i:N<1000000000000000000:=by omega
   clear g n;change Hid _ at i;go_wp2_with (go_at_call 160;refine aQ (J4 _ _) ?_);go_round
   .exact ⟨j+1,by omega,by omega,by go_num,J19 hN b hdg i,Q8 b c hdg⟩
   simp[intOf];omega
  clear g;go_wp2_with (go_at_call 160;refine aQ (J4 _ _) ?_);go_ret;exact⟨Jm (Jgt s (a+1) (j+1) (Q8 b c hdg) (by simp;omega) (by omega)).symm,rfl⟩
 have b:=Xt s (a+1) j (by omega);by_cases i:j=0
 .subst i;go_wp2_with (go_at_call 160;refine aQ (J4 _ _) ?_);go_ret;exact⟨Jm (X7 s (a+1) 0 N ((a:Int)+1+((0:Nat):Int)) ((a:Int)+1) d f c (Xy b) hN (by omega) (by omega) (NN (by simp))).symm,rfl⟩
 go_wp2_with (go_at_call 160;refine aQ (J4 _ _) ?_)
 all_goals go_ret
 .exact ⟨Jm (X7 s (a+1) j N ((a:Int)+1+(j:Int)) ((a:Int)+1) d f c (Xy b) hN (by omega) (by omega) (by assumption)).symm,rfl⟩
 exact⟨Jm (Jev s (a+1) j N ((a:Int)+1+(j:Int)) ((a:Int)+1) d f c (Xy b) hN (by omega) (by omega) (by assumption)).symm,rfl⟩
theorem K8(c)(n:Nat)(h:n<256):((c.toNat:Int)== (n:Int))=(c == UInt8.ofNat n):=by
 rw[PO];simp only[NQ];grind[UInt8.toNat_inj,UInt8.toNat_ofNat_of_lt']
theorem Jxx(s)(a)(h:a<s.size)(hd:digB (s[a].toNat:Int)=false)(h9:((s[a].toNat:Int)== 95)=false)(hl:letB (s[a].toNat:Int)=false)(hb:((s[a].toNat:Int)== 40)=true\/((s[a].toNat:Int)== 41)=true):
 rch s a=(a:Int)+1:=by
 have b:dU s[a]=false:=hd;have d:lU s[a]=false:=hl;have c:(s[a]== 95)=false:=(K8 s[a] 95 (by decide)).symm.trans h9;have e:(s[a]== 40 || s[a]== 41)=true:=by
  rcases hb with hb|hb
  .rw [show(s[a]== 40)=true from(K8 s[a] 40 (by decide)).symm.trans hb];rfl
  rw[show(s[a]== 41)=true from(K8 s[a] 41 (by decide)).symm.trans hb];simp
 rw[Jdl s a h];simp only[tl,b,c,d,e,NX,NP];rfl
theorem J1z(s)(a)(h:a<s.size)(hd:digB (s[a].toNat:Int)=false)(h9:((s[a].toNat:Int)== 95)=false)(hl:letB (s[a].toNat:Int)=false)(hb:((s[a].toNat:Int)== 40)=false)(hc:((s[a].toNat:Int)== 41)=false)
 (hg:sgnB (s[a].toNat:Int)=true):
 rch s a=(a:Int)+sgnE (s.data.toList.drop (a+1)):=by
 have b:dU s[a]=false:=hd;have d:lU s[a]=false:=hl;have c:(s[a]== 95)=false:=(K8 s[a] 95 (by decide)).symm.trans h9;have e:(s[a]== 40 || s[a]== 41)=false:=by
  rw[show(s[a]== 40)=false from(K8 s[a] 40 (by decide)).symm.trans hb,show(s[a]== 41)=false from(K8 s[a] 41 (by decide)).symm.trans hc];rfl
 have f:gU s[a]=true:=hg;rw[Jdl s a h];simp only[tl,b,c,d,e,f,NX,NP];simp
theorem J10(s)(a)(h:a<s.size)(hd:digB (s[a].toNat:Int)=false)(h9:((s[a].toNat:Int)== 95)=false)(hl:letB (s[a].toNat:Int)=false)(hb:((s[a].toNat:Int)== 40)=false)(hc:((s[a].toNat:Int)== 41)=false)
 (hg:sgnB (s[a].toNat:Int)=false):rch s a=-1:=by
 have b:dU s[a]=false:=hd;have d:lU s[a]=false:=hl;have c:(s[a]== 95)=false:=(K8 s[a] 95 (by decide)).symm.trans h9;have e:(s[a]== 40 || s[a]== 41)=false:=by
  rw[show(s[a]== 40)=false from(K8 s[a] 40 (by decide)).symm.trans hb,show(s[a]== 41)=false from(K8 s[a] 41 (by decide)).symm.trans hc];rfl
 have f:gU s[a]=false:=hg;rw[Jdl s a h];simp only[tl,b,c,d,e,f,NP]
theorem Jt9(s:ByteArray)(b)(h:s.size<=b):sgnE (s.data.toList.drop b)=1:=by
 rw[YP (by simpa using h)];rfl
theorem Jed(s:ByteArray)(b)(h:b<s.size)(ht:((s[b].toNat:Int)== 47)=true\/((s[b].toNat:Int)== 92)=true\/((s[b].toNat:Int)== 46)=true):sgnE (s.data.toList.drop b)=2:=by
 rw[Z5 s b h];have:Gt s[b]=true:=by
  unfold Gt;rcases ht with ht|ht|ht
  .rw [show(s[b]== 47)=true from(K8 s[b] 47 (by decide)).symm.trans ht];rfl
  .rw [show(s[b]== 92)=true from(K8 s[b] 92 (by decide)).symm.trans ht];simp
  rw[show(s[b]== 46)=true from(K8 s[b] 46 (by decide)).symm.trans ht];simp
 simp[sgnE];omega
theorem Jt7(s:ByteArray)(b)(h:b<s.size)(h1:((s[b].toNat:Int)== 47)=false)(h2:((s[b].toNat:Int)== 92)=false)(h3:((s[b].toNat:Int)== 46)=false):sgnE (s.data.toList.drop b)=1:=by
 rw[Z5 s b h];have:Gt s[b]=false:=by
  unfold Gt;rw[show(s[b]== 47)=false from(K8 s[b] 47 (by decide)).symm.trans h1,show(s[b]== 92)=false from(K8 s[b] 92 (by decide)).symm.trans h2,show(s[b]== 46)=false from(K8 s[b] 46 (by decide)).symm.trans h3];rfl
 simp[sgnE];omega
def Ya(t:ByteArray):Int :=
 bif hd t == 40 then 4 else bif hd t == 41 then 5 else bif hd t == 95 || digB (hd t)then 0 else bif letB (hd t)then Q9 t else 3
def Zt(t:ByteArray):Int :=
 bif hd t == 40 then 0 else bif hd t == 41 then 0 else bif hd t == 95 || digB (hd t)then 0 else bif letB (hd t)then Zb t else Jat t
def Yq(t:ByteArray):Int :=
 bif hd t == 95 then -(val (t.data.toList.drop 1):Int)else bif digB (hd t)then(val t.data.toList:Int)else 0
def CutR(s:ByteArray)(e:Ending):Prop:=match tl s.data.toList with
 | some n=>e=.returned (.tuple #[tokX (Ya (s.extract 0 n)) (Zt (s.extract 0 n)) (Yq (s.extract 0 n)) (s.extract 0 n) 0,.bool true])
 | none=>∃k r t,e=.returned (.tuple #[tokV k r t 0,.bool false])
theorem Vs{n:Nat}(h:tl s.data.toList=some n)(he:e=aD (.tuple #[tokX (Ya (s.extract 0 n)) (Zt (s.extract 0 n)) (Yq (s.extract 0 n)) (s.extract 0 n) 0,.bool true])):CutR s e:=by
 simp_all[CutR]
theorem F2(h:tl s.data.toList=none){k r:Int}{t:ByteArray}(he:e=aD (.tuple #[tokV k r t 0,.bool false])):CutR s e:=by
 grind[CutR]
theorem J2e(s)(n)(h:0<s.size)(hn:0<n):hd (s.extract 0 n)=hd s:=by
 unfold hd;rw[Zf];obtain⟨⟨l⟩⟩:=s;match l,n,h,hn with
 | c::l,n+1,_,_=>simp
theorem Vp(s:ByteArray)(h:0<s.size):s.data.toList=s[0]::s.data.toList.drop 1:=by
 have:=Z5 s 0 h;grind
theorem Jz6(c)(h:(c == 95)=true):digB c=false:=by
 have:=NQ.1 h;subst this;decide
theorem J1f(s:ByteArray)(h0:0<s.size)(h:((s[0].toNat:Int)== 95)=true):tl s.data.toList=numE 1 (s.data.toList.drop 1):=by
 have:dU s[0]=false:=Jz6 _ h;have:(s[0]== 95)=true:=(K8 s[0] 95 (by decide)).symm.trans h;rw[Vp s h0];simp_all[tl]
theorem J1g(s:ByteArray)(h0:0<s.size)(h:digB (s[0].toNat:Int)=true):tl s.data.toList=numE 0 s.data.toList:=by
 have:dU s[0]=true:=h;rw[Vp s h0];simp_all[tl]
theorem Jyv(s:ByteArray)(h0:0<s.size)(h95:((s[0].toNat:Int)== 95)=false)(hd:digB (s[0].toNat:Int)=false)(hl:letB (s[0].toNat:Int)=true):tl s.data.toList=wrdE s.data.toList:=by
 have a:dU s[0]=false:=hd;have b:(s[0]== 95)=false:=(K8 s[0] 95 (by decide)).symm.trans h95;have c:lU s[0]=true:=hl;rw[Vp s h0];simp only[tl,a,b,c,NX,NP]
theorem Jxb(c)(h:((c.toNat:Int)== 40)=true\/((c.toNat:Int)== 41)=true):dU c=false/\(c == 95)=false/\lU c=false/\(c == 40 || c == 41)=true:=by
 have e:c=40\/c=41:=by
  rcases h with h|h
  .exact NN (NQ.1 ((K8 c 40 (by decide)).symm.trans h))
  exact NO (NQ.1 ((K8 c 41 (by decide)).symm.trans h))
 rcases e with rfl|rfl<;>decide
theorem J1h(s:ByteArray)(h0:0<s.size)(h:((s[0].toNat:Int)== 40)=true\/((s[0].toNat:Int)== 41)=true):tl s.data.toList=some 1:=by
 obtain⟨a,b,c,d⟩:=Jxb _ h;rw[Vp s h0];simp only[tl,a,b,c,d,NX,NP]
theorem Jyx(s:ByteArray)(h0:0<s.size)(h40:((s[0].toNat:Int)== 40)=false)(h41:((s[0].toNat:Int)== 41)=false)(h95:((s[0].toNat:Int)== 95)=false)(hd:digB (s[0].toNat:Int)=false)(hl:letB (s[0].toNat:Int)=false):
 tl s.data.toList=bif gU s[0]then some (sgnE (s.data.toList.drop 1))else none:=by
 have a:dU s[0]=false:=hd;have b:(s[0]== 95)=false:=(K8 s[0] 95 (by decide)).symm.trans h95;have c:lU s[0]=false:=hl;have d:(s[0]== 40 || s[0]== 41)=false:=by
  rw[show(s[0]== 40)=false from(K8 s[0] 40 (by decide)).symm.trans h40,show(s[0]== 41)=false from(K8 s[0] 41 (by decide)).symm.trans h41];rfl
 rw[Vp s h0];simp only[tl,a,b,c,d,NP,List.drop_succ_cons,Mi]
theorem Vx(p)(k x:Int)(hk:k≠0):((bif p then k else x) != 0)=(p || x != 0):=by
 grind
theorem Jcx(x)(L)(t):amid (x::L) t=(t.toList == x.toList || amid L t):=by
 simp[amid,Bool.beq_comm]
theorem Jfg(t):amid [] t=false:=rfl
theorem N4(t):amid fnL t=(Zb t != 0):=by
 unfold fnL Zb;rw[Vx _ 1 _ (by decide),Vx _ 1 _ (by decide),Vx _ 1 _ (by decide),Vx _ 1 _ (by decide),Vx _ 1 _ (by decide),Vx _ 3 _ (by decide),Vx _ 3 _ (by decide),
  Vx _ 2 _ (by decide),Vx _ 2 _ (by decide),Vx _ 2 _ (by decide),Vx _ 2 _ (by decide),Vx _ 2 _ (by decide),Vx _ 2 _ (by decide)]
 simp only[Jcx,Jfg,PT];grind
theorem Jwi(s:ByteArray)(n):isFn (s.data.toList.take n)=amid fnL (s.extract 0 n):=by
 grind[isFn,Jd5,Zf]
theorem hd0(s:ByteArray)(h0:0<s.size)(n)(hn:0<n):hd (s.extract 0 n)=(s[0].toNat:Int):=by
 simp_all[J2e,Jru]
theorem Jkt(hd:(l.takeWhile dU).length=d)(h:19<d\/d=0\/9223372036854775807<val (l.take d)):numE k l=none:=by
 subst hd;simp_all[Xf,numE]
theorem Jks(hd:(l.takeWhile dU).length=d)(h1:d<=19)(h2:1<=d)(h3:val (l.take d)<=9223372036854775807):numE k l=some (k+d):=by
 subst hd;rw[Xf]at h3;simp only[numE];grind
theorem Jto(p)(l:List UInt8):(l.takeWhile p).length<=l.length:=(Hu (l:=l) p).length_le
theorem Jsn(s)(w)(h0:0<s.size)(hs:s.size<=200)(hv:Evs w):
 Calls prog 105 #[aE s] w fun e w'=>CutR s e/\J w w':=by
 cases h40:((s[0].toNat:Int)== 40);rotate_left
 .refine aR (Jw4 s w h0 hs h40) fun w' c=>?_;simp_all[Vs,J1h,Ya,Zt,Yq,tokX,tokV,hd0,digB]
 cases h41:((s[0].toNat:Int)== 41);rotate_left
 .refine aR (Jsm s w h0 hs h40 h41) fun w' c=>?_;simp_all[Vs,J1h,Ya,Zt,Yq,tokX,tokV,hd0,digB]
 cases h95:((s[0].toNat:Int)== 95);rotate_left
 .obtain ⟨d,hd⟩:=nm (((s.data.toList.drop 1).takeWhile dU).length);have a:1+d<=s.size:=by have:=Jto dU (s.data.toList.drop 1);rw[Fu]at this;omega
  have i:(s.extract 1 (1+d)).data.toList=(s.data.toList.drop 1).take d:=by rw[Zf];simp
  have b:=J1f s h0 h95;by_cases h:19<d\/d=0\/9223372036854775807<val ((s.data.toList.drop 1).take d)
  .rw [Jkt hd h]at b;refine(Jsk s w h0 0 0 0 ⟨#[]⟩ false ?_ hv h40 h41 h95).mono ?_
   .intro c g;by_cases f:19<d
    .exact Jjm s c d h0 h95 hs hd a f
    exact Jnh s c d h0 h95 hs hd a g (by omega) (by simp_all)
   rintro e w' ⟨rfl,c⟩;exact⟨F2 b rfl,c⟩
  rw[Jks hd (by omega) (by omega) (by omega)]at b;refine(Jsk s w h0 0 0 (-(val (s.extract 1 (1+d)).data.toList:Int)) (s.extract 0 (1+d)) true ?_ hv h40 h41 h95).mono ?_
  .intro c _;exact Jsp s c d h0 h95 hs hd a (by omega) (by omega) _ rfl (by simp_all)
  rintro e w' ⟨rfl,c⟩;refine⟨Vs b ?_,c⟩;have f:(s.extract 0 (1+d)).data.toList.drop 1=(s.extract 1 (1+d)).data.toList:=by
   rw[Zf,Zf];simp[List.drop_take]
  simp only[Ya,Zt,Yq,tokX,f,hd0 s h0 (1+d) (by omega),h40,h41,h95,NX,NP,Bool.true_or]
 cases hdg:digB (s[0].toNat:Int);rotate_left
 .obtain ⟨d,hd⟩:=nm ((s.data.toList.takeWhile dU).length);have a:0+d<=s.size:=by have:=Jto dU s.data.toList;simp at this;omega
  have i:(s.extract 0 d).data.toList=s.data.toList.take d:=by rw[Zf];simp
  have b:=J1g s h0 hdg;by_cases h:19<d\/d=0\/9223372036854775807<val (s.data.toList.take d)
  .rw [Jkt hd h]at b;refine(Jsl s w h0 0 0 0 ⟨#[]⟩ false ?_ hv h40 h41 h95 hdg).mono ?_
   .intro c g;by_cases f:19<d
    .exact Jjl s c d h0 h95 hs hd a f
    exact Jng s c d h0 h95 hs hd a g (by omega) (by simp;omega)
   rintro e w' ⟨rfl,c⟩;exact⟨F2 b rfl,c⟩
  rw[Jks hd (by omega) (by omega) (by omega)]at b;rw[ZY]at b;refine(Jsl s w h0 0 0 (val (s.extract 0 d).data.toList:Int) (s.extract 0 d) true ?_ hv h40 h41 h95 hdg).mono ?_
  .intro c _;exact Jso s c d h0 h95 hs hd a (by omega) (by omega) _ rfl (by simp;omega)
  rintro e w' ⟨rfl,c⟩;refine⟨Vs b ?_,c⟩;simp only[Ya,Zt,Yq,tokX,hd0 s h0 d (by omega),h40,h41,h95,hdg,NX,NP,Bool.or_true]
 cases hl:letB (s[0].toNat:Int);rotate_left
 .obtain ⟨a,f⟩:=nm (wlen s);have j:a<=s.size:=by have:=Jnv s;omega
  have g:1<=a:=by
   rw[<-f];unfold wlen;rw[Vp s h0,List.takeWhile,show lU s[0]=true from hl];simp
  have b:=Jyv s h0 h95 hdg hl;have i:=F0 s a j;have l:wrdE s.data.toList=if 4<a/\(Zb (s.extract 0 a) != 0)=false then none else some a:=by
   simp only[wrdE];have c:(s.data.toList.takeWhile lU).length=a:=f;rw[c,Jwi,N4]
  rw[l]at b;refine(Jw2 s w h0 (Q9 (s.extract 0 a)) (Zb (s.extract 0 a)) (s.extract 0 a) (wOk (s.extract 0 a)) ?_ hv h40 h41 h95 hdg hl).mono ?_
  .intro c _;exact Jjj s c hs a f.symm
  rintro e w' ⟨rfl,c⟩;refine⟨?_,c⟩;by_cases h:4<a/\(Zb (s.extract 0 a) != 0)=false
  .rw [FY h]at b;refine F2 b (k:=Q9 (s.extract 0 a)) (r:=Zb (s.extract 0 a)) (t:=s.extract 0 a) ?_;have m:((s.extract 0 a).toList == [105,115])=false:=by
    rw[NT];intro e;have:(s.extract 0 a).toList.length=a:=by rw[YC];simpa using i
    rw[e]at this;simp at this;omega
   grind[wOk]
  rw[FU h]at b;refine Vs b ?_;have:wOk (s.extract 0 a)=true:=by
   unfold wOk;rw[i];by_cases m:4<a
   .simp_all
   simp;omega
  rw[this];simp only[Ya,Zt,Yq,tokX,tokV,hd0 s h0 a g,h40,h41,h95,hdg,hl,NX,NP,Bool.or_false]
 have b:=Jyx s h0 h40 h41 h95 hdg hl;cases hg:gU s[0]
 .rw [hg,NP]at b;refine aR (Jw5 s w h0 h40 h41 h95 hdg hl hg) fun w' c=>?_;exact⟨F2 b rfl,c⟩
 rw[hg,NX]at b;generalize f:sgnE (s.data.toList.drop 1)=a at b;have g:0<a:=by
  rw[<-f];unfold sgnE;split
  .decide
  grind
 refine(Jw3 s w h0 3 (Jat (s.extract 0 a)) (s.extract 0 a) ?_ hv h40 h41 h95 hdg hl hg).mono ?_
 .intro c _;exact Jjk s c h0 hs a f.symm
 rintro e w' ⟨rfl,c⟩;refine⟨Vs b ?_,c⟩;simp only[Ya,Zt,Yq,tokX,tokV,hd0 s h0 a g,h40,h41,h95,hdg,hl,NP,Bool.or_false]
end Go.Proofs.YtjobgpahajhbnaaGreatDoor
