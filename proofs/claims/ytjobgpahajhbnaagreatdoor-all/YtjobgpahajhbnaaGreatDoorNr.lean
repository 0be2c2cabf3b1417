import Derived.Test.YtjobgpahajhbnaaGreatDoorXq
import Derived.Test.YtjobgpahajhbnaaGreatDoorNj
namespace Go.Proofs.YtjobgpahajhbnaaGreatDoor
open Go.ChangeShapes Go.WideShapes Go.ChangeAt Go.WideMaps Go.WideElems Go.RowKit
set_option linter.all false
set_option maxRecDepth 100000
variable {H:Type} {Pl:List MemPlace} {W:World} {held:Bool} {n:Nat} {sp:Nat->Bool}
theorem FM:Tryz.prog.cellsOf 9=1:=by kernel_rfl
theorem FN:Tryz.prog.cellsOf 54=1:=by kernel_rfl
theorem FO:Tryz.prog.cellsOf 74=4:=by kernel_rfl
theorem Jlk(d:DataW H):1<=Rows.uptoBulk d:=by
 cases d with
 | lit l=>cases l<;>simp[Rows.uptoBulk]
 | nil=>simp[Rows.uptoBulk]
 | ptr d=>simp[Rows.uptoBulk]
 | slice elems spare=>simp[Rows.uptoBulk]
 | agg parts=>simp[Rows.uptoBulk]
 | iface t d=>simp[Rows.uptoBulk]
 | map entries=>simp[Rows.uptoBulk]
 | held h=>simp[Rows.uptoBulk]
theorem Jxa(l:List (DataW H)):l.length<=Rows.uptoBulkAll l:=by
 induction l with
 | nil=>simp
 | cons x r ih=>grind[Jlk,Rows.uptoBulkAll]
theorem Jyo{enc:TypeId × Value->H}{v:Value}{D:DataW H}(h:DataW.trod enc Tryz.prog W 0 sp held n 54 [v]=some (D,Pl)):
 ∃lo lc ls,v=.slice lo (List.length ls) lc/\(∀s ∈ ls,ByteArray.size s<=9223372036854775807)/\Txts (fun _=>True) W lo ls/\ls.length+1<=Rows.uptoBulk D:=by
 rcases Deep.open_slice1 Tryz.underlying54 FM h with⟨b,k⟩| ⟨d,a,i,l,N,q,f,B,b,_,F,L,x,k,w⟩
 .have b:v=M:=by simpa using b
  exact⟨none,0,[],b,(fun _ h=>by cases h),fun h=>absurd h (by simp),Jlk _⟩
 have b:v=.slice (some d) a i:=by simpa using b
 have K:a<=l:=by rw[x];split<;>omega
 obtain⟨r,j⟩:=Deep.choose_lt (n:=a) (p:=fun e (c:ByteArray)=>W.cell? (d.add e)=some (.string c)/\c.size<=9223372036854775807) (fun e y=>by
  obtain⟨m,t⟩:=w e (by omega);obtain⟨c,g,_,u⟩:=DataW.trod_string Tryz.underlying9 t;have g:q e=.string c:=by simpa using g
  exact⟨c,by rw[m,g],u⟩)
 have u:D=.slice ((List.range a).map f) ((List.range (l-a)).map fun z=>f (a+z)):=by
  injection k
 have C:a+1<=Rows.uptoBulk D:=by
  rw[u];simp only[Rows.uptoBulk];have:=Jxa ((List.range a).map f);rw[JQ,PA]at this;omega
 refine⟨some d,i,(List.range a).map r,by simp;omega,?_,fun g=>?_,by simp;omega⟩
 .simp_all
 simp only[JQ,PA]at g;obtain⟨t,m,A⟩:=d;have y:A=none:=by simpa[Addr.add]using World.cell?_spot (j 0 g).1
 subst y;refine⟨t,m,rfl,trivial,?_,?_⟩
 .have:=(j 0 g).1;exact Nw (o:=m) (by simpa[Addr.add]using this)
 simp_all[add_plain]
theorem J14{enc:TypeId × Value->H}{a:Addr}{i:Nat}{cs:List Value}{D:DataW H}
 (h1:W.cells? 0 (a.add (i*Tryz.prog.cellsOf 74)) (Tryz.prog.cellsOf 74)=some cs) (h2:DataW.trod enc Tryz.prog W 0 sp held n 74 cs=some (D,Pl)):
 ∃o:OpD,W.cell? (a.add (i*4))=some (.int .i64 o.kd)/\W.cell? (a.add (i*4+1))=some (.int .i64 o.a)/\W.cell? (a.add (i*4+2))=some (.string o.s)/\W.cell? (a.add (i*4+3))=some (.slice o.lo o.ls.length o.lc)/\OpOk o/\Txts (fun _=>True) W o.lo o.ls/\o.ls.length+1<=Rows.uptoBulk D:=by
 rw[FO]at h1;obtain⟨_,w,b⟩:=World.cells?_some h1;obtain⟨K,P,N,B,_,A,c⟩:=DataW.trod_struct Tryz.underlying74 h2;match K,A,cs,w with
 | [y0,y1,y2,y3],_,[v0,v1,v2,v3],_ =>
  have l:=c 0 _ rfl;have m:=c 1 _ rfl;have p:=c 2 _ rfl;have q:=c 3 _ rfl;simp[XM,FM,FN]at l m p q;obtain⟨C,j,_,_⟩:=DataW.trod_int Tryz.underlying3 l;obtain⟨F,k,_,z⟩:=DataW.trod_int Tryz.underlying3 m;obtain⟨s,h,_,y⟩:=DataW.trod_string Tryz.underlying9 p;obtain⟨lo,lc,ls,r,x,u,L⟩:=Jyo q;have d:=b 0 (by omega);have e:=b 1 (by omega);have f:=b 2 (by omega);have g:=b 3 (by omega);rw[Deep.add_add]at d e f g;simp at j k h;subst j k h r;have t:D=.agg ([y0,y1,y2,y3].map (·.1)):=by injection B
  refine⟨⟨C,F,s,lo,lc,ls⟩,by simpa using d,by simpa using e,by simpa using f,by simpa using g,⟨J2h z,y,x⟩,u,?_⟩;rw[t];simp only[Mv,List.map_nil,Rows.uptoBulk,Rows.uptoBulkAll];show ls.length+1<=_;omega
theorem Jsv{H:Type}{Q:Nat->OpD}{D:Nat->DataW H}:∀(l:List Nat),(∀i ∈ l,(Q i).ls.length+1<=Rows.uptoBulk (D i))->cntP (l.map Q)<=Rows.uptoBulkAll (l.map D)
 | [],_=>ZL _
 | x::l,h=>by
  have:=h x (by simp);have:=Jsv l (fun i hi=>h i (by simp[hi]));simp[cntP,Rows.uptoBulkAll];omega
theorem Jxs{enc:TypeId × Value->H}{ao:Option Addr}{len cap:Nat}{d:DataW H}{p:List MemPlace}(h:DataW.Trod enc Tryz.prog W 0 (fun _=>true) true 22 (.slice ao len cap) d p):
 ∃ops:List OpD,ops.length=len/\Scr W ao ops/\(∀o ∈ ops,OpOk o)/\cntP ops<=Rows.uptoBulk d:=by
 obtain⟨z,r⟩:=h;rcases Deep.open_slice Tryz.underlying22 r with⟨c,_⟩| ⟨a,j,i,k,n,D,Pl,c,_,B,F,t,w,q⟩
 .have c:[Value.slice ao len cap]=[M]:=c;obtain⟨rfl,rfl,rfl⟩:ao=none/\len=0/\cap=0:=by simp_all
  exact⟨[],rfl,⟨fun h=>absurd h (by simp),(fun _ h=>by cases h)⟩,(fun _ h=>by cases h),ZL _⟩
 have c:[Value.slice ao len cap]=[.slice (some a) j i]:=c;obtain⟨rfl,rfl,rfl⟩:ao=some a/\len=j/\cap=i:=by simp_all
 have C:len<=k:=by rw[t];split<;>omega
 have A:Inhabited OpD:=⟨⟨0,0,⟨#[]⟩,none,0,[]⟩⟩;obtain⟨Q,f⟩:=Deep.choose_lt (n:=len) (p:=fun b (o:OpD)=>W.cell? (a.add (b*4))=some (G o.kd)/\W.cell? (a.add (b*4+1))=some (G o.a)/\W.cell? (a.add (b*4+2))=some (.string o.s)/\W.cell? (a.add (b*4+3))=some (.slice o.lo o.ls.length o.lc)/\OpOk o/\Txts (fun _=>True) W o.lo o.ls/\o.ls.length+1<=Rows.uptoBulk (D b))
  (fun b g=>by obtain⟨e,l,m⟩:=q b (by omega);grind[J14])
 have hd:d=.slice ((List.range len).map D) ((List.range (k-len)).map fun x=>D (len+x)):=by injection w
 refine⟨(List.range len).map Q,by simp,⟨fun e=>?_,fun o g=>?_⟩,fun o g=>?_,?_⟩
 .simp only[JQ,PA]at e;obtain⟨m,l,y⟩:=a;have u:y=none:=by simpa[Addr.add]using World.cell?_spot (f 0 e).1
  subst u;refine⟨m,l,rfl,?_,fun b g=>?_⟩
  .have:=(f 0 e).1;exact Nw (o:=l) (by simpa[Addr.add]using this)
  grind[add_plain]
 .grind
 .grind
 have:=Jsv (D:=D) (Q:=Q) (List.range len) (fun b g=>(f b (MX.1 g)).2.2.2.2.2.2);grind[Rows.uptoBulk]
end Go.Proofs.YtjobgpahajhbnaaGreatDoor
