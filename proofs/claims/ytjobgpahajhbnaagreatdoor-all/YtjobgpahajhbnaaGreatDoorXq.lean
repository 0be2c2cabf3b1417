import Derived.Test.YtjobgpahajhbnaaGreatDoorRows
import Derived.Test.YtjobgpahajhbnaaGreatDoorTa
import Derived.ProofKit
import Derived.LaidMore
import Derived.OpenShut
import Derived.Stop.Joined
import Derived.Stop.LaidErr
import Derived.Deep.Slices
namespace Go.Proofs.YtjobgpahajhbnaaGreatDoor
open Go.ChangeShapes Go.WideShapes Go.ChangeAt Go.WideMaps Go.WideElems Go.RowKit
set_option linter.all false
theorem XG:ownKnob Tryz.prog.godebug=none:=by kernel_rfl
theorem XH:laidOutB Tryz.prog=true:=by kernel_rfl
theorem XI : Tryz.prog.globalNamed "strconv.ErrSyntax" = some 4 := by kernel_rfl
theorem XJ : Tryz.prog.globalNamed "strconv.ErrRange" = some 5 := by kernel_rfl
theorem XK:(Tryz.prog.globals[4]?).map (·.type)=some 265:=by kernel_rfl
theorem XL:(Tryz.prog.globals[5]?).map (·.type)=some 265:=by kernel_rfl
theorem XM:Tryz.prog.cellsOf 3=1:=by kernel_rfl
theorem Nw{w:World}{b o:Nat}{v:Value}(h:w.cell? (U b o)=some v):b<w.1.size:=by
 by_cases a:b<w.1.size
 .exact a
 unfold World.cell? at h;rw[Array.getElem?_eq_none (by simpa using a)]at h;simp at h
theorem Jle{n:String}{nm:String}{d:DataW Unit}{r:List (String × DataW Unit)}{W:World}{g:Nat}
 (h:laidMet Tryz.prog ((n,.iface nm d)::r) W) (hg:Tryz.prog.globalNamed n=some g) (ht:(Tryz.prog.globals[g]?).map (·.type)=some 265):ErrV W g/\g<W.1.size:=by
 obtain⟨q,⟨o,t,f,l,p,s,e,i,j,hd0,_,_⟩,_,_⟩:=h;obtain rfl:=NS (hg.symm.trans e);obtain rfl:=NS (ht.symm.trans i);obtain⟨k⟩:=f;obtain⟨m,b,v,a,_,_⟩:=iface_of_trod Tryz.underlying265 hd0;have a:k=[.iface b v]:=a;subst a;have c:W.cell? (U g 0)=some (.iface b v):=by simpa using World.var?_cell e j 0
 exact⟨⟨_,c,NO ⟨b,v,rfl⟩⟩,Nw c⟩
theorem J2h{x:Int}(h:(Lit.int .i64 x).wf=true):Jk x:=by
 have a:IntKind.i64.min<=x/\x<=9223372036854775807:=by simpa[Lit.wf]using h
 exact⟨a.1,a.2⟩
end Go.Proofs.YtjobgpahajhbnaaGreatDoor
