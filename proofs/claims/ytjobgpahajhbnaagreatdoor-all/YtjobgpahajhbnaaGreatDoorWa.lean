import Derived.Test.YtjobgpahajhbnaaGreatDoorProg
import Derived.WalkKit
import Derived.WalkSpells
import Derived.WalkLawsBesides
import Derived.Shelf.Small.Strs
import Derived.Shelf.Strings.Shaped
import Derived.Shelf.Strings.Prefix
import Derived.Shelf.Strconv.ParseIntPublic10
import Derived.Shelf.Strconv.Itoa4
import Derived.Shelf.Strconv.Clone
import Derived.Shelf.Bits.Mul64
import Derived.Shelf.Slices.Equal
import Derived.Ground.Names2Prog
import Derived.Ground.SlgnProg
import Derived.Shelf.SlicesE.Clone
import Derived.Lib.ParseIntB
import Derived.KernelRfl
namespace Go.Proofs.YtjobgpahajhbnaaGreatDoor
open Go.RowKit Go.Proofs Go.Proofs.Tryz
set_option linter.all false
abbrev G:=Value.int .i64
@[simp,go_sem] abbrev aB (w:World) (b i:Nat) (v:Value):Prop:=w.cell? ⟨b,i,none⟩=some v
abbrev aC(g:FuncId):Value:=.func (.func g) #[] #[]
abbrev aD:=Ending.returned
abbrev aE:=Value.string
abbrev aF:Array Value:=#[.slice none 0 0,.slice none 0 0]
abbrev aG:List Value:=[.slice none 0 0,.slice none 0 0]
abbrev aH:Value:=.slice none 0 0
abbrev aI(b i n c:Nat):Value:=.slice (some ⟨b,i,none⟩) n c
abbrev aJ(b i:Nat):Value:=.pointer (some ⟨b,i,none⟩)
abbrev aK(a:Option Addr)(b c:Nat)(d:Option Addr)(e f:Nat):Value:=.agg #[.slice a b c,.slice d e f]
abbrev aL(a:Option Addr)(b c:Nat)(d:Option Addr)(e f:Nat):Array Value:=#[.slice a b c,.slice d e f]
abbrev aM(a:Option Addr)(b c:Nat)(d:Option Addr)(e f:Nat):List Value:=[.slice a b c,.slice d e f]
abbrev E:=Value.slice
abbrev J(w w':World):Prop:=Below w.1.size w w'
abbrev U(b i:Nat):Addr:=⟨b,i,none⟩
theorem aR{P:Program}{f:FuncId}{a:Array Value}{w:World}{v:Value}{R:World->Prop}{Q:Ending->World->Prop}(h:Calls P f a w fun e w'=>e=.returned v/\R w')(k:∀w',R w'->Q (.returned v) w'):Calls P f a w Q:=h.mono fun _ w' h=>h.1▸k w' h.2
theorem aQ{P:Program}{f:FuncId}{a:Array Value}{w w2:World}{v:Value}{Q:Ending->World->Prop}(h:Calls P f a w fun e w'=>e=.returned v/\w'=w2)(k:Q (.returned v) w2):Calls P f a w Q:=aR h fun _ e=>e▸k
theorem aS{n:Nat}{w:World}:Below n w w:=Below.refl n w
theorem aT{n:Nat}:n<=n:=Nat.le_refl n
abbrev FP:=@Nat.le_refl
abbrev FQ:=@Go.RowKit.Below.refl
abbrev FR:=@Go.bodyPost_ret
abbrev WA:=@Go.World.cell?_of_block
abbrev FT:=@Nat.lt_of_lt_of_le
abbrev FU:=@if_neg
abbrev FV:=@Go.RowKit.Below.heap_setCell
abbrev FW:=@Go.World.cell?_setCell_same
abbrev FX:=@List.getElem?_eq_getElem
abbrev FY:=@if_pos
abbrev FZ:=@Go.World.cell?_setCell_other
abbrev NA:=@Go.World.frozen?_setCell
abbrev NB:=@Go.RowKit.Below.heap_alloc
abbrev NC:=@List.getD_eq_getElem?_getD
abbrev ND:=@List.getElem_mem
abbrev NE:=@Nat.le_trans
abbrev NF:=@Go.Proofs.enters_of
abbrev NG:=@List.take_succ_eq_append_getElem
abbrev NH:=@Go.World.cell?_alloc_at
abbrev NI:=@Go.World.frozen?_of_block
abbrev NJ:=@List.take_of_length_le
abbrev NK:=@List.eq_nil_of_length_eq_zero
abbrev NL:=@Go.World.frozen?_alloc_at
abbrev NM:=@congrArg
abbrev NN:=@Or.inl
abbrev NO:=@Or.inr
abbrev NP:=@cond_false
abbrev NQ:=@beq_iff_eq
abbrev NR:=@Nat.mul_le_mul_right
abbrev NS:=@Option.some.inj
abbrev NT:=@beq_eq_false_iff_ne
abbrev NU:=@List.map_append
abbrev NV:=@Go.World.cell?_alloc_past
abbrev NW:=@Go.World.ownsRow_nil
abbrev NX:=@cond_true
abbrev NY:=@Go.info_parts
abbrev NZ:=@List.mem_map
abbrev ZA:=@List.getElem?_append_right
abbrev ZB:=@Nat.eq_zero_or_pos
abbrev ZC:=@List.drop_eq_getElem_cons
abbrev ZD:=@beq_false_of_ne
abbrev ZE:=@Int.tmod_eq_emod_of_nonneg
abbrev ZF:=@Nat.mul_comm
abbrev ZG:=@Nat.add_mul
abbrev ZH:=@Go.ownsRow_setCell_other
abbrev ZJ:=@Bool.and_eq_true
abbrev ZK:=@List.mem_append
abbrev ZL:=@Nat.zero_le
abbrev ZM:=@List.mem_of_mem_take
abbrev ZN:=@List.length_cons
abbrev ZO:=@Nat.le_succ
abbrev ZP:=@Go.Proofs.Tryz.underlying32
abbrev ZR:=@ByteArray.size_extract
abbrev ZS:=@List.getElem_of_mem
abbrev ZU:=@List.getElem?_append_left
abbrev ZV:=@List.length_eq_zero_iff
abbrev ZW:=@Go.IntWalk.i64_left
abbrev ZX:=@List.mem_of_mem_drop
abbrev ZY:=@Nat.zero_add
abbrev ZZ:=@List.range_succ
abbrev YA:=@Nat.one_mul
abbrev YB:=@of_decide_eq_true
abbrev YC:=@Go.ByteArray.toList_eq
abbrev YD:=@List.length_take
abbrev YE:=@Array.getElem?_eq_some_iff
abbrev YF:=@Go.callsIn_wide
abbrev YG:=@List.ext_getElem
abbrev YH:=@Nat.le_succ_of_le
abbrev YI:=@List.length_replicate
abbrev YJ:=@List.getElem_map
abbrev YK:=@List.getElem?_replicate
abbrev YL:=@List.all_eq_true
abbrev YM:=@Nat.mod_eq_of_lt
abbrev YN:=@Go.toList_madeCells_one
abbrev YO:=@List.getElem?_eq_some_iff
abbrev YP:=@List.drop_eq_nil_of_le
abbrev YQ:=@List.mem_replicate
abbrev YR:=@Nat.mod_lt
abbrev YS:=@Nat.lt_or_ge
abbrev YT:=@List.length_nil
abbrev YU:=@List.append_nil
abbrev YV:=@Go.wpList_make_full
abbrev YW:=@Go.Proofs.Tryz.underlying242
abbrev YX:=@List.any_eq_true
abbrev YY:=@Go.Proofs.Tryz.underlying9
abbrev YZ:=@List.map_congr_left
abbrev JA:=@Go.wpList_append_own
abbrev JB:=@Go.Proofs.Tryz.underlying54
abbrev JC:=@Ne.symm
abbrev JD:=@List.length_append
abbrev JE:=@Go.wpList_append_own_at
abbrev JF:=@Nat.div_lt_of_lt_mul
abbrev JG:=@List.Perm.refl
abbrev JH:=@Go.Proofs.Tryz.underlying37
abbrev JI:=@Option.getD_some
abbrev JJ:=@Classical.byContradiction
abbrev JK:=@List.take_succ_cons
abbrev JL:=@Go.Calls.quiet_of_same
abbrev JM:=@decide_eq_true_eq
abbrev JN:=@List.dropLast_eq_take
abbrev JO:=@List.mem_cons
abbrev JP:=@Go.Proofs.Tryz.underlying238
abbrev JQ:=@List.length_map
abbrev JR:=@Nat.not_lt_zero
abbrev JT:=@List.getElem_range
abbrev JU:=@Nat.add_sub_cancel_left
abbrev JV:=@List.take_length
abbrev JW:=@Nat.le_mul_of_pos_right
abbrev JX:=@Array.length_toList
abbrev JY:=@List.flatten_append
abbrev JZ:=@Go.Proofs.Tryz.underlying4
abbrev MA:=@Nat.mul_one
abbrev MC:=@Int.natCast_mul
abbrev ME:=@Nat.min_eq_left
abbrev MF:=@List.getElem?_eq_none
abbrev MG:=@List.set_append_right
abbrev MH:=@Nat.succ_le_succ
abbrev MI:=@Go.bodyPost_end
abbrev MJ:=@List.getElem_append_left
abbrev MK:=@List.getElem?_map
abbrev ML:=@Go.Proofs.Tryz.zeroValue4
abbrev MM:=@Int.natCast_add
abbrev MN:=@Go.World.ownsMap.alloc
abbrev MO:=@Go.World.ownsRow.alloc
abbrev MP:=@List.drop_of_length_le
abbrev MQ:=@Nat.add_zero
abbrev MR:=@Go.Proofs.Tryz.underlying3
abbrev MS:=@Go.Proofs.Tryz.underlying249
abbrev MT:=@Go.World.size_alloc
abbrev MU:=@List.getElem?_drop
abbrev MV:=@decide_eq_true
abbrev MW:=@Go.World.ownsMap_made
abbrev MX:=@List.mem_range
abbrev MY:=@Go.Sort.cell?_putRow_other
abbrev MZ:=@List.nil_append
abbrev Ma:=@Go.Proofs.Tryz.underlying0
abbrev Mb:=@Nat.pow_le_pow_right
abbrev Mc:=@Go.World.cell?_alloc_lt
abbrev Md:=@List.size_toArray
abbrev Me:=@Go.Proofs.Tryz.underlying78
abbrev Mf:=@Go.Proofs.Tryz.zeroValue3
abbrev Mg:=@Go.Proofs.Tryz.zeroValue9
abbrev Mh:=@List.map_take
abbrev Mi:=@List.drop_zero
abbrev Mj:=@Go.World.ownsRow.lt
abbrev Mk:=@List.cons_append
abbrev Ml:=@decide_eq_false_iff_not
abbrev Mm:=@List.take_append_of_le_length
abbrev Mn:=@Go.Proofs.Tryz.zeroValue0
abbrev Mo:=@List.mem_singleton
abbrev Mp:=@List.getElem?_take
abbrev Mq:=@List.length_eq_one_iff
abbrev Mr:=@List.map_replicate
abbrev Ms:=@Int.emod_lt_of_pos
abbrev Mt:=@UInt8.toNat_inj
abbrev Mu:=@decide_eq_false
abbrev Mv:=@List.map_cons
abbrev Mw:=@List.take_append_drop
abbrev Mx:=@Bool.and_eq_false_iff
abbrev My:=@List.take_add_one
abbrev M0:=@Go.run_append_own_at
abbrev M6:=@List.append_assoc
abbrev M7:=@List.mem_cons_of_mem
abbrev M8:=@List.mem_of_getElem?
abbrev M9:=@Array.replicate_succ
abbrev Ha:=@Array.replicate_zero
abbrev Hb:=@List.getElem_reverse
abbrev Hc:=@List.mem_iff_getElem
abbrev Hd:=@List.not_mem_nil
abbrev He:=@Go.Proofs.Tryz.results77
abbrev Hf:=@List.length_drop
abbrev Hg:=@Nat.add_comm
abbrev Hh:=@Nat.div_eq_of_lt
abbrev Hi:=@List.getElem_append_right
abbrev Hj:=@List.pairwise_iff_getElem
abbrev Hk:=@Nat.mul_le_mul_left
abbrev Hl:=@List.append_toArray
abbrev Hm:=@List.length_reverse
abbrev Hn:=@Go.Proofs.Tryz.sizeOf4
abbrev Ho:=@Nat.div_add_mod
abbrev Hp:=@Int.emod_nonneg
abbrev Hq:=@of_decide_eq_false
abbrev Hr:=@Go.Proofs.Tryz.results123
abbrev Hs:=@List.findIdx?_eq_some_iff_getElem
abbrev Ht:=@Go.Proofs.Tryz.sizeOf3
abbrev Hu:=@List.takeWhile_sublist
abbrev Hv:=@Int.emod_eq_of_lt
abbrev Hw:=@Nat.mul_le_mul
abbrev Hx:=@Int.toNat_natCast
abbrev Hy:=@Go.Proofs.Tryz.underlying87
abbrev Hz:=@List.push_toArray
abbrev H7:=@List.getElem_take
abbrev H8:=@Nat.div_div_eq_div_mul
abbrev PA:=@List.length_range
abbrev PB:=@Nat.lt_trichotomy
abbrev PC:=@List.take_take
abbrev PF:=@List.Pairwise.nil
abbrev PG:=@List.getElem_set
abbrev PH:=@Go.Proofs.Tryz.results207
abbrev PI:=@List.map_reverse
abbrev PJ:=@Go.Proofs.Tryz.results200
abbrev PK:=@Go.Proofs.Tryz.sizeOf9
abbrev PL:=@Go.Proofs.Tryz.underlying5
abbrev PM:=@List.dropLast_subset
abbrev PN:=@List.pairwise_append
abbrev PO:=@Bool.eq_iff_iff
abbrev PP:=@List.map_const'
abbrev PQ:=@Nat.div_le_self
abbrev PR:=@Nat.mul_add_mod
abbrev PS:=@ByteArray.size_data
abbrev PT:=@Go.ByteArray.toList_mk
abbrev PU:=@List.drop_replicate
abbrev PV:=@List.getElem?_range
abbrev PY:=@List.takeWhile_cons
abbrev PZ:=@List.map_map
abbrev Pa:=@And.intro
abbrev Pb:=@Go.wpAny_take
abbrev Pc:=@Int.lt_tmod_of_pos
abbrev Pd:=@List.any_eq_false
abbrev Pe:=@List.ext_getElem?
abbrev Pf:=@List.getElem_drop
abbrev Pg:=@List.pairwise_map
abbrev Ph:=@List.all_cons
abbrev Pi:=@Nat.mul_assoc
abbrev Pj:=@Nat.add_assoc
abbrev Pk:=@Go.AllReady.cons
abbrev Pm:=@Nat.min_eq_right
abbrev Pn:=@List.mem_flatten
abbrev Po:=@Nat.lt_trans
abbrev Pp:=@Classical.em
abbrev Pq:=@List.map_set
abbrev Pr:=@getElem!_pos
abbrev Ps:=@Nat.sub_self
abbrev Pt:=@if_true
set_option maxHeartbeats 1000000
variable {L:List ByteArray} {b c i j n:Nat} {k:Option Nat} {l:List UInt8} {o:Obj} {p:UInt8->Bool} {t:ByteArray} {v:Value} {w w':World}
def digB(c:Int):Bool:=decide (48<=c/\c<=57)
def letB(c:Int):Bool:=decide (97<=c/\c<=122)
def sgnB(c:Int):Bool:=decide (c=43\/c=45\/c=42\/c=37\/c=124\/c=38\/c=33\/c=61\/c=60)
def amid(L:List ByteArray)(t:ByteArray):Bool:=L.any fun x=>x.toList == t.toList
def fnL:List ByteArray:=[⟨#[105,111,116,97]⟩,⟨#[114,104,111]⟩,⟨#[114,101,118]⟩,⟨#[117,112]⟩,⟨#[100,111,119,110]⟩,⟨#[102,108,105,112]⟩,⟨#[114,97,118,101,108]⟩,⟨#[116,97,107,101]⟩,⟨#[100,114,111,112]⟩,⟨#[99,97,116]⟩,⟨#[105,110]⟩,⟨#[97,116]⟩,⟨#[107,101,101,112]⟩]
theorem O{p:Prop}(h:p):Hid p:=h
theorem I{p:Prop}(h:Hid p):p:=h.out
theorem V{v:Option Value}(Ez:Below n w w')(h:b<n)(c:w.cell? ⟨b,j,k⟩=v):w'.cell? ⟨b,j,k⟩=v:=(Ez.cell (p:=⟨b,j,k⟩) h).trans c
theorem bF{v:Bool}(Ez:Below n w w')(h:b<n)(c:w.frozen? ⟨b,j,k⟩=v):w'.frozen? ⟨b,j,k⟩=v:=(Ez.frozen (p:=⟨b,j,k⟩) h).trans c
theorem celO(h:¬(c=b/\j=i)):(w.setCell (U c j) v).cell? (U b i)=w.cell? (U b i):=FZ _ _ _ _ (by intro e;injection e with x y;exact h ⟨x,y⟩)
theorem celN{o:Option Value}(h:¬(c=b/\j=i))(x:w.cell? (U b i)=o):(w.setCell (U c j) v).cell? (U b i)=o:=(celO h).trans x
theorem froN{p q:Addr}{o:Bool}(x:w.frozen? q=o):(w.setCell p v).frozen? q=o:=(NA _ _ _ _).trans x
theorem alA{c:Array Value}{t:TypeId}:(w.alloc (.cells c t)).cell? (U w.1.size i)=c[i]?:=NH _ _ _ _ rfl
theorem V4{a b:Bool}(h:a=b):Ending.returned (.bool a)=aD (.bool b):=by rw[h]
theorem Jm{k:IntKind}{a b:Int}(h:a=b):Ending.returned (.int k a)=aD (.int k b):=by rw[h]
theorem Yy{W w1:World}(hb:J W w1):(∀b o,b<W.1.size->w1.cell? (U b o)=W.cell? (U b o))/\(∀b o,b<W.1.size->w1.frozen? (U b o)=W.frozen? (U b o)):=
 ⟨fun b o h=>hb.cell (p:=U b o) h,fun b o h=>hb.frozen (p:=U b o) h⟩
theorem J4(c)(w):
 Calls prog 160 #[.int .u8 c] w fun e w'=>e=aD (.bool (digB c))/\w'=w:=by
 by_cases a:48<=c
 all_goals
  go_enter func160,ntmps160;go_wp2;go_ret;refine⟨?_,rfl⟩;simp[digB];omega
theorem Yh(c)(w):
 Calls prog 116 #[.int .u8 c] w fun e w'=>e=aD (.bool (letB c))/\w'=w:=by
 by_cases a:97<=c
 all_goals
  go_enter func116,ntmps116;go_wp2;go_ret;refine⟨?_,rfl⟩;simp[letB];omega
theorem Qm(w):
 Calls prog 115 #[] w fun e w'=>∃b,e=aD (aI b 0 13 13)/\(∀i,(h:i<fnL.length)->w'.cell? (U b i)=some (aE fnL[i]))/\J w w':=by
 go_enter func115,ntmps115;go_wp2;go_ret;refine⟨w.1.size,rfl,?_,aS.alloc aT _⟩;intro i h;simp[fnL]at h;match i,h with
 | 0,_|1,_|2,_|3,_|4,_|5,_|6,_|7,_|8,_|9,_|10,_|11,_|12,_=>simp[fnL]
theorem J02(h:∀j,(hj:j<L.length)->(L[j].toList == t.toList)=false):amid L t=false:=by
 unfold amid;rw[Pd];intro b a;obtain⟨j,hj,rfl⟩:=ZS a;simp_all
theorem Jxk(j)(hj:j<L.length)(h:(L[j].toList == t.toList)=true):amid L t=true:=by
 grind[amid]
theorem Jck(t)(L)(n)(cap)(b)(w)(hn:n=L.length)(hl:n<=100)
 (hc:∀i,(h:i<L.length)->w.cell? (U b i)=some (aE L[i])):
 Calls prog 114 #[aE t,aI b 0 n cap] w fun e w'=>e=aD (.bool (amid L t))/\w'=w:=by
 have c:=O hn;clear hn;go_enter func114,ntmps114;go_wp2;go_loop [5] (fun i=>∃k:Nat,k<=n/\i=G k/\∀j,(a:j<L.length)->j<k->(L[j].toList == t.toList)=false) (fun i=>n-(intOf i).toNat)
 .grind
 obtain⟨k,p,rfl,g⟩:=hrel;have d:=O g;clear g;by_cases l:k<n
 .have f:=c.out▸l;have:=hc k f;clear hc;go_wp2
  .go_ret;exact⟨V4 (Jxk k f (by assumption)).symm,rfl⟩
  have:(L[k].toList == t.toList)=false:=by assumption
  go_round
  case rel=>exact⟨k+1,by omega,by go_num,fun j a h=>by
   by_cases e:j=k
   .simp_all
   exact d.out j a (by omega)⟩
  simp[intOf];omega
 clear hc;go_wp2;go_ret;exact⟨V4 (J02 (fun j a=>d.out j a (by have:=c.out;omega))).symm,rfl⟩
theorem Jy6(k)(h:k<9)(c)(e:(((⟨#[43,45,42,37,124,38,33,61,60]⟩:ByteArray)[k]'h).toNat == c)=true):sgnB c=true:=by
 have e:=(NQ.1 e).symm;subst e;match k,h with
 | 0,_=>exact(by decide:sgnB 43=true)
 | 1,_=>exact(by decide:sgnB 45=true)
 | 2,_=>exact(by decide:sgnB 42=true)
 | 3,_=>exact(by decide:sgnB 37=true)
 | 4,_=>exact(by decide:sgnB 124=true)
 | 5,_=>exact(by decide:sgnB 38=true)
 | 6,_=>exact(by decide:sgnB 33=true)
 | 7,_=>exact(by decide:sgnB 61=true)
 | 8,_=>exact(by decide:sgnB 60=true)
theorem J1q(c)(e:∀k,(h:k<9)->(((⟨#[43,45,42,37,124,38,33,61,60]⟩:ByteArray)[k]'h).toNat == c)=false):sgnB c=false:=by
 have:(43 == c)=false:=e 0 (by decide);have:(45 == c)=false:=e 1 (by decide);have:(42 == c)=false:=e 2 (by decide);have:(37 == c)=false:=e 3 (by decide);have:(124 == c)=false:=e 4 (by decide);have:(38 == c)=false:=e 5 (by decide);have:(33 == c)=false:=e 6 (by decide);have:(61 == c)=false:=e 7 (by decide);have:(60 == c)=false:=e 8 (by decide);grind[sgnB]
theorem Y5(c)(w):
 Calls prog 120 #[.int .u8 c] w fun e w'=>e=aD (.bool (sgnB c))/\w'=w:=by
 go_enter func120,ntmps120;go_wp2;go_loop [4] (fun i=>∃k:Nat,k<=9/\i=G k/\∀j,(hj:j<9)->j<k->(((⟨#[43,45,42,37,124,38,33,61,60]⟩:ByteArray)[j]'hj).toNat == c)=false) (fun i=>9-(intOf i).toNat)
 .exact ⟨0,ZL _,rfl,fun j _ b=>absurd b (by omega)⟩
 obtain⟨k,g,rfl,d⟩:=hrel;have a:=O d;clear d;by_cases hlt:k<9
 .go_wp2
  .go_ret;exact⟨V4 (Jy6 k hlt c (by assumption)).symm,rfl⟩
  have:(((⟨#[43,45,42,37,124,38,33,61,60]⟩:ByteArray)[k]'hlt).toNat == c)=false:=by assumption
  go_round
  case rel=>exact⟨k+1,by omega,by go_num,fun j hj b=>by
   by_cases e:j=k
   .simp_all
   exact a.out j hj (by omega)⟩
  simp[intOf];omega
 go_wp2;go_ret;exact⟨V4 (J1q c (fun j hj=>a.out j hj (by omega))).symm,rfl⟩
def hd(t:ByteArray):Int:=(t.data.toList.headD 0).toNat
theorem Jru(t)(h:0<t.size):(t[0].toNat:Int)=hd t:=by
 obtain⟨⟨l⟩⟩:=t;match l,h with
 | c::l,_=>rfl
theorem ne1(t:ByteArray)(h:0<t.size):t.toList.isEmpty=false:=by
 rw[YC];obtain⟨⟨l⟩⟩:=t;match l,h with
 | c::l,_=>rfl
theorem ne2(t:ByteArray)(h:0<t.size):¬ t.toList=[]:=by
 grind[ne1]
def numB(t:ByteArray):Bool:=digB (hd t)|| hd t == 95
def namB(t:ByteArray):Bool:=letB (hd t) && !amid fnL t && !(t.toList == [105,115])
def funB(t:ByteArray):Bool:=amid fnL t || sgnB (hd t)
theorem Kc(t)(w)(h0:0<t.size):
 Calls prog 117 #[aE t] w fun e w'=>e=aD (.bool (numB t))/\w'=w:=by
 have:=Jru t h0;have:=ne1 t h0;have:=ne2 t h0;cases hb:digB (hd t)
 all_goals
  go_enter func117,ntmps117;go_wp2_with (go_at_call 160;refine aQ (J4 _ _) ?_);go_ret;exact⟨V4 (by grind[numB]),rfl⟩
theorem K5(t)(w)(h0:0<t.size):
 Calls prog 82 #[aE t] w fun e w'=>e=aD (.bool (namB t))/\J w w':=by
 have:=Jru t h0;have:=ne1 t h0;have:=ne2 t h0;cases hb:letB (hd t)
 all_goals
  cases hf:amid fnL t
  all_goals
   go_enter func82,ntmps82;go_wp2_with fail;refine(Qm _).mono ?_;rintro e f ⟨b,rfl,a,c⟩;go_wp2_with fail;refine aQ (Jck t fnL 13 13 b _ rfl (by decide) a) ?_;go_wp2_with (go_at_call 116;refine aQ (Yh _ _) ?_);go_ret;simp_all[namB]
theorem Zi(t)(w)(h0:0<t.size):
 Calls prog 85 #[aE t] w fun e w'=>e=aD (.bool (funB t))/\J w w':=by
 have:=Jru t h0;have:=ne1 t h0;have:=ne2 t h0;cases hf:amid fnL t
 all_goals
  go_enter func85,ntmps85;go_wp2_with fail;refine(Qm _).mono ?_;rintro e f ⟨b,rfl,a,c⟩;go_wp2_with fail;refine aQ (Jck t fnL 13 13 b _ rfl (by decide) a) ?_;go_wp2_with (go_at_call 120;refine aQ (Y5 _ _) ?_);go_ret;simp_all[funB]
def loL:List ByteArray:=[⟨#[43]⟩,⟨#[45]⟩,⟨#[42]⟩,⟨#[124]⟩]
def biL:List ByteArray:=[⟨#[114,104,111]⟩,⟨#[114,101,118]⟩,⟨#[116,97,107,101]⟩,⟨#[100,114,111,112]⟩,⟨#[99,97,116]⟩,⟨#[105,110]⟩,⟨#[97,116]⟩,⟨#[107,101,101,112]⟩]
def unL:List ByteArray:=[⟨#[105,111,116,97]⟩,⟨#[114,104,111]⟩,⟨#[114,101,118]⟩,⟨#[117,112]⟩,⟨#[100,111,119,110]⟩,⟨#[102,108,105,112]⟩,⟨#[114,97,118,101,108]⟩]
def snd(t:ByteArray):Int:=(t.data.toList.tail.headD 0).toNat
theorem J1p(t)(h:1<t.size):(t[1].toNat:Int)=snd t:=by
 obtain⟨⟨l⟩⟩:=t;match l,h with
 | c::d::l,_=>rfl
def mayB(t:ByteArray)(b:Bool):Bool :=
 bif sgnB (hd t)then(bif (t.size:Int)== 2 then b == (snd t == 46)else b || amid loL t)else(bif b then amid biL t else amid unL t)
theorem Jz5(t)(b)(w)(h0:0<t.size)(hs:t.size<=200):
 Calls prog 118 #[aE t,.bool b] w fun e w'=>e=aD (.bool (mayB t b))/\J w w':=by
 have:=Jru t h0;cases hsg:sgnB (hd t)
 .cases b;go_enter func118,ntmps118;go_wp2_with fail;refine aQ (Y5 _ _) ?_;go_wp2_with fail;refine(Jck t unL 7 7 _ _ rfl (by decide) ?_).mono ?_
  .intro i a;simp[unL]at a;match i,a with
   | 0,_|1,_|2,_|3,_|4,_|5,_|6,_=>simp[unL]
  rotate_left;go_enter func118,ntmps118;go_wp2_with fail;refine aQ (Y5 _ _) ?_;go_wp2_with fail;refine(Jck t biL 8 8 _ _ rfl (by decide) ?_).mono ?_
  .intro i a;simp[biL]at a;match i,a with
   | 0,_|1,_|2,_|3,_|4,_|5,_|6,_|7,_=>simp[biL]
  all_goals
   rintro e w' ⟨rfl,rfl⟩;go_wp2;go_ret;exact⟨V4 (by grind[mayB]),aS.alloc aT _⟩
 cases h2:((t.size:Int)== 2)
 .cases b
  .go_enter func118,ntmps118;go_wp2_with fail;refine aQ (Y5 _ _) ?_;go_wp2_with fail;refine(Jck t loL 4 4 _ _ rfl (by decide) ?_).mono ?_
   .intro i a;simp[loL]at a;match i,a with
    | 0,_|1,_|2,_|3,_=>simp[loL]
   rintro e w' ⟨rfl,rfl⟩;go_wp2;go_ret;exact⟨V4 (by grind[mayB]),aS.alloc aT _⟩
  go_enter func118,ntmps118;go_wp2_with fail;refine aQ (Y5 _ _) ?_;go_wp2;go_ret;simp_all[mayB,FQ]
 have a:1<t.size:=by have:=NQ.1 h2;omega
 have:=J1p t a;go_enter func118,ntmps118;go_wp2_with fail;refine aQ (Y5 _ _) ?_;go_wp2;go_ret;simp_all[mayB,FQ]
def nxS(st:Int)(t:ByteArray):Int :=
 bif numB t then 1 else bif namB t then 2 else bif t.toList == [40]then 0 else bif t.toList == [41]then 2 else bif funB t then 0 else st
def nxB(st:Int)(t:ByteArray)(op:Int):Bool :=
 bif numB t then st != 2 else bif namB t then st == 0 else bif t.toList == [40]then st == 0 && decide (op<8)else bif t.toList == [41]then st != 0 && decide (0<op)else bif funB t then mayB t (st != 0)else false
theorem Jkv(st)(t)(op)(w)(h0:0<t.size)(hs:t.size<=200):
 Calls prog 83 #[G st,aE t,G op] w fun e w'=>e=aD (.tuple #[G (nxS st t),.bool (nxB st t op)])/\J w w':=by
 cases h1:numB t
 .cases h2:namB t
  .cases h3:(t.toList == [40])
   .cases h4:(t.toList == [41])
    .cases h5:funB t
     .have f:=h2;go_enter func83,ntmps83;go_wp2_with fail;refine aQ (Kc _ _ h0) ?_;go_wp2_with fail;refine aR (K5 _ _ h0) fun c a=>?_;go_wp2_with fail;refine aR (Zi _ _ h0) fun d b=>?_;go_wp2;go_ret2;exact⟨by simp[nxS,nxB,h1,h2,h3,h4,h5],a.trans (b.mono a.size)⟩
     have f:=h2;go_enter func83,ntmps83;go_wp2_with fail;refine aQ (Kc _ _ h0) ?_;go_wp2_with fail;refine aR (K5 _ _ h0) fun c a=>?_;go_wp2_with fail;refine aR (Zi _ _ h0) fun d b=>?_;go_wp2_with fail;refine aR (Jz5 _ _ _ h0 hs) fun h g=>?_;go_wp2;go_ret2;exact⟨by simp[nxS,nxB,h1,h2,h3,h4,h5],(a.trans (b.mono a.size)).trans (g.mono (NE a.size b.size))⟩
    cases h5:(st != 0)
    all_goals
     go_enter func83,ntmps83;go_wp2_with fail;refine aQ (Kc _ _ h0) ?_;go_wp2_with fail;refine aR (K5 _ _ h0) fun c a=>?_;go_wp2_with fail;refine aR (Zi _ _ h0) fun d b=>?_;go_wp2;go_ret2;exact⟨by simp_all[nxS,nxB],a.trans (b.mono a.size)⟩
   cases h4:(st == 0)
   all_goals
    go_enter func83,ntmps83;go_wp2_with fail;refine aQ (Kc _ _ h0) ?_;go_wp2_with fail;refine aR (K5 _ _ h0) fun c a=>?_;go_wp2_with fail;refine aR (Zi _ _ h0) fun d b=>?_;go_wp2;go_ret2;exact⟨by simp_all[nxS,nxB],a.trans (b.mono a.size)⟩
  go_enter func83,ntmps83;go_wp2_with fail;refine aQ (Kc _ _ h0) ?_;go_wp2_with fail;refine aR (K5 _ _ h0) fun c a=>?_;go_wp2_with fail;refine aR (Zi _ _ h0) fun d b=>?_;go_wp2;go_ret2;exact⟨by simp_all[nxS,nxB],a.trans (b.mono a.size)⟩
 go_enter func83,ntmps83;go_wp2_with fail;refine aQ (Kc _ _ h0) ?_;go_wp2_with fail;refine aR (K5 _ _ h0) fun c a=>?_;go_wp2_with fail;refine aR (Zi _ _ h0) fun d b=>?_;go_wp2;go_ret2;exact⟨by simp[nxS,nxB,h1],a.trans (b.mono a.size)⟩
theorem nm{α:Sort _}(a:α):∃x,a=x:=⟨_,rfl⟩
abbrev adP0(w:World):Addr:=⟨w.1.size,0,none⟩
abbrev adP1(w:World):Addr:=⟨w.1.size,1,none⟩
abbrev adQ0(w:World):Addr:=⟨w.1.size+1,0,none⟩
abbrev adQ1(w:World):Addr:=⟨w.1.size+1,1,none⟩
abbrev adR0(w:World):Addr:=⟨w.1.size+1+1,0,none⟩
abbrev adR1(w:World):Addr:=⟨w.1.size+1+1,1,none⟩
abbrev M:Value:=aH
abbrev agV(a:Option Addr)(b c:Nat)(d:Option Addr)(e f:Nat):Value:=aK a b c d e f
theorem belA1:J w (w.alloc o):=aS.alloc aT _
theorem belA2{p:Obj}:J w ((w.alloc o).alloc p):=belA1.alloc (by simp) _
theorem Jnr{p q:Obj}:J w (((w.alloc o).alloc p).alloc q):=belA2.alloc (by simp;omega) _
def dU(c:UInt8):Bool:=digB c.toNat
def lU(c:UInt8):Bool:=letB c.toNat
def gU(c:UInt8):Bool:=sgnB c.toNat
def val(l:List UInt8):Nat:=l.foldl (fun n c=>10*n+(c.toNat-48)) 0
def isFn(t:List UInt8):Bool:=amid fnL ⟨t.toArray⟩
def numE(k:Nat)(l:List UInt8):Option Nat :=
 let ds:=l.takeWhile dU
 if 19<ds.length\/ds.length=0\/9223372036854775807<val ds then none else some (k+ds.length)
def wrdE(l:List UInt8):Option Nat :=
 let n:=(l.takeWhile lU).length
 if 4<n/\isFn (l.take n)=false then none else some n
def Gt(c:UInt8):Bool:=c == 47 || c == 92 || c == 46
def sgnE(r:List UInt8):Nat:=match r with
 | []=>1
 | d::_=>if Gt d then 2 else 1
def tl(l:List UInt8):Option Nat:=match l with
 | []=>none
 | c::r=>bif dU c then numE 0 (c::r)else bif c == 95 then numE 1 r else bif lU c then wrdE (c::r)else bif c == 40 || c == 41 then some 1 else bif gU c then some (sgnE r)else none
theorem Q8{c:UInt8}(h:l[j]?=some c)(ha:(l.take j).all p=true)(hc:p c=true):(l.take (j+1)).all p=true:=by
 simp_all[My]
theorem Joh{c:UInt8}(h:l[j]?=some c):l.take (j+1)=l.take j++[c]:=by
 grind[List.take_add_one]
theorem Jbr{p:UInt8->Bool}:∀{l:List UInt8} {j:Nat},(l.take j).all p=true->(∀c,l[j]?=some c->p c=false)->l.takeWhile p=l.take j
 | [],j,_,_=>by simp
 | c::r,0,_,h2=>by simp_all
 | c::r,j+1,h1,h2=>by
  simp at h1;simp only[List.takeWhile,h1.1,JK];rw[Jbr (l:=r) (j:=j) (by simp_all) (by simp_all)]
theorem Jn5{p:UInt8->Bool}:∀{l:List UInt8} {j:Nat},(l.take j).all p=true->j<=l.length->j<=(l.takeWhile p).length
 | [],j,_,h=>by simp_all
 | c::r,0,_,_=>by simp
 | c::r,j+1,h1,h2=>by
  simp at h1 h2;simp only[List.takeWhile,h1.1,ZN];have:=Jn5 (p:=p) (l:=r) (j:=j) (by simp_all) h2;omega
theorem Jj5(l)(c):val (l++[c])=10*val l+(c.toNat-48):=by
 simp[val]
theorem Jn1:∀(n:Nat) (l:List UInt8),l.length=n->l.all dU=true->val l<10 ^ n
 | 0,l,h,_=>by
  have:l=[]:=ZV.1 h;subst this;decide
 | n+1,l,h,ha=>by
  have hne:l≠[]:=by intro b;subst b;simp at h
  obtain⟨a,c,rfl⟩:∃a c,l=a++[c]:=⟨l.dropLast,l.getLast hne,(List.dropLast_concat_getLast hne).symm⟩;simp at h ha;have d:=Jn1 n a h (by simp_all);grind[Jj5,dU,digB]
theorem Jai(s:ByteArray)(f j)(h:f+j<s.size):(s.data.toList.drop f)[j]?=some (s[f+j]'h):=by
 rw[MU];rw[FX (by simpa using h)];rfl
theorem Xt(s:ByteArray)(f j)(h:s.size<=f+j):(s.data.toList.drop f)[j]?=none:=by
 simp;omega
theorem Z5(s:ByteArray)(a)(h:a<s.size):s.data.toList.drop a=s[a]::s.data.toList.drop (a+1):=by
 rw[ZC (by simpa using h)];rfl
theorem Fu(s:ByteArray)(f):(s.data.toList.drop f).length=s.size-f:=by
 simp
theorem Jd9(s:ByteArray)(f j)(h:f+j<=s.size):((s.data.toList.drop f).take j).length=j:=by
 simp;omega
theorem Zf(s:ByteArray)(a b):(s.extract a b).data.toList=(s.data.toList.drop a).take (b-a):=by
 simp
theorem Jd5{u:ByteArray}(h:t.data.toList=u.data.toList):amid L t=amid L u:=by
 simp_all[amid,YC]
def QA:Go.Shelf.Ren:=⟨fun|137=>147|217=>173|266=>212|n=>n,fun|9=>9|5=>5|3=>3|n=>n,fun|n=>n⟩
theorem QB:Go.Proofs.Lays.n137 prog QA:={
 mixed:=by kernel_rfl
 f137:=func147.trans (NM some (by kernel_rfl))
 f217:=func173.trans (NM some (by kernel_rfl))
 f266:=func212.trans (NM some (by kernel_rfl))
 t3:=MR
 a3:=isAgg3
 z3:=Ht
 v3:=Mf
 t5:=PL
 a5:=isAgg5
 z5:=sizeOf5
 v5:=zeroValue5
 t9:=YY
 a9:=isAgg9
 z9:=PK
 v9:=Mg }
open Go.RowKit in
theorem QC(s)(c)(w):
 Calls prog 147 #[aE s,.int .u8 c] w fun e w'=>e=aD (G (Lib.indexByte s.data.toList c.toNat.toUInt8))/\w'=w:=Any.strings_IndexByte QB s c w
open Go.RowKit Go.Sort Go.Lib in
open Go.RowKit Go.Sort Go.Lib in
def QD:Go.Shelf.Ren:=⟨fun|316=>112|n=>n,fun|9=>9|3=>3|4=>4|37=>128|0=>0|127=>251|5=>5|n=>n,fun|n=>n⟩
theorem QE:Go.Proofs.LaysM.n316 prog QD:={
 mixed:=by kernel_rfl
 f316:=func112.trans (NM some (by kernel_rfl))
 t0:=Ma
 a0:=isAgg0
 z0:=sizeOf0
 v0:=Mn
 t3:=MR
 a3:=isAgg3
 z3:=Ht
 v3:=Mf
 t4:=JZ
 a4:=isAgg4
 z4:=Hn
 v4:=ML
 t9:=YY
 a9:=isAgg9
 z9:=PK
 v9:=Mg
 t37:=underlying128
 a37:=isAgg128
 z37:=sizeOf128
 v37:=zeroValue128
 t127:=underlying251
 a127:=isAgg251
 z127:=sizeOf251
 v127:=zeroValue251
 t5:=PL
 a5:=isAgg5
 z5:=sizeOf5
 v5:=zeroValue5
 i0:=by kernel_rfl
 i3:=by kernel_rfl
 i4:=by kernel_rfl
 i5:=by kernel_rfl
 i9:=by kernel_rfl
 i37:=by kernel_rfl
 i127:=by kernel_rfl }
open Go.RowKit in
theorem QF(s)(w)(hlim:s.size<=281474976710656):
 Calls prog 112 #[aE s] w fun e w'=>e=aD (aE s)/\J w w':=Any.stringslite_Clone QE s w hlim
def QG:Go.Shelf.Ren:=⟨fun|174=>171|247=>210|245=>211|287=>264|279=>265|280=>266|281=>267|282=>268|321=>281|322=>282|316=>112|171=>284|205=>283|243=>290|246=>55|283=>68|284=>69|285=>70|286=>71|129=>91|317=>90|318=>92|319=>93|320=>94|337=>135|338=>136|n=>n,fun|9=>9|3=>3|2=>2|75=>265|85=>266|4=>4|167=>297|5=>5|53=>138|175=>298|46=>146|168=>300|37=>128|0=>0|210=>314|21=>21|127=>251|145=>324|143=>322|171=>137|173=>141|212=>176|51=>177|20=>20|213=>178|232=>258|233=>259|80=>328|n=>n,fun|15=>4|16=>5|17=>0|18=>1|19=>2|n=>n⟩
theorem QH:Go.Proofs.LaysC.n174 prog QG:={
 mixed:=by kernel_rfl
 f129:=func91.trans (NM some (by kernel_rfl))
 f171:=func284.trans (NM some (by kernel_rfl))
 f174:=func171.trans (NM some (by kernel_rfl))
 f205:=func283.trans (NM some (by kernel_rfl))
 f243:=func290.trans (NM some (by kernel_rfl))
 f245:=func211.trans (NM some (by kernel_rfl))
 f246:=func55.trans (NM some (by kernel_rfl))
 f247:=func210.trans (NM some (by kernel_rfl))
 f279:=func265.trans (NM some (by kernel_rfl))
 f280:=func266.trans (NM some (by kernel_rfl))
 f281:=func267.trans (NM some (by kernel_rfl))
 f282:=func268.trans (NM some (by kernel_rfl))
 f283:=func68.trans (NM some (by kernel_rfl))
 f284:=func69.trans (NM some (by kernel_rfl))
 f285:=func70.trans (NM some (by kernel_rfl))
 f286:=func71.trans (NM some (by kernel_rfl))
 f287:=func264.trans (NM some (by kernel_rfl))
 f316:=func112.trans (NM some (by kernel_rfl))
 f317:=func90.trans (NM some (by kernel_rfl))
 f318:=func92.trans (NM some (by kernel_rfl))
 f319:=func93.trans (NM some (by kernel_rfl))
 f320:=func94.trans (NM some (by kernel_rfl))
 f321:=func281.trans (NM some (by kernel_rfl))
 f322:=func282.trans (NM some (by kernel_rfl))
 f337:=func135.trans (NM some (by kernel_rfl))
 f338:=func136.trans (NM some (by kernel_rfl))
 t0:=Ma
 a0:=isAgg0
 z0:=sizeOf0
 v0:=Mn
 t2:=underlying2
 a2:=isAgg2
 z2:=sizeOf2
 v2:=zeroValue2
 t3:=MR
 a3:=isAgg3
 z3:=Ht
 v3:=Mf
 t4:=JZ
 a4:=isAgg4
 z4:=Hn
 v4:=ML
 t5:=PL
 a5:=isAgg5
 z5:=sizeOf5
 v5:=zeroValue5
 t9:=YY
 a9:=isAgg9
 z9:=PK
 v9:=Mg
 t20:=underlying20
 a20:=isAgg20
 z20:=sizeOf20
 v20:=zeroValue20
 t21:=underlying21
 a21:=isAgg21
 z21:=sizeOf21
 v21:=zeroValue21
 t37:=underlying128
 a37:=isAgg128
 z37:=sizeOf128
 v37:=zeroValue128
 t46:=underlying146
 a46:=isAgg146
 z46:=sizeOf146
 v46:=zeroValue146
 t51:=underlying177
 a51:=isAgg177
 z51:=sizeOf177
 v51:=zeroValue177
 t53:=underlying138
 a53:=isAgg138
 z53:=sizeOf138
 v53:=zeroValue138
 t75:=underlying265
 a75:=isAgg265
 z75:=sizeOf265
 v75:=zeroValue265
 t85:=underlying266
 a85:=isAgg266
 z85:=sizeOf266
 v85:=zeroValue266
 t127:=underlying251
 a127:=isAgg251
 z127:=sizeOf251
 v127:=zeroValue251
 t143:=underlying322
 a143:=isAgg322
 z143:=sizeOf322
 v143:=zeroValue322
 t145:=underlying324
 a145:=isAgg324
 z145:=sizeOf324
 v145:=zeroValue324
 t167:=underlying297
 a167:=isAgg297
 z167:=sizeOf297
 v167:=zeroValue297
 t168:=underlying300
 a168:=isAgg300
 z168:=sizeOf300
 v168:=zeroValue300
 t171:=underlying137
 a171:=isAgg137
 z171:=sizeOf137
 v171:=zeroValue137
 t173:=underlying141
 a173:=isAgg141
 z173:=sizeOf141
 v173:=zeroValue141
 t175:=underlying298
 a175:=isAgg298
 z175:=sizeOf298
 v175:=zeroValue298
 t210:=underlying314
 a210:=isAgg314
 z210:=sizeOf314
 v210:=zeroValue314
 t212:=underlying176
 a212:=isAgg176
 z212:=sizeOf176
 v212:=zeroValue176
 t213:=underlying178
 a213:=isAgg178
 z213:=sizeOf178
 t232:=underlying258
 a232:=isAgg258
 z232:=sizeOf258
 v232:=zeroValue258
 t233:=underlying259
 a233:=isAgg259
 z233:=sizeOf259
 v233:=zeroValue259
 g15:=by kernel_rfl
 g16:=by kernel_rfl
 g17:=by kernel_rfl
 g18:=by kernel_rfl
 g19:=by kernel_rfl
 t80:=underlying328
 a80:=isAgg328
 z80:=sizeOf328
 v80:=zeroValue328
 i0:=by kernel_rfl
 i2:=by kernel_rfl
 i3:=by kernel_rfl
 i4:=by kernel_rfl
 i5:=by kernel_rfl
 i9:=by kernel_rfl
 i20:=by kernel_rfl
 i21:=by kernel_rfl
 i37:=by kernel_rfl
 i46:=by kernel_rfl
 i51:=by kernel_rfl
 i53:=by kernel_rfl
 i75:=by kernel_rfl
 i80:=by kernel_rfl
 i85:=by kernel_rfl
 i127:=by kernel_rfl
 i143:=by kernel_rfl
 i145:=by kernel_rfl
 i167:=by kernel_rfl
 i168:=by kernel_rfl
 i171:=by kernel_rfl
 i173:=by kernel_rfl
 i175:=by kernel_rfl
 i210:=by kernel_rfl
 i212:=by kernel_rfl
 i232:=by kernel_rfl
 i233:=by kernel_rfl
 m15:=by kernel_rfl
 m16:=by kernel_rfl
 m17:=by kernel_rfl
 m18:=by kernel_rfl
 m19:=by kernel_rfl
 c0:=by kernel_rfl
 c2:=by kernel_rfl
 c3:=by kernel_rfl
 c4:=by kernel_rfl
 c5:=by kernel_rfl
 c9:=by kernel_rfl
 c20:=by kernel_rfl
 c21:=by kernel_rfl
 c37:=by kernel_rfl
 c46:=by kernel_rfl
 c51:=by kernel_rfl
 c53:=by kernel_rfl
 c75:=by kernel_rfl
 c80:=by kernel_rfl
 c85:=by kernel_rfl
 c127:=by kernel_rfl
 c143:=by kernel_rfl
 c145:=by kernel_rfl
 c167:=by kernel_rfl
 c168:=by kernel_rfl
 c171:=by kernel_rfl
 c173:=by kernel_rfl
 c175:=by kernel_rfl
 c210:=by kernel_rfl
 c212:=by kernel_rfl
 c213:=by kernel_rfl
 c232:=by kernel_rfl
 c233:=by kernel_rfl }
open Go.RowKit in
theorem QI(s)(hmax:s.size<=9223372036854775806)(v)(h:Lib.parseIntB 64 s.data.toList=.ok v)(w):
 Calls prog 171 #[aE s,G 10,G 64] w fun e w'=>e=aD (.tuple #[G v,.nilIface])/\(w'=w\/∃t,w'=Lib.bytesWorld w 5 t):=Any.strconv_ParseInt_10_at64_ok QH s hmax v h w
def QJ:Go.Shelf.Ren:=⟨fun|144=>214|143=>270|219=>285|217=>173|225=>291|224=>292|267=>293|266=>212|314=>296|n=>n,fun|9=>9|4=>4|3=>3|5=>5|46=>146|146=>316|51=>177|n=>n,fun|1=>3|n=>n⟩
theorem QK:Go.Proofs.Lays.n144 prog QJ:={
 mixed:=by kernel_rfl
 f143:=func270.trans (NM some (by kernel_rfl))
 f144:=func214.trans (NM some (by kernel_rfl))
 f217:=func173.trans (NM some (by kernel_rfl))
 f219:=func285.trans (NM some (by kernel_rfl))
 f224:=func292.trans (NM some (by kernel_rfl))
 f225:=func291.trans (NM some (by kernel_rfl))
 f266:=func212.trans (NM some (by kernel_rfl))
 f267:=func293.trans (NM some (by kernel_rfl))
 f314:=func296.trans (NM some (by kernel_rfl))
 t3:=MR
 a3:=isAgg3
 z3:=Ht
 v3:=Mf
 t4:=JZ
 a4:=isAgg4
 z4:=Hn
 v4:=ML
 t5:=PL
 a5:=isAgg5
 z5:=sizeOf5
 v5:=zeroValue5
 t9:=YY
 a9:=isAgg9
 z9:=PK
 v9:=Mg
 t46:=underlying146
 a46:=isAgg146
 z46:=sizeOf146
 v46:=zeroValue146
 t51:=underlying177
 a51:=isAgg177
 z51:=sizeOf177
 v51:=zeroValue177
 t146:=underlying316
 a146:=isAgg316
 z146:=sizeOf316
 v146:=zeroValue316
 g1:=by kernel_rfl }
open Go.RowKit Go.Lib in
theorem QL(s)(c)(w):
 Calls prog 214 #[aE s,.string ⟨#[c]⟩] w fun e w'=>e=aD (.bool (decide (0<=Lib.indexByte s.data.toList c)))/\w'=w:=Any.strings_Contains_one QK s c w
def QM:Go.Shelf.Ren:=⟨fun|100=>213|207=>269|n=>n,fun|9=>9|4=>4|3=>3|n=>n,fun|n=>n⟩
theorem QN:Go.Proofs.Lays.n100 prog QM:={
 mixed:=by kernel_rfl
 f100:=func213.trans (NM some (by kernel_rfl))
 f207:=func269.trans (NM some (by kernel_rfl))
 t3:=MR
 a3:=isAgg3
 z3:=Ht
 v3:=Mf
 t4:=JZ
 a4:=isAgg4
 z4:=Hn
 v4:=ML
 t9:=YY
 a9:=isAgg9
 z9:=PK
 v9:=Mg }
open Go.RowKit Go.Lib in
theorem QO(s p)(w)(hs:s.size<=9223372036854775807):
 Calls prog 213 #[aE s,aE p] w fun e w'=>e=aD (.bool (Lib.hasSuffix s.data.toList p.data.toList))/\w'=w:=Any.strings_HasSuffix QN s p w hs
def QP:Go.Shelf.Ren:=⟨fun|212=>272|263=>286|264=>287|n=>n,fun|46=>146|51=>177|146=>316|53=>138|148=>318|n=>n,fun|n=>n⟩
theorem QQ:Go.Proofs.Lays.n212 prog QP:={
 mixed:=by kernel_rfl
 f212:=func272.trans (NM some (by kernel_rfl))
 f263:=func286.trans (NM some (by kernel_rfl))
 f264:=func287.trans (NM some (by kernel_rfl))
 t46:=underlying146
 a46:=isAgg146
 z46:=sizeOf146
 v46:=zeroValue146
 t51:=underlying177
 a51:=isAgg177
 z51:=sizeOf177
 v51:=zeroValue177
 t53:=underlying138
 a53:=isAgg138
 z53:=sizeOf138
 v53:=zeroValue138
 t146:=underlying316
 a146:=isAgg316
 z146:=sizeOf316
 v146:=zeroValue316
 t148:=underlying318
 a148:=isAgg318
 z148:=sizeOf318
 v148:=zeroValue318 }
open Go.RowKit Go.Lib in
theorem QR(x y:Nat)(hx:x<18446744073709551616)(hy:y<18446744073709551616)(w):
 Calls prog 272 #[.int .u64 x,.int .u64 y] w fun e w'=>e=aD (.tuple #[.int .u64 ((x*y / 18446744073709551616:Nat):Int),.int .u64 ((x*y % 18446744073709551616:Nat):Int)])/\w'=w:=Any.bits_Mul QQ x y hx hy w
def QS:Go.Shelf.Ren:=⟨fun|111=>256|n=>n,fun|28=>37|3=>3|4=>4|0=>0|n=>n,fun|n=>n⟩
theorem QT:Go.Proofs.Lays.n111 prog QS:={
 mixed:=by kernel_rfl
 f111:=func256.trans (NM some (by kernel_rfl))
 t0:=Ma
 a0:=isAgg0
 z0:=sizeOf0
 v0:=Mn
 t3:=MR
 a3:=isAgg3
 z3:=Ht
 v3:=Mf
 t4:=JZ
 a4:=isAgg4
 z4:=Hn
 v4:=ML
 t28:=JH
 a28:=isAgg37
 z28:=sizeOf37
 v28:=zeroValue37 }
open Go.RowKit Go.Lib in
theorem QU(b1 o1 n c b2 o2 m d)(xs ys:List Int)(w)(hx:n<=xs.length)(hy:m<=ys.length)(hbig:n<=9223372036854775807)(hbig2:m<=9223372036854775807)(hc1:∀j,j<xs.length->w.cell? (U b1 (o1+j))=some (G (xs.getD j 0)))(hc2:∀j,j<ys.length->w.cell? (U b2 (o2+j))=some (G (ys.getD j 0))):
 Calls prog 256 #[aI b1 o1 n c,aI b2 o2 m d] w fun e w'=>e=aD (.bool (xs.take n == ys.take m))/\∃q,w'=w.drewN q:=Any.slices_Equal_int QT b1 o1 n c b2 o2 m d xs ys w hx hy hbig hbig2 hc1 hc2
open Go.RowKit Go.Lib in
theorem QV(a1 a2)(c m d)(w)(hbig2:m<=9223372036854775807):
 Calls prog 256 (aL a1 0 c a2 m d) w fun e w'=>e=aD (.bool (decide (m=0)))/\w'=w:=Any.slices_Equal_int_empty QT a1 a2 c m d w hbig2
def QW:Go.Shelf.Ren:=⟨fun|41=>79|n=>n,fun|22=>37|23=>3|4=>4|n=>n,fun|n=>n⟩
theorem QX:Go.Proofs.SlLaysE0.n41 prog QW:={
 mixed:=by kernel_rfl
 f41:=⟨f79.name,by decide,func79.trans (NM some (by kernel_rfl))⟩
 t4:=JZ
 a4:=isAgg4
 z4:=Hn
 v4:=ML
 t22:=JH
 a22:=isAgg37
 z22:=sizeOf37
 v22:=zeroValue37 }
open Go.RowKit Go.Lib in
theorem QY(i0)(z)(size bytes)(hi:prog.info? 3=some i0)(hz0:i0.zero=some z)(hz1:i0.size=size)(hz2:i0.bytes=bytes)(hzs:z.cells.size=size)(hsz:0<size)(z23:∀w,(Go.sizeOf 3).run prog w=.ok size w)(b off n c)(news)(w)(hl:news.length=n*size)(hn:n<=maxLen)(hbig:n*bytes<=140737488355328)(hc:∀j u,news[j]?=some u->w.cell? (U b (off+j))=some u)(h1:∀u ∈ news,u.oneCell'=true):
 Calls prog 79 #[aI b off n c] w fun e w'=>∃v',e=aD v'/\w'.ownsRow w.1.size 3 size v' n news/\v'≠aH/\J w w':=AnyE.slices_Clone QX i0 z size bytes hi hz0 hz1 hz2 hzs hsz z23 b off n c news w hl hn hbig hc h1
def QZ:Go.Shelf.Ren:=⟨fun|41=>80|n=>n,fun|22=>32|23=>2|4=>4|n=>n,fun|n=>n⟩
theorem VA:Go.Proofs.SlLaysE0.n41 prog QZ:={
 mixed:=by kernel_rfl
 f41:=⟨f80.name,by decide,func80.trans (NM some (by kernel_rfl))⟩
 t4:=JZ
 a4:=isAgg4
 z4:=Hn
 v4:=ML
 t22:=ZP
 a22:=isAgg32
 z22:=sizeOf32
 v22:=zeroValue32 }
open Go.RowKit Go.Lib in
theorem VB(i0)(z)(size bytes)(hi:prog.info? 2=some i0)(hz0:i0.zero=some z)(hz1:i0.size=size)(hz2:i0.bytes=bytes)(hzs:z.cells.size=size)(hsz:0<size)(z23:∀w,(Go.sizeOf 2).run prog w=.ok size w)(b off n c)(news)(w)(hl:news.length=n*size)(hn:n<=maxLen)(hbig:n*bytes<=140737488355328)(hc:∀j u,news[j]?=some u->w.cell? (U b (off+j))=some u)(h1:∀u ∈ news,u.oneCell'=true):
 Calls prog 80 #[aI b off n c] w fun e w'=>∃v',e=aD v'/\w'.ownsRow w.1.size 2 size v' n news/\v'≠aH/\J w w':=AnyE.slices_Clone VA i0 z size bytes hi hz0 hz1 hz2 hzs hsz z23 b off n c news w hl hn hbig hc h1
open Go.RowKit Go.Lib in
theorem VC(n c)(w):
 Calls prog 79 #[E none n c] w fun e w'=>e=aD aH/\w'=w:=AnyE.slices_Clone_nil QX n c w
open Go.RowKit Go.Lib in
theorem VD(n c)(w):
 Calls prog 80 #[E none n c] w fun e w'=>e=aD aH/\w'=w:=AnyE.slices_Clone_nil VA n c w
open Go.RowKit in
theorem VE(s)(hlim:s.size<=281474976710656)(h:Lib.parseIntB 64 s.data.toList=.range)(ev)(w)(hv:w.cell? (U 5 0)=some ev)(hev:ev=.nilIface\/∃te pe,ev=.iface te pe):
 Calls prog 171 #[aE s,G 10,G 64] w fun e w'=>∃v N,e=aD (.tuple #[G v,.iface 300 (aJ N 0)])/\J w w':=by
 refine(Any.strconv_ParseInt_10_at64_range QH s hlim h ev w hv hev).mono ?_;rintro e w' ⟨N,b,_,_,a⟩;exact⟨_,N,b,a⟩
open Go.RowKit in
theorem VF(s)(h:s.size=0)(ev)(w)(hv:w.cell? (U 4 0)=some ev)(hev:ev=.nilIface\/∃te pe,ev=.iface te pe):
 Calls prog 171 #[aE s,G 10,G 64] w fun e w'=>∃v N,e=aD (.tuple #[G v,.iface 300 (aJ N 0)])/\J w w':=by
 obtain⟨⟨l⟩⟩:=s;have c:l=[]:=ZV.1 h;subst c;refine(Any.strconv_ParseInt_10_at64_syntax QH ⟨#[]⟩ (by decide) rfl ev w hv hev).mono ?_;rintro e w' ⟨N,b,_,_,a⟩;exact⟨_,N,b,a⟩
theorem Zg(c)(w):
 Calls prog 143 #[.int .u8 c] w fun e w'=>e=aD (.bool (digB c))/\w'=w:=by
 by_cases a:48<=c
 all_goals
  go_enter func143,ntmps143;go_wp2;go_ret;refine⟨?_,rfl⟩;unfold digB;congr 2;simp;try omega
theorem Ys(c)(w):
 Calls prog 145 #[.int .u8 c] w fun e w'=>e=aD (.bool (letB c))/\w'=w:=by
 by_cases a:97<=c
 all_goals
  go_enter func145,ntmps145;go_wp2;go_ret;refine⟨?_,rfl⟩;unfold letB;congr 2;simp;try omega
def Zb(t:ByteArray):Int :=
 bif t.toList == [105,111,116,97]then 1 else bif t.toList == [117,112]then 1 else bif t.toList == [100,111,119,110]then 1 else bif t.toList == [102,108,105,112]then 1 else bif t.toList == [114,97,118,101,108]then 1 else bif t.toList == [114,104,111]then 3 else bif t.toList == [114,101,118]then 3 else bif t.toList == [116,97,107,101]then 2 else bif t.toList == [100,114,111,112]then 2 else bif t.toList == [99,97,116]then 2 else bif t.toList == [105,110]then 2 else bif t.toList == [97,116]then 2 else bif t.toList == [107,101,101,112]then 2 else 0
theorem G3(t)(w):
 Calls prog 172 #[aE t] w fun e w'=>e=aD (G (Zb t))/\w'=w:=by
 cases h0:(t.toList == [105,111,116,97]);rotate_left
 .go_enter func172,ntmps172;go_wp2_with fail;go_ret;exact⟨Jm (by simp[Zb,h0]),rfl⟩
 cases h1:(t.toList == [117,112]);rotate_left
 .go_enter func172,ntmps172;go_wp2_with fail;go_ret;exact⟨Jm (by simp[Zb,h0,h1]),rfl⟩
 cases h2:(t.toList == [100,111,119,110]);rotate_left
 .go_enter func172,ntmps172;go_wp2_with fail;go_ret;exact⟨Jm (by simp[Zb,h0,h1,h2]),rfl⟩
 cases h3:(t.toList == [102,108,105,112]);rotate_left
 .go_enter func172,ntmps172;go_wp2_with fail;go_ret;exact⟨Jm (by simp[Zb,h0,h1,h2,h3]),rfl⟩
 cases h4:(t.toList == [114,97,118,101,108]);rotate_left
 .go_enter func172,ntmps172;go_wp2_with fail;go_ret;exact⟨Jm (by simp[Zb,h0,h1,h2,h3,h4]),rfl⟩
 cases h5:(t.toList == [114,104,111]);rotate_left
 .go_enter func172,ntmps172;go_wp2_with fail;go_ret;exact⟨Jm (by simp[Zb,h0,h1,h2,h3,h4,h5]),rfl⟩
 cases h6:(t.toList == [114,101,118]);rotate_left
 .go_enter func172,ntmps172;go_wp2_with fail;go_ret;exact⟨Jm (by simp[Zb,h0,h1,h2,h3,h4,h5,h6]),rfl⟩
 cases h7:(t.toList == [116,97,107,101]);rotate_left
 .go_enter func172,ntmps172;go_wp2_with fail;go_ret;exact⟨Jm (by simp[Zb,h0,h1,h2,h3,h4,h5,h6,h7]),rfl⟩
 cases h8:(t.toList == [100,114,111,112]);rotate_left
 .go_enter func172,ntmps172;go_wp2_with fail;go_ret;exact⟨Jm (by simp[Zb,h0,h1,h2,h3,h4,h5,h6,h7,h8]),rfl⟩
 cases h9:(t.toList == [99,97,116]);rotate_left
 .go_enter func172,ntmps172;go_wp2_with fail;go_ret;exact⟨Jm (by simp[Zb,h0,h1,h2,h3,h4,h5,h6,h7,h8,h9]),rfl⟩
 cases h10:(t.toList == [105,110]);rotate_left
 .go_enter func172,ntmps172;go_wp2_with fail;go_ret;exact⟨Jm (by simp[Zb,h0,h1,h2,h3,h4,h5,h6,h7,h8,h9,h10]),rfl⟩
 cases h11:(t.toList == [97,116]);rotate_left
 .go_enter func172,ntmps172;go_wp2_with fail;go_ret;exact⟨Jm (by simp[Zb,h0,h1,h2,h3,h4,h5,h6,h7,h8,h9,h10,h11]),rfl⟩
 cases h12:(t.toList == [107,101,101,112]);rotate_left
 .go_enter func172,ntmps172;go_wp2_with fail;go_ret;exact⟨Jm (by simp[Zb,h0,h1,h2,h3,h4,h5,h6,h7,h8,h9,h10,h11,h12]),rfl⟩
 go_enter func172,ntmps172;go_wp2_with fail;go_ret;exact⟨Jm (by simp[Zb,h0,h1,h2,h3,h4,h5,h6,h7,h8,h9,h10,h11,h12]),rfl⟩
theorem F6(t:ByteArray)(k)(hk:k<=t.size)(ha:(t.data.toList.take k).all dU=true)(hs:∀c,t.data.toList[k]?=some c->dU c=false):(k:Int)=(t.data.toList.takeWhile dU).length:=by
 rw[Jbr ha hs,YD];have:t.data.toList.length=t.size:=by simp
 omega
theorem Ge(t)(w)(hs:t.size<=200):
 Calls prog 170 #[aE t,.func (Fn.func 143) #[] #[]] w fun e w'=>e=aD (G (t.data.toList.takeWhile dU).length)/\w'=w:=by
 go_enter func170,ntmps170;go_wp2_with fail;go_loop [8] (fun i=>∃k:Nat,k<=t.size/\i=G k/\(t.data.toList.take k).all dU=true) (fun i=>t.size-(intOf i).toNat)
 .exact ⟨0,ZL _,rfl,by simp⟩
 obtain⟨k,f,rfl,b⟩:=hrel;by_cases hlt:k<t.size
 .have d:=Jai t 0 k (by omega);simp only[Mi,ZY]at d;cases hg:digB ((t[k]'hlt).toNat:Int)
  .go_wp2_with (go_at_call 143;refine aQ (Zg _ _) ?_);go_ret;exact⟨Jm (F6 t k f b (by
    intro c a;rw[d]at a;injection a with e;subst e;exact hg)),rfl⟩
  go_wp2_with (go_at_call 143;refine aQ (Zg _ _) ?_);go_round
  .exact ⟨k+1,by omega,by go_num,Q8 d b hg⟩
  simp[intOf];omega
 have d:k=t.size:=by omega
 go_wp2_with (go_at_call 143;refine aQ (Zg _ _) ?_);go_ret;refine⟨Jm ?_,rfl⟩;rw[<-F6 t k f b (by
  intro c a;rw[MF (by have:=d;simp;omega)]at a;cases a)]
 rw[d]
theorem F4(t:ByteArray)(k)(hk:k<=t.size)(ha:(t.data.toList.take k).all lU=true)(hs:∀c,t.data.toList[k]?=some c->lU c=false):(k:Int)=(t.data.toList.takeWhile lU).length:=by
 rw[Jbr ha hs,YD];have:t.data.toList.length=t.size:=by simp
 omega
theorem Jlg(t)(w)(hs:t.size<=200):
 Calls prog 170 #[aE t,.func (Fn.func 145) #[] #[]] w fun e w'=>e=aD (G (t.data.toList.takeWhile lU).length)/\w'=w:=by
 go_enter func170,ntmps170;go_wp2_with fail;go_loop [8] (fun i=>∃k:Nat,k<=t.size/\i=G k/\(t.data.toList.take k).all lU=true) (fun i=>t.size-(intOf i).toNat)
 .exact ⟨0,ZL _,rfl,by simp⟩
 obtain⟨k,f,rfl,b⟩:=hrel;by_cases hlt:k<t.size
 .have d:=Jai t 0 k (by omega);simp only[Mi,ZY]at d;cases hg:letB ((t[k]'hlt).toNat:Int)
  .go_wp2_with (go_at_call 145;refine aQ (Ys _ _) ?_);go_ret;exact⟨Jm (F4 t k f b (by
    intro c a;rw[d]at a;injection a with e;subst e;exact hg)),rfl⟩
  go_wp2_with (go_at_call 145;refine aQ (Ys _ _) ?_);go_round
  .exact ⟨k+1,by omega,by go_num,Q8 d b hg⟩
  simp[intOf];omega
 have d:k=t.size:=by omega
 go_wp2_with (go_at_call 145;refine aQ (Ys _ _) ?_);go_ret;refine⟨Jm ?_,rfl⟩;rw[<-F4 t k f b (by
  intro c a;rw[MF (by have:=d;simp;omega)]at a;cases a)]
 rw[d]
theorem Jrm:∀(l:List UInt8) (c:UInt8),c ∈ l->0<=Lib.indexByte l c
 | b::l,c,h=>by
  unfold Lib.indexByte;by_cases e:(b == c)=true
  .simp_all
  rw[FU e];have hm:c ∈ l:=by
   rcases JO.1 h with h|h
   .simp_all
   exact h
  have:=Jrm l c hm;simp;omega
theorem J0c:∀(l:List UInt8) (c:UInt8),c ∉ l->Lib.indexByte l c=-1
 | [],_,_=>rfl
 | b::l,c,h=>by
  unfold Lib.indexByte;have h1:¬ (b == c)=true:=by
   intro a;exact h (JO.2 (NN (NQ.1 a).symm))
  rw[FU h1];have:=J0c l c (fun a=>h (JO.2 (NO a)));simp;omega
theorem Jn3(c):((c.toNat:Int).toNat.toUInt8)=c:=by
 simp
theorem Jj8(c):Gt c=true↔c ∈ ([47,92,46]:List UInt8):=by
 simp[Gt,or_assoc]
theorem Jm2(c)(w)(h:Gt c=true):
 Calls prog 147 #[.string ⟨#[47,92,46]⟩,.int .u8 c.toNat] w fun e w'=>∃v:Int,0<=v/\e=aD (G v)/\w'=w:=by
 refine aQ (QC _ _ w) ?_;refine⟨_,?_,rfl,rfl⟩;simp_all[Jrm,Jj8]
theorem Jrn(c)(w)(h:Gt c=false):
 Calls prog 147 #[.string ⟨#[47,92,46]⟩,.int .u8 c.toNat] w fun e w'=>e=aD (G (-1))/\w'=w:=by
 refine aQ (QC _ _ w) ?_;refine⟨Jm ?_,rfl⟩;grind[Jn3,J0c,Jj8]
theorem Jij(c):gU c=true↔c ∈ ([43,45,42,37,124,38,33,61,60]:List UInt8):=by
 have a:∀n:Nat,n<256->(((c.toNat:Int)=(n:Int))↔c=UInt8.ofNat n):=by
  intro n b;constructor
  .grind [UInt8.toNat_inj,UInt8.toNat_ofNat_of_lt']
  simp_all;omega
 have b:=a 43 (by decide);have:=a 45 (by decide);have:=a 42 (by decide);have:=a 37 (by decide);have:=a 124 (by decide);have:=a 38 (by decide);have:=a 33 (by decide);have:=a 61 (by decide);have:=a 60 (by decide);simp_all[gU,sgnB]
theorem Jro(c)(w)(h:gU c=true):
 Calls prog 147 #[.string ⟨#[43,45,42,37,124,38,33,61,60]⟩,.int .u8 c.toNat] w fun e w'=>∃v:Int,0<=v/\e=aD (G v)/\w'=w:=by
 refine aQ (QC _ _ w) ?_;refine⟨_,?_,rfl,rfl⟩;simp_all[Jrm,Jij]
theorem Jwh(c)(w)(h:gU c=false):
 Calls prog 147 #[.string ⟨#[43,45,42,37,124,38,33,61,60]⟩,.int .u8 c.toNat] w fun e w'=>e=aD (G (-1))/\w'=w:=by
 refine aQ (QC _ _ w) ?_;refine⟨Jm ?_,rfl⟩;grind[Jn3,J0c,Jij]
def Jat(t:ByteArray):Int :=
 bif Lib.hasSuffix t.data.toList [46]then 2 else bif decide (1<t.size)then 1 else bif decide (0<=Lib.indexByte [43,45,42,124] (t.data.toList.headD 0))then 3 else 2
theorem Fb(t)(w)(h0:0<t.size)(hs:t.size<=200):
 Calls prog 174 #[aE t] w fun e w'=>e=aD (G (Jat t))/\w'=w:=by
 cases hx:Lib.hasSuffix t.data.toList [46]
 .by_cases a:1<t.size
  .go_enter func174,ntmps174;go_wp2_with fail;refine aQ (QO _ _ _ (by omega)) ?_;go_wp2;go_ret;exact⟨Jm (by simp_all[Jat]),rfl⟩
  obtain⟨c,rfl⟩:∃c,t=⟨#[c]⟩:=by
   obtain⟨⟨l⟩⟩:=t;match l,h0,a with
   | [c],_,_=>simp
   | c::d::l,_,a=>exact absurd (show 1<(c::d::l).length by simp) a
  cases hi:decide (0<=Lib.indexByte [43,45,42,124] c)
  all_goals
   go_enter func174,ntmps174;go_wp2_with fail;refine aQ (QO _ _ _ (by omega)) ?_;go_wp2_with fail;refine aQ (QL _ _ _) ?_;go_wp2;go_ret;refine⟨Jm ?_,rfl⟩;grind[Jat]
 go_enter func174,ntmps174;go_wp2_with fail;refine aQ (QO _ _ _ (by omega)) ?_;go_wp2;go_ret;exact⟨Jm (by grind[Jat]),rfl⟩
end Go.Proofs.YtjobgpahajhbnaaGreatDoor
