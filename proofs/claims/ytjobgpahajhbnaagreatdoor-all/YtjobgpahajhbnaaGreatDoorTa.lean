import Derived.ProofKit
import Derived.OpenShut
import Derived.LoopN
import Derived.Test.YtjobgpahajhbnaaGreatDoorEd
import Derived.Maps.OwnSet
import Derived.Laws.EntriesVeiled
import Derived.Test.YtjobgpahajhbnaaGreatDoorRf
namespace Go.Proofs.YtjobgpahajhbnaaGreatDoor
open Go.RowKit Go.Proofs Go.Maps Go.Proofs.Tryz
attribute [local go_sem ↓] Go.wp_at_zero Go.wp_at_succ
set_option linter.all false
set_option maxHeartbeats 4000000
set_option maxRecDepth 20000
variable {a:Arr} {b g k:Nat} {f:Int->Int->Int × Int} {kl:Lit} {t:ByteArray} {w:World} {z:Int}
theorem Jc{H:Type}{P:Program}(w){ops:Array Oper}{rest:List Oper}{o:Oper}{a:Act}{Q:Exit->Act->World->Prop}
 (hg:o.guard=none) (m x v) (t) (hop:o.op=Op.insert t m x v)
 (k e) (K:Keyed P k) (ht:P.underlying t=some (.map k e)) (R) (b n) (D)
 (hm:a.eval m=.map (some b)) (hown:w.ownsMap P k R b n D) (hn:n<maxLen) (key val) (kl) (hx:a.eval x=key) (hv:a.eval v=val) (hkey:keyOf P k key=some kl)
 (d:DataW H) (ps:List MemPlace) (hval:R val=some (d,ps))
 (hK:∀w',w'.ownsMap P k R b (n+1) (D.put kl d)->w.grownBy w' (some b)->wpList P ops Q rest (a.put o.dst undef) w'):
 wpList P ops Q (o::rest) a w:=by
 refine wpList_plain hg fun i c=>?_;obtain⟨w',f,g,h⟩:=hown.update K ht hn hkey hval;unfold Oper.wp;simp[execOp,hop,hm,hx,hv,f,Result.andThen];exact c _ _ (hK w' g h)
theorem VM:Keyed prog 9:=string_keyed YY
def J0(v:Value):Option (DataW Value × List MemPlace):=some (.held v,[])
theorem VN(w):(zeroValue 241).run prog w=.ok (.agg #[.nilFunc,G 0]) w:=by kernel_rfl
theorem Jj{w1 w2:World}(h:Below b w w1)(hb:b=w.1.size)(hg:w1.grownBy w2 (some b)):Below b w w2:=h.grown hg (by rw[hb];exact h.size) (fun q hq=>by simp_all)
def signsD:DataW Value:=((((((((((.map []:DataW Value).put (.string [43]) (.held (.agg #[.func (.func 190) #[] #[],.int .i64 0]))).put (.string [45]) (.held (.agg #[.func (.func 191) #[] #[],.int .i64 0]))).put (.string [42]) (.held (.agg #[.func (.func 192) #[] #[],.int .i64 1]))).put (.string [37]) (.held (.agg #[.func (.func 193) #[] #[],.int .i64 1]))).put (.string [124]) (.held (.agg #[.func (.func 194) #[] #[],.int .i64 0]))).put (.string [38]) (.held (.agg #[.func (.func 195) #[] #[],.int .i64 9223372036854775807]))).put (.string [33]) (.held (.agg #[.func (.func 196) #[] #[],.int .i64 (-9223372036854775808)]))).put (.string [61]) (.held (.agg #[.func (.func 197) #[] #[],.int .i64 1]))).put (.string [60]) (.held (.agg #[.func (.func 198) #[] #[],.int .i64 0])))
theorem Qs(w):Calls prog 154 #[] w fun e w'=>e=aD (.map (some w.1.size))/\w'.ownsMap prog 9 J0 w.1.size 9 signsD/\J w w':=by
 have:=@run_makeMap prog;have l:J w (w.alloc (.map #[] 0)):=belA1;have k:=MW w prog 9 J0;go_enter func154,ntmps154;go_wp2_with (refine Jc _ rfl _ _ _ 242 rfl 9 241 VM YW J0 _ _ _ rfl k (by decide) _ _ (.string [43]) rfl rfl rfl (.held (.agg #[aC 190,G 0])) [] rfl ?_);intro L x m;have a:=Jj l rfl m;go_wp2_with (refine Jc _ rfl _ _ _ 242 rfl 9 241 VM YW J0 _ _ _ rfl x (by decide) _ _ (.string [45]) rfl rfl rfl (.held (.agg #[aC 191,G 0])) [] rfl ?_);intro N y n;have b:=Jj a rfl n;go_wp2_with (refine Jc _ rfl _ _ _ 242 rfl 9 241 VM YW J0 _ _ _ rfl y (by decide) _ _ (.string [42]) rfl rfl rfl (.held (.agg #[aC 192,G 1])) [] rfl ?_);intro P z o;have c:=Jj b rfl o;go_wp2_with (refine Jc _ rfl _ _ _ 242 rfl 9 241 VM YW J0 _ _ _ rfl z (by decide) _ _ (.string [37]) rfl rfl rfl (.held (.agg #[aC 193,G 1])) [] rfl ?_);intro Q A p;have d:=Jj c rfl p;go_wp2_with (refine Jc _ rfl _ _ _ 242 rfl 9 241 VM YW J0 _ _ _ rfl A (by decide) _ _ (.string [124]) rfl rfl rfl (.held (.agg #[aC 194,G 0])) [] rfl ?_);intro R B q;have f:=Jj d rfl q;go_wp2_with (refine Jc _ rfl _ _ _ 242 rfl 9 241 VM YW J0 _ _ _ rfl B (by decide) _ _ (.string [38]) rfl rfl rfl (.held (.agg #[aC 195,G 9223372036854775807])) [] rfl ?_);intro S C r;have g:=Jj f rfl r;go_wp2_with (refine Jc _ rfl _ _ _ 242 rfl 9 241 VM YW J0 _ _ _ rfl C (by decide) _ _ (.string [33]) rfl rfl rfl (.held (.agg #[aC 196,G (-9223372036854775808)])) [] rfl ?_);intro T D s;have h:=Jj g rfl s;go_wp2_with (refine Jc _ rfl _ _ _ 242 rfl 9 241 VM YW J0 _ _ _ rfl D (by decide) _ _ (.string [61]) rfl rfl rfl (.held (.agg #[aC 197,G 1])) [] rfl ?_);intro W F t;have i:=Jj h rfl t;go_wp2_with (refine Jc _ rfl _ _ _ 242 rfl 9 241 VM YW J0 _ _ _ rfl F (by decide) _ _ (.string [60]) rfl rfl rfl (.held (.agg #[aC 198,G 0])) [] rfl ?_);intro X H u;have j:=Jj i rfl u;go_wp2;go_ret;exact⟨rfl,H,j⟩
def formsOneD:DataW Value:=(((.map []:DataW Value).put (.string [47]) (.held (.func (.func 177) #[] #[]))).put (.string [92]) (.held (.func (.func 178) #[] #[])))
theorem Q5(w):Calls prog 152 #[] w fun e w'=>e=aD (.map (some w.1.size))/\w'.ownsMap prog 9 J0 w.1.size 2 formsOneD/\J w w':=by
 have:=@run_makeMap prog;have d:J w (w.alloc (.map #[] 0)):=belA1;have c:=MW w prog 9 J0;go_enter func152,ntmps152;go_wp2_with (refine Jc _ rfl _ _ _ 236 rfl 9 235 VM underlying236 J0 _ _ _ rfl c (by decide) _ _ (.string [47]) rfl rfl rfl (.held (aC 177)) [] rfl ?_);intro k h f;have a:=Jj d rfl f;go_wp2_with (refine Jc _ rfl _ _ _ 236 rfl 9 235 VM underlying236 J0 _ _ _ rfl h (by decide) _ _ (.string [92]) rfl rfl rfl (.held (aC 178)) [] rfl ?_);intro l i g;have b:=Jj a rfl g;go_wp2;go_ret;exact⟨rfl,i,b⟩
def onesD:DataW Value:=((((((((((((.map []:DataW Value).put (.string [43]) (.held (.func (.func 179) #[] #[]))).put (.string [45]) (.held (.func (.func 180) #[] #[]))).put (.string [42]) (.held (.func (.func 181) #[] #[]))).put (.string [124]) (.held (.func (.func 182) #[] #[]))).put (.string [105,111,116,97]) (.held (.func (.func 183) #[] #[]))).put (.string [114,104,111]) (.held (.func (.func 184) #[] #[]))).put (.string [114,97,118,101,108]) (.held (.func (.func 185) #[] #[]))).put (.string [114,101,118]) (.held (.func (.func 186) #[] #[]))).put (.string [117,112]) (.held (.func (.func 187) #[] #[]))).put (.string [100,111,119,110]) (.held (.func (.func 188) #[] #[]))).put (.string [102,108,105,112]) (.held (.func (.func 189) #[] #[])))
theorem Jvq(w):Calls prog 153 #[] w fun e w'=>e=aD (.map (some w.1.size))/\w'.ownsMap prog 9 J0 w.1.size 11 onesD/\J w w':=by
 have:=@run_makeMap prog;have n:J w (w.alloc (.map #[] 0)):=belA1;have m:=MW w prog 9 J0;go_enter func153,ntmps153;go_wp2_with (refine Jc _ rfl _ _ _ 238 rfl 9 201 VM JP J0 _ _ _ rfl m (by decide) _ _ (.string [43]) rfl rfl rfl (.held (aC 179)) [] rfl ?_);intro T B o;have a:=Jj n rfl o;go_wp2_with (refine Jc _ rfl _ _ _ 238 rfl 9 201 VM JP J0 _ _ _ rfl B (by decide) _ _ (.string [45]) rfl rfl rfl (.held (aC 180)) [] rfl ?_);intro Y F r;have d:=Jj a rfl r;go_wp2_with (refine Jc _ rfl _ _ _ 238 rfl 9 201 VM JP J0 _ _ _ rfl F (by decide) _ _ (.string [42]) rfl rfl rfl (.held (aC 181)) [] rfl ?_);intro Z H s;have f:=Jj d rfl s;go_wp2_with (refine Jc _ rfl _ _ _ 238 rfl 9 201 VM JP J0 _ _ _ rfl H (by decide) _ _ (.string [124]) rfl rfl rfl (.held (aC 182)) [] rfl ?_);intro aa K t;have g:=Jj f rfl t;go_wp2_with (refine Jc _ rfl _ _ _ 238 rfl 9 201 VM JP J0 _ _ _ rfl K (by decide) _ _ (.string [105,111,116,97]) rfl rfl rfl (.held (aC 183)) [] rfl ?_);intro ab L u;have h:=Jj g rfl u;go_wp2_with (refine Jc _ rfl _ _ _ 238 rfl 9 201 VM JP J0 _ _ _ rfl L (by decide) _ _ (.string [114,104,111]) rfl rfl rfl (.held (aC 184)) [] rfl ?_);intro ac N x;have i:=Jj h rfl x;go_wp2_with (refine Jc _ rfl _ _ _ 238 rfl 9 201 VM JP J0 _ _ _ rfl N (by decide) _ _ (.string [114,97,118,101,108]) rfl rfl rfl (.held (aC 185)) [] rfl ?_);intro ad P y;have j:=Jj i rfl y;go_wp2_with (refine Jc _ rfl _ _ _ 238 rfl 9 201 VM JP J0 _ _ _ rfl P (by decide) _ _ (.string [114,101,118]) rfl rfl rfl (.held (aC 186)) [] rfl ?_);intro ae Q z;have k:=Jj j rfl z;go_wp2_with (refine Jc _ rfl _ _ _ 238 rfl 9 201 VM JP J0 _ _ _ rfl Q (by decide) _ _ (.string [117,112]) rfl rfl rfl (.held (aC 187)) [] rfl ?_);intro af R A;have l:=Jj k rfl A;go_wp2_with (refine Jc _ rfl _ _ _ 238 rfl 9 201 VM JP J0 _ _ _ rfl R (by decide) _ _ (.string [100,111,119,110]) rfl rfl rfl (.held (aC 188)) [] rfl ?_);intro W C p;have b:=Jj l rfl p;go_wp2_with (refine Jc _ rfl _ _ _ 238 rfl 9 201 VM JP J0 _ _ _ rfl C (by decide) _ _ (.string [102,108,105,112]) rfl rfl rfl (.held (aC 189)) [] rfl ?_);intro X D q;have c:=Jj b rfl q;go_wp2;go_ret;exact⟨rfl,D,c⟩
def formsTwoD:DataW Value:=((.map []:DataW Value).put (.string [46]) (.held (.func (.func 199) #[] #[])))
theorem Q4(w):Calls prog 157 #[] w fun e w'=>e=aD (.map (some w.1.size))/\w'.ownsMap prog 9 J0 w.1.size 1 formsTwoD/\J w w':=by
 have:=@run_makeMap prog;have c:J w (w.alloc (.map #[] 0)):=belA1;have b:=MW w prog 9 J0;go_enter func157,ntmps157;go_wp2_with (refine Jc _ rfl _ _ _ 247 rfl 9 246 VM underlying247 J0 _ _ _ rfl b (by decide) _ _ (.string [46]) rfl rfl rfl (.held (aC 199)) [] rfl ?_);intro h f d;have a:=Jj c rfl d;go_wp2;go_ret;exact⟨rfl,f,a⟩
def twosD:DataW Value:=(((((((((.map []:DataW Value).put (.string [114,104,111]) (.held (.func (.func 200) #[] #[]))).put (.string [114,101,118]) (.held (.func (.func 201) #[] #[]))).put (.string [116,97,107,101]) (.held (.func (.func 202) #[] #[]))).put (.string [100,114,111,112]) (.held (.func (.func 203) #[] #[]))).put (.string [99,97,116]) (.held (.func (.func 204) #[] #[]))).put (.string [105,110]) (.held (.func (.func 205) #[] #[]))).put (.string [97,116]) (.held (.func (.func 206) #[] #[]))).put (.string [107,101,101,112]) (.held (.func (.func 207) #[] #[])))
theorem Jtn(w):Calls prog 158 #[] w fun e w'=>e=aD (.map (some w.1.size))/\w'.ownsMap prog 9 J0 w.1.size 8 twosD/\J w w':=by
 have:=@run_makeMap prog;have k:J w (w.alloc (.map #[] 0)):=belA1;have j:=MW w prog 9 J0;go_enter func158,ntmps158;go_wp2_with (refine Jc _ rfl _ _ _ 249 rfl 9 205 VM MS J0 _ _ _ rfl j (by decide) _ _ (.string [114,104,111]) rfl rfl rfl (.held (aC 200)) [] rfl ?_);intro F t l;have a:=Jj k rfl l;go_wp2_with (refine Jc _ rfl _ _ _ 249 rfl 9 205 VM MS J0 _ _ _ rfl t (by decide) _ _ (.string [114,101,118]) rfl rfl rfl (.held (aC 201)) [] rfl ?_);intro H u m;have b:=Jj a rfl m;go_wp2_with (refine Jc _ rfl _ _ _ 249 rfl 9 205 VM MS J0 _ _ _ rfl u (by decide) _ _ (.string [116,97,107,101]) rfl rfl rfl (.held (aC 202)) [] rfl ?_);intro K x n;have c:=Jj b rfl n;go_wp2_with (refine Jc _ rfl _ _ _ 249 rfl 9 205 VM MS J0 _ _ _ rfl x (by decide) _ _ (.string [100,114,111,112]) rfl rfl rfl (.held (aC 203)) [] rfl ?_);intro L y o;have d:=Jj c rfl o;go_wp2_with (refine Jc _ rfl _ _ _ 249 rfl 9 205 VM MS J0 _ _ _ rfl y (by decide) _ _ (.string [99,97,116]) rfl rfl rfl (.held (aC 204)) [] rfl ?_);intro N z p;have f:=Jj d rfl p;go_wp2_with (refine Jc _ rfl _ _ _ 249 rfl 9 205 VM MS J0 _ _ _ rfl z (by decide) _ _ (.string [105,110]) rfl rfl rfl (.held (aC 205)) [] rfl ?_);intro P A q;have g:=Jj f rfl q;go_wp2_with (refine Jc _ rfl _ _ _ 249 rfl 9 205 VM MS J0 _ _ _ rfl A (by decide) _ _ (.string [97,116]) rfl rfl rfl (.held (aC 206)) [] rfl ?_);intro Q B r;have h:=Jj g rfl r;go_wp2_with (refine Jc _ rfl _ _ _ 249 rfl 9 205 VM MS J0 _ _ _ rfl B (by decide) _ _ (.string [107,101,101,112]) rfl rfl rfl (.held (aC 207)) [] rfl ?_);intro R C s;have i:=Jj h rfl s;go_wp2;go_ret;exact⟨rfl,C,i⟩
theorem Fz(n):Jk (wrap64 n):=by grind[Jk,wrap64]
def V5(x y:Int):Int × Int:=(wrap64 (x+y),0)
def Kn(x y:Int):Int × Int:=(wrap64 (x-y),0)
def Kh(x y:Int):Int × Int:=(wrap64 (x*y),0)
def Z8(x y:Int):Int × Int:=if y=0 then(0,7)else if x.tmod y≠0/\decide (x<0)≠decide (y<0)then(wrap64 (wrap64 (x.tdiv y)-1),0)else(wrap64 (x.tdiv y),0)
def Qi(x y:Int):Int × Int:=if x=0 then(y,0)else(wrap64 (y-wrap64 (x*(Z8 y x).1)),(Z8 y x).2)
def Zk(x y:Int):Int × Int:=(min x y,0)
def Yp(x y:Int):Int × Int:=(max x y,0)
def V2(x y:Int):Int × Int:=(if x=y then 1 else 0,0)
def Kv(x y:Int):Int × Int:=(if x<y then 1 else 0,0)
theorem Jcd(h)(r)(hr:(if h then 1 else 0)=r)(w):Calls prog 259 #[.bool h] w fun e w'=>e=aD (G r)/\w'=w:=by
 subst hr;cases h<;>(go_enter func259,ntmps259;go_wp2;go_ret;simp)
theorem VO:Enters prog 241:=NF func241 (by decide) rfl
theorem plus_rule:RuleC 241 V5 where
 enters:=VO
 call:=by
  intro a b w _ _;unfold V5;go_enter func241,ntmps241;go_wp2;go_ret2;simp
 fits:=by
  grind[V5,Fz]
theorem VP:Enters prog 242:=NF func242 (by decide) rfl
theorem minus_rule:RuleC 242 Kn where
 enters:=VP
 call:=by
  intro a b w _ _;unfold Kn;go_enter func242,ntmps242;go_wp2;go_ret2;simp
 fits:=by
  grind[Kn,Fz]
theorem VQ:Enters prog 243:=NF func243 (by decide) rfl
theorem times_rule:RuleC 243 Kh where
 enters:=VQ
 call:=by
  intro a b w _ _;unfold Kh;go_enter func243,ntmps243;go_wp2;go_ret2;simp
 fits:=by
  grind[Kh,Fz]
theorem VR:Enters prog 246:=NF func246 (by decide) rfl
theorem lesser_rule:RuleC 246 Zk where
 enters:=VR
 call:=by
  intro a b w _ _;unfold Zk;go_enter func246,ntmps246;go_wp2;go_ret2;simp
 fits:=by
  simp[Zk,Jk];omega
theorem VS:Enters prog 247:=NF func247 (by decide) rfl
theorem greater_rule:RuleC 247 Yp where
 enters:=VS
 call:=by
  intro a b w _ _;unfold Yp;go_enter func247,ntmps247;go_wp2;go_ret2;simp
 fits:=by
  simp[Yp,Jk];omega
theorem VT:Enters prog 248:=NF func248 (by decide) rfl
theorem same_rule:RuleC 248 V2 where
 enters:=VT
 call:=by
  intro c d w _ _;unfold V2;obtain⟨b,a⟩:=nm ((if c=d then(1:Int)else 0):Int);simp only[a];go_enter func248,ntmps248;go_wp2_with (go_at_call 259;refine(Jcd _ b (by simp;omega) _).mono ?_;rintro e f ⟨rfl,rfl⟩);go_ret2;simp
 fits:=by
  simp[V2,Jk];omega
theorem VU:Enters prog 249:=NF func249 (by decide) rfl
theorem below_rule:RuleC 249 Kv where
 enters:=VU
 call:=by
  intro c d w _ _;unfold Kv;obtain⟨b,a⟩:=nm ((if c<d then(1:Int)else 0):Int);simp only[a];go_enter func249,ntmps249;go_wp2_with (go_at_call 259;refine(Jcd _ b (by simp;omega) _).mono ?_;rintro e f ⟨rfl,rfl⟩);go_ret2;simp
 fits:=by
  simp[Kv,Jk];omega
theorem VV:Enters prog 244:=NF func244 (by decide) rfl
theorem VW:Enters prog 245:=NF func245 (by decide) rfl
theorem Jkn(x y)(w):Calls prog 244 #[G x,G y] w fun e w'=>e=aD (.tuple #[G (Z8 x y).1,G (Z8 x y).2])/\w'=w:=by
 obtain⟨d,a⟩:=nm (Z8 x y);rw[a];unfold Z8 at a;by_cases b:y=0
 .have c:(y == 0)=true:=by simp[b]
  go_enter func244,ntmps244;go_wp2;exact FR (v:=.tuple #[G 0,G 7]) (by simp[results]) rfl ⟨by grind,rfl⟩
 have c:(y == 0)=false:=by simp[b]
 go_enter func244,ntmps244;go_wp2
 .rename_i h;exact FR (v:=.tuple #[G (wrap64 (x.tdiv y)),G 0]) (by simp[results]) rfl ⟨by grind,rfl⟩
 .rename_i h;exact FR (v:=.tuple #[G (wrap64 (wrap64 (x.tdiv y)-1)),G 0]) (by simp[results]) rfl ⟨by grind,rfl⟩
 rename_i h;exact FR (v:=.tuple #[G (wrap64 (x.tdiv y)),G 0]) (by simp[results]) rfl ⟨by grind,rfl⟩
theorem over_rule:RuleC 244 Z8 where
 enters:=VV
 call:=fun x y w _ _=>Jkn x y w
 fits:=by
  grind[Z8,Fz]
theorem Juv(x y)(w):Calls prog 245 #[G x,G y] w fun e w'=>e=aD (.tuple #[G (Qi x y).1,G (Qi x y).2])/\w'=w:=by
 unfold Qi;by_cases a:x=0
 .have b:(x == 0)=true:=by simp[a]
  rw[FY a];go_enter func245,ntmps245;go_wp2;go_ret2;simp
 have b:(x == 0)=false:=by simp[a]
 rw[FU a];go_enter func245,ntmps245;go_wp2_with (go_at_call 244;refine aQ (Jkn y x _) ?_);go_ret2;simp
theorem rest_rule:RuleC 245 Qi where
 enters:=VW
 call:=fun x y w _ _=>Juv x y w
 fits:=by
  grind[Qi,Fz]
def Jh5:Value:=.agg #[.nilFunc,.int .i64 0]
def J39:DataW Value->Value
 | .held v=>v
 | _=>undef
theorem Xm{D:DataW Value}{n:Nat}{m e:TypeId}{zv:Value}(hm:prog.underlying m=some (.map 9 e))(hz:(zeroValue e).run prog w=.ok zv w)(h:w.ownsMap prog 9 J0 b n D){ok:Bool}{v:Value}(hk:keyOf prog 9 (aE t)=some kl)(hh:Maps.has D kl=ok)(hat:D.atKey kl (.held zv)=.held v):
 (Instr.lookup m (.map (some b)) (aE t) true).run prog w=.ok (.tuple #[v,.bool ok]) w:=by
 obtain⟨d,g,c,a⟩:=h.look_ok VM hm hz (show J0 zv=some (.held zv,[])from rfl) hk;rw[hh]at c;rw[hat]at a;have:DataW.held d=DataW.held v:=NM Prod.fst (NS a);simp_all
theorem Jr5{f:Nat}(hk:keyOf prog 9 (aE t)=some kl)(hh:Maps.has signsD kl=true)(hat:signsD.atKey kl (.held Jh5)=.held (.agg #[aC f,G z]))(w):
 Calls prog 111 #[aE t] w fun e w'=>e=aD (aC f)/\J w w':=by
 have c:Hid (∀w' b,w'.ownsMap prog 9 J0 b 9 signsD->(Instr.lookup 242 (.map (some b)) (aE t) true).run prog w'=.ok (.tuple #[.agg #[aC f,G z],.bool true]) w'):=O (fun w' b a=>Xm YW (VN w') a hk hh hat);go_enter func111,ntmps111;go_wp2_with (go_at_call 154;refine aR (Qs _) ?_;rintro i ⟨g,d⟩;have:=c _ _ g;have a:=O d);go_ret;exact⟨rfl,a.alloc a.size _⟩
theorem Jj2{f:Int->Int->Int × Int}(hf:∀x y,Jk x->Jk y->Jk (f x y).1):∀{xs ys l:List Int},zipF f xs ys=.inr l->(∀c ∈ xs,Jk c)->(∀c ∈ ys,Jk c)->∀c ∈ l,Jk c
 | [],_,l,h,_,_=>by simp_all[zipF]
 | x::xs,[],l,h,_,_=>by simp_all[zipF]
 | x::xs,y::ys,l,h,hx,hy=>by
  unfold zipF at h;split at h
  .cases h
  cases hz:zipF f xs ys with
  | inl e=>simp_all
  | inr m =>
   rw[hz]at h;cases h;intro c hc;rcases JO.1 hc with rfl|hc
   .simp_all
   exact Jj2 hf hz (fun c h=>hx c (by simp[h])) (fun c h=>hy c (by simp[h])) c hc
theorem Jd7{f:Int->Int->Int × Int}:∀{xs ys:List Int} {e:Int},zipF f xs ys=.inl e->e≠0
 | [],_,e,h=>by grind[zipF]
 | x::xs,[],e,h=>by grind[zipF]
 | x::xs,y::ys,e,h=>by
  unfold zipF at h;split at h
  .simp_all
  cases hz:zipF f xs ys with
  | inl e'=>rw[hz]at h;cases h;exact Jd7 hz
  | inr m=>simp_all
theorem Jbo(hf:∀x y,Jk x->Jk y->Jk (f x y).1)(ha:a.ok){xs ys:List Int}(hx:xs.length=a.cells.length)(hy:ys.length=a.cells.length)(fx:∀c ∈ xs,Jk c)(fy:∀c ∈ ys,Jk c):
 (zipA f a.shape xs ys).1.cells.length<=200/\((zipA f a.shape xs ys).2=0->(zipA f a.shape xs ys).1.ok):=by
 unfold zipA;cases hz:zipF f xs ys with
 | inl e=>grind[eArr,Jd7]
 | inr l =>
  have b:=Jh4 hz (by omega);have:=ha.few;exact⟨by simp;omega,fun _=>⟨ha.rank,ha.lens,by rw[b,hx];exact ha.size,by simp;omega,Jj2 hf hz fx fy⟩⟩
theorem Jep(hf:∀x y,Jk x->Jk y->Jk (f x y).1){b:Arr}(ha:a.ok)(hb:b.ok):(Jh f a b).1.cells.length<=200/\((Jh f a b).2=0->(Jh f a b).1.ok):=by
 have h:∀{a:Arr},a.ok->Jk (a.cells.headD 0):=by
  intro a e;cases c:a.cells with
  | nil=>simp[Jk]
  | cons x r=>exact e.fits x (by rw[c];simp)
 unfold Jh;split
 .exact Jbo hf hb (by simp) rfl (fun d c=>by simp_all) hb.fits
 split
 .exact Jbo hf ha rfl (by simp) ha.fits (fun d c=>by simp_all)
 split
 .simp [eArr]
 split
 .simp [eArr]
 rename_i hs;have g:a.shape=b.shape:=by simpa using hs
 exact Jbo hf ha rfl (by rw[ha.size,hb.size,g]) ha.fits hb.fits
theorem VX:Enters prog 190:=NF func190 (by decide) rfl
theorem VY:Enters prog 191:=NF func191 (by decide) rfl
theorem VZ:Enters prog 192:=NF func192 (by decide) rfl
theorem XA:Enters prog 193:=NF func193 (by decide) rfl
theorem XB:Enters prog 194:=NF func194 (by decide) rfl
theorem XC:Enters prog 195:=NF func195 (by decide) rfl
theorem XD:Enters prog 196:=NF func196 (by decide) rfl
theorem XE:Enters prog 197:=NF func197 (by decide) rfl
theorem XF:Enters prog 198:=NF func198 (by decide) rfl
theorem Fc(hr:RuleC g f)(h:∀(W:World) (P:Nat->Prop) (so:Option Addr) (sn sc:Nat) (co:Option Addr) (cn cc:Nat) (so2:Option Addr) (sn2 sc2:Nat) (co2:Option Addr) (cn2 cc2:Nat) (r:Arr × Int),
 (∀W',J W W'->W.1.size+2<W'.1.size->Calls prog 240 #[(agV so sn sc co cn cc),(agV so2 sn2 sc2 co2 cn2 cc2),aC g] W' fun e w'=>∃s1 s2 s3 c1 c2 c3,e=aD (.tuple #[(agV s1 s2 s3 c1 c2 c3),G r.2])/\IsArr (fun b=>P b/\b≠W.1.size+2) w' (agV s1 s2 s3 c1 c2 c3) r.1/\J W' w') ->
 Calls prog k #[(agV so sn sc co cn cc),(agV so2 sn2 sc2 co2 cn2 cc2)] W fun e W'=>∃so sn sc co cn cc,e=aD (.tuple #[(agV so sn sc co cn cc),G r.2])/\IsArr P W' (agV so sn sc co cn cc) r.1/\J W W'):FnTwo k #[] w (Jh f):=by
 intro W P p v a b _ l d i n o;have j:=fun W' (h:J W W') (q:W.1.size+2<W'.1.size)=>Jvh f g hr (fun b=>P b/\b≠W.1.size+2) W' (fun b c=>⟨l b (by omega),by omega⟩) p v a b ((d.imp (fun b c m=>⟨c,by omega⟩)).below h) ((i.imp (fun b c m=>⟨c,by omega⟩)).below h) n o;obtain⟨so,sn,sc,co,cn,cc,rfl,-⟩:=d;obtain⟨so2,sn2,sc2,co2,cn2,cc2,rfl,-⟩:=i;exact h W P so sn sc co cn cc so2 sn2 sc2 co2 cn2 cc2 _ j
set_option linter.unusedSimpArgs false in
theorem Qh(w):FnTwo 190 #[] w (Jh V5)/\FnTwo 191 #[] w (Jh Kn)/\FnTwo 192 #[] w (Jh Kh)/\FnTwo 193 #[] w (Jh Z8)/\FnTwo 194 #[] w (Jh Qi)/\FnTwo 195 #[] w (Jh Zk)/\FnTwo 196 #[] w (Jh Yp)/\FnTwo 197 #[] w (Jh V2)/\FnTwo 198 #[] w (Jh Kv):=by
 refine⟨Fc plus_rule ?_,Fc minus_rule ?_,Fc times_rule ?_,Fc over_rule ?_,Fc rest_rule ?_,Fc lesser_rule ?_,Fc greater_rule ?_,Fc same_rule ?_,Fc below_rule ?_⟩
 all_goals intro a A y u sc q n l z x t r o m K k
 go_enter func190,ntmps190;rotate_left;go_enter func191,ntmps191;rotate_left;go_enter func192,ntmps192;rotate_left;go_enter func193,ntmps193;rotate_left;go_enter func194,ntmps194;rotate_left;go_enter func195,ntmps195;rotate_left;go_enter func196,ntmps196;rotate_left;go_enter func197,ntmps197;rotate_left;go_enter func198,ntmps198;rotate_left
 all_goals
  have d:=(((FQ a.1.size a).alloc aT (.cells (aL y u sc q n l) 89)).alloc (by simp) (.cells (aL z x t r o m) 89)).alloc (by simp;omega) (.cells #[M,M] 89);go_wp2_with (go_at_call 240;refine(k _ d (by simp)).mono ?_;rintro D h ⟨L,N,P,c1,B,C,rfl,s,e⟩;have i:=s;have j:=e;obtain⟨f,g⟩:=Yy e;have d0:h.cell? (adR0 a)=some M:=(f _ 0 (by simp)).trans (NH _ _ _ _ (by simp));have d1:h.cell? (adR1 a)=some M:=(f _ 1 (by simp)).trans (NH _ _ _ _ (by simp));have:=(g (a.1.size+1+1) 0 (by simp)).trans (NL _ _ _ _ (by simp));have:=(g (a.1.size+1+1) 1 (by simp)).trans (NL _ _ _ _ (by simp)));refine FR (by simp[results,results190,results191,results192,results193,results194,results195,results196,results197,results198,go_sem,d0,d1]) rfl ⟨_,_,_,_,_,_,rfl,((i.set (fun c=>c.2 rfl) 0 _).set (fun c=>c.2 rfl) 1 _).imp (fun b c _=>c.1),((d.trans (j.mono (by simp;omega))).setCell (p:=adR0 a) (by simp;omega) _).setCell (p:=adR1 a) (by simp;omega) _⟩
theorem Jeo(w):FnTwo 190 #[] w (Jh V5):=(Qh w).1
theorem Jbe(w):FnTwo 191 #[] w (Jh Kn):=(Qh w).2.1
theorem Jay(w):FnTwo 192 #[] w (Jh Kh):=(Qh w).2.2.1
theorem Jer(w):FnTwo 193 #[] w (Jh Z8):=(Qh w).2.2.2.1
theorem Jek(w):FnTwo 194 #[] w (Jh Qi):=(Qh w).2.2.2.2.1
theorem Fr(w):FnTwo 195 #[] w (Jh Zk):=(Qh w).2.2.2.2.2.1
theorem Gb(w):FnTwo 196 #[] w (Jh Yp):=(Qh w).2.2.2.2.2.2.1
theorem Jee(w):FnTwo 197 #[] w (Jh V2):=(Qh w).2.2.2.2.2.2.2.1
theorem Jbm(w):FnTwo 198 #[] w (Jh Kv):=(Qh w).2.2.2.2.2.2.2.2
theorem V0(hr:RuleC g f)(he:Enters prog k)(hf:∀w,FnTwo k #[] w (Jh f))(hk:keyOf prog 9 (aE t)=some kl)(hh:Maps.has signsD kl=true)(hat:signsD.atKey kl (.held Jh5)=.held (.agg #[aC k,G z])):TwoC t (Jh f):=
 ⟨fun w=>(Jr5 hk hh hat w).mono (by grind),fun _ _ ha hb=>Jep hr.fits ha hb⟩
theorem Jve:TwoC ⟨#[43]⟩ (Jh V5):=V0 (kl:=.string [43]) (z:=0) plus_rule VX Jeo (by kernel_rfl) (by kernel_rfl) (by kernel_rfl)
theorem Jqv:TwoC ⟨#[45]⟩ (Jh Kn):=V0 (kl:=.string [45]) (z:=0) minus_rule VY Jbe (by kernel_rfl) (by kernel_rfl) (by kernel_rfl)
theorem Jod:TwoC ⟨#[42]⟩ (Jh Kh):=V0 (kl:=.string [42]) (z:=1) times_rule VZ Jay (by kernel_rfl) (by kernel_rfl) (by kernel_rfl)
theorem Jvk:TwoC ⟨#[37]⟩ (Jh Z8):=V0 (kl:=.string [37]) (z:=1) over_rule XA Jer (by kernel_rfl) (by kernel_rfl) (by kernel_rfl)
theorem Jut:TwoC ⟨#[124]⟩ (Jh Qi):=V0 (kl:=.string [124]) (z:=0) rest_rule XB Jek (by kernel_rfl) (by kernel_rfl) (by kernel_rfl)
theorem Jmx:TwoC ⟨#[38]⟩ (Jh Zk):=V0 (kl:=.string [38]) (z:=9223372036854775807) lesser_rule XC Fr (by kernel_rfl) (by kernel_rfl) (by kernel_rfl)
theorem Jjg:TwoC ⟨#[33]⟩ (Jh Yp):=V0 (kl:=.string [33]) (z:=-9223372036854775808) greater_rule XD Gb (by kernel_rfl) (by kernel_rfl) (by kernel_rfl)
theorem Jue:TwoC ⟨#[61]⟩ (Jh V2):=V0 (kl:=.string [61]) (z:=1) same_rule XE Jee (by kernel_rfl) (by kernel_rfl) (by kernel_rfl)
theorem Js6:TwoC ⟨#[60]⟩ (Jh Kv):=V0 (kl:=.string [60]) (z:=0) below_rule XF Jbm (by kernel_rfl) (by kernel_rfl) (by kernel_rfl)
end Go.Proofs.YtjobgpahajhbnaaGreatDoor
