import Derived.Test.YtjobgpahajhbnaaGreatDoorRi
import Derived.Maps.OwnSet
import Derived.Test.YtjobgpahajhbnaaGreatDoorRa
import Derived.Laws.EntriesVeiled
import Derived.Test.YtjobgpahajhbnaaGreatDoorSi
namespace Go.Proofs.YtjobgpahajhbnaaGreatDoor
open Go.RowKit Go.Proofs Go.Maps

theorem wpList_insert_own {H : Type} {P : Program} (w : World) {ops : Array Oper} {rest : List Oper} {o : Oper} {a : Act} {Q : Exit → Act → World → Prop}
    (hg : o.guard = none) (m x v : Operand) (t : TypeId) (hop : o.op = Op.insert t m x v)
    (k e : TypeId) (K : Keyed P k) (ht : P.underlying t = some (.map k e)) (R : Value → Option (DataW H × List MemPlace)) (b n : Nat) (D : DataW H)
    (hm : a.eval m = .map (some b)) (hown : w.ownsMap P k R b n D) (hn : n < maxLen) (key val : Value) (kl : Lit) (hx : a.eval x = key) (hv : a.eval v = val) (hkey : keyOf P k key = some kl)
    (d : DataW H) (ps : List MemPlace) (hval : R val = some (d, ps))
    (hK : ∀ w', w'.ownsMap P k R b (n + 1) (D.put kl d) → w.grownBy w' (some b) → wpList P ops Q rest (a.put o.dst undef) w') :
    wpList P ops Q (o :: rest) a w := by
  refine wpList_plain hg fun K' hK' => ?_
  obtain ⟨w', hrun, r1, r2⟩ := hown.update K ht hn hkey hval
  unfold Oper.wp
  simp [execOp, hop, hm, hx, hv, hrun, Result.andThen]
  exact hK' _ _ (hK w' r1 r2)

theorem Tryz.law9 : Keyed Tryz.prog 9 := string_keyed Tryz.underlying9
/-- an element reads as itself -/
def selfE (v : Value) : Option (DataW Value × List MemPlace) := some (.held v, [])
theorem Tryz.zero241 (w : World) : (zeroValue 241).run Tryz.prog w = .ok (.agg #[.nilFunc, .int .i64 0]) w := by kernel_rfl

theorem below_map {b : Nat} {w w1 w2 : World} (h : Below b w w1) (hb : b = w.heap.size) (hg : w1.grownBy w2 (some b)) : Below b w w2 := h.grown hg (by rw [hb]; exact h.size) (fun q hq => by cases hq; exact Nat.le_refl _)
def signsD : DataW Value := ((((((((((.map [] : DataW Value).put (.string [43]) (.held (.agg #[.func (.func 190) #[] #[], .int .i64 0]))).put (.string [45]) (.held (.agg #[.func (.func 191) #[] #[], .int .i64 0]))).put (.string [42]) (.held (.agg #[.func (.func 192) #[] #[], .int .i64 1]))).put (.string [37]) (.held (.agg #[.func (.func 193) #[] #[], .int .i64 1]))).put (.string [124]) (.held (.agg #[.func (.func 194) #[] #[], .int .i64 0]))).put (.string [38]) (.held (.agg #[.func (.func 195) #[] #[], .int .i64 9223372036854775807]))).put (.string [33]) (.held (.agg #[.func (.func 196) #[] #[], .int .i64 (-9223372036854775808)]))).put (.string [61]) (.held (.agg #[.func (.func 197) #[] #[], .int .i64 1]))).put (.string [60]) (.held (.agg #[.func (.func 198) #[] #[], .int .i64 0])))
set_option maxHeartbeats 1000000 in
set_option maxRecDepth 20000 in
theorem signs_any (w : World) : Calls Tryz.prog 154 #[] w fun e w' => e = .returned (.map (some w.heap.size)) ∧ w'.ownsMap Tryz.prog 9 selfE w.heap.size 9 signsD ∧ Below w.heap.size w w' := by
  have hmm := @run_makeMap Tryz.prog
  have hb0 : Below w.heap.size w (w.alloc (.map #[] 0)) := (Below.refl w.heap.size w).alloc (Nat.le_refl _) _
  have HO0 := hide (World.ownsMap_made w Tryz.prog 9 selfE)
  have HB0 := hide hb0
  clear hb0
  go_enter Tryz.func154, Tryz.ntmps154
  go_wp2_with (refine wpList_insert_own _ rfl _ _ _ 242 rfl 9 241 Tryz.law9 Tryz.underlying242 selfE _ _ _ rfl (unhide HO0) (by decide) _ _ (.string [43]) rfl rfl rfl (.held (.agg #[.func (.func 190) #[] #[], .int .i64 0])) [] rfl ?_)
  intro w1 o1 k1
  have HO1 := hide o1
  have HB1 := hide (below_map (unhide HB0) rfl k1)
  clear o1 k1 HO0 HB0
  go_wp2_with (refine wpList_insert_own _ rfl _ _ _ 242 rfl 9 241 Tryz.law9 Tryz.underlying242 selfE _ _ _ rfl (unhide HO1) (by decide) _ _ (.string [45]) rfl rfl rfl (.held (.agg #[.func (.func 191) #[] #[], .int .i64 0])) [] rfl ?_)
  intro w2 o2 k2
  have HO2 := hide o2
  have HB2 := hide (below_map (unhide HB1) rfl k2)
  clear o2 k2 HO1 HB1
  go_wp2_with (refine wpList_insert_own _ rfl _ _ _ 242 rfl 9 241 Tryz.law9 Tryz.underlying242 selfE _ _ _ rfl (unhide HO2) (by decide) _ _ (.string [42]) rfl rfl rfl (.held (.agg #[.func (.func 192) #[] #[], .int .i64 1])) [] rfl ?_)
  intro w3 o3 k3
  have HO3 := hide o3
  have HB3 := hide (below_map (unhide HB2) rfl k3)
  clear o3 k3 HO2 HB2
  go_wp2_with (refine wpList_insert_own _ rfl _ _ _ 242 rfl 9 241 Tryz.law9 Tryz.underlying242 selfE _ _ _ rfl (unhide HO3) (by decide) _ _ (.string [37]) rfl rfl rfl (.held (.agg #[.func (.func 193) #[] #[], .int .i64 1])) [] rfl ?_)
  intro w4 o4 k4
  have HO4 := hide o4
  have HB4 := hide (below_map (unhide HB3) rfl k4)
  clear o4 k4 HO3 HB3
  go_wp2_with (refine wpList_insert_own _ rfl _ _ _ 242 rfl 9 241 Tryz.law9 Tryz.underlying242 selfE _ _ _ rfl (unhide HO4) (by decide) _ _ (.string [124]) rfl rfl rfl (.held (.agg #[.func (.func 194) #[] #[], .int .i64 0])) [] rfl ?_)
  intro w5 o5 k5
  have HO5 := hide o5
  have HB5 := hide (below_map (unhide HB4) rfl k5)
  clear o5 k5 HO4 HB4
  go_wp2_with (refine wpList_insert_own _ rfl _ _ _ 242 rfl 9 241 Tryz.law9 Tryz.underlying242 selfE _ _ _ rfl (unhide HO5) (by decide) _ _ (.string [38]) rfl rfl rfl (.held (.agg #[.func (.func 195) #[] #[], .int .i64 9223372036854775807])) [] rfl ?_)
  intro w6 o6 k6
  have HO6 := hide o6
  have HB6 := hide (below_map (unhide HB5) rfl k6)
  clear o6 k6 HO5 HB5
  go_wp2_with (refine wpList_insert_own _ rfl _ _ _ 242 rfl 9 241 Tryz.law9 Tryz.underlying242 selfE _ _ _ rfl (unhide HO6) (by decide) _ _ (.string [33]) rfl rfl rfl (.held (.agg #[.func (.func 196) #[] #[], .int .i64 (-9223372036854775808)])) [] rfl ?_)
  intro w7 o7 k7
  have HO7 := hide o7
  have HB7 := hide (below_map (unhide HB6) rfl k7)
  clear o7 k7 HO6 HB6
  go_wp2_with (refine wpList_insert_own _ rfl _ _ _ 242 rfl 9 241 Tryz.law9 Tryz.underlying242 selfE _ _ _ rfl (unhide HO7) (by decide) _ _ (.string [61]) rfl rfl rfl (.held (.agg #[.func (.func 197) #[] #[], .int .i64 1])) [] rfl ?_)
  intro w8 o8 k8
  have HO8 := hide o8
  have HB8 := hide (below_map (unhide HB7) rfl k8)
  clear o8 k8 HO7 HB7
  go_wp2_with (refine wpList_insert_own _ rfl _ _ _ 242 rfl 9 241 Tryz.law9 Tryz.underlying242 selfE _ _ _ rfl (unhide HO8) (by decide) _ _ (.string [60]) rfl rfl rfl (.held (.agg #[.func (.func 198) #[] #[], .int .i64 0])) [] rfl ?_)
  intro w9 o9 k9
  have HO9 := hide o9
  have HB9 := hide (below_map (unhide HB8) rfl k9)
  clear o9 k9 HO8 HB8
  go_wp2_with fail
  exact bodyPost_ret (v := .map (some w.heap.size)) (by simp [results, Tryz.results154, go_sem]) rfl ⟨rfl, unhide HO9, unhide HB9⟩
def formsOneD : DataW Value := (((.map [] : DataW Value).put (.string [47]) (.held (.func (.func 177) #[] #[]))).put (.string [92]) (.held (.func (.func 178) #[] #[])))
set_option maxHeartbeats 1000000 in
set_option maxRecDepth 20000 in
theorem formsOne_any (w : World) : Calls Tryz.prog 152 #[] w fun e w' => e = .returned (.map (some w.heap.size)) ∧ w'.ownsMap Tryz.prog 9 selfE w.heap.size 2 formsOneD ∧ Below w.heap.size w w' := by
  have hmm := @run_makeMap Tryz.prog
  have hb0 : Below w.heap.size w (w.alloc (.map #[] 0)) := (Below.refl w.heap.size w).alloc (Nat.le_refl _) _
  have HO0 := hide (World.ownsMap_made w Tryz.prog 9 selfE)
  have HB0 := hide hb0
  clear hb0
  go_enter Tryz.func152, Tryz.ntmps152
  go_wp2_with (refine wpList_insert_own _ rfl _ _ _ 236 rfl 9 235 Tryz.law9 Tryz.underlying236 selfE _ _ _ rfl (unhide HO0) (by decide) _ _ (.string [47]) rfl rfl rfl (.held (.func (.func 177) #[] #[])) [] rfl ?_)
  intro w1 o1 k1
  have HO1 := hide o1
  have HB1 := hide (below_map (unhide HB0) rfl k1)
  clear o1 k1 HO0 HB0
  go_wp2_with (refine wpList_insert_own _ rfl _ _ _ 236 rfl 9 235 Tryz.law9 Tryz.underlying236 selfE _ _ _ rfl (unhide HO1) (by decide) _ _ (.string [92]) rfl rfl rfl (.held (.func (.func 178) #[] #[])) [] rfl ?_)
  intro w2 o2 k2
  have HO2 := hide o2
  have HB2 := hide (below_map (unhide HB1) rfl k2)
  clear o2 k2 HO1 HB1
  go_wp2_with fail
  exact bodyPost_ret (v := .map (some w.heap.size)) (by simp [results, Tryz.results152, go_sem]) rfl ⟨rfl, unhide HO2, unhide HB2⟩
def onesD : DataW Value := ((((((((((((.map [] : DataW Value).put (.string [43]) (.held (.func (.func 179) #[] #[]))).put (.string [45]) (.held (.func (.func 180) #[] #[]))).put (.string [42]) (.held (.func (.func 181) #[] #[]))).put (.string [124]) (.held (.func (.func 182) #[] #[]))).put (.string [105, 111, 116, 97]) (.held (.func (.func 183) #[] #[]))).put (.string [114, 104, 111]) (.held (.func (.func 184) #[] #[]))).put (.string [114, 97, 118, 101, 108]) (.held (.func (.func 185) #[] #[]))).put (.string [114, 101, 118]) (.held (.func (.func 186) #[] #[]))).put (.string [117, 112]) (.held (.func (.func 187) #[] #[]))).put (.string [100, 111, 119, 110]) (.held (.func (.func 188) #[] #[]))).put (.string [102, 108, 105, 112]) (.held (.func (.func 189) #[] #[])))
set_option maxHeartbeats 1000000 in
set_option maxRecDepth 20000 in
theorem ones_any (w : World) : Calls Tryz.prog 153 #[] w fun e w' => e = .returned (.map (some w.heap.size)) ∧ w'.ownsMap Tryz.prog 9 selfE w.heap.size 11 onesD ∧ Below w.heap.size w w' := by
  have hmm := @run_makeMap Tryz.prog
  have hb0 : Below w.heap.size w (w.alloc (.map #[] 0)) := (Below.refl w.heap.size w).alloc (Nat.le_refl _) _
  have HO0 := hide (World.ownsMap_made w Tryz.prog 9 selfE)
  have HB0 := hide hb0
  clear hb0
  go_enter Tryz.func153, Tryz.ntmps153
  go_wp2_with (refine wpList_insert_own _ rfl _ _ _ 238 rfl 9 201 Tryz.law9 Tryz.underlying238 selfE _ _ _ rfl (unhide HO0) (by decide) _ _ (.string [43]) rfl rfl rfl (.held (.func (.func 179) #[] #[])) [] rfl ?_)
  intro w1 o1 k1
  have HO1 := hide o1
  have HB1 := hide (below_map (unhide HB0) rfl k1)
  clear o1 k1 HO0 HB0
  go_wp2_with (refine wpList_insert_own _ rfl _ _ _ 238 rfl 9 201 Tryz.law9 Tryz.underlying238 selfE _ _ _ rfl (unhide HO1) (by decide) _ _ (.string [45]) rfl rfl rfl (.held (.func (.func 180) #[] #[])) [] rfl ?_)
  intro w2 o2 k2
  have HO2 := hide o2
  have HB2 := hide (below_map (unhide HB1) rfl k2)
  clear o2 k2 HO1 HB1
  go_wp2_with (refine wpList_insert_own _ rfl _ _ _ 238 rfl 9 201 Tryz.law9 Tryz.underlying238 selfE _ _ _ rfl (unhide HO2) (by decide) _ _ (.string [42]) rfl rfl rfl (.held (.func (.func 181) #[] #[])) [] rfl ?_)
  intro w3 o3 k3
  have HO3 := hide o3
  have HB3 := hide (below_map (unhide HB2) rfl k3)
  clear o3 k3 HO2 HB2
  go_wp2_with (refine wpList_insert_own _ rfl _ _ _ 238 rfl 9 201 Tryz.law9 Tryz.underlying238 selfE _ _ _ rfl (unhide HO3) (by decide) _ _ (.string [124]) rfl rfl rfl (.held (.func (.func 182) #[] #[])) [] rfl ?_)
  intro w4 o4 k4
  have HO4 := hide o4
  have HB4 := hide (below_map (unhide HB3) rfl k4)
  clear o4 k4 HO3 HB3
  go_wp2_with (refine wpList_insert_own _ rfl _ _ _ 238 rfl 9 201 Tryz.law9 Tryz.underlying238 selfE _ _ _ rfl (unhide HO4) (by decide) _ _ (.string [105, 111, 116, 97]) rfl rfl rfl (.held (.func (.func 183) #[] #[])) [] rfl ?_)
  intro w5 o5 k5
  have HO5 := hide o5
  have HB5 := hide (below_map (unhide HB4) rfl k5)
  clear o5 k5 HO4 HB4
  go_wp2_with (refine wpList_insert_own _ rfl _ _ _ 238 rfl 9 201 Tryz.law9 Tryz.underlying238 selfE _ _ _ rfl (unhide HO5) (by decide) _ _ (.string [114, 104, 111]) rfl rfl rfl (.held (.func (.func 184) #[] #[])) [] rfl ?_)
  intro w6 o6 k6
  have HO6 := hide o6
  have HB6 := hide (below_map (unhide HB5) rfl k6)
  clear o6 k6 HO5 HB5
  go_wp2_with (refine wpList_insert_own _ rfl _ _ _ 238 rfl 9 201 Tryz.law9 Tryz.underlying238 selfE _ _ _ rfl (unhide HO6) (by decide) _ _ (.string [114, 97, 118, 101, 108]) rfl rfl rfl (.held (.func (.func 185) #[] #[])) [] rfl ?_)
  intro w7 o7 k7
  have HO7 := hide o7
  have HB7 := hide (below_map (unhide HB6) rfl k7)
  clear o7 k7 HO6 HB6
  go_wp2_with (refine wpList_insert_own _ rfl _ _ _ 238 rfl 9 201 Tryz.law9 Tryz.underlying238 selfE _ _ _ rfl (unhide HO7) (by decide) _ _ (.string [114, 101, 118]) rfl rfl rfl (.held (.func (.func 186) #[] #[])) [] rfl ?_)
  intro w8 o8 k8
  have HO8 := hide o8
  have HB8 := hide (below_map (unhide HB7) rfl k8)
  clear o8 k8 HO7 HB7
  go_wp2_with (refine wpList_insert_own _ rfl _ _ _ 238 rfl 9 201 Tryz.law9 Tryz.underlying238 selfE _ _ _ rfl (unhide HO8) (by decide) _ _ (.string [117, 112]) rfl rfl rfl (.held (.func (.func 187) #[] #[])) [] rfl ?_)
  intro w9 o9 k9
  have HO9 := hide o9
  have HB9 := hide (below_map (unhide HB8) rfl k9)
  clear o9 k9 HO8 HB8
  go_wp2_with (refine wpList_insert_own _ rfl _ _ _ 238 rfl 9 201 Tryz.law9 Tryz.underlying238 selfE _ _ _ rfl (unhide HO9) (by decide) _ _ (.string [100, 111, 119, 110]) rfl rfl rfl (.held (.func (.func 188) #[] #[])) [] rfl ?_)
  intro w10 o10 k10
  have HO10 := hide o10
  have HB10 := hide (below_map (unhide HB9) rfl k10)
  clear o10 k10 HO9 HB9
  go_wp2_with (refine wpList_insert_own _ rfl _ _ _ 238 rfl 9 201 Tryz.law9 Tryz.underlying238 selfE _ _ _ rfl (unhide HO10) (by decide) _ _ (.string [102, 108, 105, 112]) rfl rfl rfl (.held (.func (.func 189) #[] #[])) [] rfl ?_)
  intro w11 o11 k11
  have HO11 := hide o11
  have HB11 := hide (below_map (unhide HB10) rfl k11)
  clear o11 k11 HO10 HB10
  go_wp2_with fail
  exact bodyPost_ret (v := .map (some w.heap.size)) (by simp [results, Tryz.results153, go_sem]) rfl ⟨rfl, unhide HO11, unhide HB11⟩
def formsTwoD : DataW Value := ((.map [] : DataW Value).put (.string [46]) (.held (.func (.func 199) #[] #[])))
set_option maxHeartbeats 1000000 in
set_option maxRecDepth 20000 in
theorem formsTwo_any (w : World) : Calls Tryz.prog 157 #[] w fun e w' => e = .returned (.map (some w.heap.size)) ∧ w'.ownsMap Tryz.prog 9 selfE w.heap.size 1 formsTwoD ∧ Below w.heap.size w w' := by
  have hmm := @run_makeMap Tryz.prog
  have hb0 : Below w.heap.size w (w.alloc (.map #[] 0)) := (Below.refl w.heap.size w).alloc (Nat.le_refl _) _
  have HO0 := hide (World.ownsMap_made w Tryz.prog 9 selfE)
  have HB0 := hide hb0
  clear hb0
  go_enter Tryz.func157, Tryz.ntmps157
  go_wp2_with (refine wpList_insert_own _ rfl _ _ _ 247 rfl 9 246 Tryz.law9 Tryz.underlying247 selfE _ _ _ rfl (unhide HO0) (by decide) _ _ (.string [46]) rfl rfl rfl (.held (.func (.func 199) #[] #[])) [] rfl ?_)
  intro w1 o1 k1
  have HO1 := hide o1
  have HB1 := hide (below_map (unhide HB0) rfl k1)
  clear o1 k1 HO0 HB0
  go_wp2_with fail
  exact bodyPost_ret (v := .map (some w.heap.size)) (by simp [results, Tryz.results157, go_sem]) rfl ⟨rfl, unhide HO1, unhide HB1⟩
def twosD : DataW Value := (((((((((.map [] : DataW Value).put (.string [114, 104, 111]) (.held (.func (.func 200) #[] #[]))).put (.string [114, 101, 118]) (.held (.func (.func 201) #[] #[]))).put (.string [116, 97, 107, 101]) (.held (.func (.func 202) #[] #[]))).put (.string [100, 114, 111, 112]) (.held (.func (.func 203) #[] #[]))).put (.string [99, 97, 116]) (.held (.func (.func 204) #[] #[]))).put (.string [105, 110]) (.held (.func (.func 205) #[] #[]))).put (.string [97, 116]) (.held (.func (.func 206) #[] #[]))).put (.string [107, 101, 101, 112]) (.held (.func (.func 207) #[] #[])))
set_option maxHeartbeats 1000000 in
set_option maxRecDepth 20000 in
theorem twos_any (w : World) : Calls Tryz.prog 158 #[] w fun e w' => e = .returned (.map (some w.heap.size)) ∧ w'.ownsMap Tryz.prog 9 selfE w.heap.size 8 twosD ∧ Below w.heap.size w w' := by
  have hmm := @run_makeMap Tryz.prog
  have hb0 : Below w.heap.size w (w.alloc (.map #[] 0)) := (Below.refl w.heap.size w).alloc (Nat.le_refl _) _
  have HO0 := hide (World.ownsMap_made w Tryz.prog 9 selfE)
  have HB0 := hide hb0
  clear hb0
  go_enter Tryz.func158, Tryz.ntmps158
  go_wp2_with (refine wpList_insert_own _ rfl _ _ _ 249 rfl 9 205 Tryz.law9 Tryz.underlying249 selfE _ _ _ rfl (unhide HO0) (by decide) _ _ (.string [114, 104, 111]) rfl rfl rfl (.held (.func (.func 200) #[] #[])) [] rfl ?_)
  intro w1 o1 k1
  have HO1 := hide o1
  have HB1 := hide (below_map (unhide HB0) rfl k1)
  clear o1 k1 HO0 HB0
  go_wp2_with (refine wpList_insert_own _ rfl _ _ _ 249 rfl 9 205 Tryz.law9 Tryz.underlying249 selfE _ _ _ rfl (unhide HO1) (by decide) _ _ (.string [114, 101, 118]) rfl rfl rfl (.held (.func (.func 201) #[] #[])) [] rfl ?_)
  intro w2 o2 k2
  have HO2 := hide o2
  have HB2 := hide (below_map (unhide HB1) rfl k2)
  clear o2 k2 HO1 HB1
  go_wp2_with (refine wpList_insert_own _ rfl _ _ _ 249 rfl 9 205 Tryz.law9 Tryz.underlying249 selfE _ _ _ rfl (unhide HO2) (by decide) _ _ (.string [116, 97, 107, 101]) rfl rfl rfl (.held (.func (.func 202) #[] #[])) [] rfl ?_)
  intro w3 o3 k3
  have HO3 := hide o3
  have HB3 := hide (below_map (unhide HB2) rfl k3)
  clear o3 k3 HO2 HB2
  go_wp2_with (refine wpList_insert_own _ rfl _ _ _ 249 rfl 9 205 Tryz.law9 Tryz.underlying249 selfE _ _ _ rfl (unhide HO3) (by decide) _ _ (.string [100, 114, 111, 112]) rfl rfl rfl (.held (.func (.func 203) #[] #[])) [] rfl ?_)
  intro w4 o4 k4
  have HO4 := hide o4
  have HB4 := hide (below_map (unhide HB3) rfl k4)
  clear o4 k4 HO3 HB3
  go_wp2_with (refine wpList_insert_own _ rfl _ _ _ 249 rfl 9 205 Tryz.law9 Tryz.underlying249 selfE _ _ _ rfl (unhide HO4) (by decide) _ _ (.string [99, 97, 116]) rfl rfl rfl (.held (.func (.func 204) #[] #[])) [] rfl ?_)
  intro w5 o5 k5
  have HO5 := hide o5
  have HB5 := hide (below_map (unhide HB4) rfl k5)
  clear o5 k5 HO4 HB4
  go_wp2_with (refine wpList_insert_own _ rfl _ _ _ 249 rfl 9 205 Tryz.law9 Tryz.underlying249 selfE _ _ _ rfl (unhide HO5) (by decide) _ _ (.string [105, 110]) rfl rfl rfl (.held (.func (.func 205) #[] #[])) [] rfl ?_)
  intro w6 o6 k6
  have HO6 := hide o6
  have HB6 := hide (below_map (unhide HB5) rfl k6)
  clear o6 k6 HO5 HB5
  go_wp2_with (refine wpList_insert_own _ rfl _ _ _ 249 rfl 9 205 Tryz.law9 Tryz.underlying249 selfE _ _ _ rfl (unhide HO6) (by decide) _ _ (.string [97, 116]) rfl rfl rfl (.held (.func (.func 206) #[] #[])) [] rfl ?_)
  intro w7 o7 k7
  have HO7 := hide o7
  have HB7 := hide (below_map (unhide HB6) rfl k7)
  clear o7 k7 HO6 HB6
  go_wp2_with (refine wpList_insert_own _ rfl _ _ _ 249 rfl 9 205 Tryz.law9 Tryz.underlying249 selfE _ _ _ rfl (unhide HO7) (by decide) _ _ (.string [107, 101, 101, 112]) rfl rfl rfl (.held (.func (.func 207) #[] #[])) [] rfl ?_)
  intro w8 o8 k8
  have HO8 := hide o8
  have HB8 := hide (below_map (unhide HB7) rfl k8)
  clear o8 k8 HO7 HB7
  go_wp2_with fail
  exact bodyPost_ret (v := .map (some w.heap.size)) (by simp [results, Tryz.results158, go_sem]) rfl ⟨rfl, unhide HO8, unhide HB8⟩
end Go.Proofs.YtjobgpahajhbnaaGreatDoor
namespace Go.Proofs.YtjobgpahajhbnaaGreatDoor
open Go.RowKit Go.Proofs
attribute [local go_sem ↓] Go.wp_at_zero Go.wp_at_succ

theorem fit_wrap (n : Int) : fit64 (wrap64 n) := by unfold fit64 wrap64; omega
def plusF (x y : Int) : Int × Int := (wrap64 (x + y), 0)
def minusF (x y : Int) : Int × Int := (wrap64 (x - y), 0)
theorem Tryz.enters241 : Enters Tryz.prog 241 := Go.Proofs.enters_of Tryz.func241 (by decide) rfl
set_option maxHeartbeats 400000 in
theorem plus_rule : RuleC 241 plusF where
  enters := Tryz.enters241
  call := by
    intro x y w _ _
    unfold plusF
    go_enter Tryz.func241, Tryz.ntmps241
    go_wp2
    refine bodyPost_ret (v := .tuple #[.int .i64 (wrap64 (x + y)), .int .i64 0]) (by simp [results, Tryz.results241, go_sem]) rfl ⟨rfl, rfl⟩
  fits := by
    intro x y hx hy
    unfold plusF
    first | exact fit_wrap _ | (unfold fit64 at *; simp only []; omega)

theorem Tryz.enters242 : Enters Tryz.prog 242 := Go.Proofs.enters_of Tryz.func242 (by decide) rfl
set_option maxHeartbeats 400000 in
theorem minus_rule : RuleC 242 minusF where
  enters := Tryz.enters242
  call := by
    intro x y w _ _
    unfold minusF
    go_enter Tryz.func242, Tryz.ntmps242
    go_wp2
    refine bodyPost_ret (v := .tuple #[.int .i64 (wrap64 (x - y)), .int .i64 0]) (by simp [results, Tryz.results242, go_sem]) rfl ⟨rfl, rfl⟩
  fits := by
    intro x y hx hy
    unfold minusF
    first | exact fit_wrap _ | (unfold fit64 at *; simp only []; omega)

end Go.Proofs.YtjobgpahajhbnaaGreatDoor
namespace Go.Proofs.YtjobgpahajhbnaaGreatDoor
open Go.RowKit Go.Proofs Go.Maps
attribute [local go_sem ↓] Go.wp_at_zero Go.wp_at_succ

def zSign : Value := .agg #[.nilFunc, .int .i64 0]
def heldOf : DataW Value → Value
  | .held v => v
  | _ => undef
theorem look_self {D : DataW Value} {n : Nat} {w : World} {b : Nat} {m e : TypeId} {zv : Value} (hm : Tryz.prog.underlying m = some (.map 9 e)) (hz : (zeroValue e).run Tryz.prog w = .ok zv w) (h : w.ownsMap Tryz.prog 9 selfE b n D) {t : ByteArray} {kl : Lit} {ok : Bool} {v : Value} (hk : keyOf Tryz.prog 9 (.string t) = some kl) (hh : Maps.has D kl = ok) (hat : D.atKey kl (.held zv) = .held v) :
    (Instr.lookup m (.map (some b)) (.string t) true).run Tryz.prog w = .ok (.tuple #[v, .bool ok]) w := by
  obtain ⟨u, ps, h1, h2⟩ := h.look_ok Tryz.law9 hm hz (show selfE zv = some (.held zv, []) from rfl) hk
  rw [hh] at h1
  rw [hat] at h2
  have h3 : DataW.held u = DataW.held v := congrArg Prod.fst (Option.some.inj h2)
  have h4 : u = v := congrArg heldOf h3
  rw [h1, h4]
end Go.Proofs.YtjobgpahajhbnaaGreatDoor
namespace Go.Proofs.YtjobgpahajhbnaaGreatDoor
open Go.RowKit Go.Proofs Go.Maps
attribute [local go_sem ↓] Go.wp_at_zero Go.wp_at_succ

theorem pair_any (f : Int → Int → Int × Int) (g : Nat) (hrule : RuleC g f) (P : Nat → Prop) (w : World) (hP : ∀ b, w.heap.size ≤ b → P b) (u v : Value) (a b : Arr) (ha : IsArr P w u a) (hb : IsArr P w v b) (hoa : a.ok) (hob : b.ok) :
    Calls Tryz.prog 240 #[u, v, .func (.func g) #[] #[]] w fun e w' => ∃ s1 s2 s3 c1 c2 c3, e = .returned (.tuple #[.agg #[.slice s1 s2 s3, .slice c1 c2 c3], .int .i64 (pairP f a b).2]) ∧ IsArr P w' (.agg #[.slice s1 s2 s3, .slice c1 c2 c3]) (pairP f a b).1 ∧ Below w.heap.size w w' := by
  obtain ⟨so, sn, sc, co, cn, cc, rfl, ha1, ha2⟩ := ha
  obtain ⟨so2, sn2, sc2, co2, cn2, cc2, rfl, hb1, hb2⟩ := hb
  have ha : IsArr P w (.agg #[.slice so sn sc, .slice co cn cc]) a := ⟨_, _, _, _, _, _, rfl, ha1, ha2⟩
  have hb : IsArr P w (.agg #[.slice so2 sn2 sc2, .slice co2 cn2 cc2]) b := ⟨_, _, _, _, _, _, rfl, hb1, hb2⟩
  by_cases h1 : sn = 0
  · subst h1
    exact pair_left f g hrule P w hP so sc co cn cc so2 sn2 sc2 co2 cn2 cc2 a b ha hb hoa hob
  · have h1' : ((sn : Int) == 0) = false := by simpa using h1
    by_cases h2 : sn2 = 0
    · subst h2
      exact pair_right f g hrule P w hP so sn sc co cn cc so2 sc2 co2 cn2 cc2 a b ha hb h1' hoa hob
    · have h2' : ((sn2 : Int) == 0) = false := by simpa using h2
      by_cases h3 : sn = sn2
      · have h3' : ((sn : Int) != (sn2 : Int)) = false := by subst h3; simp
        by_cases h4 : a.shape = b.shape
        · exact pair_same f g hrule P w hP so sn sc co cn cc so2 sn2 sc2 co2 cn2 cc2 a b ha hb h1' h2' hoa hob h3' h4
        · exact pair_lens f g P w so sn sc co cn cc so2 sn2 sc2 co2 cn2 cc2 a b ha hb h1' h2' hoa hob h3' h4
      · have h3' : ((sn : Int) != (sn2 : Int)) = true := bne_iff_ne.2 (fun h => h3 (Int.ofNat_inj.1 h))
        exact pair_ranks f g P w so sn sc co cn cc so2 sn2 sc2 co2 cn2 cc2 a b ha hb h1' h2' h3'
theorem zip_fits {f : Int → Int → Int × Int} (hf : ∀ x y, fit64 x → fit64 y → fit64 (f x y).1) : ∀ {xs ys l : List Int}, zipF f xs ys = .inr l → (∀ c ∈ xs, fit64 c) → (∀ c ∈ ys, fit64 c) → ∀ c ∈ l, fit64 c
  | [], _, l, h, _, _ => by simp [zipF] at h; subst h; intro c hc; cases hc
  | x :: xs, [], l, h, _, _ => by simp [zipF] at h; subst h; intro c hc; cases hc
  | x :: xs, y :: ys, l, h, hx, hy => by
    unfold zipF at h
    split at h
    · cases h
    · cases hz : zipF f xs ys with
      | inl e => rw [hz] at h; cases h
      | inr m =>
        rw [hz] at h
        cases h
        intro c hc
        rcases List.mem_cons.1 hc with rfl | hc
        · exact hf _ _ (hx _ (by simp)) (hy _ (by simp))
        · exact zip_fits hf hz (fun c h => hx c (by simp [h])) (fun c h => hy c (by simp [h])) c hc
theorem zip_err {f : Int → Int → Int × Int} : ∀ {xs ys : List Int} {e : Int}, zipF f xs ys = .inl e → e ≠ 0
  | [], _, e, h => by simp [zipF] at h
  | x :: xs, [], e, h => by simp [zipF] at h
  | x :: xs, y :: ys, e, h => by
    unfold zipF at h
    split at h
    · rename_i h0
      cases h
      exact h0
    · cases hz : zipF f xs ys with
      | inl e' => rw [hz] at h; cases h; exact zip_err hz
      | inr m => rw [hz] at h; cases h
theorem zipA_good {f : Int → Int → Int × Int} (hf : ∀ x y, fit64 x → fit64 y → fit64 (f x y).1) {a : Arr} (ha : a.ok) {xs ys : List Int} (hx : xs.length = a.cells.length) (hy : ys.length = a.cells.length) (fx : ∀ c ∈ xs, fit64 c) (fy : ∀ c ∈ ys, fit64 c) :
    (zipA f a.shape xs ys).1.cells.length ≤ 200 ∧ ((zipA f a.shape xs ys).2 = 0 → (zipA f a.shape xs ys).1.ok) := by
  unfold zipA
  cases hz : zipF f xs ys with
  | inl e => exact ⟨by simp [eArr], fun h => absurd h (zip_err hz)⟩
  | inr l =>
    have hl := zip_len hz (by omega)
    have h2 := ha.few
    exact ⟨by simp only []; omega, fun _ => ⟨ha.rank, ha.lens, by rw [hl, hx]; exact ha.size, by simp only []; omega, zip_fits hf hz fx fy⟩⟩
theorem pairP_ok {f : Int → Int → Int × Int} (hf : ∀ x y, fit64 x → fit64 y → fit64 (f x y).1) {a b : Arr} (ha : a.ok) (hb : b.ok) : (pairP f a b).1.cells.length ≤ 200 ∧ ((pairP f a b).2 = 0 → (pairP f a b).1.ok) := by
  have head : ∀ {a : Arr}, a.ok → fit64 (a.cells.headD 0) := by
    intro a h
    cases hc : a.cells with
    | nil => unfold fit64; simp
    | cons x r => exact h.fits x (by rw [hc]; simp)
  unfold pairP
  split
  · exact zipA_good hf hb (by simp) rfl (fun c hc => by rw [(List.mem_replicate.1 hc).2]; exact head ha) hb.fits
  · split
    · exact zipA_good hf ha rfl (by simp) ha.fits (fun c hc => by rw [(List.mem_replicate.1 hc).2]; exact head hb)
    · split
      · exact ⟨by simp [eArr], fun h => absurd h (by decide)⟩
      · split
        · exact ⟨by simp [eArr], fun h => absurd h (by decide)⟩
        · rename_i hs
          have hs' : a.shape = b.shape := by simpa using hs
          exact zipA_good hf ha rfl (by rw [ha.size, hb.size, hs']) ha.fits hb.fits

theorem Tryz.enters190 : Enters Tryz.prog 190 := Go.Proofs.enters_of Tryz.func190 (by decide) rfl
set_option maxHeartbeats 400000 in
theorem plus_fn (w : World) : FnTwo 190 #[] w (pairP plusF) := by
  intro W P u v a b _ hP ha hb hoa hob
  have HC := hide (fun W' (h : Below W.heap.size W W') (hs : W.heap.size + 2 < W'.heap.size) => pair_any plusF 241 plus_rule (fun b => P b ∧ b ≠ W.heap.size + 2) W' (fun b h' => ⟨hP b (by omega), by omega⟩) u v a b ((ha.imp (fun b hp hl => ⟨hp, by omega⟩)).below h) ((hb.imp (fun b hp hl => ⟨hp, by omega⟩)).below h) hoa hob)
  obtain ⟨so, sn, sc, co, cn, cc, rfl, ha1, ha2⟩ := ha
  obtain ⟨so2, sn2, sc2, co2, cn2, cc2, rfl, hb1, hb2⟩ := hb
  clear hP hoa hob ha1 ha2 hb1 hb2
  obtain ⟨r, hr⟩ : ∃ r, pairP plusF a b = r := ⟨_, rfl⟩
  rw [hr] at HC ⊢
  clear hr
  go_enter Tryz.func190, Tryz.ntmps190
  go_wp2_with (go_at_call 240; refine (unhide HC _ ((((Below.refl W.heap.size W).alloc (Nat.le_refl _) _).alloc (by simp) _).alloc (by simp <;> omega) _) (by simp)).mono ?_; rintro e w1 ⟨s1, s2, s3, c1, c2, c3, rfl, h1, hb1⟩; have HA := hide h1; have HB := hide hb1; obtain ⟨hc, hf⟩ := bcell hb1; have d0 := ((hc (W.heap.size + 1 + 1) 0 (by simp)).trans (World.cell?_alloc_at _ _ _ _ (by simp))).trans rfl; have d1 := ((hc (W.heap.size + 1 + 1) 1 (by simp)).trans (World.cell?_alloc_at _ _ _ _ (by simp))).trans rfl; have g0 := (hf (W.heap.size + 1 + 1) 0 (by simp)).trans (World.frozen?_alloc_at _ _ _ _ (by simp)); have g1 := (hf (W.heap.size + 1 + 1) 1 (by simp)).trans (World.frozen?_alloc_at _ _ _ _ (by simp)); clear h1 hb1 hc hf)
  refine bodyPost_ret (v := .tuple #[.agg #[.slice s1 s2 s3, .slice c1 c2 c3], .int .i64 r.2]) (by simp [results, Tryz.results190, go_sem, d0, d1]) rfl ⟨_, _, _, _, _, _, rfl, ?_, ?_⟩
  · exact (((unhide HA).set (fun h => h.2 rfl) 0 _).set (fun h => h.2 rfl) 1 _).imp (fun b h _ => h.1)
  · exact (((((Below.refl W.heap.size W).alloc (Nat.le_refl _) _).alloc (by simp) _).alloc (by simp <;> omega) _).trans ((unhide HB).mono (by simp <;> omega))).setCell (p := ⟨W.heap.size + 1 + 1, 0, none⟩) (by show W.heap.size ≤ W.heap.size + 1 + 1; omega) _ |>.setCell (p := ⟨W.heap.size + 1 + 1, 1, none⟩) (by show W.heap.size ≤ W.heap.size + 1 + 1; omega) _
theorem Tryz.enters191 : Enters Tryz.prog 191 := Go.Proofs.enters_of Tryz.func191 (by decide) rfl
set_option maxHeartbeats 400000 in
theorem minus_fn (w : World) : FnTwo 191 #[] w (pairP minusF) := by
  intro W P u v a b _ hP ha hb hoa hob
  have HC := hide (fun W' (h : Below W.heap.size W W') (hs : W.heap.size + 2 < W'.heap.size) => pair_any minusF 242 minus_rule (fun b => P b ∧ b ≠ W.heap.size + 2) W' (fun b h' => ⟨hP b (by omega), by omega⟩) u v a b ((ha.imp (fun b hp hl => ⟨hp, by omega⟩)).below h) ((hb.imp (fun b hp hl => ⟨hp, by omega⟩)).below h) hoa hob)
  obtain ⟨so, sn, sc, co, cn, cc, rfl, ha1, ha2⟩ := ha
  obtain ⟨so2, sn2, sc2, co2, cn2, cc2, rfl, hb1, hb2⟩ := hb
  clear hP hoa hob ha1 ha2 hb1 hb2
  obtain ⟨r, hr⟩ : ∃ r, pairP minusF a b = r := ⟨_, rfl⟩
  rw [hr] at HC ⊢
  clear hr
  go_enter Tryz.func191, Tryz.ntmps191
  go_wp2_with (go_at_call 240; refine (unhide HC _ ((((Below.refl W.heap.size W).alloc (Nat.le_refl _) _).alloc (by simp) _).alloc (by simp <;> omega) _) (by simp)).mono ?_; rintro e w1 ⟨s1, s2, s3, c1, c2, c3, rfl, h1, hb1⟩; have HA := hide h1; have HB := hide hb1; obtain ⟨hc, hf⟩ := bcell hb1; have d0 := ((hc (W.heap.size + 1 + 1) 0 (by simp)).trans (World.cell?_alloc_at _ _ _ _ (by simp))).trans rfl; have d1 := ((hc (W.heap.size + 1 + 1) 1 (by simp)).trans (World.cell?_alloc_at _ _ _ _ (by simp))).trans rfl; have g0 := (hf (W.heap.size + 1 + 1) 0 (by simp)).trans (World.frozen?_alloc_at _ _ _ _ (by simp)); have g1 := (hf (W.heap.size + 1 + 1) 1 (by simp)).trans (World.frozen?_alloc_at _ _ _ _ (by simp)); clear h1 hb1 hc hf)
  refine bodyPost_ret (v := .tuple #[.agg #[.slice s1 s2 s3, .slice c1 c2 c3], .int .i64 r.2]) (by simp [results, Tryz.results191, go_sem, d0, d1]) rfl ⟨_, _, _, _, _, _, rfl, ?_, ?_⟩
  · exact (((unhide HA).set (fun h => h.2 rfl) 0 _).set (fun h => h.2 rfl) 1 _).imp (fun b h _ => h.1)
  · exact (((((Below.refl W.heap.size W).alloc (Nat.le_refl _) _).alloc (by simp) _).alloc (by simp <;> omega) _).trans ((unhide HB).mono (by simp <;> omega))).setCell (p := ⟨W.heap.size + 1 + 1, 0, none⟩) (by show W.heap.size ≤ W.heap.size + 1 + 1; omega) _ |>.setCell (p := ⟨W.heap.size + 1 + 1, 1, none⟩) (by show W.heap.size ≤ W.heap.size + 1 + 1; omega) _
end Go.Proofs.YtjobgpahajhbnaaGreatDoor
namespace Go.Proofs.YtjobgpahajhbnaaGreatDoor
open Go.RowKit Go.Proofs
attribute [local go_sem ↓] Go.wp_at_zero Go.wp_at_succ

set_option maxHeartbeats 400000 in
theorem pick_any (c n : Int) (hc : fit64 c) (hn : 0 < n) (w : World) : Calls Tryz.prog 25 #[.int .i64 c, .int .i64 n] w fun e w' => (∃ r, e = .returned (.int .i64 r) ∧ 0 ≤ r ∧ r < n) ∧ w' = w := by
  unfold fit64 at hc
  have hn0 : (n == 0) = false := by simp; omega
  by_cases h0 : c < 0
  · have e1 : wrap64 (c + 1) = c + 1 := by unfold wrap64; omega
    have e2 : wrap64 (-(c + 1)) = -(c + 1) := by unfold wrap64; omega
    have HM := hide (show 0 ≤ (-(c + 1)).tmod n ∧ (-(c + 1)).tmod n < n by
      rw [Int.tmod_eq_emod_of_nonneg (by omega)]
      exact ⟨Int.emod_nonneg _ (by omega), Int.emod_lt_of_pos _ hn⟩)
    go_enter Tryz.func25, Tryz.ntmps25
    go_wp2
    exact bodyPost_ret (v := .int .i64 (-((c + 1).tmod n))) (by simp [results, Tryz.results25, go_sem]) rfl ⟨⟨_, rfl, by have := unhide HM; rw [Int.neg_tmod] at this; exact this⟩, rfl⟩
  · have HM := hide (show 0 ≤ c.tmod n ∧ c.tmod n < n by
      rw [Int.tmod_eq_emod_of_nonneg (by omega)]
      exact ⟨Int.emod_nonneg _ (by omega), Int.emod_lt_of_pos _ hn⟩)
    go_enter Tryz.func25, Tryz.ntmps25
    go_wp2
    exact bodyPost_ret (v := .int .i64 (c % n)) (by simp [results, Tryz.results25, go_sem]) rfl ⟨⟨_, rfl, Int.emod_nonneg _ (by omega), Int.emod_lt_of_pos _ hn⟩, rfl⟩
theorem dec_all : ((List.range 100).all fun i => (Lib.decDigits i).all dU && decide (1 ≤ (Lib.decDigits i).length ∧ (Lib.decDigits i).length ≤ 2) && val (Lib.decDigits i) == i) = true := by kernel_rfl
theorem dec_nm {i : Nat} (h : i < 100) : (Lib.decDigits i).all dU = true ∧ 1 ≤ (Lib.decDigits i).length ∧ (Lib.decDigits i).length ≤ 2 ∧ val (Lib.decDigits i) = i := by
  have := List.all_eq_true.1 dec_all i (List.mem_range.2 h)
  simp only [Bool.and_eq_true, decide_eq_true_eq, beq_iff_eq] at this
  exact ⟨this.1.1, this.1.2.1, this.1.2.2, this.2⟩
set_option maxHeartbeats 400000 in
theorem num_any (n : Int) (h : -100 < n ∧ n < 100) (w : World) : Calls Tryz.prog 26 #[.int .i64 n] w fun e w' => (∃ t, e = .returned (.string ⟨List.toArray t⟩) ∧ Nm n t ∧ t.length ≤ 3) ∧ w' = w := by
  by_cases h0 : n < 0
  · obtain ⟨i, rfl⟩ : ∃ i : Nat, n = -(i : Int) := ⟨n.natAbs, by omega⟩
    have hi : i < 100 := by omega
    obtain ⟨d1, d2, d3, d4⟩ := dec_nm hi
    have e1 : wrap64 (-(-(i : Int))) = i := by unfold wrap64; omega
    go_enter Tryz.func26, Tryz.ntmps26
    go_wp2_with (go_at_call 39; refine (Tryz.strconv_FormatInt_10_small i hi _).mono ?_; rintro e w' ⟨rfl, rfl⟩)
    refine bodyPost_ret (v := .string ⟨(95 :: Lib.decDigits i).toArray⟩) (by simp [results, Tryz.results26, go_sem]; apply ba_ext; simp) rfl ⟨⟨_, rfl, ?_, by simp; omega⟩, rfl⟩
    have := Nm.neg _ d1 d2 (by omega) (by omega)
    rwa [d4] at this
  · obtain ⟨i, rfl⟩ : ∃ i : Nat, n = (i : Int) := ⟨n.natAbs, by omega⟩
    have hi : i < 100 := by omega
    obtain ⟨d1, d2, d3, d4⟩ := dec_nm hi
    go_enter Tryz.func26, Tryz.ntmps26
    go_wp2_with (go_at_call 39; refine (Tryz.strconv_FormatInt_10_small i hi _).mono ?_; rintro e w' ⟨rfl, rfl⟩)
    refine bodyPost_ret (v := .string ⟨(Lib.decDigits i).toArray⟩) (by simp [results, Tryz.results26, go_sem]) rfl ⟨⟨_, rfl, ?_, by omega⟩, rfl⟩
    have := Nm.pos _ d1 d2 (by omega) (by omega)
    rwa [d4] at this
end Go.Proofs.YtjobgpahajhbnaaGreatDoor
