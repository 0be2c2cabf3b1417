import Derived.Test.YtjobgpahajhbnaaGreatDoorEd
import Derived.Maps.OwnSet
namespace Go.Proofs.YtjobgpahajhbnaaGreatDoor
open Go.RowKit Go.Proofs Go.Maps

theorem wpList_insert_own {H : Type} {P : Program} (w : World) {ops : Array Oper} {rest : List Oper} {o : Oper} {a : Act} {Q : Exit → Act → World → Prop}
    (hg : o.guard = none) (m x v : Operand) (t : TypeId) (hop : o.op = Op.insert t m x v)
    (k e : TypeId) (K : Keyed P k) (ht : P.underlying t = some (.map k e)) (R : Value → Option (DataW H × List MemPlace)) (b n : Nat) (D : DataW H)
    (hm : a.eval m = .map (some b)) (hown : w.ownsMap P k R b n D) (hn : n < maxLen) (key val : Value) (kl : Lit) (hx : a.eval x = key) (hv : a.eval v = val) (hkey : keyOf P k key = some kl)
    (d : DataW H) (ps : List MemPlace) (hval : R val = some (d, ps))
    (hK : ∀ w', w'.ownsMap P k R b (n + 1) (D.put kl d) → w.grownBy w' (some b) → wpList P ops Q rest (a.put o.dst undef) w') :
    wpList P ops Q (o :: rest) a w := by
  refine wpList_plain hg fun K' hK' => ?_
  obtain ⟨w', hrun, r1, r2⟩ := hown.update K ht hn hkey hval
  unfold Oper.wp
  simp [execOp, hop, hm, hx, hv, hrun, Result.andThen]
  exact hK' _ _ (hK w' r1 r2)

theorem Tryz.law9 : Keyed Tryz.prog 9 := string_keyed Tryz.underlying9
/-- an element reads as itself -/
def selfE (v : Value) : Option (DataW Value × List MemPlace) := some (.held v, [])
theorem Tryz.zero241 (w : World) : (zeroValue 241).run Tryz.prog w = .ok (.agg #[.nilFunc, .int .i64 0]) w := by kernel_rfl

theorem below_map {b : Nat} {w w1 w2 : World} (h : Below b w w1) (hb : b = w.heap.size) (hg : w1.grownBy w2 (some b)) : Below b w w2 := h.grown hg (by rw [hb]; exact h.size) (fun q hq => by cases hq; exact Nat.le_refl _)
def signsD : DataW Value := ((((((((((.map [] : DataW Value).put (.string [43]) (.held (.agg #[.func (.func 190) #[] #[], .int .i64 0]))).put (.string [45]) (.held (.agg #[.func (.func 191) #[] #[], .int .i64 0]))).put (.string [42]) (.held (.agg #[.func (.func 192) #[] #[], .int .i64 1]))).put (.string [37]) (.held (.agg #[.func (.func 193) #[] #[], .int .i64 1]))).put (.string [124]) (.held (.agg #[.func (.func 194) #[] #[], .int .i64 0]))).put (.string [38]) (.held (.agg #[.func (.func 195) #[] #[], .int .i64 9223372036854775807]))).put (.string [33]) (.held (.agg #[.func (.func 196) #[] #[], .int .i64 (-9223372036854775808)]))).put (.string [61]) (.held (.agg #[.func (.func 197) #[] #[], .int .i64 1]))).put (.string [60]) (.held (.agg #[.func (.func 198) #[] #[], .int .i64 0])))
set_option maxHeartbeats 1000000 in
set_option maxRecDepth 20000 in
theorem signs_any (w : World) : Calls Tryz.prog 154 #[] w fun e w' => e = .returned (.map (some w.heap.size)) ∧ w'.ownsMap Tryz.prog 9 selfE w.heap.size 9 signsD ∧ Below w.heap.size w w' := by
  have hmm := @run_makeMap Tryz.prog
  have hb0 : Below w.heap.size w (w.alloc (.map #[] 0)) := (Below.refl w.heap.size w).alloc (Nat.le_refl _) _
  have HO0 := hide (World.ownsMap_made w Tryz.prog 9 selfE)
  have HB0 := hide hb0
  clear hb0
  go_enter Tryz.func154, Tryz.ntmps154
  go_wp2_with (refine wpList_insert_own _ rfl _ _ _ 242 rfl 9 241 Tryz.law9 Tryz.underlying242 selfE _ _ _ rfl (unhide HO0) (by decide) _ _ (.string [43]) rfl rfl rfl (.held (.agg #[.func (.func 190) #[] #[], .int .i64 0])) [] rfl ?_)
  intro w1 o1 k1
  have HO1 := hide o1
  have HB1 := hide (below_map (unhide HB0) rfl k1)
  clear o1 k1 HO0 HB0
  go_wp2_with (refine wpList_insert_own _ rfl _ _ _ 242 rfl 9 241 Tryz.law9 Tryz.underlying242 selfE _ _ _ rfl (unhide HO1) (by decide) _ _ (.string [45]) rfl rfl rfl (.held (.agg #[.func (.func 191) #[] #[], .int .i64 0])) [] rfl ?_)
  intro w2 o2 k2
  have HO2 := hide o2
  have HB2 := hide (below_map (unhide HB1) rfl k2)
  clear o2 k2 HO1 HB1
  go_wp2_with (refine wpList_insert_own _ rfl _ _ _ 242 rfl 9 241 Tryz.law9 Tryz.underlying242 selfE _ _ _ rfl (unhide HO2) (by decide) _ _ (.string [42]) rfl rfl rfl (.held (.agg #[.func (.func 192) #[] #[], .int .i64 1])) [] rfl ?_)
  intro w3 o3 k3
  have HO3 := hide o3
  have HB3 := hide (below_map (unhide HB2) rfl k3)
  clear o3 k3 HO2 HB2
  go_wp2_with (refine wpList_insert_own _ rfl _ _ _ 242 rfl 9 241 Tryz.law9 Tryz.underlying242 selfE _ _ _ rfl (unhide HO3) (by decide) _ _ (.string [37]) rfl rfl rfl (.held (.agg #[.func (.func 193) #[] #[], .int .i64 1])) [] rfl ?_)
  intro w4 o4 k4
  have HO4 := hide o4
  have HB4 := hide (below_map (unhide HB3) rfl k4)
  clear o4 k4 HO3 HB3
  go_wp2_with (refine wpList_insert_own _ rfl _ _ _ 242 rfl 9 241 Tryz.law9 Tryz.underlying242 selfE _ _ _ rfl (unhide HO4) (by decide) _ _ (.string [124]) rfl rfl rfl (.held (.agg #[.func (.func 194) #[] #[], .int .i64 0])) [] rfl ?_)
  intro w5 o5 k5
  have HO5 := hide o5
  have HB5 := hide (below_map (unhide HB4) rfl k5)
  clear o5 k5 HO4 HB4
  go_wp2_with (refine wpList_insert_own _ rfl _ _ _ 242 rfl 9 241 Tryz.law9 Tryz.underlying242 selfE _ _ _ rfl (unhide HO5) (by decide) _ _ (.string [38]) rfl rfl rfl (.held (.agg #[.func (.func 195) #[] #[], .int .i64 9223372036854775807])) [] rfl ?_)
  intro w6 o6 k6
  have HO6 := hide o6
  have HB6 := hide (below_map (unhide HB5) rfl k6)
  clear o6 k6 HO5 HB5
  go_wp2_with (refine wpList_insert_own _ rfl _ _ _ 242 rfl 9 241 Tryz.law9 Tryz.underlying242 selfE _ _ _ rfl (unhide HO6) (by decide) _ _ (.string [33]) rfl rfl rfl (.held (.agg #[.func (.func 196) #[] #[], .int .i64 (-9223372036854775808)])) [] rfl ?_)
  intro w7 o7 k7
  have HO7 := hide o7
  have HB7 := hide (below_map (unhide HB6) rfl k7)
  clear o7 k7 HO6 HB6
  go_wp2_with (refine wpList_insert_own _ rfl _ _ _ 242 rfl 9 241 Tryz.law9 Tryz.underlying242 selfE _ _ _ rfl (unhide HO7) (by decide) _ _ (.string [61]) rfl rfl rfl (.held (.agg #[.func (.func 197) #[] #[], .int .i64 1])) [] rfl ?_)
  intro w8 o8 k8
  have HO8 := hide o8
  have HB8 := hide (below_map (unhide HB7) rfl k8)
  clear o8 k8 HO7 HB7
  go_wp2_with (refine wpList_insert_own _ rfl _ _ _ 242 rfl 9 241 Tryz.law9 Tryz.underlying242 selfE _ _ _ rfl (unhide HO8) (by decide) _ _ (.string [60]) rfl rfl rfl (.held (.agg #[.func (.func 198) #[] #[], .int .i64 0])) [] rfl ?_)
  intro w9 o9 k9
  have HO9 := hide o9
  have HB9 := hide (below_map (unhide HB8) rfl k9)
  clear o9 k9 HO8 HB8
  go_wp2_with fail
  exact bodyPost_ret (v := .map (some w.heap.size)) (by simp [results, Tryz.results154, go_sem]) rfl ⟨rfl, unhide HO9, unhide HB9⟩
def formsOneD : DataW Value := (((.map [] : DataW Value).put (.string [47]) (.held (.func (.func 177) #[] #[]))).put (.string [92]) (.held (.func (.func 178) #[] #[])))
set_option maxHeartbeats 1000000 in
set_option maxRecDepth 20000 in
theorem formsOne_any (w : World) : Calls Tryz.prog 152 #[] w fun e w' => e = .returned (.map (some w.heap.size)) ∧ w'.ownsMap Tryz.prog 9 selfE w.heap.size 2 formsOneD ∧ Below w.heap.size w w' := by
  have hmm := @run_makeMap Tryz.prog
  have hb0 : Below w.heap.size w (w.alloc (.map #[] 0)) := (Below.refl w.heap.size w).alloc (Nat.le_refl _) _
  have HO0 := hide (World.ownsMap_made w Tryz.prog 9 selfE)
  have HB0 := hide hb0
  clear hb0
  go_enter Tryz.func152, Tryz.ntmps152
  go_wp2_with (refine wpList_insert_own _ rfl _ _ _ 236 rfl 9 235 Tryz.law9 Tryz.underlying236 selfE _ _ _ rfl (unhide HO0) (by decide) _ _ (.string [47]) rfl rfl rfl (.held (.func (.func 177) #[] #[])) [] rfl ?_)
  intro w1 o1 k1
  have HO1 := hide o1
  have HB1 := hide (below_map (unhide HB0) rfl k1)
  clear o1 k1 HO0 HB0
  go_wp2_with (refine wpList_insert_own _ rfl _ _ _ 236 rfl 9 235 Tryz.law9 Tryz.underlying236 selfE _ _ _ rfl (unhide HO1) (by decide) _ _ (.string [92]) rfl rfl rfl (.held (.func (.func 178) #[] #[])) [] rfl ?_)
  intro w2 o2 k2
  have HO2 := hide o2
  have HB2 := hide (below_map (unhide HB1) rfl k2)
  clear o2 k2 HO1 HB1
  go_wp2_with fail
  exact bodyPost_ret (v := .map (some w.heap.size)) (by simp [results, Tryz.results152, go_sem]) rfl ⟨rfl, unhide HO2, unhide HB2⟩
def onesD : DataW Value := ((((((((((((.map [] : DataW Value).put (.string [43]) (.held (.func (.func 179) #[] #[]))).put (.string [45]) (.held (.func (.func 180) #[] #[]))).put (.string [42]) (.held (.func (.func 181) #[] #[]))).put (.string [124]) (.held (.func (.func 182) #[] #[]))).put (.string [105, 111, 116, 97]) (.held (.func (.func 183) #[] #[]))).put (.string [114, 104, 111]) (.held (.func (.func 184) #[] #[]))).put (.string [114, 97, 118, 101, 108]) (.held (.func (.func 185) #[] #[]))).put (.string [114, 101, 118]) (.held (.func (.func 186) #[] #[]))).put (.string [117, 112]) (.held (.func (.func 187) #[] #[]))).put (.string [100, 111, 119, 110]) (.held (.func (.func 188) #[] #[]))).put (.string [102, 108, 105, 112]) (.held (.func (.func 189) #[] #[])))
set_option maxHeartbeats 1000000 in
set_option maxRecDepth 20000 in
theorem ones_any (w : World) : Calls Tryz.prog 153 #[] w fun e w' => e = .returned (.map (some w.heap.size)) ∧ w'.ownsMap Tryz.prog 9 selfE w.heap.size 11 onesD ∧ Below w.heap.size w w' := by
  have hmm := @run_makeMap Tryz.prog
  have hb0 : Below w.heap.size w (w.alloc (.map #[] 0)) := (Below.refl w.heap.size w).alloc (Nat.le_refl _) _
  have HO0 := hide (World.ownsMap_made w Tryz.prog 9 selfE)
  have HB0 := hide hb0
  clear hb0
  go_enter Tryz.func153, Tryz.ntmps153
  go_wp2_with (refine wpList_insert_own _ rfl _ _ _ 238 rfl 9 201 Tryz.law9 Tryz.underlying238 selfE _ _ _ rfl (unhide HO0) (by decide) _ _ (.string [43]) rfl rfl rfl (.held (.func (.func 179) #[] #[])) [] rfl ?_)
  intro w1 o1 k1
  have HO1 := hide o1
  have HB1 := hide (below_map (unhide HB0) rfl k1)
  clear o1 k1 HO0 HB0
  go_wp2_with (refine wpList_insert_own _ rfl _ _ _ 238 rfl 9 201 Tryz.law9 Tryz.underlying238 selfE _ _ _ rfl (unhide HO1) (by decide) _ _ (.string [45]) rfl rfl rfl (.held (.func (.func 180) #[] #[])) [] rfl ?_)
  intro w2 o2 k2
  have HO2 := hide o2
  have HB2 := hide (below_map (unhide HB1) rfl k2)
  clear o2 k2 HO1 HB1
  go_wp2_with (refine wpList_insert_own _ rfl _ _ _ 238 rfl 9 201 Tryz.law9 Tryz.underlying238 selfE _ _ _ rfl (unhide HO2) (by decide) _ _ (.string [42]) rfl rfl rfl (.held (.func (.func 181) #[] #[])) [] rfl ?_)
  intro w3 o3 k3
  have HO3 := hide o3
  have HB3 := hide (below_map (unhide HB2) rfl k3)
  clear o3 k3 HO2 HB2
  go_wp2_with (refine wpList_insert_own _ rfl _ _ _ 238 rfl 9 201 Tryz.law9 Tryz.underlying238 selfE _ _ _ rfl (unhide HO3) (by decide) _ _ (.string [124]) rfl rfl rfl (.held (.func (.func 182) #[] #[])) [] rfl ?_)
  intro w4 o4 k4
  have HO4 := hide o4
  have HB4 := hide (below_map (unhide HB3) rfl k4)
  clear o4 k4 HO3 HB3
  go_wp2_with (refine wpList_insert_own _ rfl _ _ _ 238 rfl 9 201 Tryz.law9 Tryz.underlying238 selfE _ _ _ rfl (unhide HO4) (by decide) _ _ (.string [105, 111, 116, 97]) rfl rfl rfl (.held (.func (.func 183) #[] #[])) [] rfl ?_)
  intro w5 o5 k5
  have HO5 := hide o5
  have HB5 := hide (below_map (unhide HB4) rfl k5)
  clear o5 k5 HO4 HB4
  go_wp2_with (refine wpList_insert_own _ rfl _ _ _ 238 rfl 9 201 Tryz.law9 Tryz.underlying238 selfE _ _ _ rfl (unhide HO5) (by decide) _ _ (.string [114, 104, 111]) rfl rfl rfl (.held (.func (.func 184) #[] #[])) [] rfl ?_)
  intro w6 o6 k6
  have HO6 := hide o6
  have HB6 := hide (below_map (unhide HB5) rfl k6)
  clear o6 k6 HO5 HB5
  go_wp2_with (refine wpList_insert_own _ rfl _ _ _ 238 rfl 9 201 Tryz.law9 Tryz.underlying238 selfE _ _ _ rfl (unhide HO6) (by decide) _ _ (.string [114, 97, 118, 101, 108]) rfl rfl rfl (.held (.func (.func 185) #[] #[])) [] rfl ?_)
  intro w7 o7 k7
  have HO7 := hide o7
  have HB7 := hide (below_map (unhide HB6) rfl k7)
  clear o7 k7 HO6 HB6
  go_wp2_with (refine wpList_insert_own _ rfl _ _ _ 238 rfl 9 201 Tryz.law9 Tryz.underlying238 selfE _ _ _ rfl (unhide HO7) (by decide) _ _ (.string [114, 101, 118]) rfl rfl rfl (.held (.func (.func 186) #[] #[])) [] rfl ?_)
  intro w8 o8 k8
  have HO8 := hide o8
  have HB8 := hide (below_map (unhide HB7) rfl k8)
  clear o8 k8 HO7 HB7
  go_wp2_with (refine wpList_insert_own _ rfl _ _ _ 238 rfl 9 201 Tryz.law9 Tryz.underlying238 selfE _ _ _ rfl (unhide HO8) (by decide) _ _ (.string [117, 112]) rfl rfl rfl (.held (.func (.func 187) #[] #[])) [] rfl ?_)
  intro w9 o9 k9
  have HO9 := hide o9
  have HB9 := hide (below_map (unhide HB8) rfl k9)
  clear o9 k9 HO8 HB8
  go_wp2_with (refine wpList_insert_own _ rfl _ _ _ 238 rfl 9 201 Tryz.law9 Tryz.underlying238 selfE _ _ _ rfl (unhide HO9) (by decide) _ _ (.string [100, 111, 119, 110]) rfl rfl rfl (.held (.func (.func 188) #[] #[])) [] rfl ?_)
  intro w10 o10 k10
  have HO10 := hide o10
  have HB10 := hide (below_map (unhide HB9) rfl k10)
  clear o10 k10 HO9 HB9
  go_wp2_with (refine wpList_insert_own _ rfl _ _ _ 238 rfl 9 201 Tryz.law9 Tryz.underlying238 selfE _ _ _ rfl (unhide HO10) (by decide) _ _ (.string [102, 108, 105, 112]) rfl rfl rfl (.held (.func (.func 189) #[] #[])) [] rfl ?_)
  intro w11 o11 k11
  have HO11 := hide o11
  have HB11 := hide (below_map (unhide HB10) rfl k11)
  clear o11 k11 HO10 HB10
  go_wp2_with fail
  exact bodyPost_ret (v := .map (some w.heap.size)) (by simp [results, Tryz.results153, go_sem]) rfl ⟨rfl, unhide HO11, unhide HB11⟩
def formsTwoD : DataW Value := ((.map [] : DataW Value).put (.string [46]) (.held (.func (.func 199) #[] #[])))
set_option maxHeartbeats 1000000 in
set_option maxRecDepth 20000 in
theorem formsTwo_any (w : World) : Calls Tryz.prog 157 #[] w fun e w' => e = .returned (.map (some w.heap.size)) ∧ w'.ownsMap Tryz.prog 9 selfE w.heap.size 1 formsTwoD ∧ Below w.heap.size w w' := by
  have hmm := @run_makeMap Tryz.prog
  have hb0 : Below w.heap.size w (w.alloc (.map #[] 0)) := (Below.refl w.heap.size w).alloc (Nat.le_refl _) _
  have HO0 := hide (World.ownsMap_made w Tryz.prog 9 selfE)
  have HB0 := hide hb0
  clear hb0
  go_enter Tryz.func157, Tryz.ntmps157
  go_wp2_with (refine wpList_insert_own _ rfl _ _ _ 247 rfl 9 246 Tryz.law9 Tryz.underlying247 selfE _ _ _ rfl (unhide HO0) (by decide) _ _ (.string [46]) rfl rfl rfl (.held (.func (.func 199) #[] #[])) [] rfl ?_)
  intro w1 o1 k1
  have HO1 := hide o1
  have HB1 := hide (below_map (unhide HB0) rfl k1)
  clear o1 k1 HO0 HB0
  go_wp2_with fail
  exact bodyPost_ret (v := .map (some w.heap.size)) (by simp [results, Tryz.results157, go_sem]) rfl ⟨rfl, unhide HO1, unhide HB1⟩
def twosD : DataW Value := (((((((((.map [] : DataW Value).put (.string [114, 104, 111]) (.held (.func (.func 200) #[] #[]))).put (.string [114, 101, 118]) (.held (.func (.func 201) #[] #[]))).put (.string [116, 97, 107, 101]) (.held (.func (.func 202) #[] #[]))).put (.string [100, 114, 111, 112]) (.held (.func (.func 203) #[] #[]))).put (.string [99, 97, 116]) (.held (.func (.func 204) #[] #[]))).put (.string [105, 110]) (.held (.func (.func 205) #[] #[]))).put (.string [97, 116]) (.held (.func (.func 206) #[] #[]))).put (.string [107, 101, 101, 112]) (.held (.func (.func 207) #[] #[])))
set_option maxHeartbeats 1000000 in
set_option maxRecDepth 20000 in
theorem twos_any (w : World) : Calls Tryz.prog 158 #[] w fun e w' => e = .returned (.map (some w.heap.size)) ∧ w'.ownsMap Tryz.prog 9 selfE w.heap.size 8 twosD ∧ Below w.heap.size w w' := by
  have hmm := @run_makeMap Tryz.prog
  have hb0 : Below w.heap.size w (w.alloc (.map #[] 0)) := (Below.refl w.heap.size w).alloc (Nat.le_refl _) _
  have HO0 := hide (World.ownsMap_made w Tryz.prog 9 selfE)
  have HB0 := hide hb0
  clear hb0
  go_enter Tryz.func158, Tryz.ntmps158
  go_wp2_with (refine wpList_insert_own _ rfl _ _ _ 249 rfl 9 205 Tryz.law9 Tryz.underlying249 selfE _ _ _ rfl (unhide HO0) (by decide) _ _ (.string [114, 104, 111]) rfl rfl rfl (.held (.func (.func 200) #[] #[])) [] rfl ?_)
  intro w1 o1 k1
  have HO1 := hide o1
  have HB1 := hide (below_map (unhide HB0) rfl k1)
  clear o1 k1 HO0 HB0
  go_wp2_with (refine wpList_insert_own _ rfl _ _ _ 249 rfl 9 205 Tryz.law9 Tryz.underlying249 selfE _ _ _ rfl (unhide HO1) (by decide) _ _ (.string [114, 101, 118]) rfl rfl rfl (.held (.func (.func 201) #[] #[])) [] rfl ?_)
  intro w2 o2 k2
  have HO2 := hide o2
  have HB2 := hide (below_map (unhide HB1) rfl k2)
  clear o2 k2 HO1 HB1
  go_wp2_with (refine wpList_insert_own _ rfl _ _ _ 249 rfl 9 205 Tryz.law9 Tryz.underlying249 selfE _ _ _ rfl (unhide HO2) (by decide) _ _ (.string [116, 97, 107, 101]) rfl rfl rfl (.held (.func (.func 202) #[] #[])) [] rfl ?_)
  intro w3 o3 k3
  have HO3 := hide o3
  have HB3 := hide (below_map (unhide HB2) rfl k3)
  clear o3 k3 HO2 HB2
  go_wp2_with (refine wpList_insert_own _ rfl _ _ _ 249 rfl 9 205 Tryz.law9 Tryz.underlying249 selfE _ _ _ rfl (unhide HO3) (by decide) _ _ (.string [100, 114, 111, 112]) rfl rfl rfl (.held (.func (.func 203) #[] #[])) [] rfl ?_)
  intro w4 o4 k4
  have HO4 := hide o4
  have HB4 := hide (below_map (unhide HB3) rfl k4)
  clear o4 k4 HO3 HB3
  go_wp2_with (refine wpList_insert_own _ rfl _ _ _ 249 rfl 9 205 Tryz.law9 Tryz.underlying249 selfE _ _ _ rfl (unhide HO4) (by decide) _ _ (.string [99, 97, 116]) rfl rfl rfl (.held (.func (.func 204) #[] #[])) [] rfl ?_)
  intro w5 o5 k5
  have HO5 := hide o5
  have HB5 := hide (below_map (unhide HB4) rfl k5)
  clear o5 k5 HO4 HB4
  go_wp2_with (refine wpList_insert_own _ rfl _ _ _ 249 rfl 9 205 Tryz.law9 Tryz.underlying249 selfE _ _ _ rfl (unhide HO5) (by decide) _ _ (.string [105, 110]) rfl rfl rfl (.held (.func (.func 205) #[] #[])) [] rfl ?_)
  intro w6 o6 k6
  have HO6 := hide o6
  have HB6 := hide (below_map (unhide HB5) rfl k6)
  clear o6 k6 HO5 HB5
  go_wp2_with (refine wpList_insert_own _ rfl _ _ _ 249 rfl 9 205 Tryz.law9 Tryz.underlying249 selfE _ _ _ rfl (unhide HO6) (by decide) _ _ (.string [97, 116]) rfl rfl rfl (.held (.func (.func 206) #[] #[])) [] rfl ?_)
  intro w7 o7 k7
  have HO7 := hide o7
  have HB7 := hide (below_map (unhide HB6) rfl k7)
  clear o7 k7 HO6 HB6
  go_wp2_with (refine wpList_insert_own _ rfl _ _ _ 249 rfl 9 205 Tryz.law9 Tryz.underlying249 selfE _ _ _ rfl (unhide HO7) (by decide) _ _ (.string [107, 101, 101, 112]) rfl rfl rfl (.held (.func (.func 207) #[] #[])) [] rfl ?_)
  intro w8 o8 k8
  have HO8 := hide o8
  have HB8 := hide (below_map (unhide HB7) rfl k8)
  clear o8 k8 HO7 HB7
  go_wp2_with fail
  exact bodyPost_ret (v := .map (some w.heap.size)) (by simp [results, Tryz.results158, go_sem]) rfl ⟨rfl, unhide HO8, unhide HB8⟩
end Go.Proofs.YtjobgpahajhbnaaGreatDoor
