import Derived.Test.YtjobgpahajhbnabGreatDoorRi
import Derived.Maps.OwnSet
import Derived.Test.YtjobgpahajhbnabGreatDoorRb
import Derived.Laws.EntriesVeiled
namespace Go.Proofs.YtjobgpahajhbnabGreatDoor
open Go.RowKit Go.Proofs Go.Maps
theorem Jb {H : Type} {P : Program} (w : World) {ops : Array Oper} {rest : List Oper} {o : Oper} {a : Act} {Q : Exit → Act → World → Prop}
    (hg : o.guard = none) (m x v : Operand) (t : TypeId) (hop : o.op = Op.insert t m x v)
    (k e : TypeId) (K : Keyed P k) (ht : P.underlying t = some (.map k e)) (R : Value → Option (DataW H × List MemPlace)) (b n : Nat) (D : DataW H)
    (hm : a.eval m = .map (some b)) (hown : w.ownsMap P k R b n D) (hn : n < maxLen) (key val : Value) (kl : Lit) (hx : a.eval x = key) (hv : a.eval v = val) (hkey : keyOf P k key = some kl)
    (d : DataW H) (ps : List MemPlace) (hval : R val = some (d, ps))
    (hK : ∀ w', w'.ownsMap P k R b (n + 1) (D.put kl d) → w.grownBy w' (some b) → wpList P ops Q rest (a.put o.dst undef) w') :
    wpList P ops Q (o :: rest) a w := by
  refine wpList_plain hg fun K' hK' => ?_
  obtain ⟨w', hrun, r1, r2⟩ := hown.update K ht hn hkey hval
  unfold Oper.wp
  simp [execOp, hop, hm, hx, hv, hrun, Result.andThen]
  exact hK' _ _ (hK w' r1 r2)
theorem Tryz.law9 : Keyed Tryz.prog 9 := string_keyed Tryz.underlying9
def Jm (v : Value) : Option (DataW Value × List MemPlace) := some (.held v, [])
theorem Tryz.zero143 (w : World) : (zeroValue 143).run Tryz.prog w = .ok (.agg #[.nilFunc, .int .i64 0]) w := by kernel_rfl
theorem Jh {b : Nat} {w w1 w2 : World} (h : Below b w w1) (hb : b = w.heap.size) (hg : w1.grownBy w2 (some b)) : Below b w w2 := h.grown hg (by rw [hb]; exact h.size) (fun q hq => by cases hq; exact Nat.le_refl _)
def signsD : DataW Value := ((((((((((.map [] : DataW Value).put (.string [43]) (.held (.agg #[.func (.func 110) #[] #[], .int .i64 0]))).put (.string [45]) (.held (.agg #[.func (.func 111) #[] #[], .int .i64 0]))).put (.string [42]) (.held (.agg #[.func (.func 112) #[] #[], .int .i64 1]))).put (.string [37]) (.held (.agg #[.func (.func 113) #[] #[], .int .i64 1]))).put (.string [124]) (.held (.agg #[.func (.func 114) #[] #[], .int .i64 0]))).put (.string [38]) (.held (.agg #[.func (.func 115) #[] #[], .int .i64 9223372036854775807]))).put (.string [33]) (.held (.agg #[.func (.func 116) #[] #[], .int .i64 (-9223372036854775808)]))).put (.string [61]) (.held (.agg #[.func (.func 117) #[] #[], .int .i64 1]))).put (.string [60]) (.held (.agg #[.func (.func 118) #[] #[], .int .i64 0])))
set_option maxHeartbeats 1000000 in
set_option maxRecDepth 20000 in
theorem Zn (w : World) : Calls Tryz.prog 74 #[] w fun e w' => e = .returned (.map (some w.heap.size)) ∧ w'.ownsMap Tryz.prog 9 Jm w.heap.size 9 signsD ∧ Below w.heap.size w w' := by
  have hmm := @run_makeMap Tryz.prog
  have hb0 : Below w.heap.size w (w.alloc (.map #[] 0)) := (Below.refl w.heap.size w).alloc (Nat.le_refl _) _
  have HO0 := hide (World.ownsMap_made w Tryz.prog 9 Jm)
  have HB0 := hide hb0
  clear hb0
  go_enter Tryz.func74, Tryz.ntmps74
  go_wp2_with (refine Jb _ rfl _ _ _ 144 rfl 9 143 Tryz.law9 Tryz.underlying144 Jm _ _ _ rfl (Ja HO0) (by decide) _ _ (.string [43]) rfl rfl rfl (.held (.agg #[.func (.func 110) #[] #[], .int .i64 0])) [] rfl ?_)
  intro w1 o1 k1
  have HO1 := hide o1
  have HB1 := hide (Jh (Ja HB0) rfl k1)
  clear o1 k1 HO0 HB0
  go_wp2_with (refine Jb _ rfl _ _ _ 144 rfl 9 143 Tryz.law9 Tryz.underlying144 Jm _ _ _ rfl (Ja HO1) (by decide) _ _ (.string [45]) rfl rfl rfl (.held (.agg #[.func (.func 111) #[] #[], .int .i64 0])) [] rfl ?_)
  intro w2 o2 k2
  have HO2 := hide o2
  have HB2 := hide (Jh (Ja HB1) rfl k2)
  clear o2 k2 HO1 HB1
  go_wp2_with (refine Jb _ rfl _ _ _ 144 rfl 9 143 Tryz.law9 Tryz.underlying144 Jm _ _ _ rfl (Ja HO2) (by decide) _ _ (.string [42]) rfl rfl rfl (.held (.agg #[.func (.func 112) #[] #[], .int .i64 1])) [] rfl ?_)
  intro w3 o3 k3
  have HO3 := hide o3
  have HB3 := hide (Jh (Ja HB2) rfl k3)
  clear o3 k3 HO2 HB2
  go_wp2_with (refine Jb _ rfl _ _ _ 144 rfl 9 143 Tryz.law9 Tryz.underlying144 Jm _ _ _ rfl (Ja HO3) (by decide) _ _ (.string [37]) rfl rfl rfl (.held (.agg #[.func (.func 113) #[] #[], .int .i64 1])) [] rfl ?_)
  intro w4 o4 k4
  have HO4 := hide o4
  have HB4 := hide (Jh (Ja HB3) rfl k4)
  clear o4 k4 HO3 HB3
  go_wp2_with (refine Jb _ rfl _ _ _ 144 rfl 9 143 Tryz.law9 Tryz.underlying144 Jm _ _ _ rfl (Ja HO4) (by decide) _ _ (.string [124]) rfl rfl rfl (.held (.agg #[.func (.func 114) #[] #[], .int .i64 0])) [] rfl ?_)
  intro w5 o5 k5
  have HO5 := hide o5
  have HB5 := hide (Jh (Ja HB4) rfl k5)
  clear o5 k5 HO4 HB4
  go_wp2_with (refine Jb _ rfl _ _ _ 144 rfl 9 143 Tryz.law9 Tryz.underlying144 Jm _ _ _ rfl (Ja HO5) (by decide) _ _ (.string [38]) rfl rfl rfl (.held (.agg #[.func (.func 115) #[] #[], .int .i64 9223372036854775807])) [] rfl ?_)
  intro w6 o6 k6
  have HO6 := hide o6
  have HB6 := hide (Jh (Ja HB5) rfl k6)
  clear o6 k6 HO5 HB5
  go_wp2_with (refine Jb _ rfl _ _ _ 144 rfl 9 143 Tryz.law9 Tryz.underlying144 Jm _ _ _ rfl (Ja HO6) (by decide) _ _ (.string [33]) rfl rfl rfl (.held (.agg #[.func (.func 116) #[] #[], .int .i64 (-9223372036854775808)])) [] rfl ?_)
  intro w7 o7 k7
  have HO7 := hide o7
  have HB7 := hide (Jh (Ja HB6) rfl k7)
  clear o7 k7 HO6 HB6
  go_wp2_with (refine Jb _ rfl _ _ _ 144 rfl 9 143 Tryz.law9 Tryz.underlying144 Jm _ _ _ rfl (Ja HO7) (by decide) _ _ (.string [61]) rfl rfl rfl (.held (.agg #[.func (.func 117) #[] #[], .int .i64 1])) [] rfl ?_)
  intro w8 o8 k8
  have HO8 := hide o8
  have HB8 := hide (Jh (Ja HB7) rfl k8)
  clear o8 k8 HO7 HB7
  go_wp2_with (refine Jb _ rfl _ _ _ 144 rfl 9 143 Tryz.law9 Tryz.underlying144 Jm _ _ _ rfl (Ja HO8) (by decide) _ _ (.string [60]) rfl rfl rfl (.held (.agg #[.func (.func 118) #[] #[], .int .i64 0])) [] rfl ?_)
  intro w9 o9 k9
  have HO9 := hide o9
  have HB9 := hide (Jh (Ja HB8) rfl k9)
  clear o9 k9 HO8 HB8
  go_wp2_with fail
  exact bodyPost_ret (v := .map (some w.heap.size)) (by simp [results, Tryz.results74, go_sem]) rfl ⟨rfl, Ja HO9, Ja HB9⟩
def formsOneD : DataW Value := (((.map [] : DataW Value).put (.string [47]) (.held (.func (.func 97) #[] #[]))).put (.string [92]) (.held (.func (.func 98) #[] #[])))
set_option maxHeartbeats 1000000 in
set_option maxRecDepth 20000 in
theorem Z2 (w : World) : Calls Tryz.prog 72 #[] w fun e w' => e = .returned (.map (some w.heap.size)) ∧ w'.ownsMap Tryz.prog 9 Jm w.heap.size 2 formsOneD ∧ Below w.heap.size w w' := by
  have hmm := @run_makeMap Tryz.prog
  have hb0 : Below w.heap.size w (w.alloc (.map #[] 0)) := (Below.refl w.heap.size w).alloc (Nat.le_refl _) _
  have HO0 := hide (World.ownsMap_made w Tryz.prog 9 Jm)
  have HB0 := hide hb0
  clear hb0
  go_enter Tryz.func72, Tryz.ntmps72
  go_wp2_with (refine Jb _ rfl _ _ _ 138 rfl 9 137 Tryz.law9 Tryz.underlying138 Jm _ _ _ rfl (Ja HO0) (by decide) _ _ (.string [47]) rfl rfl rfl (.held (.func (.func 97) #[] #[])) [] rfl ?_)
  intro w1 o1 k1
  have HO1 := hide o1
  have HB1 := hide (Jh (Ja HB0) rfl k1)
  clear o1 k1 HO0 HB0
  go_wp2_with (refine Jb _ rfl _ _ _ 138 rfl 9 137 Tryz.law9 Tryz.underlying138 Jm _ _ _ rfl (Ja HO1) (by decide) _ _ (.string [92]) rfl rfl rfl (.held (.func (.func 98) #[] #[])) [] rfl ?_)
  intro w2 o2 k2
  have HO2 := hide o2
  have HB2 := hide (Jh (Ja HB1) rfl k2)
  clear o2 k2 HO1 HB1
  go_wp2_with fail
  exact bodyPost_ret (v := .map (some w.heap.size)) (by simp [results, Tryz.results72, go_sem]) rfl ⟨rfl, Ja HO2, Ja HB2⟩
def onesD : DataW Value := ((((((((((((.map [] : DataW Value).put (.string [43]) (.held (.func (.func 99) #[] #[]))).put (.string [45]) (.held (.func (.func 100) #[] #[]))).put (.string [42]) (.held (.func (.func 101) #[] #[]))).put (.string [124]) (.held (.func (.func 102) #[] #[]))).put (.string [105, 111, 116, 97]) (.held (.func (.func 103) #[] #[]))).put (.string [114, 104, 111]) (.held (.func (.func 104) #[] #[]))).put (.string [114, 97, 118, 101, 108]) (.held (.func (.func 105) #[] #[]))).put (.string [114, 101, 118]) (.held (.func (.func 106) #[] #[]))).put (.string [117, 112]) (.held (.func (.func 107) #[] #[]))).put (.string [100, 111, 119, 110]) (.held (.func (.func 108) #[] #[]))).put (.string [102, 108, 105, 112]) (.held (.func (.func 109) #[] #[])))
set_option maxHeartbeats 1000000 in
set_option maxRecDepth 20000 in
theorem Jjy (w : World) : Calls Tryz.prog 73 #[] w fun e w' => e = .returned (.map (some w.heap.size)) ∧ w'.ownsMap Tryz.prog 9 Jm w.heap.size 11 onesD ∧ Below w.heap.size w w' := by
  have hmm := @run_makeMap Tryz.prog
  have hb0 : Below w.heap.size w (w.alloc (.map #[] 0)) := (Below.refl w.heap.size w).alloc (Nat.le_refl _) _
  have HO0 := hide (World.ownsMap_made w Tryz.prog 9 Jm)
  have HB0 := hide hb0
  clear hb0
  go_enter Tryz.func73, Tryz.ntmps73
  go_wp2_with (refine Jb _ rfl _ _ _ 140 rfl 9 110 Tryz.law9 Tryz.underlying140 Jm _ _ _ rfl (Ja HO0) (by decide) _ _ (.string [43]) rfl rfl rfl (.held (.func (.func 99) #[] #[])) [] rfl ?_)
  intro w1 o1 k1
  have HO1 := hide o1
  have HB1 := hide (Jh (Ja HB0) rfl k1)
  clear o1 k1 HO0 HB0
  go_wp2_with (refine Jb _ rfl _ _ _ 140 rfl 9 110 Tryz.law9 Tryz.underlying140 Jm _ _ _ rfl (Ja HO1) (by decide) _ _ (.string [45]) rfl rfl rfl (.held (.func (.func 100) #[] #[])) [] rfl ?_)
  intro w2 o2 k2
  have HO2 := hide o2
  have HB2 := hide (Jh (Ja HB1) rfl k2)
  clear o2 k2 HO1 HB1
  go_wp2_with (refine Jb _ rfl _ _ _ 140 rfl 9 110 Tryz.law9 Tryz.underlying140 Jm _ _ _ rfl (Ja HO2) (by decide) _ _ (.string [42]) rfl rfl rfl (.held (.func (.func 101) #[] #[])) [] rfl ?_)
  intro w3 o3 k3
  have HO3 := hide o3
  have HB3 := hide (Jh (Ja HB2) rfl k3)
  clear o3 k3 HO2 HB2
  go_wp2_with (refine Jb _ rfl _ _ _ 140 rfl 9 110 Tryz.law9 Tryz.underlying140 Jm _ _ _ rfl (Ja HO3) (by decide) _ _ (.string [124]) rfl rfl rfl (.held (.func (.func 102) #[] #[])) [] rfl ?_)
  intro w4 o4 k4
  have HO4 := hide o4
  have HB4 := hide (Jh (Ja HB3) rfl k4)
  clear o4 k4 HO3 HB3
  go_wp2_with (refine Jb _ rfl _ _ _ 140 rfl 9 110 Tryz.law9 Tryz.underlying140 Jm _ _ _ rfl (Ja HO4) (by decide) _ _ (.string [105, 111, 116, 97]) rfl rfl rfl (.held (.func (.func 103) #[] #[])) [] rfl ?_)
  intro w5 o5 k5
  have HO5 := hide o5
  have HB5 := hide (Jh (Ja HB4) rfl k5)
  clear o5 k5 HO4 HB4
  go_wp2_with (refine Jb _ rfl _ _ _ 140 rfl 9 110 Tryz.law9 Tryz.underlying140 Jm _ _ _ rfl (Ja HO5) (by decide) _ _ (.string [114, 104, 111]) rfl rfl rfl (.held (.func (.func 104) #[] #[])) [] rfl ?_)
  intro w6 o6 k6
  have HO6 := hide o6
  have HB6 := hide (Jh (Ja HB5) rfl k6)
  clear o6 k6 HO5 HB5
  go_wp2_with (refine Jb _ rfl _ _ _ 140 rfl 9 110 Tryz.law9 Tryz.underlying140 Jm _ _ _ rfl (Ja HO6) (by decide) _ _ (.string [114, 97, 118, 101, 108]) rfl rfl rfl (.held (.func (.func 105) #[] #[])) [] rfl ?_)
  intro w7 o7 k7
  have HO7 := hide o7
  have HB7 := hide (Jh (Ja HB6) rfl k7)
  clear o7 k7 HO6 HB6
  go_wp2_with (refine Jb _ rfl _ _ _ 140 rfl 9 110 Tryz.law9 Tryz.underlying140 Jm _ _ _ rfl (Ja HO7) (by decide) _ _ (.string [114, 101, 118]) rfl rfl rfl (.held (.func (.func 106) #[] #[])) [] rfl ?_)
  intro w8 o8 k8
  have HO8 := hide o8
  have HB8 := hide (Jh (Ja HB7) rfl k8)
  clear o8 k8 HO7 HB7
  go_wp2_with (refine Jb _ rfl _ _ _ 140 rfl 9 110 Tryz.law9 Tryz.underlying140 Jm _ _ _ rfl (Ja HO8) (by decide) _ _ (.string [117, 112]) rfl rfl rfl (.held (.func (.func 107) #[] #[])) [] rfl ?_)
  intro w9 o9 k9
  have HO9 := hide o9
  have HB9 := hide (Jh (Ja HB8) rfl k9)
  clear o9 k9 HO8 HB8
  go_wp2_with (refine Jb _ rfl _ _ _ 140 rfl 9 110 Tryz.law9 Tryz.underlying140 Jm _ _ _ rfl (Ja HO9) (by decide) _ _ (.string [100, 111, 119, 110]) rfl rfl rfl (.held (.func (.func 108) #[] #[])) [] rfl ?_)
  intro w10 o10 k10
  have HO10 := hide o10
  have HB10 := hide (Jh (Ja HB9) rfl k10)
  clear o10 k10 HO9 HB9
  go_wp2_with (refine Jb _ rfl _ _ _ 140 rfl 9 110 Tryz.law9 Tryz.underlying140 Jm _ _ _ rfl (Ja HO10) (by decide) _ _ (.string [102, 108, 105, 112]) rfl rfl rfl (.held (.func (.func 109) #[] #[])) [] rfl ?_)
  intro w11 o11 k11
  have HO11 := hide o11
  have HB11 := hide (Jh (Ja HB10) rfl k11)
  clear o11 k11 HO10 HB10
  go_wp2_with fail
  exact bodyPost_ret (v := .map (some w.heap.size)) (by simp [results, Tryz.results73, go_sem]) rfl ⟨rfl, Ja HO11, Ja HB11⟩
def formsTwoD : DataW Value := ((.map [] : DataW Value).put (.string [46]) (.held (.func (.func 119) #[] #[])))
set_option maxHeartbeats 1000000 in
set_option maxRecDepth 20000 in
theorem Z1 (w : World) : Calls Tryz.prog 77 #[] w fun e w' => e = .returned (.map (some w.heap.size)) ∧ w'.ownsMap Tryz.prog 9 Jm w.heap.size 1 formsTwoD ∧ Below w.heap.size w w' := by
  have hmm := @run_makeMap Tryz.prog
  have hb0 : Below w.heap.size w (w.alloc (.map #[] 0)) := (Below.refl w.heap.size w).alloc (Nat.le_refl _) _
  have HO0 := hide (World.ownsMap_made w Tryz.prog 9 Jm)
  have HB0 := hide hb0
  clear hb0
  go_enter Tryz.func77, Tryz.ntmps77
  go_wp2_with (refine Jb _ rfl _ _ _ 149 rfl 9 148 Tryz.law9 Tryz.underlying149 Jm _ _ _ rfl (Ja HO0) (by decide) _ _ (.string [46]) rfl rfl rfl (.held (.func (.func 119) #[] #[])) [] rfl ?_)
  intro w1 o1 k1
  have HO1 := hide o1
  have HB1 := hide (Jh (Ja HB0) rfl k1)
  clear o1 k1 HO0 HB0
  go_wp2_with fail
  exact bodyPost_ret (v := .map (some w.heap.size)) (by simp [results, Tryz.results77, go_sem]) rfl ⟨rfl, Ja HO1, Ja HB1⟩
def twosD : DataW Value := (((((((((.map [] : DataW Value).put (.string [114, 104, 111]) (.held (.func (.func 120) #[] #[]))).put (.string [114, 101, 118]) (.held (.func (.func 121) #[] #[]))).put (.string [116, 97, 107, 101]) (.held (.func (.func 122) #[] #[]))).put (.string [100, 114, 111, 112]) (.held (.func (.func 123) #[] #[]))).put (.string [99, 97, 116]) (.held (.func (.func 124) #[] #[]))).put (.string [105, 110]) (.held (.func (.func 125) #[] #[]))).put (.string [97, 116]) (.held (.func (.func 126) #[] #[]))).put (.string [107, 101, 101, 112]) (.held (.func (.func 127) #[] #[])))
set_option maxHeartbeats 1000000 in
set_option maxRecDepth 20000 in
theorem Jit (w : World) : Calls Tryz.prog 78 #[] w fun e w' => e = .returned (.map (some w.heap.size)) ∧ w'.ownsMap Tryz.prog 9 Jm w.heap.size 8 twosD ∧ Below w.heap.size w w' := by
  have hmm := @run_makeMap Tryz.prog
  have hb0 : Below w.heap.size w (w.alloc (.map #[] 0)) := (Below.refl w.heap.size w).alloc (Nat.le_refl _) _
  have HO0 := hide (World.ownsMap_made w Tryz.prog 9 Jm)
  have HB0 := hide hb0
  clear hb0
  go_enter Tryz.func78, Tryz.ntmps78
  go_wp2_with (refine Jb _ rfl _ _ _ 151 rfl 9 114 Tryz.law9 Tryz.underlying151 Jm _ _ _ rfl (Ja HO0) (by decide) _ _ (.string [114, 104, 111]) rfl rfl rfl (.held (.func (.func 120) #[] #[])) [] rfl ?_)
  intro w1 o1 k1
  have HO1 := hide o1
  have HB1 := hide (Jh (Ja HB0) rfl k1)
  clear o1 k1 HO0 HB0
  go_wp2_with (refine Jb _ rfl _ _ _ 151 rfl 9 114 Tryz.law9 Tryz.underlying151 Jm _ _ _ rfl (Ja HO1) (by decide) _ _ (.string [114, 101, 118]) rfl rfl rfl (.held (.func (.func 121) #[] #[])) [] rfl ?_)
  intro w2 o2 k2
  have HO2 := hide o2
  have HB2 := hide (Jh (Ja HB1) rfl k2)
  clear o2 k2 HO1 HB1
  go_wp2_with (refine Jb _ rfl _ _ _ 151 rfl 9 114 Tryz.law9 Tryz.underlying151 Jm _ _ _ rfl (Ja HO2) (by decide) _ _ (.string [116, 97, 107, 101]) rfl rfl rfl (.held (.func (.func 122) #[] #[])) [] rfl ?_)
  intro w3 o3 k3
  have HO3 := hide o3
  have HB3 := hide (Jh (Ja HB2) rfl k3)
  clear o3 k3 HO2 HB2
  go_wp2_with (refine Jb _ rfl _ _ _ 151 rfl 9 114 Tryz.law9 Tryz.underlying151 Jm _ _ _ rfl (Ja HO3) (by decide) _ _ (.string [100, 114, 111, 112]) rfl rfl rfl (.held (.func (.func 123) #[] #[])) [] rfl ?_)
  intro w4 o4 k4
  have HO4 := hide o4
  have HB4 := hide (Jh (Ja HB3) rfl k4)
  clear o4 k4 HO3 HB3
  go_wp2_with (refine Jb _ rfl _ _ _ 151 rfl 9 114 Tryz.law9 Tryz.underlying151 Jm _ _ _ rfl (Ja HO4) (by decide) _ _ (.string [99, 97, 116]) rfl rfl rfl (.held (.func (.func 124) #[] #[])) [] rfl ?_)
  intro w5 o5 k5
  have HO5 := hide o5
  have HB5 := hide (Jh (Ja HB4) rfl k5)
  clear o5 k5 HO4 HB4
  go_wp2_with (refine Jb _ rfl _ _ _ 151 rfl 9 114 Tryz.law9 Tryz.underlying151 Jm _ _ _ rfl (Ja HO5) (by decide) _ _ (.string [105, 110]) rfl rfl rfl (.held (.func (.func 125) #[] #[])) [] rfl ?_)
  intro w6 o6 k6
  have HO6 := hide o6
  have HB6 := hide (Jh (Ja HB5) rfl k6)
  clear o6 k6 HO5 HB5
  go_wp2_with (refine Jb _ rfl _ _ _ 151 rfl 9 114 Tryz.law9 Tryz.underlying151 Jm _ _ _ rfl (Ja HO6) (by decide) _ _ (.string [97, 116]) rfl rfl rfl (.held (.func (.func 126) #[] #[])) [] rfl ?_)
  intro w7 o7 k7
  have HO7 := hide o7
  have HB7 := hide (Jh (Ja HB6) rfl k7)
  clear o7 k7 HO6 HB6
  go_wp2_with (refine Jb _ rfl _ _ _ 151 rfl 9 114 Tryz.law9 Tryz.underlying151 Jm _ _ _ rfl (Ja HO7) (by decide) _ _ (.string [107, 101, 101, 112]) rfl rfl rfl (.held (.func (.func 127) #[] #[])) [] rfl ?_)
  intro w8 o8 k8
  have HO8 := hide o8
  have HB8 := hide (Jh (Ja HB7) rfl k8)
  clear o8 k8 HO7 HB7
  go_wp2_with fail
  exact bodyPost_ret (v := .map (some w.heap.size)) (by simp [results, Tryz.results78, go_sem]) rfl ⟨rfl, Ja HO8, Ja HB8⟩
end Go.Proofs.YtjobgpahajhbnabGreatDoor
namespace Go.Proofs.YtjobgpahajhbnabGreatDoor
open Go.RowKit Go.Proofs
attribute [local go_sem ↓] Go.wp_at_zero Go.wp_at_succ
theorem Km (n : Int) : Jg (wrap64 n) := by unfold Jg wrap64; omega
def Qr (x y : Int) : Int × Int := (wrap64 (x + y), 0)
def Zz (x y : Int) : Int × Int := (wrap64 (x - y), 0)
def Zw (x y : Int) : Int × Int := (wrap64 (x * y), 0)
def Y6 (x y : Int) : Int × Int := if y = 0 then (0, 7) else if x.tmod y ≠ 0 ∧ decide (x < 0) ≠ decide (y < 0) then (wrap64 (wrap64 (x.tdiv y) - 1), 0) else (wrap64 (x.tdiv y), 0)
def Kr (x y : Int) : Int × Int := if x = 0 then (y, 0) else (wrap64 (y - wrap64 (x * (Y6 y x).1)), (Y6 y x).2)
def Y7 (x y : Int) : Int × Int := (min x y, 0)
def Yj (x y : Int) : Int × Int := (max x y, 0)
def Qq (x y : Int) : Int × Int := (if x = y then 1 else 0, 0)
def Z4 (x y : Int) : Int × Int := (if x < y then 1 else 0, 0)
set_option maxHeartbeats 400000 in
theorem Xu (h : Bool) (r : Int) (hr : (if h then 1 else 0) = r) (w : World) : Calls Tryz.prog 182 #[.bool h] w fun e w' => e = .returned (.int .i64 r) ∧ w' = w := by
  subst hr
  cases h <;> (go_enter Tryz.func182, Tryz.ntmps182; go_wp2; go_ret; exact ⟨rfl, rfl⟩)
theorem Tryz.enters164 : Enters Tryz.prog 164 := Go.Proofs.enters_of Tryz.func164 (by decide) rfl
set_option maxHeartbeats 400000 in
theorem plus_rule : RuleC 164 Qr where
  enters := Tryz.enters164
  call := by
    intro x y w _ _
    unfold Qr
    go_enter Tryz.func164, Tryz.ntmps164
    go_wp2
    refine bodyPost_ret (v := .tuple #[.int .i64 (wrap64 (x + y)), .int .i64 0]) (by simp [results, Tryz.results164, go_sem]) rfl ⟨rfl, rfl⟩
  fits := by
    intro x y hx hy
    unfold Qr
    first | exact Km _ | (unfold Jg at *; simp only []; omega)
theorem Tryz.enters165 : Enters Tryz.prog 165 := Go.Proofs.enters_of Tryz.func165 (by decide) rfl
set_option maxHeartbeats 400000 in
theorem minus_rule : RuleC 165 Zz where
  enters := Tryz.enters165
  call := by
    intro x y w _ _
    unfold Zz
    go_enter Tryz.func165, Tryz.ntmps165
    go_wp2
    refine bodyPost_ret (v := .tuple #[.int .i64 (wrap64 (x - y)), .int .i64 0]) (by simp [results, Tryz.results165, go_sem]) rfl ⟨rfl, rfl⟩
  fits := by
    intro x y hx hy
    unfold Zz
    first | exact Km _ | (unfold Jg at *; simp only []; omega)
theorem Tryz.enters166 : Enters Tryz.prog 166 := Go.Proofs.enters_of Tryz.func166 (by decide) rfl
set_option maxHeartbeats 400000 in
theorem times_rule : RuleC 166 Zw where
  enters := Tryz.enters166
  call := by
    intro x y w _ _
    unfold Zw
    go_enter Tryz.func166, Tryz.ntmps166
    go_wp2
    refine bodyPost_ret (v := .tuple #[.int .i64 (wrap64 (x * y)), .int .i64 0]) (by simp [results, Tryz.results166, go_sem]) rfl ⟨rfl, rfl⟩
  fits := by
    intro x y hx hy
    unfold Zw
    first | exact Km _ | (unfold Jg at *; simp only []; omega)
theorem Tryz.enters169 : Enters Tryz.prog 169 := Go.Proofs.enters_of Tryz.func169 (by decide) rfl
set_option maxHeartbeats 400000 in
theorem lesser_rule : RuleC 169 Y7 where
  enters := Tryz.enters169
  call := by
    intro x y w _ _
    unfold Y7
    go_enter Tryz.func169, Tryz.ntmps169
    go_wp2
    refine bodyPost_ret (v := .tuple #[.int .i64 (min x y), .int .i64 0]) (by simp [results, Tryz.results169, go_sem]) rfl ⟨rfl, rfl⟩
  fits := by
    intro x y hx hy
    unfold Y7
    first | exact Km _ | (unfold Jg at *; simp only []; omega)
theorem Tryz.enters170 : Enters Tryz.prog 170 := Go.Proofs.enters_of Tryz.func170 (by decide) rfl
set_option maxHeartbeats 400000 in
theorem greater_rule : RuleC 170 Yj where
  enters := Tryz.enters170
  call := by
    intro x y w _ _
    unfold Yj
    go_enter Tryz.func170, Tryz.ntmps170
    go_wp2
    refine bodyPost_ret (v := .tuple #[.int .i64 (max x y), .int .i64 0]) (by simp [results, Tryz.results170, go_sem]) rfl ⟨rfl, rfl⟩
  fits := by
    intro x y hx hy
    unfold Yj
    first | exact Km _ | (unfold Jg at *; simp only []; omega)
theorem Tryz.enters171 : Enters Tryz.prog 171 := Go.Proofs.enters_of Tryz.func171 (by decide) rfl
set_option maxHeartbeats 400000 in
theorem same_rule : RuleC 171 Qq where
  enters := Tryz.enters171
  call := by
    intro x y w _ _
    unfold Qq
    obtain ⟨r, hr⟩ : ∃ r : Int, (if x = y then (1 : Int) else 0) = r := ⟨_, rfl⟩
    simp only [hr]
    have HR := hide hr
    clear hr
    go_enter Tryz.func171, Tryz.ntmps171
    go_wp2_with (go_at_call 182; refine (Xu _ r (by simpa using Ja HR) _).mono ?_; rintro e w' ⟨rfl, rfl⟩)
    refine bodyPost_ret (v := .tuple #[.int .i64 r, .int .i64 0]) (by simp [results, Tryz.results171, go_sem]) rfl ⟨rfl, rfl⟩
  fits := by
    intro x y hx hy
    unfold Qq Jg
    simp only []
    split <;> omega
theorem Tryz.enters172 : Enters Tryz.prog 172 := Go.Proofs.enters_of Tryz.func172 (by decide) rfl
set_option maxHeartbeats 400000 in
theorem below_rule : RuleC 172 Z4 where
  enters := Tryz.enters172
  call := by
    intro x y w _ _
    unfold Z4
    obtain ⟨r, hr⟩ : ∃ r : Int, (if x < y then (1 : Int) else 0) = r := ⟨_, rfl⟩
    simp only [hr]
    have HR := hide hr
    clear hr
    go_enter Tryz.func172, Tryz.ntmps172
    go_wp2_with (go_at_call 182; refine (Xu _ r (by simpa using Ja HR) _).mono ?_; rintro e w' ⟨rfl, rfl⟩)
    refine bodyPost_ret (v := .tuple #[.int .i64 r, .int .i64 0]) (by simp [results, Tryz.results172, go_sem]) rfl ⟨rfl, rfl⟩
  fits := by
    intro x y hx hy
    unfold Z4 Jg
    simp only []
    split <;> omega
theorem Tryz.enters167 : Enters Tryz.prog 167 := Go.Proofs.enters_of Tryz.func167 (by decide) rfl
theorem Tryz.enters168 : Enters Tryz.prog 168 := Go.Proofs.enters_of Tryz.func168 (by decide) rfl
set_option maxHeartbeats 400000 in
theorem Jcr (x y : Int) (w : World) : Calls Tryz.prog 167 #[.int .i64 x, .int .i64 y] w fun e w' => e = .returned (.tuple #[.int .i64 (Y6 x y).1, .int .i64 (Y6 x y).2]) ∧ w' = w := by
  obtain ⟨u, hu⟩ : ∃ u, Y6 x y = u := ⟨_, rfl⟩
  rw [hu]
  unfold Y6 at hu
  have HU := hide hu
  clear hu
  by_cases hy : y = 0
  · have hy' : (y == 0) = true := by simp [hy]
    go_enter Tryz.func167, Tryz.ntmps167
    go_wp2
    exact bodyPost_ret (v := .tuple #[.int .i64 0, .int .i64 7]) (by simp [results, Tryz.results167, go_sem]) rfl ⟨by rw [← Ja HU, if_pos hy], rfl⟩
  · have hy' : (y == 0) = false := by simp [hy]
    go_enter Tryz.func167, Tryz.ntmps167
    go_wp2
    · rename_i h
      exact bodyPost_ret (v := .tuple #[.int .i64 (wrap64 (x.tdiv y)), .int .i64 0]) (by simp [results, Tryz.results167, go_sem]) rfl ⟨by rw [← Ja HU, if_neg hy, if_neg (by rintro ⟨h1, h2⟩; exact h1 h)], rfl⟩
    · rename_i h
      exact bodyPost_ret (v := .tuple #[.int .i64 (wrap64 (wrap64 (x.tdiv y) - 1)), .int .i64 0]) (by simp [results, Tryz.results167, go_sem]) rfl ⟨by rw [← Ja HU, if_neg hy, if_pos ⟨by simpa using h.1, by simpa using h.2⟩], rfl⟩
    · rename_i h
      exact bodyPost_ret (v := .tuple #[.int .i64 (wrap64 (x.tdiv y)), .int .i64 0]) (by simp [results, Tryz.results167, go_sem]) rfl ⟨by rw [← Ja HU, if_neg hy, if_neg (by rintro ⟨h1, h2⟩; rcases h with h | h <;> simp_all)], rfl⟩
theorem over_rule : RuleC 167 Y6 where
  enters := Tryz.enters167
  call := fun x y w _ _ => Jcr x y w
  fits := by
    intro x y hx hy
    unfold Y6
    split
    · unfold Jg; simp only []; omega
    · split <;> exact Km _
set_option maxHeartbeats 400000 in
theorem Jjf (x y : Int) (w : World) : Calls Tryz.prog 168 #[.int .i64 x, .int .i64 y] w fun e w' => e = .returned (.tuple #[.int .i64 (Kr x y).1, .int .i64 (Kr x y).2]) ∧ w' = w := by
  unfold Kr
  by_cases hy : x = 0
  · have hy' : (x == 0) = true := by simp [hy]
    rw [if_pos hy]
    go_enter Tryz.func168, Tryz.ntmps168
    go_wp2
    exact bodyPost_ret (v := .tuple #[.int .i64 y, .int .i64 0]) (by simp [results, Tryz.results168, go_sem]) rfl ⟨rfl, rfl⟩
  · have hy' : (x == 0) = false := by simp [hy]
    rw [if_neg hy]
    go_enter Tryz.func168, Tryz.ntmps168
    go_wp2_with (go_at_call 167; refine (Jcr y x _).mono ?_; rintro e w' ⟨rfl, rfl⟩)
    exact bodyPost_ret (v := .tuple #[.int .i64 (wrap64 (y - wrap64 (x * (Y6 y x).1))), .int .i64 (Y6 y x).2]) (by simp [results, Tryz.results168, go_sem]) rfl ⟨rfl, rfl⟩
theorem rest_rule : RuleC 168 Kr where
  enters := Tryz.enters168
  call := fun x y w _ _ => Jjf x y w
  fits := by
    intro x y hx hy
    unfold Kr
    split
    · exact hy
    · exact Km _
end Go.Proofs.YtjobgpahajhbnabGreatDoor
namespace Go.Proofs.YtjobgpahajhbnabGreatDoor
open Go.RowKit Go.Proofs Go.Maps
attribute [local go_sem ↓] Go.wp_at_zero Go.wp_at_succ
def Jdg : Value := .agg #[.nilFunc, .int .i64 0]
def Jli : DataW Value → Value
  | .held v => v
  | _ => undef
theorem Kw {D : DataW Value} {n : Nat} {w : World} {b : Nat} {m e : TypeId} {zv : Value} (hm : Tryz.prog.underlying m = some (.map 9 e)) (hz : (zeroValue e).run Tryz.prog w = .ok zv w) (h : w.ownsMap Tryz.prog 9 Jm b n D) {t : ByteArray} {kl : Lit} {ok : Bool} {v : Value} (hk : keyOf Tryz.prog 9 (.string t) = some kl) (hh : Maps.has D kl = ok) (hat : D.atKey kl (.held zv) = .held v) :
    (Instr.lookup m (.map (some b)) (.string t) true).run Tryz.prog w = .ok (.tuple #[v, .bool ok]) w := by
  obtain ⟨u, ps, h1, h2⟩ := h.look_ok Tryz.law9 hm hz (show Jm zv = some (.held zv, []) from rfl) hk
  rw [hh] at h1
  rw [hat] at h2
  have h3 : DataW.held u = DataW.held v := congrArg Prod.fst (Option.some.inj h2)
  have h4 : u = v := congrArg Jli h3
  rw [h1, h4]
set_option maxHeartbeats 1000000 in
theorem Y9 {t : ByteArray} {kl : Lit} {f : Nat} {z : Int} (hk : keyOf Tryz.prog 9 (.string t) = some kl) (hh : Maps.has signsD kl = true) (hat : signsD.atKey kl (.held Jdg) = .held (.agg #[.func (.func f) #[] #[], .int .i64 z])) (w : World) :
    Calls Tryz.prog 49 #[.string t] w fun e w' => e = .returned (.func (.func f) #[] #[]) ∧ Below w.heap.size w w' := by
  have HL : Hid (∀ w' b, w'.ownsMap Tryz.prog 9 Jm b 9 signsD → (Instr.lookup 144 (.map (some b)) (.string t) true).run Tryz.prog w' = .ok (.tuple #[.agg #[.func (.func f) #[] #[], .int .i64 z], .bool true]) w') := hide (fun w' b h => Kw Tryz.underlying144 (Tryz.zero143 w') h hk hh hat)
  clear hk hh hat
  go_enter Tryz.func49, Tryz.ntmps49
  go_wp2_with (go_at_call 74; refine (Zn _).mono ?_; rintro e w1 ⟨rfl, ho, hb⟩; have hl := Ja HL _ _ ho; have HB := hide hb; clear ho hb)
  exact bodyPost_ret (v := .func (.func f) #[] #[]) (by simp [results, Tryz.results49, go_sem]) rfl ⟨rfl, (Ja HB).alloc (Ja HB).size _⟩
end Go.Proofs.YtjobgpahajhbnabGreatDoor
