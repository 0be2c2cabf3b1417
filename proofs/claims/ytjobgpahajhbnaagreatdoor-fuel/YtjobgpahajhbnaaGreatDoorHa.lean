import Derived.RangeFuncNested
import Derived.RangeFuncBound
import Derived.RangeFuncCalls
import Derived.RangeFuncLeaves
import Derived.RangeFuncBox
import Derived.RangeFuncFrom
import Derived.Shelf.Abstract
import Derived.Shelf.RegionOpen
import Derived.WalkKit
import Derived.OwnWalkIn
import Derived.TacticsInMore
import Derived.LoopNIn
import Derived.LoopIn
import Derived.Test.YtjobgpahajhbnaaGreatDoorKg
import Derived.Shelf.SlicesE.Reverse
import Derived.Ground.SlgnProg
namespace Go.Proofs.YtjobgpahajhbnaaGreatDoor
open Go.RowKit Go.Proofs Go.Shelf
attribute [local go_sem] Oper.semAt_some

/-- a part of a row of n: where it begins, how long it is -/
abbrev Part (n : Nat) := { p : Nat × Nat // p.1 + p.2 ≤ n ∧ 0 < p.2 }
/-- the two boxes that the library's closure reads -/
def KpB (bs bn : Nat) (W W' : World) : Prop := W'.heap[bs]? = W.heap[bs]? ∧ W'.heap[bn]? = W.heap[bn]?
theorem KpB.refl {bs bn : Nat} (W : World) : KpB bs bn W W := ⟨rfl, rfl⟩
theorem KpB.trans {bs bn : Nat} {A B C : World} (h : KpB bs bn A B) (k : KpB bs bn B C) : KpB bs bn A C := ⟨k.1.trans h.1, k.2.trans h.2⟩
def chunkAt (n c k : Nat) (hc : 0 < c) (h : k * c < n) : Part n := ⟨(k * c, min c (n - k * c)), by omega, by simp; omega⟩
/-- the parts of a row, each of c but the last -/
def partsL (n c : Nat) (hc : 0 < c) : Nat → List (Part n)
  | 0 => []
  | k + 1 => if h : k * c < n then partsL n c hc k ++ [chunkAt n c k hc h] else partsL n c hc k
theorem partsL_len {n c : Nat} (hc : 0 < c) (k : Nat) : (partsL n c hc k).length ≤ k := by
  induction k with
  | zero => simp [partsL]
  | succ k ih =>
    unfold partsL
    split
    · simp; omega
    · omega
theorem partsL_end {n c k : Nat} (hc : 0 < c) (h : n ≤ k * c) : ∀ j, k ≤ j → partsL n c hc j = partsL n c hc k
  | 0, hj => by rw [show k = 0 by omega]
  | j + 1, hj => by
    by_cases e : k = j + 1
    · rw [e]
    · have hkj : k * c ≤ j * c := Nat.mul_le_mul_right _ (by omega)
      rw [partsL, dif_neg (by omega)]
      exact partsL_end hc h j (by omega)
theorem partsL_succ {n c k : Nat} (hc : 0 < c) (h : k * c < n) : partsL n c hc (k + 1) = partsL n c hc k ++ [chunkAt n c k hc h] := by
  rw [partsL, dif_pos h]
set_option maxRecDepth 100000 in
set_option maxHeartbeats 2000000 in
theorem chunk1_in (n : Nat) (hn : 1 ≤ n) (l bs bn b off len cap c : Nat) (hc : 0 < c) (hcl : c ≤ 1000) (hlen : len ≤ 1000) (hcap : len ≤ cap) (J Jx : List (Part len) → World → Prop)
    (hJ : ∀ pre W, J pre W → J pre W.drew)
    (hY : ∀ pre x W, J pre W → pre.length < len → YieldAt Fence.wide (n - 1) Tryz.prog l #[.slice (some ⟨b, off + x.1.1, none⟩) x.1.2 x.1.2] W fun e W' =>
      (e = .returned (.bool true) ∧ J (pre ++ [x]) W' ∧ KpB bs bn W W') ∨ (e = .returned (.bool false) ∧ Jx (pre ++ [x]) W'))
    (W : World) (h1 : W.cell? ⟨bs, 0, none⟩ = some (.slice (some ⟨b, off, none⟩) len cap)) (h2 : W.cell? ⟨bn, 0, none⟩ = some (.int .i64 c)) (h0 : J [] W) :
    CallsIn Fence.wide n Tryz.prog 274 #[.func (.yield l) #[] #[], .pointer (some ⟨bs, 0, none⟩), .pointer (some ⟨bn, 0, none⟩)] W fun e W' => (∃ v, e = .returned v) ∧
      ((∃ ys, ys = partsL len c hc len ∧ J ys W') ∨ (∃ pre, Jx pre W')) := by
  have hd1 : ∀ W' : World, KpB bs bn W W' → W'.cell? ⟨bs, 0, none⟩ = some (.slice (some ⟨b, off, none⟩) len cap) := fun W' h => (World.cell?_of_block h.1).trans h1
  have hd2 : ∀ W' : World, KpB bs bn W W' → W'.cell? ⟨bn, 0, none⟩ = some (.int .i64 c) := fun W' h => (World.cell?_of_block h.2).trans h2
  refine callsIn_of_wp Tryz.func274 rfl trivial ?_ rfl
  simp only [Tryz.ntmps274, List.size_toArray, List.length_cons, List.length_nil, Nat.reduceAdd, Nat.reduceSub, Array.replicate_succ, Array.replicate_zero, List.push_toArray, List.append_toArray, List.nil_append, List.cons_append]
  gi_wp2
  gi_loopw [4] (fun v4 wr => ∃ k i : Nat, v4 = .int .i64 i ∧ i = k * c ∧ k ≤ len ∧ i < len + c ∧ J (partsL len c hc k) wr ∧ KpB bs bn W wr) (fun v4 _ => len + c - (intOf v4).toNat)
  case atStart => exact ⟨0, 0, rfl, by simp, by omega, by omega, h0, KpB.refl W⟩
  case round =>
    obtain ⟨k, i, rfl, hik, hkl, hib, hJs, hK⟩ := hrel
    have c1 := hd1 _ hK
    have c2 := hd2 _ hK
    by_cases hlt : i < len
    · have hlt' : k * c < len := by rw [← hik]; exact hlt
      have hpl := partsL_len (n := len) hc k
      have hk1 : k < len := by
        have : k ≤ k * c := Nat.le_mul_of_pos_right _ hc
        omega
      obtain ⟨e, he⟩ : ∃ e, min c (len - i) = e := ⟨_, rfl⟩
      have hYk := hY (partsL len c hc k) (chunkAt len c k hc hlt')
      have e1 : (chunkAt len c k hc hlt').1.1 = i := hik.symm
      have e2 : (chunkAt len c k hc hlt').1.2 = e := by show min c (len - k * c) = e; rw [← hik]; exact he
      rw [e1, e2] at hYk
      have hsu := partsL_succ hc hlt'
      rw [← hsu] at hYk
      obtain ⟨u, hu⟩ : ∃ u, i + e = u := ⟨_, rfl⟩
      have hi0 : (0 : Int) ≤ (i : Int) := by omega
      have hi1 : (i : Int) < (len : Int) := by omega
      have hi2 : (i : Int) ≤ (len : Int) := by omega
      have hmin : min (c : Int) ((len - i : Nat) : Int) = (e : Int) := by omega
      have hmin2 : min (c : Int) ((len : Int) - (i : Int)) = (e : Int) := by omega
      have hul : u ≤ len := by omega
      have hiu : i ≤ u := by omega
      have hiu1 : (i : Int) ≤ (u : Int) := by omega
      have hiu2 : (u : Int) ≤ (cap : Int) := by omega
      have hui : u - i = e := by omega
      have had : (if u = i then some (⟨b, off, none⟩ : Addr) else some ⟨b, off + i, none⟩) = some ⟨b, off + i, none⟩ := if_neg (by omega)
      have hw1 : IntKind.i64.wrap ((i : Int) + (e : Int)) = (u : Int) := by
        have e : (i : Int) + (e : Int) = (u : Int) := by omega
        rw [e]
        exact wrap_pos (by omega) (by omega)
      obtain ⟨fn, tmps, assign, body, hy, hR⟩ := hYk wr.drew (hJ _ _ hJs) (by omega)
      have hw2 : IntKind.i64.wrap ((i : Int) + (c : Int)) = ((i + c : Nat) : Int) := by
        have e : (i : Int) + (c : Int) = ((i + c : Nat) : Int) := by omega
        rw [e]
        exact wrap_pos (by omega) (by omega)
      have HIK := hide hik
      have HKT : Hid (∀ W3, KpB bs bn wr.drew W3 → KpB bs bn W W3) := hide (fun W3 h => hK.trans h)
      have HD2 := hide hd2
      clear hik hlt' hkl he e1 e2 hsu hJ h0 h1 h2 hd1 hd2 hY hYk
      gi_wp2
      gi_region
      gi_wp2
      refine hR.mono ?_
      rintro e W3 (⟨rfl, hJ3, hk3⟩ | ⟨rfl, hJx3⟩)
      · have c3 := unhide HD2 W3 (unhide HKT W3 hk3)
        gi_wp2
        go_roundw
        case rel => exact ⟨k + 1, i + c, by simp, by rw [unhide HIK, Nat.add_mul, Nat.one_mul], by omega, by omega, hJ3, unhide HKT W3 hk3⟩
        case measure => simp [intOf]; omega
      · gi_wp2
        refine bodyPost_ret (results_none rfl _ _ _) rfl ?_
        exact ⟨⟨_, rfl⟩, .inr ⟨_, hJx3⟩⟩
    · have hnl : ¬ ((i : Int) < (len : Int)) := by omega
      have hend := partsL_end hc (n := len) (k := k) (by rw [← hik]; omega) len hkl
      gi_wp2
      go_end0
      exact ⟨⟨_, rfl⟩, .inl hJs⟩
end Go.Proofs.YtjobgpahajhbnaaGreatDoor
namespace Go.Proofs
open Go.Shelf
def Tryz.rev235_ren : Go.Shelf.Ren := ⟨fun | 35 => 235 | n => n, fun | 22 => 32 | 23 => 2 | 3 => 3 | 4 => 4 | 0 => 0 | n => n, fun | n => n⟩
theorem Tryz.rev235 : Go.Proofs.SlLaysE.n35 Tryz.prog Tryz.rev235_ren := {
  mixed := by kernel_rfl
  f35 := ⟨Tryz.f235.name, by decide, Tryz.func235.trans (congrArg some (by kernel_rfl))⟩
  t0 := Tryz.underlying0
  a0 := Tryz.isAgg0
  z0 := Tryz.sizeOf0
  v0 := Tryz.zeroValue0
  t3 := Tryz.underlying3
  a3 := Tryz.isAgg3
  z3 := Tryz.sizeOf3
  v3 := Tryz.zeroValue3
  t4 := Tryz.underlying4
  a4 := Tryz.isAgg4
  z4 := Tryz.sizeOf4
  v4 := Tryz.zeroValue4
  t22 := Tryz.underlying32
  a22 := Tryz.isAgg32
  z22 := Tryz.sizeOf32
  v22 := Tryz.zeroValue32
  a23 := Tryz.isAgg2
  z23 := Tryz.sizeOf2 }
end Go.Proofs
namespace Go.Proofs.YtjobgpahajhbnaaGreatDoor
open Go.RowKit Go.Proofs Go.Shelf

/-- a row of numbers that may be written, from a block's first cell on -/
def RowAt (W : World) (g : Nat) (L : List Int) : Prop := ∀ j, (h : j < L.length) → W.cell? ⟨g, j, none⟩ = some (.int .i64 L[j]) ∧ W.frozen? ⟨g, j, none⟩ = false
def revAt (L : List Int) (p : Nat × Nat) : List Int := L.take p.1 ++ (((L.drop p.1).take p.2).reverse ++ L.drop (p.1 + p.2))
theorem revAt_len {L : List Int} {p : Nat × Nat} (h : p.1 + p.2 ≤ L.length) : (revAt L p).length = L.length := by
  unfold revAt
  simp
  omega
/-- all is kept but the cells of block g -/
structure OnlyB (g : Nat) (W W' : World) : Prop where
  os : W'.os = W.os
  tape : W'.tape = W.tape
  output : W'.output = W.output
  size : W'.heap.size = W.heap.size
  block : ∀ k, k ≠ g → W'.heap[k]? = W.heap[k]?
theorem OnlyB.below {g : Nat} {W W' : World} (h : OnlyB g W W') {n : Nat} (hn : n ≤ g) : Below n W W' := ⟨h.os, h.tape, h.output, by rw [h.size]; exact Nat.le_refl _, fun k hk => h.block k (by omega)⟩
theorem OnlyB.others {g : Nat} {W W' : World} (h : OnlyB g W W') {v : Value} {j : Nat} (hc : W.cell? ⟨g, j, none⟩ = some v) : KeepsOthers W W' := ⟨by rw [h.size]; exact Nat.le_refl _, fun k o hk ho => by
  by_cases e : k = g
  · subst e
    obtain ⟨o', ho', hc'⟩ := cells_of_cell hc
    have ho' : W.heap[k]? = some o' := ho'
    rw [hk] at ho'
    cases ho'
    rw [ho] at hc'
    cases hc'
  · rw [h.block k e]; exact hk⟩
theorem onlyB_put (W : World) (n g off : Nat) (d : Array Int) : OnlyB g W (Go.Sort.putRow (Value.int .i64) (Go.Sort.ahead W n) g off d) := ⟨rfl, rfl, rfl, by simp [Go.Sort.ahead], fun k hk => by
  show ((W.heap.modify g _))[k]? = _
  rw [Array.getElem?_modify, if_neg (Ne.symm hk)]⟩
theorem reverse_any (W : World) (g : Nat) (L : List Int) (h : RowAt W g L) (p : Nat × Nat) (hp : p.1 + p.2 ≤ L.length) (hl : L.length ≤ 1000) :
    Calls Tryz.prog 235 #[.slice (some ⟨g, p.1, none⟩) p.2 p.2] W fun e W' => e = .returned (.tuple #[]) ∧ RowAt W' g (revAt L p) ∧ OnlyB g W W' := by
  obtain ⟨zs, hzs⟩ : ∃ zs, (L.drop p.1).take p.2 = zs := ⟨_, rfl⟩
  have hzl : zs.length = p.2 := by rw [← hzs]; simp; omega
  have hH : Go.Sort.Holds (Value.int .i64) W g p.1 zs.toArray := by
    intro j hj
    have hj' : j < p.2 := by rw [← hzl]; simpa using hj
    have hz : zs.toArray[j]! = L[p.1 + j]'(by omega) := by
      rw [getElem!_pos _ j hj]
      subst hzs
      simp
    rw [hz]
    exact h (p.1 + j) (by omega)
  have := AnyE.slices_Reverse Tryz.rev235 (Value.int .i64) (fun _ => rfl) g p.1 p.2 zs W hH (by omega)
  rw [hzl] at this
  refine this.mono ?_
  rintro e W' ⟨rfl, n, rfl⟩
  refine ⟨rfl, ?_, onlyB_put W n g p.1 _⟩
  have hHa : Go.Sort.Holds (Value.int .i64) (Go.Sort.ahead W n) g p.1 zs.toArray := hH
  intro j hj
  rw [revAt_len hp] at hj
  refine ⟨?_, by rw [Go.Sort.frozen?_putRow]; exact (h j hj).2⟩
  have hL : (revAt L p)[j]? = some ((revAt L p)[j]'(by rw [revAt_len hp]; exact hj)) := List.getElem?_eq_getElem _
  generalize hv : (revAt L p)[j]'(by rw [revAt_len hp]; exact hj) = v at hL ⊢
  unfold revAt at hL
  rw [hzs] at hL
  by_cases h1 : j < p.1
  · rw [Go.Sort.cell?_putRow_other _ _ _ _ _ _ (Or.inr (Or.inl h1))]
    rw [List.getElem?_append_left (by simp; omega), List.getElem?_take, if_pos h1, List.getElem?_eq_getElem hj] at hL
    rw [← Option.some.inj hL]
    exact (h j hj).1
  · rw [List.getElem?_append_right (by simp; omega), List.length_take, Nat.min_eq_left (by omega)] at hL
    by_cases h2 : j < p.1 + p.2
    · rw [List.getElem?_append_left (by simp; omega)] at hL
      have hc := Go.Sort.cell?_putRow (Value.int .i64) (Go.Sort.ahead W n) g p.1 zs.toArray zs.reverse.toArray hHa (by simp) (j - p.1) (by simp; omega)
      rw [show p.1 + (j - p.1) = j by omega] at hc
      rw [hc, getElem!_pos _ _ (by simp; omega)]
      obtain ⟨hb, hL⟩ := List.getElem?_eq_some_iff.1 hL
      rw [← hL]
      simp
    · rw [Go.Sort.cell?_putRow_other _ _ _ _ _ _ (Or.inr (Or.inr (by simp; omega)))]
      rw [List.getElem?_append_right (by simp; omega), List.getElem?_drop, List.length_reverse, hzl, show p.1 + p.2 + (j - p.1 - p.2) = j by omega, List.getElem?_eq_getElem hj] at hL
      rw [← Option.some.inj hL]
      exact (h j hj).1
end Go.Proofs.YtjobgpahajhbnaaGreatDoor
namespace Go.Proofs.YtjobgpahajhbnaaGreatDoor
open Go.RowKit Go.Proofs Go.Shelf
attribute [local go_sem] Oper.semAt_some

set_option maxHeartbeats 1000000 in
theorem chunk_call (ao : Option Addr) (n cap c : Nat) (hc : 0 < c) (w : World) :
    Calls Tryz.prog 233 #[.slice ao n cap, .int .i64 c] w fun e w' => e = .returned (.func (.func 274) #[] #[.pointer (some ⟨w.heap.size, 0, none⟩), .pointer (some ⟨w.heap.size + 1, 0, none⟩)]) ∧ w' = (w.alloc (.cells #[.slice ao n cap] 32)).alloc (.cells #[.int .i64 c] 3) := by
  have h1 : ¬ ((c : Int) < 1) := by omega
  go_enter Tryz.func233, Tryz.ntmps233
  go_wp2
  exact bodyPost_ret (v := .func (.func 274) #[] #[.pointer (some ⟨w.heap.size, 0, none⟩), .pointer (some ⟨w.heap.size + 1, 0, none⟩)]) (by simp [results, Tryz.results233, go_sem]) rfl ⟨rfl, rfl⟩
set_option maxRecDepth 100000 in
set_option maxHeartbeats 1000000 in
theorem chunk0_in (n : Nat) (l bs bn cap : Nat) (ao : Option Addr) {α : Type} (J : List α → World → Prop) (W : World) (h1 : W.cell? ⟨bs, 0, none⟩ = some (.slice ao 0 cap)) (h0 : J [] W) :
    CallsIn Fence.wide n Tryz.prog 274 #[.func (.yield l) #[] #[], .pointer (some ⟨bs, 0, none⟩), .pointer (some ⟨bn, 0, none⟩)] W fun e W' => (∃ v, e = .returned v) ∧ J [] W' := by
  refine callsIn_of_wp Tryz.func274 rfl trivial ?_ rfl
  simp only [Tryz.ntmps274, List.size_toArray, List.length_cons, List.length_nil, Nat.reduceAdd, Nat.reduceSub, Array.replicate_succ, Array.replicate_zero, List.push_toArray, List.append_toArray, List.nil_append, List.cons_append]
  gi_wp2
  gi_loopw [4] (fun i wr => i = .int .i64 0 ∧ J [] wr ∧ wr = W) (fun _ _ => 0)
  case atStart => exact ⟨rfl, h0, rfl⟩
  case round =>
    obtain ⟨rfl, hJs, hw⟩ := hrel
    have hw' := hw.symm
    subst hw'
    gi_wp2
    go_end0
    exact ⟨⟨_, rfl⟩, hJs⟩
theorem chunk_stops (n : Nat) (hn : 1 ≤ n) (bs bn b off len cap c : Nat) (ao : Option Addr) (hao : 0 < len → ao = some ⟨b, off, none⟩) (hc : 0 < c) (hcl : c ≤ 1000) (hlen : len ≤ 1000) (hcap : len ≤ cap) (w : World) (hbs : bs < w.heap.size) (hbn : bn < w.heap.size) (h1 : w.cell? ⟨bs, 0, none⟩ = some (.slice ao len cap)) (h2 : w.cell? ⟨bn, 0, none⟩ = some (.int .i64 c)) :
    SeqStopsK Fence.wide n Tryz.prog 274 #[.pointer (some ⟨bs, 0, none⟩), .pointer (some ⟨bn, 0, none⟩)] (fun x : Part len => #[.slice (some ⟨b, off + x.1.1, none⟩) x.1.2 x.1.2]) (KpB bs bn) (fun ys => ys = partsL len c hc len) (fun _ => True) len w := fun l J Jx W hW hJ _ hY h0 => by
  have h1' := (hW.cell (p := ⟨bs, 0, none⟩) hbs).trans h1
  have h2' := (hW.cell (p := ⟨bn, 0, none⟩) hbn).trans h2
  by_cases hl : 0 < len
  · have hao' := hao hl
    subst hao'
    refine (chunk1_in n hn l bs bn b off len cap c hc hcl hlen hcap J Jx (fun pre W1 h => hJ pre W1 W1.drew none h ⟨rfl, rfl, rfl, Nat.le_refl _, fun _ _ _ => rfl⟩ (fun r e => by cases e)) hY W h1' h2' h0).mono ?_
    rintro e W' ⟨hv, ⟨ys, hy, hj⟩ | ⟨pre, hj⟩⟩
    · exact ⟨hv, .inl ⟨ys, hy, hj⟩⟩
    · exact ⟨hv, .inr ⟨pre, trivial, hj⟩⟩
  · have hz : len = 0 := by omega
    subst hz
    refine (chunk0_in n l bs bn cap ao J W h1' h0).mono ?_
    rintro e W' ⟨hv, hj⟩
    exact ⟨hv, .inl ⟨[], rfl, hj⟩⟩
end Go.Proofs.YtjobgpahajhbnaaGreatDoor
namespace Go.Proofs.YtjobgpahajhbnaaGreatDoor
open Go.RowKit Go.Proofs Go.Shelf
attribute [local go_sem] Oper.semAt_some

theorem Tryz.enters186 : Enters Tryz.prog 186 := Go.Proofs.enters_of Tryz.func186 (by decide) rfl
/-- parts of a row, each turned round -/
def revs {n : Nat} (pre : List (Part n)) (L : List Int) : List Int := pre.foldl (fun L p => revAt L p.1) L
theorem revs_len {n : Nat} : ∀ (pre : List (Part n)) (L : List Int), L.length = n → (revs pre L).length = n
  | [], L, h => h
  | p :: pre, L, h => revs_len pre (revAt L p.1) (by rw [revAt_len (by rw [h]; exact p.2.1)]; exact h)
theorem revs_snoc {n : Nat} (pre : List (Part n)) (x : Part n) (L : List Int) : revs (pre ++ [x]) L = revAt (revs pre L) x.1 := by
  unfold revs
  rw [List.foldl_append]
  rfl
theorem max_pos (n : Nat) : 0 < max n 1 := by omega
def revC (xs : List Int) (la : Nat) : List Int := revs (partsL xs.length (max la 1) (max_pos la) xs.length) xs
def revP (a : Arr) : Arr × Int := if a.shape.length = 0 then (a, 0) else (⟨a.shape, revC a.cells (lastN a.shape)⟩, 0)
theorem clone_row {Q : Nat → Prop} (w : World) (ao : Option Addr) (n cap : Nat) (xs : List Int) (h : Nums Q w (.slice ao n cap) xs) (hx : xs.length ≤ 200) :
    Calls Tryz.prog 80 #[.slice ao n cap] w fun e w' => ∃ ao' g c, e = .returned (.slice ao' n c) ∧ n ≤ c ∧ (0 < n → ao' = some ⟨g, 0, none⟩ ∧ w.heap.size ≤ g ∧ g < w'.heap.size ∧ RowAt w' g xs) ∧ (∀ a, ao' = some a → a.spot = none) ∧ Below w.heap.size w w' := by
  have hn := nums_len h
  by_cases h0 : 0 < n
  · obtain ⟨ao', cap', hv, _, hcell, hspot⟩ := h
    injection hv with e1 e2 e3
    subst e1 e3
    obtain ⟨b, off, rfl, _, _, hc⟩ := hcell (by omega)
    obtain ⟨i0, hi, hz0, hz1, hz2⟩ := info_parts Tryz.info2
    refine (Tryz.slices_Clone_f80 i0 (.int .i64 0) 1 8 hi hz0 hz1 hz2 rfl (by decide) (fun w => by kernel_rfl) b off n cap (xs.map (Value.int .i64)) w (by simp [hn]) (by unfold maxLen; omega) (by omega) ?_ ?_).mono ?_
    · intro j u hu
      obtain ⟨hj, rfl⟩ := maps_get hu
      exact hc j hj
    · intro u hu
      obtain ⟨y, _, rfl⟩ := List.mem_map.1 hu
      rfl
    · rintro e w' ⟨v', rfl, hown, _, hb⟩
      have hown2 := hown
      obtain ⟨hl, ⟨rfl, hz⟩ | ⟨g, c, cur, rfl, r⟩⟩ := hown
      · omega
      · refine ⟨_, g, c, rfl, r.2.2.1, fun _ => ⟨rfl, r.1, (hown2.lt g rfl).2, fun j hj => ⟨?_, hown2.frozenAt j⟩⟩, fun a h => by cases h; rfl, hb⟩
        rw [hown2.cellAt j (by omega)]
        simp [hj]
  · refine (clone80 (fun _ => True) w (fun _ _ => trivial) (.slice ao n cap) xs h hx).mono ?_
    rintro e w' ⟨so, sn, sc, rfl, hN, hb⟩
    have hn' := nums_len hN
    have e1 : sn = n := by omega
    subst e1
    have hcp := nums_cap hN
    obtain ⟨ao', cap', hv, _, _, hsp⟩ := hN
    injection hv with e1 e2 e3
    subst e1
    exact ⟨so, 0, sc, rfl, hcp, fun h => absurd h h0, hsp, hb⟩
/-- where a function of one array stands: its box and its answer -/
structure S1 (W w : World) (so : Option Addr) (sn sc : Nat) (co : Option Addr) (cn cc : Nat) : Prop where
  below : Below W.heap.size W w
  lt : W.heap.size + 1 < w.heap.size
  b0 : w.cell? ⟨W.heap.size, 0, none⟩ = some (.slice so sn sc)
  b1 : w.cell? ⟨W.heap.size, 1, none⟩ = some (.slice co cn cc)
  r0 : w.cell? ⟨W.heap.size + 1, 0, none⟩ = some (.slice none 0 0)
  r1 : w.cell? ⟨W.heap.size + 1, 1, none⟩ = some (.slice none 0 0)
  f0 : w.frozen? ⟨W.heap.size + 1, 0, none⟩ = false
  f1 : w.frozen? ⟨W.heap.size + 1, 1, none⟩ = false
theorem S1.start (W : World) (so : Option Addr) (sn sc : Nat) (co : Option Addr) (cn cc : Nat) : S1 W ((W.alloc (.cells #[.slice so sn sc, .slice co cn cc] 89)).alloc (.cells #[.slice none 0 0, .slice none 0 0] 89)) so sn sc co cn cc := by
  refine ⟨((Below.refl _ _).alloc (Nat.le_refl _) _).alloc (by simp) _, by simp, ?_, ?_, ?_, ?_, ?_, ?_⟩
  · rw [World.cell?_of_block (a := ⟨W.heap.size, 0, none⟩) (RowKit.Below.heap_alloc _ _ _ (by simp))]
    exact (World.cell?_alloc_at _ _ _ _ rfl).trans rfl
  · rw [World.cell?_of_block (a := ⟨W.heap.size, 1, none⟩) (RowKit.Below.heap_alloc _ _ _ (by simp))]
    exact (World.cell?_alloc_at _ _ _ _ rfl).trans rfl
  · exact (World.cell?_alloc_at _ _ _ _ (by simp)).trans rfl
  · exact (World.cell?_alloc_at _ _ _ _ (by simp)).trans rfl
  · exact World.frozen?_alloc_at _ _ _ _ (by simp)
  · exact World.frozen?_alloc_at _ _ _ _ (by simp)
theorem S1.keep {W w w' : World} {so : Option Addr} {sn sc : Nat} {co : Option Addr} {cn cc : Nat} (h : S1 W w so sn sc co cn cc) (hb : Below (W.heap.size + 1 + 1) w w') : S1 W w' so sn sc co cn cc := by
  have l := h.lt
  have hz := hb.size
  refine ⟨h.below.trans (hb.mono (by omega)), by omega, ?_, ?_, ?_, ?_, ?_, ?_⟩
  · exact (hb.cell (p := ⟨W.heap.size, 0, none⟩) (by show W.heap.size < W.heap.size + 1 + 1; omega)).trans h.b0
  · exact (hb.cell (p := ⟨W.heap.size, 1, none⟩) (by show W.heap.size < W.heap.size + 1 + 1; omega)).trans h.b1
  · exact (hb.cell (p := ⟨W.heap.size + 1, 0, none⟩) (by show W.heap.size + 1 < W.heap.size + 1 + 1; omega)).trans h.r0
  · exact (hb.cell (p := ⟨W.heap.size + 1, 1, none⟩) (by show W.heap.size + 1 < W.heap.size + 1 + 1; omega)).trans h.r1
  · exact (hb.frozen (p := ⟨W.heap.size + 1, 0, none⟩) (by show W.heap.size + 1 < W.heap.size + 1 + 1; omega)).trans h.f0
  · exact (hb.frozen (p := ⟨W.heap.size + 1, 1, none⟩) (by show W.heap.size + 1 < W.heap.size + 1 + 1; omega)).trans h.f1
theorem S1.next {W w w' : World} {so : Option Addr} {sn sc : Nat} {co : Option Addr} {cn cc : Nat} (h : S1 W w so sn sc co cn cc) (hb : Below w.heap.size w w') : S1 W w' so sn sc co cn cc := h.keep (hb.mono (by have := h.lt; omega))
theorem S1.own {W A B : World} {row : Option Nat} {n : Nat} {so : Option Addr} {sn sc : Nat} {co : Option Addr} {cn cc : Nat} (h : S1 W A so sn sc co cn cc) (hn : W.heap.size ≤ n) (hg : A.grownBy B row) (hr : ∀ r, row = some r → n ≤ r ∧ ∃ o : Obj, A.heap[r]? = some o ∧ o.isCells = false) : S1 W B so sn sc co cn cc := by
  have hr2 := fun r e => (hr r e).2
  have hl := h.lt
  have hz := hg.size
  exact ⟨h.below.grown hg (by omega) (fun k e => Nat.le_trans hn (hr k e).1), by omega, cell_kept h.b0 hg hr2, cell_kept h.b1 hg hr2, cell_kept h.r0 hg hr2, cell_kept h.r1 hg hr2, (frozen_kept h.r0 hg hr2).trans h.f0, (frozen_kept h.r1 hg hr2).trans h.f1⟩
theorem RowAt.own {A B : World} {row : Option Nat} {n g : Nat} {L : List Int} (h : RowAt A g L) (hg : A.grownBy B row) (hr : ∀ r, row = some r → n ≤ r ∧ ∃ o : Obj, A.heap[r]? = some o ∧ o.isCells = false) : RowAt B g L := fun j hj =>
  ⟨cell_kept (h j hj).1 hg (fun r e => (hr r e).2), (frozen_kept (h j hj).1 hg (fun r e => (hr r e).2)).trans (h j hj).2⟩
theorem KpB.put {bs bn n : Nat} (h1 : bs < n) (h2 : bn < n) (W : World) (l : Nat) (o o' : Obj) (hl : n ≤ l) (ho : W.heap[l]? = some o) : KpB bs bn W (W.putObj l o') := by
  have hlt : l < W.heap.size := (Array.getElem?_eq_some_iff.1 ho).1
  exact ⟨(grownBy_putObj' W l o').block bs (by omega) (fun e => by cases e; omega), (grownBy_putObj' W l o').block bn (by omega) (fun e => by cases e; omega)⟩
theorem chunk_stops0 (n : Nat) (hn : 1 ≤ n) (bs bn b len cap c : Nat) (ao : Option Addr) (hao : 0 < len → ao = some ⟨b, 0, none⟩) (hc : 0 < c) (hcl : c ≤ 1000) (hlen : len ≤ 1000) (hcap : len ≤ cap) (w : World) (hbs : bs < w.heap.size) (hbn : bn < w.heap.size) (h1 : w.cell? ⟨bs, 0, none⟩ = some (.slice ao len cap)) (h2 : w.cell? ⟨bn, 0, none⟩ = some (.int .i64 c)) :
    SeqStopsK Fence.wide n Tryz.prog 274 #[.pointer (some ⟨bs, 0, none⟩), .pointer (some ⟨bn, 0, none⟩)] (fun x : Part len => #[.slice (some ⟨b, x.1.1, none⟩) x.1.2 x.1.2]) (KpB bs bn) (fun ys => ys = partsL len c hc len) (fun _ => True) len w := by
  have := chunk_stops n hn bs bn b 0 len cap c ao hao hc hcl hlen hcap w hbs hbn h1 h2
  simpa using this
section
attribute [local go_sem ↓] Go.wp_at_zero Go.wp_at_succ
set_option maxHeartbeats 1000000 in
theorem round_scalar (W : World) (P : Nat → Prop) (so : Option Addr) (sc : Nat) (co : Option Addr) (cn cc : Nat) (a : Arr) (ha : IsArr P W (.agg #[.slice so 0 sc, .slice co cn cc]) a) :
    Calls Tryz.prog 186 #[.agg #[.slice so 0 sc, .slice co cn cc]] W fun e W' => ∃ so sn sc co cn cc, e = .returned (.tuple #[.agg #[.slice so sn sc, .slice co cn cc], .int .i64 0]) ∧ IsArr P W' (.agg #[.slice so sn sc, .slice co cn cc]) a ∧ Below W.heap.size W W' := by
  have HA := hide ha
  have HS := hide (fun W' => isScalar_any W' so 0 sc co cn cc)
  clear ha
  go_enter Tryz.func186, Tryz.ntmps186
  go_wp2_with (go_at_call 220; refine (unhide HS _).mono ?_; rintro e w' ⟨rfl, rfl⟩)
  refine bodyPost_ret (v := .tuple #[.agg #[.slice so 0 sc, .slice co cn cc], .int .i64 0]) (by simp [results, Tryz.results186, go_sem]) rfl ⟨_, _, _, _, _, _, rfl, ?_, ?_⟩
  · exact (unhide HA).below (((((Below.refl W.heap.size W).alloc (Nat.le_refl _) _).alloc (by simp) _).alloc (by simp; omega) _).alloc (by simp; omega) _)
  · exact ((((Below.refl W.heap.size W).alloc (Nat.le_refl _) _).alloc (by simp) _).alloc (by simp; omega) _).alloc (by simp; omega) _
end
set_option maxRecDepth 100000 in
set_option maxHeartbeats 2000000 in
theorem round_fn (w : World) : FnOne 186 #[] w revP := by
  intro W P v a _ hP ha hoa
  have ha0 := ha
  obtain ⟨so, sn, sc, co, cn, cc, rfl, ha1, ha2⟩ := ha
  have hsn := (isArr_len ha0).2
  have hcn := (isArr_len ha0).1
  by_cases h0 : sn = 0
  · have hr : revP a = (a, 0) := by unfold revP; rw [if_pos (by omega)]
    rw [hr]
    subst h0
    exact round_scalar W P so sc co cn cc a ha0
  · have hr : revP a = (⟨a.shape, revC a.cells (lastN a.shape)⟩, 0) := by unfold revP; rw [if_neg (by omega)]
    rw [hr]
    have hds := last_split (l := a.shape) (by omega)
    obtain ⟨la, hla⟩ : ∃ la, lastN a.shape = la := ⟨_, rfl⟩
    rw [hla] at hds ⊢
    have hla2 : la ≤ 200 := hoa.lens la (by rw [hds]; simp)
    have hdl : a.shape.dropLast.length ≤ 3 := by have := hoa.rank; simp; omega
    obtain ⟨xs, hxs⟩ : ∃ xs, a.cells = xs := ⟨_, rfl⟩
    rw [hxs] at ha2 hcn ⊢
    have hfew : xs.length ≤ 200 := by rw [← hxs]; exact hoa.few
    have h0' : ((sn : Int) == 0) = false := by rw [beq_eq_false_iff_ne]; omega
    have HScal : Hid (∀ w', Calls Tryz.prog 220 #[.agg #[.slice so sn sc, .slice co cn cc]] w' fun e w'' => e = .returned (.bool ((sn : Int) == 0)) ∧ Below w'.heap.size w' w'') := hide (fun w' => (isScalar_any w' so sn sc co cn cc).mono (fun e w'' h => ⟨h.1, by rw [h.2]; exact ((Below.refl _ _).alloc (Nat.le_refl _) _).alloc (by simp) _⟩))
    have HCl : Hid (∀ w', Below W.heap.size W w' → Calls Tryz.prog 80 #[.slice co cn cc] w' fun e w'' => ∃ ao' g c, e = .returned (.slice ao' cn c) ∧ cn ≤ c ∧ (0 < cn → ao' = some ⟨g, 0, none⟩ ∧ w'.heap.size ≤ g ∧ g < w''.heap.size ∧ RowAt w'' g xs) ∧ (∀ a, ao' = some a → a.spot = none) ∧ Below w'.heap.size w' w'') := hide (fun w' hb => clone_row w' co cn cc xs (ha2.below hb) hfew)
    have HLa : Hid (∀ w', Below W.heap.size W w' → Calls Tryz.prog 234 #[.agg #[.slice so sn sc, .slice co cn cc]] w' fun e w'' => e = .returned (.int .i64 la) ∧ Below w'.heap.size w' w'') := hide (fun w' hb => last_any w' so sn sc co cn cc a (ha0.below hb) a.shape.dropLast la hds hdl)
    have HCh : Hid (∀ w' ao n cap, Calls Tryz.prog 233 #[.slice ao n cap, .int .i64 ((max la 1 : Nat) : Int)] w' fun e w'' => e = .returned (.func (.func 274) #[] #[.pointer (some ⟨w'.heap.size, 0, none⟩), .pointer (some ⟨w'.heap.size + 1, 0, none⟩)]) ∧ w'' = (w'.alloc (.cells #[.slice ao n cap] 32)).alloc (.cells #[.int .i64 ((max la 1 : Nat) : Int)] 3)) := hide (fun w' ao n cap => chunk_call ao n cap (max la 1) (max_pos la) w')
    have hmax : max (la : Int) 1 = ((max la 1 : Nat) : Int) := by omega
    refine (callsIn_wide (n := 5)).1 ?_
    refine callsIn_of_wp_marks Tryz.func186 rfl trivial ?_ rfl
    simp only [Tryz.ntmps186, List.size_toArray, List.length_cons, List.length_nil, Nat.reduceAdd, Nat.reduceSub, Array.replicate_succ, Array.replicate_zero, List.push_toArray, List.append_toArray, List.nil_append, List.cons_append]
    have hS := S1.start W so sn sc co cn cc
    obtain ⟨W1, hW1⟩ : ∃ W1, (W.alloc (.cells #[.slice so sn sc, .slice co cn cc] 89)).alloc (.cells #[.slice none 0 0, .slice none 0 0] 89) = W1 := ⟨_, rfl⟩
    rw [hW1] at hS
    have HS1 := hide hS
    have HN1 := hide ha1
    have HCN := hide hcn
    have x0 := hS.b0
    have x1 := hS.b1
    clear ha0 ha1 ha2 hoa hsn hcn hr hds hla hxs hdl h0 hS
    gi_wp2_with fail
    try rw [hW1]
    clear hW1 x0 x1
    refine ⟨trivial, (callsIn_wide.2 (unhide HScal _)).mono ?_⟩
    rintro e w2 ⟨rfl, hb2⟩
    have hS := (unhide HS1).next hb2
    have HS2 := hide hS
    have x0 := hS.b0
    have x1 := hS.b1
    have n1 := hS.lt
    have n0 : W.heap.size < w2.heap.size := by omega
    clear hS hb2 HS1
    gi_wp2_with fail
    refine ⟨trivial, (callsIn_wide.2 (unhide HCl _ (unhide HS2).below)).mono ?_⟩
    rintro e w3 ⟨ro, g, rc, rfl, hrc, hrow, hrs, hb3⟩
    have hS := (unhide HS2).next hb3
    have HS3 := hide hS
    have n32 := hb3.size
    clear x0 x1 n1 n0
    have x0 := hS.b0
    have x1 := hS.b1
    have n1 := hS.lt
    have n0 : W.heap.size < w3.heap.size := by omega
    have HROW : Hid (0 < cn → ro = some ⟨g, 0, none⟩ ∧ W.heap.size + 1 + 1 ≤ g ∧ g < w3.heap.size ∧ RowAt w3 g xs) := hide (fun h => ⟨(hrow h).1, by have h1 := (unhide HS2).lt; have h2 := (hrow h).2.1; omega, (hrow h).2.2⟩)
    have HRS := hide hrs
    clear hS hb3 hrow hrs HS2
    gi_wp2_with fail
    refine ⟨trivial, (callsIn_wide.2 (unhide HLa _ (unhide HS3).below)).mono ?_⟩
    rintro e w4 ⟨rfl, hb4⟩
    have hS := (unhide HS3).next hb4
    have HS4 := hide hS
    have n43 := hb4.size
    have HROW4 : Hid (0 < cn → ro = some ⟨g, 0, none⟩ ∧ W.heap.size + 1 + 1 ≤ g ∧ g < w4.heap.size ∧ RowAt w4 g xs) := hide (fun h => by
      obtain ⟨h1, h2, h3, h4⟩ := unhide HROW h
      exact ⟨h1, h2, by omega, fun j hj => ⟨(hb4.cell (p := ⟨g, j, none⟩) h3).trans (h4 j hj).1, (hb4.frozen (p := ⟨g, j, none⟩) h3).trans (h4 j hj).2⟩⟩)
    clear x0 x1 n1 n0
    have x0 := hS.b0
    have n1 := hS.lt
    clear hS hb4 HS3 HROW
    gi_wp2_with fail
    refine ⟨trivial, (callsIn_wide.2 (unhide HCh _ ro cn rc)).mono ?_⟩
    rintro e w5 ⟨rfl, hw5⟩
    have hb5 : Below w4.heap.size w4 w5 := by rw [hw5]; exact ((Below.refl _ _).alloc (Nat.le_refl _) _).alloc (by simp) _
    have k1 : w5.cell? ⟨w4.heap.size, 0, none⟩ = some (.slice ro cn rc) := by
      rw [hw5, World.cell?_of_block (a := ⟨w4.heap.size, 0, none⟩) (RowKit.Below.heap_alloc _ _ _ (by simp))]
      exact (World.cell?_alloc_at _ _ _ _ rfl).trans rfl
    have k2 : w5.cell? ⟨w4.heap.size + 1, 0, none⟩ = some (.int .i64 ((max la 1 : Nat) : Int)) := by
      rw [hw5]
      exact (World.cell?_alloc_at _ _ _ _ (by simp)).trans rfl
    have hs5 : w5.heap.size = w4.heap.size + 1 + 1 := by rw [hw5]; simp
    clear hw5
    gi_wp2_with fail
    have hS := (unhide HS4).next hb5
    have hm1000 : max la 1 ≤ 1000 := by omega
    have hcn200 : cn ≤ 1000 := by rw [unhide HCN]; omega
    have hg5 : 0 < cn → RowAt w5 g xs := fun h j hj => by
      obtain ⟨h1, h2, h3, h4⟩ := unhide HROW4 h
      exact ⟨(hb5.cell (p := ⟨g, j, none⟩) h3).trans (h4 j hj).1, (hb5.frozen (p := ⟨g, j, none⟩) h3).trans (h4 j hj).2⟩
    have hlW : W.heap.size ≤ w5.heap.size := by omega
    refine wpIn_rangeFunc_ownF rfl (by omega) (gf := 274) (lb := #[.pointer (some ⟨w4.heap.size, 0, none⟩), .pointer (some ⟨w4.heap.size + 1, 0, none⟩)]) rfl trivial (enters_of Tryz.func274 (by kernel_rfl) rfl)
      (chunk_stops0 4 (by omega) w4.heap.size (w4.heap.size + 1) g cn rc (max la 1) ro (fun h => (unhide HROW4 h).1) (max_pos la) hm1000 hcn200 hrc w5 (by omega) (by omega) k1 k2) KpB.trans (fun W' l o o' hl ho _ _ => KpB.put (n := w5.heap.size) (by omega) (by omega) W' l o o' hl ho) (Below.refl _ _) (fun _ => rfl)
      (fun pre W' => (0 < cn → RowAt W' g (revs pre xs)) ∧ S1 W W' so sn sc co cn cc)
      (fun _ _ _ => False)
      (fun pre X Y row hs hg hr => ⟨fun h => (hs.1 h).own hg hr, hs.2.own hlW hg hr⟩)
      (fun _ _ _ _ _ hs _ _ => hs)
      ⟨hg5, hS⟩
      (fun x => { tmps := #[.agg #[.slice so sn sc, .slice co cn cc], .pointer (some ⟨W.heap.size, 0, none⟩), .pointer (some ⟨W.heap.size + 1, 0, none⟩), .int .i64 0, .slice ro cn rc, .slice (some ⟨g, x.1.1, none⟩) x.1.2 x.1.2, .agg #[.slice so sn sc, .slice co cn cc], .bool false, undef, .pointer (some ⟨W.heap.size, 1, none⟩), .slice co cn cc, .slice ro cn rc, .slice ro cn rc, .agg #[.slice so sn sc, .slice co cn cc], .int .i64 la, .int .i64 ((max la 1 : Nat) : Int), .func (.func 274) #[] #[.pointer (some ⟨w4.heap.size, 0, none⟩), .pointer (some ⟨w4.heap.size + 1, 0, none⟩)], .slice (some ⟨g, x.1.1, none⟩) x.1.2 x.1.2, undef, undef, undef, undef, undef, undef], defers := [] }) ?assign ?body ?done ?stop
    case assign =>
      intro l x W' K hK
      gi_wp2
      exact hK
    case body =>
      rintro l pre x W' ⟨hrow, hS'⟩ _
      have hx := x.2
      have hc0 : 0 < cn := by omega
      have hrl := revs_len pre xs (unhide HCN).symm
      obtain ⟨h1, h2, h3, h4⟩ := unhide HROW4 hc0
      gi_wp2_with fail
      refine ⟨trivial, (CallsIn.inRound l (callsIn_wide.2 (reverse_any W' g (revs pre xs) (hrow hc0) x.1 (by rw [hrl]; exact hx.1) (by omega)))).mono ?_⟩
      rintro e W2 ⟨rfl, hR2, hO2⟩
      gi_wp2
      exact ⟨hO2.others ((hrow hc0) 0 (by omega)).1, ⟨hO2.block _ (by omega), hO2.block _ (by omega)⟩, fun _ => by rw [revs_snoc]; exact hR2, hS'.keep (hO2.below h2)⟩
    case done =>
      rintro D ys W' hD rfl ⟨hrow, hS'⟩ hK
      have y0 := hS'.b0
      have y2 := hS'.r0
      have y3 := hS'.r1
      have z2 := hS'.f0
      have z3 := hS'.f1
      have m1 := hS'.lt
      have m0 : W.heap.size < W'.heap.size := by omega
      clear x0 n1
      gi_wp2
      obtain ⟨W2, hW2⟩ : ∃ W2, (W'.setCell ⟨W.heap.size + 1, 0, none⟩ (.slice so sn sc)).setCell ⟨W.heap.size + 1, 1, none⟩ (.slice ro cn rc) = W2 := ⟨_, rfl⟩
      have hK2 : W2.heap[D]? = some (.deferred (some [])) := by rw [← hW2]; exact ((KeepsOthers.setCell _ _ _).trans (KeepsOthers.setCell _ _ _)).same D _ hK rfl
      have hO2 : OnlyB (W.heap.size + 1) W' W2 := by
        rw [← hW2]
        exact ⟨rfl, rfl, rfl, by simp, fun k hk => (RowKit.Below.heap_setCell _ _ _ _ (fun e => hk e)).trans (RowKit.Below.heap_setCell _ _ _ _ (fun e => hk e))⟩
      have q0 : W2.cell? ⟨W.heap.size + 1, 0, none⟩ = some (.slice so sn sc) := by
        rw [← hW2, World.cell?_setCell_other _ _ _ _ (by simp)]
        exact World.cell?_setCell_same _ _ _ y2
      have q1 : W2.cell? ⟨W.heap.size + 1, 1, none⟩ = some (.slice ro cn rc) := by
        rw [← hW2]
        exact World.cell?_setCell_same _ _ _ (u := .slice none 0 0) ((World.cell?_setCell_other _ _ _ _ (by simp)).trans y3)
      rw [hW2]
      refine ⟨by simp, .inl ⟨_, _, rfl, run_takeDeferred hK2, ?_⟩⟩
      have hput := grownBy_putObj' W2 D (.deferred none)
      have hrr : ∀ r, some D = some r → ∃ o : Obj, W2.heap[r]? = some o ∧ o.isCells = false := fun r e => by cases e; exact ⟨_, hK2, rfl⟩
      have q0' := cell_kept q0 hput hrr
      have q1' := cell_kept q1 hput hrr
      have hput2 : Below W.heap.size W2 (W2.putObj D (.deferred none)) := (Below.refl _ _).grown hput (by rw [hO2.size]; omega) (fun k e => by cases e; omega)
      have hB3 : Below W.heap.size W (W2.putObj D (.deferred none)) := (hS'.below.trans (hO2.below (by omega))).trans hput2
      refine ⟨.tuple #[.agg #[.slice so sn sc, .slice ro cn rc], .int .i64 0], by simp [results, Tryz.results186, go_sem, q0', q1'], so, sn, sc, ro, cn, rc, rfl, ⟨_, _, _, _, _, _, rfl, (unhide HN1).below hB3, ?_⟩, hB3⟩
      have hcn := unhide HCN
      subst hcn
      have hl : (revC xs la).length = xs.length := revs_len _ _ rfl
      by_cases hc0 : 0 < xs.length
      · obtain ⟨h1, h2, h3, h4⟩ := unhide HROW4 hc0
        have hR := hrow hc0
        refine ⟨ro, rc, by rw [hl], by show (revC xs la).length ≤ rc; rw [hl]; exact hrc, fun _ => ⟨g, 0, h1, hP g (by omega), ?_, fun i hi => ?_⟩, unhide HRS⟩
        · have e1 := hput2.size
          have e2 := hO2.size
          have e3 : w5.heap.size ≤ W'.heap.size := by
            have hd := (Array.getElem?_eq_some_iff.1 hK).1
            omega
          omega
        · rw [Nat.zero_add]
          have hi' : i < (revs (partsL xs.length (max la 1) (max_pos la) xs.length) xs).length := hi
          have hc1 := (hR i hi').1
          have hc2 : W2.cell? ⟨g, i, none⟩ = some (.int .i64 ((revs (partsL xs.length (max la 1) (max_pos la) xs.length) xs)[i])) := (World.cell?_of_block (a := ⟨g, i, none⟩) (hO2.block g (by omega))).trans hc1
          exact cell_kept hc2 hput hrr
      · have hz : (revC xs la) = [] := List.eq_nil_of_length_eq_zero (by omega)
        rw [hz]
        refine ⟨ro, rc, by rw [show xs.length = 0 by omega]; rfl, by simp, fun h => absurd h (by simp), unhide HRS⟩
    case stop =>
      rintro D c pre W' _ _ h _
      exact h.elim
theorem revAt_mem {L : List Int} {p : Nat × Nat} {c : Int} (h : c ∈ revAt L p) : c ∈ L := by
  unfold revAt at h
  rcases List.mem_append.1 h with h | h
  · exact List.mem_of_mem_take h
  · rcases List.mem_append.1 h with h | h
    · exact List.mem_of_mem_drop (List.mem_of_mem_take (List.mem_reverse.1 h))
    · exact List.mem_of_mem_drop h
theorem revs_mem {n : Nat} : ∀ (pre : List (Part n)) (L : List Int) (c : Int), c ∈ revs pre L → c ∈ L
  | [], _, _, h => h
  | p :: pre, L, c, h => revAt_mem (revs_mem pre (revAt L p.1) c h)
theorem round_one : OneC ⟨#[114, 101, 118]⟩ revP := ⟨fun w => (find_one (t := ⟨#[114, 101, 118]⟩) (k1 := .string [101, 118]) (k2 := .string [114, 101, 118]) (f := 186) (by decide) (by kernel_rfl) (by kernel_rfl) (by kernel_rfl) (by kernel_rfl) w).mono (by rintro e w' ⟨rfl, hb⟩; exact ⟨186, #[], rfl, Tryz.enters186, hb, round_fn w'⟩), fun a ha => by
  unfold revP
  split
  · exact ⟨ha.few, fun _ => ha⟩
  · have hl : (revC a.cells (lastN a.shape)).length = a.cells.length := revs_len _ _ rfl
    exact ⟨by show (revC _ _).length ≤ 200; rw [hl]; exact ha.few, fun _ => ⟨ha.rank, ha.lens, by show (revC _ _).length = _; rw [hl]; exact ha.size, by show (revC _ _).length ≤ 200; rw [hl]; exact ha.few, fun c hc => ha.fits c (revs_mem _ _ c hc)⟩⟩⟩
end Go.Proofs.YtjobgpahajhbnaaGreatDoor
