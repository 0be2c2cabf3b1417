import Derived.Test.YtjobgpahajhbnabGreatDoorKg
import Derived.Shelf.SlicesE.Reverse
import Derived.Ground.SlgnProg
import Derived.Test.YtjobgpahajhbnabGreatDoorTe
import Derived.Deep.RegionHeld3
namespace Go.Proofs
open Go.Shelf
def Tryz.rev235_ren : Go.Shelf.Ren := ⟨fun | 35 => 158 | n => n, fun | 22 => 32 | 23 => 2 | 3 => 3 | 4 => 4 | 0 => 0 | n => n, fun | n => n⟩
theorem Tryz.rev235 : Go.Proofs.SlLaysE.n35 Tryz.prog Tryz.rev235_ren := {
  mixed := by kernel_rfl
  f35 := ⟨Tryz.f158.name, by decide, Tryz.func158.trans (congrArg some (by kernel_rfl))⟩
  t0 := Tryz.underlying0
  a0 := Tryz.isAgg0
  z0 := Tryz.sizeOf0
  v0 := Tryz.zeroValue0
  t3 := Tryz.underlying3
  a3 := Tryz.isAgg3
  z3 := Tryz.sizeOf3
  v3 := Tryz.zeroValue3
  t4 := Tryz.underlying4
  a4 := Tryz.isAgg4
  z4 := Tryz.sizeOf4
  v4 := Tryz.zeroValue4
  t22 := Tryz.underlying32
  a22 := Tryz.isAgg32
  z22 := Tryz.sizeOf32
  v22 := Tryz.zeroValue32
  a23 := Tryz.isAgg2
  z23 := Tryz.sizeOf2 }
end Go.Proofs
namespace Go.Proofs.YtjobgpahajhbnabGreatDoor
open Go.RowKit Go.Proofs Go.Shelf
def RowAt (W : World) (g : Nat) (L : List Int) : Prop := ∀ j, (h : j < L.length) → W.cell? ⟨g, j, none⟩ = some (.int .i64 L[j]) ∧ W.frozen? ⟨g, j, none⟩ = false
def Z8 (L : List Int) (p : Nat × Nat) : List Int := L.take p.1 ++ (((L.drop p.1).take p.2).reverse ++ L.drop (p.1 + p.2))
theorem Zq {L : List Int} {p : Nat × Nat} (h : p.1 + p.2 ≤ L.length) : (Z8 L p).length = L.length := by
  unfold Z8
  simp
  omega
structure OnlyB (g : Nat) (W W' : World) : Prop where
  os : W'.os = W.os
  tape : W'.tape = W.tape
  output : W'.output = W.output
  size : W'.heap.size = W.heap.size
  block : ∀ k, k ≠ g → W'.heap[k]? = W.heap[k]?
theorem OnlyB.below {g : Nat} {W W' : World} (h : OnlyB g W W') {n : Nat} (hn : n ≤ g) : Below n W W' := ⟨h.os, h.tape, h.output, by rw [h.size]; exact Nat.le_refl _, fun k hk => h.block k (by omega)⟩
theorem OnlyB.others {g : Nat} {W W' : World} (h : OnlyB g W W') {v : Value} {j : Nat} (hc : W.cell? ⟨g, j, none⟩ = some v) : KeepsOthers W W' := ⟨by rw [h.size]; exact Nat.le_refl _, fun k o hk ho => by
  by_cases e : k = g
  · subst e
    obtain ⟨o', ho', hc'⟩ := cells_of_cell hc
    have ho' : W.heap[k]? = some o' := ho'
    rw [hk] at ho'
    cases ho'
    rw [ho] at hc'
    cases hc'
  · rw [h.block k e]; exact hk⟩
theorem Nz (W : World) (n g off : Nat) (d : Array Int) : OnlyB g W (Go.Sort.putRow (Value.int .i64) (Go.Sort.ahead W n) g off d) := ⟨rfl, rfl, rfl, by simp [Go.Sort.ahead], fun k hk => by
  show ((W.heap.modify g _))[k]? = _
  rw [Array.getElem?_modify, if_neg (Ne.symm hk)]⟩
theorem Jbj (W : World) (g : Nat) (L : List Int) (h : RowAt W g L) (p : Nat × Nat) (hp : p.1 + p.2 ≤ L.length) (hl : L.length ≤ 1000) :
    Calls Tryz.prog 158 #[.slice (some ⟨g, p.1, none⟩) p.2 p.2] W fun e W' => e = .returned (.tuple #[]) ∧ RowAt W' g (Z8 L p) ∧ OnlyB g W W' := by
  obtain ⟨zs, hzs⟩ : ∃ zs, (L.drop p.1).take p.2 = zs := ⟨_, rfl⟩
  have hzl : zs.length = p.2 := by rw [← hzs]; simp; omega
  have hH : Go.Sort.Holds (Value.int .i64) W g p.1 zs.toArray := by
    intro j hj
    have hj' : j < p.2 := by rw [← hzl]; simpa using hj
    have hz : zs.toArray[j]! = L[p.1 + j]'(by omega) := by
      rw [getElem!_pos _ j hj]
      subst hzs
      simp
    rw [hz]
    exact h (p.1 + j) (by omega)
  have := AnyE.slices_Reverse Tryz.rev235 (Value.int .i64) (fun _ => rfl) g p.1 p.2 zs W hH (by omega)
  rw [hzl] at this
  refine this.mono ?_
  rintro e W' ⟨rfl, n, rfl⟩
  refine ⟨rfl, ?_, Nz W n g p.1 _⟩
  have hHa : Go.Sort.Holds (Value.int .i64) (Go.Sort.ahead W n) g p.1 zs.toArray := hH
  intro j hj
  rw [Zq hp] at hj
  refine ⟨?_, by rw [Go.Sort.frozen?_putRow]; exact (h j hj).2⟩
  have hL : (Z8 L p)[j]? = some ((Z8 L p)[j]'(by rw [Zq hp]; exact hj)) := List.getElem?_eq_getElem _
  generalize hv : (Z8 L p)[j]'(by rw [Zq hp]; exact hj) = v at hL ⊢
  unfold Z8 at hL
  rw [hzs] at hL
  by_cases h1 : j < p.1
  · rw [Go.Sort.cell?_putRow_other _ _ _ _ _ _ (Or.inr (Or.inl h1))]
    rw [List.getElem?_append_left (by simp; omega), List.getElem?_take, if_pos h1, List.getElem?_eq_getElem hj] at hL
    rw [← Option.some.inj hL]
    exact (h j hj).1
  · rw [List.getElem?_append_right (by simp; omega), List.length_take, Nat.min_eq_left (by omega)] at hL
    by_cases h2 : j < p.1 + p.2
    · rw [List.getElem?_append_left (by simp; omega)] at hL
      have hc := Go.Sort.cell?_putRow (Value.int .i64) (Go.Sort.ahead W n) g p.1 zs.toArray zs.reverse.toArray hHa (by simp) (j - p.1) (by simp; omega)
      rw [show p.1 + (j - p.1) = j by omega] at hc
      rw [hc, getElem!_pos _ _ (by simp; omega)]
      obtain ⟨hb, hL⟩ := List.getElem?_eq_some_iff.1 hL
      rw [← hL]
      simp
    · rw [Go.Sort.cell?_putRow_other _ _ _ _ _ _ (Or.inr (Or.inr (by simp; omega)))]
      rw [List.getElem?_append_right (by simp; omega), List.getElem?_drop, List.length_reverse, hzl, show p.1 + p.2 + (j - p.1 - p.2) = j by omega, List.getElem?_eq_getElem hj] at hL
      rw [← Option.some.inj hL]
      exact (h j hj).1
end Go.Proofs.YtjobgpahajhbnabGreatDoor
namespace Go.Proofs.YtjobgpahajhbnabGreatDoor
open Go.RowKit Go.Proofs Go.Shelf
attribute [local go_sem] Oper.semAt_some
set_option maxHeartbeats 1000000 in
theorem G7 (ao : Option Addr) (n cap c : Nat) (hc : 0 < c) (w : World) :
    Calls Tryz.prog 156 #[.slice ao n cap, .int .i64 c] w fun e w' => e = .returned (.func (.func 199) #[] #[.pointer (some ⟨w.heap.size, 0, none⟩), .pointer (some ⟨w.heap.size + 1, 0, none⟩)]) ∧ w' = (w.alloc (.cells #[.slice ao n cap] 32)).alloc (.cells #[.int .i64 c] 3) := by
  have h1 : ¬ ((c : Int) < 1) := by omega
  go_enter Tryz.func156, Tryz.ntmps156
  go_wp2
  exact bodyPost_ret (v := .func (.func 199) #[] #[.pointer (some ⟨w.heap.size, 0, none⟩), .pointer (some ⟨w.heap.size + 1, 0, none⟩)]) (by simp [results, Tryz.results156, go_sem]) rfl ⟨rfl, rfl⟩
set_option maxRecDepth 100000 in
set_option maxHeartbeats 1000000 in
theorem Jih (n : Nat) (l bs bn cap : Nat) (ao : Option Addr) {α : Type} (J : List α → World → Prop) (W : World) (h1 : W.cell? ⟨bs, 0, none⟩ = some (.slice ao 0 cap)) (h0 : J [] W) :
    CallsIn Fence.wide n Tryz.prog 199 #[.func (.yield l) #[] #[], .pointer (some ⟨bs, 0, none⟩), .pointer (some ⟨bn, 0, none⟩)] W fun e W' => (∃ v, e = .returned v) ∧ J [] W' := by
  refine callsIn_of_wp Tryz.func199 rfl trivial ?_ rfl
  simp only [Tryz.ntmps199, List.size_toArray, List.length_cons, List.length_nil, Nat.reduceAdd, Nat.reduceSub, Array.replicate_succ, Array.replicate_zero, List.push_toArray, List.append_toArray, List.nil_append, List.cons_append]
  gi_wp2
  gi_loopw [4] (fun i wr => i = .int .i64 0 ∧ J [] wr ∧ wr = W) (fun _ _ => 0)
  case atStart => exact ⟨rfl, h0, rfl⟩
  case round =>
    obtain ⟨rfl, hJs, hw⟩ := hrel
    have hw' := hw.symm
    subst hw'
    gi_wp2
    go_end0
    exact ⟨⟨_, rfl⟩, hJs⟩
theorem X6 (n : Nat) (hn : 1 ≤ n) (bs bn b off len cap c : Nat) (ao : Option Addr) (hao : 0 < len → ao = some ⟨b, off, none⟩) (hc : 0 < c) (hcl : c ≤ 1000) (hlen : len ≤ 1000) (hcap : len ≤ cap) (w : World) (hbs : bs < w.heap.size) (hbn : bn < w.heap.size) (h1 : w.cell? ⟨bs, 0, none⟩ = some (.slice ao len cap)) (h2 : w.cell? ⟨bn, 0, none⟩ = some (.int .i64 c)) :
    SeqStopsK Fence.wide n Tryz.prog 199 #[.pointer (some ⟨bs, 0, none⟩), .pointer (some ⟨bn, 0, none⟩)] (fun x : Part len => #[.slice (some ⟨b, off + x.1.1, none⟩) x.1.2 x.1.2]) (KpB bs bn) (fun ys => ys = Yn len c hc len) (fun _ => True) len w := fun l J Jx W hW hJ _ hY h0 => by
  have h1' := (hW.cell (p := ⟨bs, 0, none⟩) hbs).trans h1
  have h2' := (hW.cell (p := ⟨bn, 0, none⟩) hbn).trans h2
  by_cases hl : 0 < len
  · have hao' := hao hl
    subst hao'
    refine (Jig n hn l bs bn b off len cap c hc hcl hlen hcap J Jx (fun pre W1 h => hJ pre W1 W1.drew none h ⟨rfl, rfl, rfl, Nat.le_refl _, fun _ _ _ => rfl⟩ (fun r e => by cases e)) hY W h1' h2' h0).mono ?_
    rintro e W' ⟨hv, ⟨ys, hy, hj⟩ | ⟨pre, hj⟩⟩
    · exact ⟨hv, .inl ⟨ys, hy, hj⟩⟩
    · exact ⟨hv, .inr ⟨pre, trivial, hj⟩⟩
  · have hz : len = 0 := by omega
    subst hz
    refine (Jih n l bs bn cap ao J W h1' h0).mono ?_
    rintro e W' ⟨hv, hj⟩
    exact ⟨hv, .inl ⟨[], rfl, hj⟩⟩
end Go.Proofs.YtjobgpahajhbnabGreatDoor
namespace Go.Proofs.YtjobgpahajhbnabGreatDoor
open Go.RowKit Go.Proofs Go.Shelf
attribute [local go_sem] Oper.semAt_some
theorem Tryz.enters106 : Enters Tryz.prog 106 := Go.Proofs.enters_of Tryz.func106 (by decide) rfl
def revs {n : Nat} (pre : List (Part n)) (L : List Int) : List Int := pre.foldl (fun L p => Z8 L p.1) L
theorem V2 {n : Nat} : ∀ (pre : List (Part n)) (L : List Int), L.length = n → (revs pre L).length = n
  | [], L, h => h
  | p :: pre, L, h => V2 pre (Z8 L p.1) (by rw [Zq (by rw [h]; exact p.2.1)]; exact h)
theorem Jf0 {n : Nat} (pre : List (Part n)) (x : Part n) (L : List Int) : revs (pre ++ [x]) L = Z8 (revs pre L) x.1 := by
  unfold revs
  rw [List.foldl_append]
  rfl
theorem Z7 (n : Nat) : 0 < max n 1 := by omega
def revC (xs : List Int) (la : Nat) : List Int := revs (Yn xs.length (max la 1) (Z7 la) xs.length) xs
def revP (a : Arr) : Arr × Int := if a.shape.length = 0 then (a, 0) else (⟨a.shape, revC a.cells (Ju a.shape)⟩, 0)
theorem Jic {Q : Nat → Prop} (w : World) (ao : Option Addr) (n cap : Nat) (xs : List Int) (h : Nums Q w (.slice ao n cap) xs) (hx : xs.length ≤ 200) :
    Calls Tryz.prog 38 #[.slice ao n cap] w fun e w' => ∃ ao' g c, e = .returned (.slice ao' n c) ∧ n ≤ c ∧ (0 < n → ao' = some ⟨g, 0, none⟩ ∧ w.heap.size ≤ g ∧ g < w'.heap.size ∧ RowAt w' g xs) ∧ (∀ a, ao' = some a → a.spot = none) ∧ Below w.heap.size w w' := by
  have hn := Jf h
  by_cases h0 : 0 < n
  · obtain ⟨ao', cap', hv, _, hcell, hspot⟩ := h
    injection hv with e1 e2 e3
    subst e1 e3
    obtain ⟨b, off, rfl, _, _, hc⟩ := hcell (by omega)
    obtain ⟨i0, hi, hz0, hz1, hz2⟩ := info_parts Tryz.info2
    refine (Tryz.slices_Clone_f80 i0 (.int .i64 0) 1 8 hi hz0 hz1 hz2 rfl (by decide) (fun w => by kernel_rfl) b off n cap (xs.map (Value.int .i64)) w (by simp [hn]) (by unfold maxLen; omega) (by omega) ?_ ?_).mono ?_
    · intro j u hu
      obtain ⟨hj, rfl⟩ := Z0 hu
      exact hc j hj
    · intro u hu
      obtain ⟨y, _, rfl⟩ := List.mem_map.1 hu
      rfl
    · rintro e w' ⟨v', rfl, hown, _, hb⟩
      have hown2 := hown
      obtain ⟨hl, ⟨rfl, hz⟩ | ⟨g, c, cur, rfl, r⟩⟩ := hown
      · omega
      · refine ⟨_, g, c, rfl, r.2.2.1, fun _ => ⟨rfl, r.1, (hown2.lt g rfl).2, fun j hj => ⟨?_, hown2.frozenAt j⟩⟩, fun a h => by cases h; rfl, hb⟩
        rw [hown2.cellAt j (by omega)]
        simp [hj]
  · refine (Jid (fun _ => True) w (fun _ _ => trivial) (.slice ao n cap) xs h hx).mono ?_
    rintro e w' ⟨so, sn, sc, rfl, hN, hb⟩
    have hn' := Jf hN
    have e1 : sn = n := by omega
    subst e1
    have hcp := Zk hN
    obtain ⟨ao', cap', hv, _, _, hsp⟩ := hN
    injection hv with e1 e2 e3
    subst e1
    exact ⟨so, 0, sc, rfl, hcp, fun h => absurd h h0, hsp, hb⟩
structure S1 (W w : World) (so : Option Addr) (sn sc : Nat) (co : Option Addr) (cn cc : Nat) : Prop where
  below : Below W.heap.size W w
  lt : W.heap.size + 1 < w.heap.size
  b0 : w.cell? ⟨W.heap.size, 0, none⟩ = some (.slice so sn sc)
  b1 : w.cell? ⟨W.heap.size, 1, none⟩ = some (.slice co cn cc)
  r0 : w.cell? ⟨W.heap.size + 1, 0, none⟩ = some (.slice none 0 0)
  r1 : w.cell? ⟨W.heap.size + 1, 1, none⟩ = some (.slice none 0 0)
  f0 : w.frozen? ⟨W.heap.size + 1, 0, none⟩ = false
  f1 : w.frozen? ⟨W.heap.size + 1, 1, none⟩ = false
theorem S1.start (W : World) (so : Option Addr) (sn sc : Nat) (co : Option Addr) (cn cc : Nat) : S1 W ((W.alloc (.cells #[.slice so sn sc, .slice co cn cc] 57)).alloc (.cells #[.slice none 0 0, .slice none 0 0] 57)) so sn sc co cn cc := by
  refine ⟨((Below.refl _ _).alloc (Nat.le_refl _) _).alloc (by simp) _, by simp, ?_, ?_, ?_, ?_, ?_, ?_⟩
  · rw [World.cell?_of_block (a := ⟨W.heap.size, 0, none⟩) (RowKit.Below.heap_alloc _ _ _ (by simp))]
    exact (World.cell?_alloc_at _ _ _ _ rfl).trans rfl
  · rw [World.cell?_of_block (a := ⟨W.heap.size, 1, none⟩) (RowKit.Below.heap_alloc _ _ _ (by simp))]
    exact (World.cell?_alloc_at _ _ _ _ rfl).trans rfl
  · exact (World.cell?_alloc_at _ _ _ _ (by simp)).trans rfl
  · exact (World.cell?_alloc_at _ _ _ _ (by simp)).trans rfl
  · exact World.frozen?_alloc_at _ _ _ _ (by simp)
  · exact World.frozen?_alloc_at _ _ _ _ (by simp)
theorem S1.keep {W w w' : World} {so : Option Addr} {sn sc : Nat} {co : Option Addr} {cn cc : Nat} (h : S1 W w so sn sc co cn cc) (hb : Below (W.heap.size + 1 + 1) w w') : S1 W w' so sn sc co cn cc := by
  have l := h.lt
  have hz := hb.size
  refine ⟨h.below.trans (hb.mono (by omega)), by omega, ?_, ?_, ?_, ?_, ?_, ?_⟩
  · exact (hb.cell (p := ⟨W.heap.size, 0, none⟩) (by show W.heap.size < W.heap.size + 1 + 1; omega)).trans h.b0
  · exact (hb.cell (p := ⟨W.heap.size, 1, none⟩) (by show W.heap.size < W.heap.size + 1 + 1; omega)).trans h.b1
  · exact (hb.cell (p := ⟨W.heap.size + 1, 0, none⟩) (by show W.heap.size + 1 < W.heap.size + 1 + 1; omega)).trans h.r0
  · exact (hb.cell (p := ⟨W.heap.size + 1, 1, none⟩) (by show W.heap.size + 1 < W.heap.size + 1 + 1; omega)).trans h.r1
  · exact (hb.frozen (p := ⟨W.heap.size + 1, 0, none⟩) (by show W.heap.size + 1 < W.heap.size + 1 + 1; omega)).trans h.f0
  · exact (hb.frozen (p := ⟨W.heap.size + 1, 1, none⟩) (by show W.heap.size + 1 < W.heap.size + 1 + 1; omega)).trans h.f1
theorem S1.next {W w w' : World} {so : Option Addr} {sn sc : Nat} {co : Option Addr} {cn cc : Nat} (h : S1 W w so sn sc co cn cc) (hb : Below w.heap.size w w') : S1 W w' so sn sc co cn cc := h.keep (hb.mono (by have := h.lt; omega))
theorem S1.own {W A B : World} {row : Option Nat} {n : Nat} {so : Option Addr} {sn sc : Nat} {co : Option Addr} {cn cc : Nat} (h : S1 W A so sn sc co cn cc) (hn : W.heap.size ≤ n) (hg : A.grownBy B row) (hr : ∀ r, row = some r → n ≤ r ∧ ∃ o : Obj, A.heap[r]? = some o ∧ o.isCells = false) : S1 W B so sn sc co cn cc := by
  have hr2 := fun r e => (hr r e).2
  have hl := h.lt
  have hz := hg.size
  exact ⟨h.below.grown hg (by omega) (fun k e => Nat.le_trans hn (hr k e).1), by omega, cell_kept h.b0 hg hr2, cell_kept h.b1 hg hr2, cell_kept h.r0 hg hr2, cell_kept h.r1 hg hr2, (frozen_kept h.r0 hg hr2).trans h.f0, (frozen_kept h.r1 hg hr2).trans h.f1⟩
theorem RowAt.own {A B : World} {row : Option Nat} {n g : Nat} {L : List Int} (h : RowAt A g L) (hg : A.grownBy B row) (hr : ∀ r, row = some r → n ≤ r ∧ ∃ o : Obj, A.heap[r]? = some o ∧ o.isCells = false) : RowAt B g L := fun j hj =>
  ⟨cell_kept (h j hj).1 hg (fun r e => (hr r e).2), (frozen_kept (h j hj).1 hg (fun r e => (hr r e).2)).trans (h j hj).2⟩
theorem KpB.put {bs bn n : Nat} (h1 : bs < n) (h2 : bn < n) (W : World) (l : Nat) (o o' : Obj) (hl : n ≤ l) (ho : W.heap[l]? = some o) : KpB bs bn W (W.putObj l o') := by
  have hlt : l < W.heap.size := (Array.getElem?_eq_some_iff.1 ho).1
  exact ⟨(grownBy_putObj' W l o').block bs (by omega) (fun e => by cases e; omega), (grownBy_putObj' W l o').block bn (by omega) (fun e => by cases e; omega)⟩
theorem Jav (n : Nat) (hn : 1 ≤ n) (bs bn b len cap c : Nat) (ao : Option Addr) (hao : 0 < len → ao = some ⟨b, 0, none⟩) (hc : 0 < c) (hcl : c ≤ 1000) (hlen : len ≤ 1000) (hcap : len ≤ cap) (w : World) (hbs : bs < w.heap.size) (hbn : bn < w.heap.size) (h1 : w.cell? ⟨bs, 0, none⟩ = some (.slice ao len cap)) (h2 : w.cell? ⟨bn, 0, none⟩ = some (.int .i64 c)) :
    SeqStopsK Fence.wide n Tryz.prog 199 #[.pointer (some ⟨bs, 0, none⟩), .pointer (some ⟨bn, 0, none⟩)] (fun x : Part len => #[.slice (some ⟨b, x.1.1, none⟩) x.1.2 x.1.2]) (KpB bs bn) (fun ys => ys = Yn len c hc len) (fun _ => True) len w := by
  have := X6 n hn bs bn b 0 len cap c ao hao hc hcl hlen hcap w hbs hbn h1 h2
  simpa using this
section
attribute [local go_sem ↓] Go.wp_at_zero Go.wp_at_succ
set_option maxHeartbeats 1000000 in
theorem Nn (W : World) (P : Nat → Prop) (so : Option Addr) (sc : Nat) (co : Option Addr) (cn cc : Nat) (a : Arr) (ha : IsArr P W (.agg #[.slice so 0 sc, .slice co cn cc]) a) :
    Calls Tryz.prog 106 #[.agg #[.slice so 0 sc, .slice co cn cc]] W fun e W' => ∃ so sn sc co cn cc, e = .returned (.tuple #[.agg #[.slice so sn sc, .slice co cn cc], .int .i64 0]) ∧ IsArr P W' (.agg #[.slice so sn sc, .slice co cn cc]) a ∧ Below W.heap.size W W' := by
  have HA := hide ha
  have HS := hide (fun W' => Ji W' so 0 sc co cn cc)
  clear ha
  go_enter Tryz.func106, Tryz.ntmps106
  go_wp2_with (go_at_call 143; refine (Ja HS _).mono ?_; rintro e w' ⟨rfl, rfl⟩)
  refine bodyPost_ret (v := .tuple #[.agg #[.slice so 0 sc, .slice co cn cc], .int .i64 0]) (by simp [results, Tryz.results106, go_sem]) rfl ⟨_, _, _, _, _, _, rfl, ?_, ?_⟩
  · exact (Ja HA).below (((((Below.refl W.heap.size W).alloc (Nat.le_refl _) _).alloc (by simp) _).alloc (by simp; omega) _).alloc (by simp; omega) _)
  · exact ((((Below.refl W.heap.size W).alloc (Nat.le_refl _) _).alloc (by simp) _).alloc (by simp; omega) _).alloc (by simp; omega) _
end
set_option maxRecDepth 100000 in
set_option maxHeartbeats 2000000 in
theorem Jjb (w : World) : FnOne 106 #[] w revP := by
  intro W P v a _ hP ha hoa
  have ha0 := ha
  obtain ⟨so, sn, sc, co, cn, cc, rfl, ha1, ha2⟩ := ha
  have hsn := (Jc ha0).2
  have hcn := (Jc ha0).1
  by_cases h0 : sn = 0
  · have hr : revP a = (a, 0) := by unfold revP; rw [if_pos (by omega)]
    rw [hr]
    subst h0
    exact Nn W P so sc co cn cc a ha0
  · have hr : revP a = (⟨a.shape, revC a.cells (Ju a.shape)⟩, 0) := by unfold revP; rw [if_neg (by omega)]
    rw [hr]
    have hds := J8 (l := a.shape) (by omega)
    obtain ⟨la, hla⟩ : ∃ la, Ju a.shape = la := ⟨_, rfl⟩
    rw [hla] at hds ⊢
    have hla2 : la ≤ 200 := hoa.lens la (by rw [hds]; simp)
    have hdl : a.shape.dropLast.length ≤ 3 := by have := hoa.rank; simp; omega
    obtain ⟨xs, hxs⟩ : ∃ xs, a.cells = xs := ⟨_, rfl⟩
    rw [hxs] at ha2 hcn ⊢
    have hfew : xs.length ≤ 200 := by rw [← hxs]; exact hoa.few
    have h0' : ((sn : Int) == 0) = false := by rw [beq_eq_false_iff_ne]; omega
    have HScal : Hid (∀ w', Calls Tryz.prog 143 #[.agg #[.slice so sn sc, .slice co cn cc]] w' fun e w'' => e = .returned (.bool ((sn : Int) == 0)) ∧ Below w'.heap.size w' w'') := hide (fun w' => (Ji w' so sn sc co cn cc).mono (fun e w'' h => ⟨h.1, by rw [h.2]; exact ((Below.refl _ _).alloc (Nat.le_refl _) _).alloc (by simp) _⟩))
    have HCl : Hid (∀ w', Below W.heap.size W w' → Calls Tryz.prog 38 #[.slice co cn cc] w' fun e w'' => ∃ ao' g c, e = .returned (.slice ao' cn c) ∧ cn ≤ c ∧ (0 < cn → ao' = some ⟨g, 0, none⟩ ∧ w'.heap.size ≤ g ∧ g < w''.heap.size ∧ RowAt w'' g xs) ∧ (∀ a, ao' = some a → a.spot = none) ∧ Below w'.heap.size w' w'') := hide (fun w' hb => Jic w' co cn cc xs (ha2.below hb) hfew)
    have HLa : Hid (∀ w', Below W.heap.size W w' → Calls Tryz.prog 157 #[.agg #[.slice so sn sc, .slice co cn cc]] w' fun e w'' => e = .returned (.int .i64 la) ∧ Below w'.heap.size w' w'') := hide (fun w' hb => Qy w' so sn sc co cn cc a (ha0.below hb) a.shape.dropLast la hds hdl)
    have HCh : Hid (∀ w' ao n cap, Calls Tryz.prog 156 #[.slice ao n cap, .int .i64 ((max la 1 : Nat) : Int)] w' fun e w'' => e = .returned (.func (.func 199) #[] #[.pointer (some ⟨w'.heap.size, 0, none⟩), .pointer (some ⟨w'.heap.size + 1, 0, none⟩)]) ∧ w'' = (w'.alloc (.cells #[.slice ao n cap] 32)).alloc (.cells #[.int .i64 ((max la 1 : Nat) : Int)] 3)) := hide (fun w' ao n cap => G7 ao n cap (max la 1) (Z7 la) w')
    have hmax : max (la : Int) 1 = ((max la 1 : Nat) : Int) := by omega
    refine (callsIn_wide (n := 5)).1 ?_
    refine callsIn_of_wp_marks Tryz.func106 rfl trivial ?_ rfl
    simp only [Tryz.ntmps106, List.size_toArray, List.length_cons, List.length_nil, Nat.reduceAdd, Nat.reduceSub, Array.replicate_succ, Array.replicate_zero, List.push_toArray, List.append_toArray, List.nil_append, List.cons_append]
    have hS := S1.start W so sn sc co cn cc
    obtain ⟨W1, hW1⟩ : ∃ W1, (W.alloc (.cells #[.slice so sn sc, .slice co cn cc] 57)).alloc (.cells #[.slice none 0 0, .slice none 0 0] 57) = W1 := ⟨_, rfl⟩
    rw [hW1] at hS
    have HS1 := hide hS
    have HN1 := hide ha1
    have HCN := hide hcn
    have x0 := hS.b0
    have x1 := hS.b1
    clear ha0 ha1 ha2 hoa hsn hcn hr hds hla hxs hdl h0 hS
    gi_wp2_with fail
    try rw [hW1]
    clear hW1 x0 x1
    refine ⟨trivial, (callsIn_wide.2 (Ja HScal _)).mono ?_⟩
    rintro e w2 ⟨rfl, hb2⟩
    have hS := (Ja HS1).next hb2
    have HS2 := hide hS
    have x0 := hS.b0
    have x1 := hS.b1
    have n1 := hS.lt
    have n0 : W.heap.size < w2.heap.size := by omega
    clear hS hb2 HS1
    gi_wp2_with fail
    refine ⟨trivial, (callsIn_wide.2 (Ja HCl _ (Ja HS2).below)).mono ?_⟩
    rintro e w3 ⟨ro, g, rc, rfl, hrc, hrow, hrs, hb3⟩
    have hS := (Ja HS2).next hb3
    have HS3 := hide hS
    have n32 := hb3.size
    clear x0 x1 n1 n0
    have x0 := hS.b0
    have x1 := hS.b1
    have n1 := hS.lt
    have n0 : W.heap.size < w3.heap.size := by omega
    have HROW : Hid (0 < cn → ro = some ⟨g, 0, none⟩ ∧ W.heap.size + 1 + 1 ≤ g ∧ g < w3.heap.size ∧ RowAt w3 g xs) := hide (fun h => ⟨(hrow h).1, by have h1 := (Ja HS2).lt; have h2 := (hrow h).2.1; omega, (hrow h).2.2⟩)
    have HRS := hide hrs
    clear hS hb3 hrow hrs HS2
    gi_wp2_with fail
    refine ⟨trivial, (callsIn_wide.2 (Ja HLa _ (Ja HS3).below)).mono ?_⟩
    rintro e w4 ⟨rfl, hb4⟩
    have hS := (Ja HS3).next hb4
    have HS4 := hide hS
    have n43 := hb4.size
    have HROW4 : Hid (0 < cn → ro = some ⟨g, 0, none⟩ ∧ W.heap.size + 1 + 1 ≤ g ∧ g < w4.heap.size ∧ RowAt w4 g xs) := hide (fun h => by
      obtain ⟨h1, h2, h3, h4⟩ := Ja HROW h
      exact ⟨h1, h2, by omega, fun j hj => ⟨(hb4.cell (p := ⟨g, j, none⟩) h3).trans (h4 j hj).1, (hb4.frozen (p := ⟨g, j, none⟩) h3).trans (h4 j hj).2⟩⟩)
    clear x0 x1 n1 n0
    have x0 := hS.b0
    have n1 := hS.lt
    clear hS hb4 HS3 HROW
    gi_wp2_with fail
    refine ⟨trivial, (callsIn_wide.2 (Ja HCh _ ro cn rc)).mono ?_⟩
    rintro e w5 ⟨rfl, hw5⟩
    have hb5 : Below w4.heap.size w4 w5 := by rw [hw5]; exact ((Below.refl _ _).alloc (Nat.le_refl _) _).alloc (by simp) _
    have k1 : w5.cell? ⟨w4.heap.size, 0, none⟩ = some (.slice ro cn rc) := by
      rw [hw5, World.cell?_of_block (a := ⟨w4.heap.size, 0, none⟩) (RowKit.Below.heap_alloc _ _ _ (by simp))]
      exact (World.cell?_alloc_at _ _ _ _ rfl).trans rfl
    have k2 : w5.cell? ⟨w4.heap.size + 1, 0, none⟩ = some (.int .i64 ((max la 1 : Nat) : Int)) := by
      rw [hw5]
      exact (World.cell?_alloc_at _ _ _ _ (by simp)).trans rfl
    have hs5 : w5.heap.size = w4.heap.size + 1 + 1 := by rw [hw5]; simp
    clear hw5
    gi_wp2_with fail
    have hS := (Ja HS4).next hb5
    have hm1000 : max la 1 ≤ 1000 := by omega
    have hcn200 : cn ≤ 1000 := by rw [Ja HCN]; omega
    have hg5 : 0 < cn → RowAt w5 g xs := fun h j hj => by
      obtain ⟨h1, h2, h3, h4⟩ := Ja HROW4 h
      exact ⟨(hb5.cell (p := ⟨g, j, none⟩) h3).trans (h4 j hj).1, (hb5.frozen (p := ⟨g, j, none⟩) h3).trans (h4 j hj).2⟩
    have hlW : W.heap.size ≤ w5.heap.size := by omega
    refine wpIn_rangeFunc_ownF rfl (by omega) (gf := 199) (lb := #[.pointer (some ⟨w4.heap.size, 0, none⟩), .pointer (some ⟨w4.heap.size + 1, 0, none⟩)]) rfl trivial (enters_of Tryz.func199 (by kernel_rfl) rfl)
      (Jav 4 (by omega) w4.heap.size (w4.heap.size + 1) g cn rc (max la 1) ro (fun h => (Ja HROW4 h).1) (Z7 la) hm1000 hcn200 hrc w5 (by omega) (by omega) k1 k2) KpB.trans (fun W' l o o' hl ho _ _ => KpB.put (n := w5.heap.size) (by omega) (by omega) W' l o o' hl ho) (Below.refl _ _) (fun _ => rfl)
      (fun pre W' => (0 < cn → RowAt W' g (revs pre xs)) ∧ S1 W W' so sn sc co cn cc)
      (fun _ _ _ => False)
      (fun pre X Y row hs hg hr => ⟨fun h => (hs.1 h).own hg hr, hs.2.own hlW hg hr⟩)
      (fun _ _ _ _ _ hs _ _ => hs)
      ⟨hg5, hS⟩
      (fun x => { tmps := #[.agg #[.slice so sn sc, .slice co cn cc], .pointer (some ⟨W.heap.size, 0, none⟩), .pointer (some ⟨W.heap.size + 1, 0, none⟩), .int .i64 0, .slice ro cn rc, .slice (some ⟨g, x.1.1, none⟩) x.1.2 x.1.2, .agg #[.slice so sn sc, .slice co cn cc], .bool false, undef, .pointer (some ⟨W.heap.size, 1, none⟩), .slice co cn cc, .slice ro cn rc, .slice ro cn rc, .agg #[.slice so sn sc, .slice co cn cc], .int .i64 la, .int .i64 ((max la 1 : Nat) : Int), .func (.func 199) #[] #[.pointer (some ⟨w4.heap.size, 0, none⟩), .pointer (some ⟨w4.heap.size + 1, 0, none⟩)], .slice (some ⟨g, x.1.1, none⟩) x.1.2 x.1.2, undef, undef, undef, undef, undef, undef], defers := [] }) ?assign ?body ?done ?stop
    case assign =>
      intro l x W' K hK
      gi_wp2
      exact hK
    case body =>
      rintro l pre x W' ⟨hrow, hS'⟩ _
      have hx := x.2
      have hc0 : 0 < cn := by omega
      have hrl := V2 pre xs (Ja HCN).symm
      obtain ⟨h1, h2, h3, h4⟩ := Ja HROW4 hc0
      gi_wp2_with fail
      refine ⟨trivial, (CallsIn.inRound l (callsIn_wide.2 (Jbj W' g (revs pre xs) (hrow hc0) x.1 (by rw [hrl]; exact hx.1) (by omega)))).mono ?_⟩
      rintro e W2 ⟨rfl, hR2, hO2⟩
      gi_wp2
      exact ⟨hO2.others ((hrow hc0) 0 (by omega)).1, ⟨hO2.block _ (by omega), hO2.block _ (by omega)⟩, fun _ => by rw [Jf0]; exact hR2, hS'.keep (hO2.below h2)⟩
    case done =>
      rintro D ys W' hD rfl ⟨hrow, hS'⟩ hK
      have y0 := hS'.b0
      have y2 := hS'.r0
      have y3 := hS'.r1
      have z2 := hS'.f0
      have z3 := hS'.f1
      have m1 := hS'.lt
      have m0 : W.heap.size < W'.heap.size := by omega
      clear x0 n1
      gi_wp2
      obtain ⟨W2, hW2⟩ : ∃ W2, (W'.setCell ⟨W.heap.size + 1, 0, none⟩ (.slice so sn sc)).setCell ⟨W.heap.size + 1, 1, none⟩ (.slice ro cn rc) = W2 := ⟨_, rfl⟩
      have hK2 : W2.heap[D]? = some (.deferred (some [])) := by rw [← hW2]; exact ((KeepsOthers.setCell _ _ _).trans (KeepsOthers.setCell _ _ _)).same D _ hK rfl
      have hO2 : OnlyB (W.heap.size + 1) W' W2 := by
        rw [← hW2]
        exact ⟨rfl, rfl, rfl, by simp, fun k hk => (RowKit.Below.heap_setCell _ _ _ _ (fun e => hk e)).trans (RowKit.Below.heap_setCell _ _ _ _ (fun e => hk e))⟩
      have q0 : W2.cell? ⟨W.heap.size + 1, 0, none⟩ = some (.slice so sn sc) := by
        rw [← hW2, World.cell?_setCell_other _ _ _ _ (by simp)]
        exact World.cell?_setCell_same _ _ _ y2
      have q1 : W2.cell? ⟨W.heap.size + 1, 1, none⟩ = some (.slice ro cn rc) := by
        rw [← hW2]
        exact World.cell?_setCell_same _ _ _ (u := .slice none 0 0) ((World.cell?_setCell_other _ _ _ _ (by simp)).trans y3)
      rw [hW2]
      refine ⟨by simp, .inl ⟨_, _, rfl, run_takeDeferred hK2, ?_⟩⟩
      have hput := grownBy_putObj' W2 D (.deferred none)
      have hrr : ∀ r, some D = some r → ∃ o : Obj, W2.heap[r]? = some o ∧ o.isCells = false := fun r e => by cases e; exact ⟨_, hK2, rfl⟩
      have q0' := cell_kept q0 hput hrr
      have q1' := cell_kept q1 hput hrr
      have hput2 : Below W.heap.size W2 (W2.putObj D (.deferred none)) := (Below.refl _ _).grown hput (by rw [hO2.size]; omega) (fun k e => by cases e; omega)
      have hB3 : Below W.heap.size W (W2.putObj D (.deferred none)) := (hS'.below.trans (hO2.below (by omega))).trans hput2
      refine ⟨.tuple #[.agg #[.slice so sn sc, .slice ro cn rc], .int .i64 0], by simp [results, Tryz.results106, go_sem, q0', q1'], so, sn, sc, ro, cn, rc, rfl, ⟨_, _, _, _, _, _, rfl, (Ja HN1).below hB3, ?_⟩, hB3⟩
      have hcn := Ja HCN
      subst hcn
      have hl : (revC xs la).length = xs.length := V2 _ _ rfl
      by_cases hc0 : 0 < xs.length
      · obtain ⟨h1, h2, h3, h4⟩ := Ja HROW4 hc0
        have hR := hrow hc0
        refine ⟨ro, rc, by rw [hl], by show (revC xs la).length ≤ rc; rw [hl]; exact hrc, fun _ => ⟨g, 0, h1, hP g (by omega), ?_, fun i hi => ?_⟩, Ja HRS⟩
        · have e1 := hput2.size
          have e2 := hO2.size
          have e3 : w5.heap.size ≤ W'.heap.size := by
            have hd := (Array.getElem?_eq_some_iff.1 hK).1
            omega
          omega
        · rw [Nat.zero_add]
          have hi' : i < (revs (Yn xs.length (max la 1) (Z7 la) xs.length) xs).length := hi
          have hc1 := (hR i hi').1
          have hc2 : W2.cell? ⟨g, i, none⟩ = some (.int .i64 ((revs (Yn xs.length (max la 1) (Z7 la) xs.length) xs)[i])) := (World.cell?_of_block (a := ⟨g, i, none⟩) (hO2.block g (by omega))).trans hc1
          exact cell_kept hc2 hput hrr
      · have hz : (revC xs la) = [] := List.eq_nil_of_length_eq_zero (by omega)
        rw [hz]
        refine ⟨ro, rc, by rw [show xs.length = 0 by omega]; rfl, by simp, fun h => absurd h (by simp), Ja HRS⟩
    case stop =>
      rintro D c pre W' _ _ h _
      exact h.elim
theorem Jf2 {L : List Int} {p : Nat × Nat} {c : Int} (h : c ∈ Z8 L p) : c ∈ L := by
  unfold Z8 at h
  rcases List.mem_append.1 h with h | h
  · exact List.mem_of_mem_take h
  · rcases List.mem_append.1 h with h | h
    · exact List.mem_of_mem_drop (List.mem_of_mem_take (List.mem_reverse.1 h))
    · exact List.mem_of_mem_drop h
theorem Jco {n : Nat} : ∀ (pre : List (Part n)) (L : List Int) (c : Int), c ∈ revs pre L → c ∈ L
  | [], _, _, h => h
  | p :: pre, L, c, h => Jf2 (Jco pre (Z8 L p.1) c h)
theorem Jfz : OneC ⟨#[114, 101, 118]⟩ revP := ⟨fun w => (Za (t := ⟨#[114, 101, 118]⟩) (k1 := .string [101, 118]) (k2 := .string [114, 101, 118]) (f := 106) (by decide) (by kernel_rfl) (by kernel_rfl) (by kernel_rfl) (by kernel_rfl) w).mono (by rintro e w' ⟨rfl, hb⟩; exact ⟨106, #[], rfl, Tryz.enters106, hb, Jjb w'⟩), fun a ha => by
  unfold revP
  split
  · exact ⟨ha.few, fun _ => ha⟩
  · have hl : (revC a.cells (Ju a.shape)).length = a.cells.length := V2 _ _ rfl
    exact ⟨by show (revC _ _).length ≤ 200; rw [hl]; exact ha.few, fun _ => ⟨ha.rank, ha.lens, by show (revC _ _).length = _; rw [hl]; exact ha.size, by show (revC _ _).length ≤ 200; rw [hl]; exact ha.few, fun c hc => ha.fits c (Jco _ _ c hc)⟩⟩⟩
end Go.Proofs.YtjobgpahajhbnabGreatDoor
namespace Go.Proofs.YtjobgpahajhbnabGreatDoor
open Go.RowKit Go.Proofs
attribute [local go_sem ↓] Go.wp_at_zero Go.wp_at_succ
def Zi (d : List Int) (i j : Nat) : List Int := (d.set i (d.getD j 0)).set j (d.getD i 0)
theorem Jff (d : List Int) (i j : Nat) : (Zi d i j).length = d.length := by simp [Zi]
theorem Ji3 {d : List Int} {i j : Nat} (hi : i < d.length) (hj : j < d.length) (k : Nat) : (Zi d i j).getD k 0 = if j = k then d.getD i 0 else if i = k then d.getD j 0 else d.getD k 0 := by
  obtain ⟨x, hx⟩ : ∃ x, d.getD i 0 = x := ⟨_, rfl⟩
  obtain ⟨y, hy⟩ : ∃ y, d.getD j 0 = y := ⟨_, rfl⟩
  unfold Zi
  rw [hx, hy, List.getD_eq_getElem?_getD, List.getElem?_set, List.length_set]
  by_cases e1 : j = k
  · rw [if_pos e1, if_pos e1, if_pos hj]
    rfl
  · rw [if_neg e1, if_neg e1, List.getElem?_set]
    by_cases e2 : i = k
    · rw [if_pos e2, if_pos e2, if_pos hi]
      rfl
    · rw [if_neg e2, if_neg e2, ← List.getD_eq_getElem?_getD]
structure InR (n : Nat) (d : List Int) : Prop where
  len : d.length = n
  rng : ∀ x ∈ d, 0 ≤ x ∧ x < (n : Int)
theorem InR.at {n : Nat} {d : List Int} (h : InR n d) {i : Nat} (hi : i < n) : 0 ≤ d.getD i 0 ∧ d.getD i 0 < (n : Int) := by
  have hl : i < d.length := by rw [h.len]; exact hi
  rw [List.getD_eq_getElem?_getD, List.getElem?_eq_getElem hl]
  exact h.rng _ (List.getElem_mem hl)
theorem InR.swap {n : Nat} {d : List Int} (h : InR n d) {i j : Nat} (hi : i < n) (hj : j < n) : InR n (Zi d i j) := by
  refine ⟨by rw [Jff]; exact h.len, fun x hx => ?_⟩
  unfold Zi at hx
  rcases List.mem_or_eq_of_mem_set hx with h1 | h1
  · rcases List.mem_or_eq_of_mem_set h1 with h2 | h2
    · exact h.rng x h2
    · rw [h2]; exact h.at hj
  · rw [h1]; exact h.at hi
theorem OnlyB.refl (g : Nat) (W : World) : OnlyB g W W := ⟨rfl, rfl, rfl, rfl, fun _ _ => rfl⟩
theorem OnlyB.trans {g : Nat} {A B C : World} (h : OnlyB g A B) (k : OnlyB g B C) : OnlyB g A C := ⟨k.os.trans h.os, k.tape.trans h.tape, k.output.trans h.output, k.size.trans h.size, fun b hb => (k.block b hb).trans (h.block b hb)⟩
theorem OnlyB.drew {g : Nat} {A B : World} (h : OnlyB g A B) : OnlyB g A B.drew := ⟨h.os, h.tape, h.output, h.size, h.block⟩
theorem OnlyB.set {g : Nat} {A B : World} (h : OnlyB g A B) (i : Nat) (v : Value) : OnlyB g A (B.setCell ⟨g, i, none⟩ v) := ⟨h.os, h.tape, h.output, by simpa using h.size, fun b hb => (RowKit.Below.heap_setCell _ _ _ _ hb).trans (h.block b hb)⟩
theorem OnlyB.cell {g : Nat} {A B : World} (h : OnlyB g A B) {b o : Nat} (hb : b ≠ g) : B.cell? ⟨b, o, none⟩ = A.cell? ⟨b, o, none⟩ := World.cell?_of_block (h.block b hb)
structure SAt (g n : Nat) (W0 W : World) (d : List Int) : Prop where
  row : ∀ i, i < n → W.cell? ⟨g, i, none⟩ = some (.int .i64 (d.getD i 0)) ∧ W.frozen? ⟨g, i, none⟩ = false
  only : OnlyB g W0 W
  inr : InR n d
  lt : g < W.heap.size
theorem SAt.drew {g n : Nat} {W0 W : World} {d : List Int} (h : SAt g n W0 W d) : SAt g n W0 W.drew d := ⟨h.row, h.only.drew, h.inr, h.lt⟩
theorem SAt.swap {g n : Nat} {W0 W : World} {d : List Int} (h : SAt g n W0 W d) {i j : Nat} (hi : i < n) (hj : j < n) : SAt g n W0 ((W.setCell ⟨g, i, none⟩ (.int .i64 (d.getD j 0))).setCell ⟨g, j, none⟩ (.int .i64 (d.getD i 0))) (Zi d i j) := by
  refine ⟨fun k hk => ⟨?_, by rw [World.frozen?_setCell, World.frozen?_setCell]; exact (h.row k hk).2⟩, (h.only.set _ _).set _ _, h.inr.swap hi hj, by simpa using h.lt⟩
  have hl : d.length = n := h.inr.len
  rw [Ji3 (by omega) (by omega)]
  by_cases e1 : j = k
  · subst e1
    rw [if_pos rfl]
    have h1 : ∃ u, (W.setCell ⟨g, i, none⟩ (.int .i64 (d.getD j 0))).cell? ⟨g, j, none⟩ = some u := by
      by_cases e2 : i = j
      · subst e2
        exact ⟨_, World.cell?_setCell_same _ _ _ (h.row i hi).1⟩
      · exact ⟨_, (World.cell?_setCell_other _ _ _ _ (by intro e; injection e with _ e3; exact e2 e3)).trans (h.row j hj).1⟩
    obtain ⟨u, hu⟩ := h1
    exact World.cell?_setCell_same _ _ _ hu
  · rw [if_neg e1, World.cell?_setCell_other _ _ _ _ (by intro e; injection e with _ e3; exact e1 e3)]
    by_cases e2 : i = k
    · subst e2
      rw [if_pos rfl]
      exact World.cell?_setCell_same _ _ _ (h.row i hi).1
    · rw [if_neg e2, World.cell?_setCell_other _ _ _ _ (by intro e; injection e with _ e3; exact e2 e3)]
      exact (h.row k hk).1
def CmpC (g n b3 b2 : Nat) (W0 : World) (cf : Int → Int → Int) : Prop := ∀ W, OnlyB g W0 W → ∀ x y : Int, 0 ≤ x ∧ x < (n : Int) → 0 ≤ y ∧ y < (n : Int) → Calls Tryz.prog 201 #[.int .i64 x, .int .i64 y, .pointer (some ⟨b3, 0, none⟩), .pointer (some ⟨b2, 0, none⟩)] W fun e W' => e = .returned (.int .i64 (cf x y)) ∧ OnlyB g W W' ∧ W'.heap[g]? = W.heap[g]?
theorem SAt.next {g n : Nat} {W0 W W' : World} {d : List Int} (h : SAt g n W0 W d) (hb : OnlyB g W W') (hg : W'.heap[g]? = W.heap[g]?) : SAt g n W0 W' d :=
  ⟨fun i hi => ⟨(World.cell?_of_block (a := ⟨g, i, none⟩) hg).trans (h.row i hi).1, (World.frozen?_of_block (a := ⟨g, i, none⟩) hg).trans (h.row i hi).2⟩, h.only.trans hb, h.inr, by rw [hb.size]; exact h.lt⟩
def Vx (cf : Int → Int → Int) (a : Nat) : Nat → List Int → List Int
  | 0, d => d
  | k + 1, d => if cf (d.getD (a + k + 1) 0) (d.getD (a + k) 0) < 0 then Vx cf a k (Zi d (a + k + 1) (a + k)) else d
def Zg (cf : Int → Int → Int) (a : Nat) : Nat → Nat → List Int → List Int
  | 0, _, d => d
  | s + 1, i, d => Zg cf a s (i + 1) (Vx cf a (i - a) d)
def bsr (p : Nat → Bool) : Nat → Nat → Nat → Nat
  | 0, i, _ => i
  | f + 1, i, j => if i < j then (if p ((i + j) / 2) = true then bsr p f ((i + j) / 2 + 1) j else bsr p f i ((i + j) / 2)) else i
theorem Nb {p : Nat → Bool} : ∀ {f i j : Nat}, j - i ≤ f → bsr p f i j = bsr p (f + 1) i j
  | 0, i, j, h => by
    rw [bsr, bsr, if_neg (by omega)]
  | f + 1, i, j, h => by
    rw [bsr]
    conv => rhs; rw [bsr]
    by_cases hij : i < j
    · rw [if_pos hij, if_pos hij]
      by_cases hp : p ((i + j) / 2) = true
      · rw [if_pos hp, if_pos hp]
        exact Nb (by omega)
      · rw [if_neg hp, if_neg hp]
        exact Nb (by omega)
    · rw [if_neg hij, if_neg hij]
def bsF (p : Nat → Bool) (i j : Nat) : Nat := bsr p (j - i) i j
theorem Qf {p : Nat → Bool} {i j : Nat} : ∀ {f : Nat}, j - i ≤ f → bsr p f i j = bsF p i j := by
  intro f hf
  obtain ⟨k, rfl⟩ : ∃ k, f = (j - i) + k := ⟨f - (j - i), by omega⟩
  clear hf
  induction k with
  | zero => rfl
  | succ k ih => rw [← ih, ← Nat.add_assoc, ← Nb (by omega)]
theorem Va {p : Nat → Bool} {i j : Nat} (h : ¬ i < j) : bsF p i j = i := by
  unfold bsF
  rw [show j - i = 0 by omega, bsr]
theorem Nc {p : Nat → Bool} {i j : Nat} (h : i < j) (hp : p ((i + j) / 2) = true) : bsF p i j = bsF p ((i + j) / 2 + 1) j := by
  rw [← Qf (f := (j - i - 1) + 1) (by omega), bsr, if_pos h, if_pos hp, Qf (by omega)]
theorem Jda {p : Nat → Bool} {i j : Nat} (h : i < j) (hp : ¬ p ((i + j) / 2) = true) : bsF p i j = bsF p i ((i + j) / 2) := by
  rw [← Qf (f := (j - i - 1) + 1) (by omega), bsr, if_pos h, if_neg hp, Qf (by omega)]
theorem Kz {p : Nat → Bool} : ∀ (f : Nat) {i j : Nat}, j - i ≤ f → i ≤ j → i ≤ bsF p i j ∧ bsF p i j ≤ j
  | 0, i, j, hf, h => by rw [Va (by omega)]; omega
  | f + 1, i, j, hf, h => by
    by_cases hij : i < j
    · by_cases hp : p ((i + j) / 2) = true
      · rw [Nc hij hp]
        have := Kz (p := p) f (i := (i + j) / 2 + 1) (j := j) (by omega) (by omega)
        omega
      · rw [Jda hij hp]
        have := Kz (p := p) f (i := i) (j := (i + j) / 2) (by omega) (by omega)
        omega
    · rw [Va hij]; omega
def shUp : Nat → Nat → List Int → List Int
  | 0, _, d => d
  | s + 1, k, d => shUp s (k + 1) (Zi d k (k + 1))
def shDn : Nat → Nat → List Int → List Int
  | 0, _, d => d
  | s + 1, k, d => shDn s (k - 1) (Zi d k (k - 1))
def swR (a b : Nat) : Nat → Nat → List Int → List Int
  | 0, _, d => d
  | s + 1, i, d => swR a b s (i + 1) (Zi d (a + i) (b + i))
def rotP (m : Nat) : Nat → Nat → Nat → List Int → List Int
  | 0, i, _, d => swR (m - i) m i 0 d
  | f + 1, i, j, d => if i = j then swR (m - i) m i 0 d else if j < i then rotP m f (i - j) j (swR (m - i) m j 0 d) else rotP m f i (j - i) (swR (m - i) (m + j - i) i 0 d)
def rotF (a m b : Nat) (d : List Int) : List Int := rotP m (m - a + (b - m)) (m - a) (b - m) d
def Qi (cf : Int → Int → Int) (a m b : Nat) (d : List Int) : Nat :=
  bsF (fun c => decide (¬ cf (d.getD ((a + b) / 2 + m - 1 - c) 0) (d.getD c 0) < 0)) (if (a + b) / 2 < m then (a + b) / 2 + m - b else a) (if (a + b) / 2 < m then (a + b) / 2 else m)
def symP (cf : Int → Int → Int) : Nat → Nat → Nat → Nat → List Int → List Int
  | 0, _, _, _, d => d
  | f + 1, a, m, b, d =>
    if m = a + 1 then shUp (bsF (fun h => decide (cf (d.getD h 0) (d.getD a 0) < 0)) m b - 1 - a) a d
    else if b = m + 1 then shDn (m - bsF (fun h => decide (¬ cf (d.getD m 0) (d.getD h 0) < 0)) a m) m d
    else
      let s := Qi cf a m b d
      let e := (a + b) / 2 + m - s
      let d1 := if s < m ∧ m < e then rotF s m e d else d
      let d2 := if a < s ∧ s < (a + b) / 2 then symP cf f a s ((a + b) / 2) d1 else d1
      if (a + b) / 2 < e ∧ e < b then symP cf f ((a + b) / 2) e b d2 else d2
end Go.Proofs.YtjobgpahajhbnabGreatDoor
namespace Go.Proofs.YtjobgpahajhbnabGreatDoor
open Go.RowKit Go.Proofs
attribute [local go_sem ↓] Go.wp_at_zero Go.wp_at_succ
def X4 (x y : Int) : Int := if x < y then -1 else if y < x then 1 else 0
theorem Jh9 (W : World) (x y : Int) : Calls Tryz.prog 153 #[.int .i64 x, .int .i64 y] W fun e W' => e = .returned (.int .i64 (X4 x y)) ∧ W' = W := X1 x y _ rfl W
theorem Jia (W : World) (x y : Int) : Calls Tryz.prog 160 #[.int .i64 x, .int .i64 y] W fun e W' => e = .returned (.int .i64 (X4 y x)) ∧ W' = W := by
  have HC := hide (fun W' => Jh9 W' y x)
  obtain ⟨r, hr⟩ : ∃ r, X4 y x = r := ⟨_, rfl⟩
  simp only [hr] at HC ⊢
  clear hr
  go_enter Tryz.func160, Tryz.ntmps160
  go_wp2_with (go_at_call 153; refine (Ja HC _).mono ?_; rintro e w' ⟨rfl, rfl⟩)
  exact bodyPost_ret (v := .int .i64 r) (by simp [results, Tryz.results160, go_sem]) rfl ⟨rfl, rfl⟩
def Ky (kf : Int → Int → Int) (ks : List Int) (x y : Int) : Int := kf (ks.getD x.toNat 0) (ks.getD y.toNat 0)
set_option maxHeartbeats 2000000 in
set_option maxRecDepth 20000 in
theorem Jm7 {q : Nat} (hen : Enters Tryz.prog q) {kf : Int → Int → Int} (hk : ∀ W x y, Calls Tryz.prog q #[.int .i64 x, .int .i64 y] W fun e W' => e = .returned (.int .i64 (kf x y)) ∧ W' = W) (g n b3 b2 : Nat) (W0 : World) (h3 : b3 ≠ g) (h2 : b2 ≠ g) (c3 : W0.cell? ⟨b3, 0, none⟩ = some (.func (.func q) #[] #[])) (co : Option Addr) (cc : Nat) (c2 : W0.cell? ⟨b2, 1, none⟩ = some (.slice co n cc)) (l3 : b3 < W0.heap.size) (l2 : b2 < W0.heap.size) (ks : List Int) (hN : Nums (fun b => b ≠ g) W0 (.slice co n cc) ks) :
    CmpC g n b3 b2 W0 (Ky kf ks) := by
  intro W hW x y hx hy
  have hn := Jf hN
  obtain ⟨i, rfl⟩ : ∃ i : Nat, x = i := ⟨x.toNat, by omega⟩
  obtain ⟨j, rfl⟩ : ∃ j : Nat, y = j := ⟨y.toNat, by omega⟩
  have hi : i < ks.length := by omega
  have hj : j < ks.length := by omega
  obtain ⟨ao, cap, hv, hcap, hA, _⟩ := hN
  obtain ⟨cb, cof, rfl, hne, hlt, hc⟩ := hA (by omega)
  injection hv with e1 e2 e3
  subst e1
  have d3 := (hW.cell (o := 0) h3).trans c3
  have d2 := (hW.cell (o := 1) h2).trans c2
  have ci := (hW.cell (o := cof + i) hne).trans (hc i hi)
  have cj := (hW.cell (o := cof + j) hne).trans (hc j hj)
  have hr : Ky kf ks (i : Int) (j : Int) = kf ks[i] ks[j] := by
    unfold Ky
    simp [List.getD_eq_getElem?_getD, hi, hj]
  rw [hr]
  obtain ⟨u, hu⟩ : ∃ u, ks[i] = u := ⟨_, rfl⟩
  obtain ⟨v, hv'⟩ : ∃ v, ks[j] = v := ⟨_, rfl⟩
  rw [hu] at ci ⊢
  rw [hv'] at cj ⊢
  have HK := hide (fun W' => hk W' u v)
  obtain ⟨r, hr'⟩ : ∃ r, kf u v = r := ⟨_, rfl⟩
  simp only [hr'] at HK ⊢
  have hen2 : ∀ args w, (callFunc q args).run Tryz.prog w = .ok (.enter q args) w := hen
  have k3 : b3 < W.heap.size := by rw [hW.size]; exact l3
  have k2 : b2 < W.heap.size := by rw [hW.size]; exact l2
  have kc : cb < W.heap.size := by rw [hW.size]; exact hlt
  have i0 : (0 : Int) ≤ (i : Int) := by omega
  have i1 : (i : Int) < (n : Int) := by omega
  have j0 : (0 : Int) ≤ (j : Int) := by omega
  have j1 : (j : Int) < (n : Int) := by omega
  have HW := hide hW
  clear hW hx hy hA hc hr hu hv' hr' hk hen c3 c2 hn hi hj hcap e2 e3 hne hlt l3 l2
  go_enter Tryz.func201, Tryz.ntmps201
  go_wp2_with fail
  go_region_held3 (fun w' => w'.cell? ⟨b3, 0, none⟩ = some (.func (.func q) #[] #[]) ∧ w'.cell? ⟨b2, 1, none⟩ = some (.slice (some ⟨cb, cof, none⟩) n cc) ∧ w'.cell? ⟨cb, cof + i, none⟩ = some (.int .i64 u) ∧ w'.cell? ⟨cb, cof + j, none⟩ = some (.int .i64 v))
    (first
      | exact ⟨d3, d2, ci, cj⟩
      | (trace_state; fail))
    ((go_at_fn q; refine (Ja HK _).mono ?_; rintro e w' ⟨rfl, rfl⟩))
  go_wp2_with fail
  exact bodyPost_ret (v := .int .i64 r) (by simp [results, Tryz.results201, go_sem]) rfl ⟨rfl, (OnlyB.refl _ _).drew, rfl⟩
end Go.Proofs.YtjobgpahajhbnabGreatDoor
