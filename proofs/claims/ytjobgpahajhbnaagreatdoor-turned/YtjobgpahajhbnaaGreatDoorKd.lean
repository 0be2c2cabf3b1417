import Derived.Test.YtjobgpahajhbnaaGreatDoorRf
import Derived.Test.YtjobgpahajhbnaaGreatDoorTk
import Derived.Shelf.Spec.SlicesGrow
import Derived.Test.YtjobgpahajhbnaaGreatDoorTe
import Derived.Shelf.SlIter.Nil
import Derived.Shelf.SortM.Plain
import Derived.Shelf.SortM.SortNone
import Derived.Ground.GgzProg
import Derived.Ground.SlgmProg
namespace Go.Proofs
open Go.Shelf
def Tryz.grow279_ren : Go.Shelf.Ren := ⟨fun | 4 => 279 | n => n, fun | 22 => 32 | 25 => 2 | 3 => 3 | 4 => 4 | 9 => 9 | 20 => 20 | 0 => 0 | n => n, fun | n => n⟩
theorem Tryz.grow279 : Go.Proofs.Lays8.n4 Tryz.prog Tryz.grow279_ren := {
  mixed := by kernel_rfl
  f4 := ⟨Tryz.f279.name, by decide, Tryz.func279.trans (congrArg some (by kernel_rfl))⟩
  t0 := Tryz.underlying0
  a0 := Tryz.isAgg0
  z0 := Tryz.sizeOf0
  v0 := Tryz.zeroValue0
  t3 := Tryz.underlying3
  a3 := Tryz.isAgg3
  z3 := Tryz.sizeOf3
  v3 := Tryz.zeroValue3
  t4 := Tryz.underlying4
  a4 := Tryz.isAgg4
  z4 := Tryz.sizeOf4
  v4 := Tryz.zeroValue4
  t9 := Tryz.underlying9
  a9 := Tryz.isAgg9
  z9 := Tryz.sizeOf9
  v9 := Tryz.zeroValue9
  t20 := Tryz.underlying20
  a20 := Tryz.isAgg20
  z20 := Tryz.sizeOf20
  v20 := Tryz.zeroValue20
  t22 := Tryz.underlying32
  a22 := Tryz.isAgg32
  z22 := Tryz.sizeOf32
  v22 := Tryz.zeroValue32 }
end Go.Proofs
namespace Go.Proofs.YtjobgpahajhbnaaGreatDoor
open Go.RowKit Go.Proofs Go.Maps
attribute [local go_sem ↓] Go.wp_at_zero Go.wp_at_succ

theorem zeros_size (k : Nat) : (Builtin.zeroCells (Value.int .i64 0).cells k).size = k := by
  simp [Builtin.zeroCells, Value.cells]
theorem grow_any (n : Nat) (hn : n ≤ 1000000) (w : World) : Calls Tryz.prog 279 #[.slice none 0 0, .int .i64 n] w fun e w' => ∃ v, e = .returned v ∧ w'.ownsRow w.heap.size 2 1 v 0 [] ∧ Below w.heap.size w w' := by
  obtain ⟨i0, hi, hz0, hz1, hz2⟩ := info_parts Tryz.info2
  by_cases h0 : n = 0
  · subst h0
    refine (Any8.slices_Grow_room Tryz.grow279 none 0 0 0 w (by omega) (by omega) (by omega) (by omega)).mono ?_
    rintro e w' ⟨rfl, rfl⟩
    exact ⟨_, rfl, World.ownsRow_nil _ _ _ _, Below.refl _ _⟩
  · refine (Any8.slices_Grow_grow Tryz.grow279 i0 (.int .i64 0) hi hz0 (by omega) none 0 0 n [] w (by omega) (by omega) (by rw [hz2]; omega) (by omega) (by simp) (by simp) (by simp)).mono ?_
    rintro e w' ⟨rfl, rfl⟩
    have hh : ∀ o, (w.drew.alloc o).heap[w.heap.size]? = some o := fun o => by show (w.heap.push o)[w.heap.size]? = _; simp
    have hge := grownCap_ge w (0 + n) 0 2
    have hle := grownCap_le_maxLen w (0 + n) 0 2 (by unfold maxLen; omega)
    refine ⟨_, rfl, ⟨by simp, .inr ⟨_, _, _, rfl, Nat.le_refl _, hh _, by omega, hle, ?_, by simp⟩⟩, ?_⟩
    · simp only [Array.size_append, List.size_toArray, List.length_nil, zeros_size]
      show _ = grownCap w (0 + n) 0 2 * 1
      show 0 + (0 + n - 0) + (grownCap w (0 + n) 0 2 - (0 + n)) = _
      omega
    · exact (Below.refl _ _).drew.alloc (by simp) _
theorem run_append_none {P : Program} (w : World) (t tx ty e e' : TypeId) (i : TypeInfo) (ht : P.underlying t = some (.slice e)) (ht' : P.underlying tx = some (.slice e')) (hi : P.info? e = some i) (base xo : Option Addr) (sLen sCap c : Nat) (hle : sLen ≤ sCap) :
    (Builtin.append_ #[t, tx] ty #[.slice base sLen sCap, .slice xo 0 c]).run P w = .ok (.slice base sLen sCap) w := by
  have hl : ∀ (x : Addr), (loadCells x 0).run P w = .ok #[] w := fun x => by simpa using run_loadCells_list (P := P) w x [] (by simp)
  cases base <;> cases xo <;> simp [Builtin.append_, run_underlying ht, run_underlying ht', sizeOf, typeInfo, hi, hle, storeCells, Builtin.lenOf, Builtin.firstCells, hl]
theorem wpList_append_none {P : Program} {w : World} {ops : Array Oper} {rest : List Oper} {o : Oper} {a : Act} {Q : Exit → Act → World → Prop} (hgd : o.guard = none) (s x : Operand) (t : TypeId) (ho : o.op = .call { callee := .builtin .append, args := #[s, x], argTypes := #[t, t] })
    (e : TypeId) (i : TypeInfo) (ht : P.underlying t = some (.slice e)) (hi : P.info? e = some i) (base : Option Addr) (sLen sCap : Nat) (hle : sLen ≤ sCap) (hs : a.eval s = .slice base sLen sCap) (xo : Option Addr) (c : Nat) (hx : a.eval x = .slice xo 0 c)
    (h : wpList P ops Q rest (a.put o.dst (.slice base sLen sCap)) w) : wpList P ops Q (o :: rest) a w :=
  wpList_plain hgd fun _ hK => by
    have hr := run_append_none (P := P) w t t o.type e e i ht ht hi base xo sLen sCap c hle
    unfold Oper.wp execOp
    simp only [ho, resolve, invoke, builtin, Sem.run_bind, Sem.run_pure, Result.andThen_ok, List.map_toArray, List.map_cons, List.map_nil, hs, hx, hr]
    exact hK _ _ h
/-- lists of lists in memory -/
def Lists (Q : Nat → Prop) (w : World) (gb : Nat) (L : List (List Int)) : Prop := ∀ i, (h : i < L.length) → ∃ o n c, w.cell? ⟨gb, i, none⟩ = some (.slice o n c) ∧ Nums Q w (.slice o n c) L[i]
def lens (L : List (List Int)) (i : Nat) : Nat := (L.take i).flatten.length
theorem lens_succ {L : List (List Int)} {i : Nat} (h : i < L.length) : lens L (i + 1) = lens L i + L[i].length := by
  unfold lens
  rw [List.take_succ_eq_append_getElem h, List.flatten_append, List.length_append]
  simp
theorem flat_succ {L : List (List Int)} {i : Nat} (h : i < L.length) : (L.take (i + 1)).flatten = (L.take i).flatten ++ L[i] := by
  rw [List.take_succ_eq_append_getElem h, List.flatten_append]
  simp
theorem lens_le (L : List (List Int)) (i : Nat) : lens L i ≤ L.flatten.length := by
  have : L.flatten.length = (L.take i).flatten.length + (L.drop i).flatten.length := by
    rw [← List.length_append, ← List.flatten_append, List.take_append_drop]
  unfold lens
  omega
theorem nums_src {Q : Nat → Prop} {w : World} {b off c : Nat} {xs : List Int} (h : Nums Q w (.slice (some ⟨b, off, none⟩) xs.length c) xs) : ∀ j u, (xs.map (Value.int .i64))[j]? = some u → w.cell? ((⟨b, off, none⟩ : Addr).add j) = some u := by
  intro j u hu
  obtain ⟨hj, rfl⟩ := maps_get hu
  obtain ⟨ao, cap, hv, _, hc, _⟩ := h
  obtain ⟨b', off', ha, _, _, hcell⟩ := hc (by omega)
  injection hv with e1 e2 e3
  rw [← e1] at ha
  injection ha with ha
  injection ha with e4 e5
  subst e4
  subst e5
  have e : (⟨b, off, none⟩ : Addr).add j = ⟨b, off + j, none⟩ := by cases j <;> simp [Addr.add]
  rw [e]
  exact hcell j hj
theorem ints_one {xs : List Int} : ∀ u ∈ xs.map (Value.int .i64), u.oneCell' = true := by
  intro u hu
  obtain ⟨x, _, rfl⟩ := List.mem_map.1 hu
  rfl
set_option maxHeartbeats 2000000 in
set_option maxRecDepth 10000 in
theorem concat_big (P : Nat → Prop) {Q : Nat → Prop} (w : World) (hP : ∀ b, w.heap.size ≤ b → P b) (gb k cap : Nat) (L : List (List Int)) (hk : L.length = k) (hk3 : k ≤ 200) (hgb : gb < w.heap.size) (hL : Lists Q w gb L) (hfew : L.flatten.length ≤ 1000000) :
    Calls Tryz.prog 253 #[.slice (some ⟨gb, 0, none⟩) k cap] w fun e w' => ∃ so sn sc, e = .returned (.slice so sn sc) ∧ Nums P w' (.slice so sn sc) L.flatten ∧ Below w.heap.size w w' := by
  obtain ⟨i0, hi, hz0, hz1, hz2⟩ := info_parts Tryz.info2
  have HI := hide hi
  have HZ0 := hide hz0
  have HZ1 := hide hz1
  have HZ2 := hide hz2
  have HP : Hid (∀ b, w.heap.size ≤ b → P b) := hP
  have HL := hide hL
  have HK := hide hk
  have HF := hide hfew
  have HG := hide (fun n (h : n ≤ 1000000) w' => grow_any n h w')
  clear hi hz0 hz1 hz2 hP hL hk hfew
  go_enter Tryz.func253, Tryz.ntmps253
  go_wp2_with fail
  go_loopw [3, 11] (fun v3 v11 wr => ∃ i : Nat, v3 = .int .i64 (lens L i) ∧ v11 = .int .i64 i ∧ i ≤ k ∧ wr = w) (fun _ v11 _ => k - (intOf v11).toNat)
  case atStart => exact ⟨0, by simp [lens], rfl, by omega, rfl⟩
  case round =>
    obtain ⟨i, rfl, rfl, hik, hwr⟩ := hrel
    have hwr' := hwr.symm
    subst hwr'
    by_cases hlt : i < k
    · have hil : i < L.length := by rw [unhide HK]; exact hlt
      obtain ⟨o, n, c, hc, hn⟩ := unhide HL i hil
      have hnl := nums_len hn
      have hsum := lens_succ hil
      rw [← hnl] at hsum
      have hle := lens_le L (i + 1)
      have hf := unhide HF
      have hi0 : (0 : Int) ≤ (i : Int) := by omega
      have hi1 : (i : Int) < (k : Int) := by omega
      obtain ⟨m, hm⟩ : ∃ m, lens L i = m := ⟨_, rfl⟩
      obtain ⟨m', hm'⟩ : ∃ m', lens L (i + 1) = m' := ⟨_, rfl⟩
      rw [hm, hm'] at hsum
      rw [hm'] at hle
      rw [hm]
      have hw1 : IntKind.i64.wrap ((m : Int) + (n : Int)) = (m' : Int) := by rw [wrap_pos (by omega) (by omega)]; omega
      have hneg : ¬ ((m' : Int) < 0) := by omega
      have HM' := hide hm'
      clear hn hnl hsum hle hf hm hm'
      go_wp2_with fail
      go_roundw
      case rel => exact ⟨i + 1, by rw [unhide HM'], by go_num, by omega, (by first | rfl | trivial)⟩
      case measure => simp [intOf]; omega
    · have hik' : i = k := by omega
      subst hik'
      have hle : lens L i ≤ 1000000 := Nat.le_trans (lens_le L i) (unhide HF)
      obtain ⟨m, hm⟩ : ∃ m, lens L i = m := ⟨_, rfl⟩
      rw [hm] at hle ⊢
      clear hm
      go_wp2_with fail
      refine (unhide HG m hle _).mono ?_
      rintro e w1 ⟨v, rfl, hown, hb⟩
      have HO := hide hown
      have HB := hide hb
      clear hown hb
      go_wp2_with fail
      go_loopw [6, 27] (fun v6 v27 wr => ∃ j : Nat, v27 = .int .i64 j ∧ j ≤ i ∧ wr.ownsRow w.heap.size 2 1 v6 (lens L j) ((L.take j).flatten.map (Value.int .i64)) ∧ Below w.heap.size w wr) (fun _ v27 _ => i - (intOf v27).toNat)
      case atStart => exact ⟨0, rfl, by omega, by simpa [lens] using unhide HO, unhide HB⟩
      case round =>
        obtain ⟨j, rfl, hj, hown, hb⟩ := hrel
        by_cases hlt : j < i
        · have hjl : j < L.length := by rw [unhide HK]; exact hlt
          obtain ⟨o, n, c, hc, hn⟩ := unhide HL j hjl
          have hc' := (hb.cell (p := ⟨gb, j, none⟩) hgb).trans hc
          have hn' := hn.below hb
          have hnl := nums_len hn
          have hsum := lens_succ hjl
          rw [← hnl] at hsum
          have hle := lens_le L (j + 1)
          have hf := unhide HF
          have HFl := hide (flat_succ hjl)
          have hi0 : (0 : Int) ≤ (j : Int) := by omega
          have hi1 : (j : Int) < (i : Int) := by omega
          obtain ⟨vo, vc, rfl, hvle, -⟩ := own_slice hown
          have HO := hide hown
          have HB := hide hb
          have HN := hide hn'
          have HNL := hide hnl
          have HS := hide hsum
          have hbnd : lens L j + n ≤ 1000000 := by omega
          clear hn hn' hown hb hc hsum hle hf hnl
          by_cases hn0 : n = 0
          · subst hn0
            have hz : L[j] = [] := List.eq_nil_of_length_eq_zero (unhide HNL).symm
            have HO4 : Hid (wr.ownsRow w.heap.size 2 1 (.slice vo (lens L j) vc) (lens L (j + 1)) ((L.take (j + 1)).flatten.map (Value.int .i64))) := hide (by
              rw [unhide HS, unhide HFl, hz, List.append_nil, Nat.add_zero]
              exact unhide HO)
            clear hz
            go_wp2_with (at_builtin; refine wpList_append_none rfl _ _ 32 rfl 2 i0 Tryz.underlying32 (unhide HI) _ _ _ ?c1 rfl _ _ rfl ?_)
            case c1 => exact hvle
            go_wp2_with fail
            go_roundw
            case rel => exact ⟨j + 1, by go_num, by omega, unhide HO4, unhide HB⟩
            case measure => simp [intOf]; omega
          · obtain ⟨ao, cap', hv, hcap, h1, _⟩ := unhide HN
            obtain ⟨b, off, rfl, _, hbl, hcell⟩ := h1 (by rw [← unhide HNL]; omega)
            injection hv with e1 e2 e3
            subst e1
            clear h1 hcell hcap e2 e3
            go_wp2_with (at_builtin; refine wpList_append_own _ rfl _ _ 32 rfl w.heap.size 2 i0 (.int .i64 0) 1 8 Tryz.underlying32 (unhide HI) (unhide HZ0) (unhide HZ1) (unhide HZ2) rfl (by decide) _ _ _ rfl (unhide HO) ⟨b, off, none⟩ n c (L[j].map (Value.int .i64)) rfl (by simp [unhide HNL]) ?c2 ints_one ?c3 ?c4 ?c5 ?_)
            case c2 =>
              have := unhide HN
              rw [unhide HNL] at this
              exact nums_src this
            case c3 => unfold maxLen; omega
            case c4 => omega
            case c5 => exact (unhide HB).size
            intro v' w4 hown4 hgrow4 _
            have HB4 : Hid (Below w.heap.size w w4) := hide ((unhide HB).grown hgrow4 (unhide HB).size (fun q hq => ((unhide HO).lt q hq).1))
            have HO4 : Hid (w4.ownsRow w.heap.size 2 1 v' (lens L (j + 1)) ((L.take (j + 1)).flatten.map (Value.int .i64))) := hide (by
              rw [unhide HS, unhide HFl, List.map_append]
              simpa using hown4)
            clear hown4 hgrow4
            go_wp2_with fail
            go_roundw
            case rel => exact ⟨j + 1, by go_num, by omega, unhide HO4, unhide HB4⟩
            case measure => simp [intOf]; omega
        · have hji : j = i := by omega
          subst hji
          have hfl : (L.take j).flatten = L.flatten := by rw [← unhide HK, List.take_length]
          rw [hfl] at hown
          have hN := nums_owns (P := P) hown (unhide HP)
          obtain ⟨vo, vc, rfl, hvle, -⟩ := own_slice hown
          have HN := hide hN
          have HB := hide hb
          clear hown hb hN hfl
          go_wp2_with fail
          go_ret
          exact ⟨_, _, _, rfl, unhide HN, unhide HB⟩
theorem concat_any (P : Nat → Prop) {Q : Nat → Prop} (w : World) (hP : ∀ b, w.heap.size ≤ b → P b) (gb k cap : Nat) (L : List (List Int)) (hk : L.length = k) (hk3 : k ≤ 200) (hgb : gb < w.heap.size) (hL : Lists Q w gb L) (hfew : L.flatten.length ≤ 1000) :
    Calls Tryz.prog 253 #[.slice (some ⟨gb, 0, none⟩) k cap] w fun e w' => ∃ so sn sc, e = .returned (.slice so sn sc) ∧ Nums P w' (.slice so sn sc) L.flatten ∧ Below w.heap.size w w' := concat_big P w hP gb k cap L hk hk3 hgb hL (by omega)
end Go.Proofs.YtjobgpahajhbnaaGreatDoor
namespace Go.Proofs.YtjobgpahajhbnaaGreatDoor
open Go.RowKit Go.Proofs Go.Maps
attribute [local go_sem ↓] Go.wp_at_zero Go.wp_at_succ

theorem foldl_mul (l : List Nat) (a : Nat) : l.foldl (· * ·) a = a * l.foldl (· * ·) 1 := by
  induction l generalizing a with
  | nil => simp
  | cons x l ih =>
    simp only [List.foldl_cons, Nat.one_mul]
    rw [ih (a * x), ih x, Nat.mul_assoc]
theorem prodL_append (l r : List Nat) : prodL (l ++ r) = prodL l * prodL r := by
  unfold prodL
  rw [List.foldl_append, foldl_mul]
theorem prodL_one (n : Nat) : prodL [n] = n := by simp [prodL]
theorem prodL_succ {sh : List Nat} {k : Nat} (h : k < sh.length) : prodL (sh.take (k + 1)) = prodL (sh.take k) * sh[k] := by
  rw [List.take_succ_eq_append_getElem h, prodL_append, prodL_one]
theorem prodL_le {sh : List Nat} (h : ∀ n ∈ sh, n ≤ 400) : prodL sh ≤ 400 ^ sh.length := by
  induction sh with
  | nil => simp [prodL]
  | cons x l ih =>
    have h1 := ih (fun n hn => h n (List.mem_cons_of_mem _ hn))
    have h2 := h x (by simp)
    have e : prodL (x :: l) = x * prodL l := by
      have := prodL_append [x] l
      rw [prodL_one] at this
      exact this
    rw [e, List.length_cons, Nat.pow_succ, Nat.mul_comm]
    exact Nat.mul_le_mul h1 h2
structure Lens (sh : List Nat) : Prop where
  rank : sh.length ≤ 3
  lens : ∀ n ∈ sh, n ≤ 400
theorem Lens.take {sh : List Nat} (h : Lens sh) (k : Nat) : Lens (sh.take k) := ⟨by have := h.rank; simp; omega, fun n hn => h.lens n (List.mem_of_mem_take hn)⟩
theorem Lens.prod {sh : List Nat} (h : Lens sh) : prodL sh ≤ 64000000 := by
  have h1 := prodL_le h.lens
  have h2 : 400 ^ sh.length ≤ 400 ^ 3 := Nat.pow_le_pow_right (by decide) h.rank
  have h3 : 400 ^ 3 = 64000000 := by decide
  omega
set_option maxHeartbeats 1000000 in
theorem count_any {Q : Nat → Prop} (w : World) (so : Option Addr) (sn sc : Nat) (sh : List Nat) (h : Nums Q w (.slice so sn sc) (sh.map Int.ofNat)) (hl : Lens sh) :
    Calls Tryz.prog 225 #[.slice so sn sc] w fun e w' => e = .returned (.int .i64 (prodL sh)) ∧ w' = w := by
  have hn := nums_len h
  simp at hn
  have hsn3 : sn ≤ 3 := by have := hl.rank; omega
  have HL := hide hl
  have HN := hide hn
  have HH := hide h
  clear h hl hn
  go_enter Tryz.func225, Tryz.ntmps225
  go_wp2_with fail
  go_loopw [3, 8] (fun v3 v8 wr => ∃ k : Nat, v8 = .int .i64 k ∧ v3 = .int .i64 (prodL (sh.take k)) ∧ k ≤ sn ∧ wr = w) (fun _ v8 _ => sn - (intOf v8).toNat)
  case atStart => exact ⟨0, rfl, by simp [prodL], by omega, rfl⟩
  case round =>
    obtain ⟨k, rfl, rfl, hk, hwr⟩ := hrel
    have hwr' := hwr.symm
    subst hwr'
    by_cases hlt : k < sn
    · have hks : k < sh.length := by rw [← unhide HN]; exact hlt
      obtain ⟨b, off, rfl, hb, hc, -⟩ := (unhide HH).at (k := k) (by simpa using hks)
      simp at hc
      have hs := prodL_succ hks
      have hm := ((unhide HL).take (k + 1)).prod
      obtain ⟨m, hm1⟩ : ∃ m, prodL (sh.take k) = m := ⟨_, rfl⟩
      obtain ⟨m', hm2⟩ : ∃ m', prodL (sh.take (k + 1)) = m' := ⟨_, rfl⟩
      obtain ⟨y, hy⟩ : ∃ y, sh[k] = y := ⟨_, rfl⟩
      rw [hm1, hm2, hy] at hs
      rw [hm2] at hm
      rw [hy] at hc
      rw [hm1]
      have hw1 : IntKind.i64.wrap ((m : Int) * (y : Int)) = (m' : Int) := by
        rw [← Int.natCast_mul, ← hs]
        exact wrap_pos (by omega) (by omega)
      have hi0 : (0 : Int) ≤ (k : Int) := by omega
      have hi1 : (k : Int) < (sn : Int) := by omega
      have HM := hide hm2
      clear hs hm hm1 hm2 hy
      go_wp2_with fail
      go_roundw
      case rel => exact ⟨k + 1, by go_num, by rw [unhide HM], by omega, (by first | rfl | trivial)⟩
      case measure => simp [intOf]; omega
    · have hke : k = sn := by omega
      subst hke
      have hfl : sh.take k = sh := List.take_of_length_le (by rw [← unhide HN]; exact Nat.le_refl _)
      rw [hfl]
      clear hfl
      go_wp2_with fail
      exact bodyPost_ret (v := .int .i64 (prodL sh)) (by simp [results, Tryz.results225, go_sem]) rfl ⟨rfl, (by first | rfl | trivial)⟩
def fitsB (sh : List Nat) : Bool := sh.all (fun n => decide (n ≤ 64)) && decide (prodL sh ≤ 64)
set_option maxHeartbeats 1000000 in
theorem fits_any {Q : Nat → Prop} (w : World) (so : Option Addr) (sn sc : Nat) (sh : List Nat) (h : Nums Q w (.slice so sn sc) (sh.map Int.ofNat)) (hl : Lens sh) :
    Calls Tryz.prog 222 #[.slice so sn sc] w fun e w' => e = .returned (.bool (fitsB sh)) ∧ w' = w := by
  have hn := nums_len h
  simp at hn
  have hsn3 : sn ≤ 3 := by have := hl.rank; omega
  have HL := hide hl
  have HN := hide hn
  have HH := hide h
  have HC := hide (count_any w so sn sc sh h hl)
  clear h hl hn
  go_enter Tryz.func222, Tryz.ntmps222
  go_wp2_with fail
  go_loopw [7] (fun v7 wr => ∃ k : Nat, v7 = .int .i64 k ∧ (∀ n ∈ sh.take k, n ≤ 64) ∧ k ≤ sn ∧ wr = w) (fun v7 _ => sn - (intOf v7).toNat)
  case atStart => exact ⟨0, rfl, by simp, by omega, rfl⟩
  case round =>
    obtain ⟨k, rfl, hall, hk, hwr⟩ := hrel
    have hwr' := hwr.symm
    subst hwr'
    have HA := hide hall
    clear hall
    by_cases hlt : k < sn
    · have hks : k < sh.length := by rw [← unhide HN]; exact hlt
      obtain ⟨b, off, rfl, hb, hc, -⟩ := (unhide HH).at (k := k) (by simpa using hks)
      simp at hc
      have hy64 := (unhide HL).lens _ (List.getElem_mem hks)
      have HTk : Hid (sh.take (k + 1) = sh.take k ++ [sh[k]]) := hide (List.take_succ_eq_append_getElem hks)
      have HMem := hide (List.getElem_mem hks)
      obtain ⟨y, hy⟩ : ∃ y, sh[k] = y := ⟨_, rfl⟩
      rw [hy] at hc hy64 HTk HMem
      have hi0 : (0 : Int) ≤ (k : Int) := by omega
      have hi1 : (k : Int) < (sn : Int) := by omega
      clear hy
      by_cases hbig : 64 < y
      · have hb' : (64 : Int) < (y : Int) := by omega
        have HF : Hid (fitsB sh = false) := hide (by
          unfold fitsB
          rw [Bool.and_eq_false_iff]
          left
          rw [List.all_eq_false]
          exact ⟨y, unhide HMem, by simp; omega⟩)
        go_wp2_with fail
        exact bodyPost_ret (v := .bool false) (by simp [results, Tryz.results222, go_sem]) rfl ⟨by rw [unhide HF], (by first | rfl | trivial)⟩
      · have hb' : ¬ ((64 : Int) < (y : Int)) := by omega
        go_wp2_with fail
        go_roundw
        case rel => exact ⟨k + 1, by go_num, (by rw [unhide HTk]; intro n hn; rcases List.mem_append.1 hn with h | h; exact unhide HA n h; simp at h; omega), by omega, (by first | rfl | trivial)⟩
        case measure => simp [intOf]; omega
    · have hke : k = sn := by omega
      subst hke
      have hfl : sh.take k = sh := List.take_of_length_le (by rw [← unhide HN]; exact Nat.le_refl _)
      rw [hfl] at HA
      have HF : Hid (fitsB sh = decide ((prodL sh : Int) ≤ 64)) := hide (by
        unfold fitsB
        have : sh.all (fun n => decide (n ≤ 64)) = true := by rw [List.all_eq_true]; intro n hn; simpa using unhide HA n hn
        rw [this, Bool.true_and]
        simp
        omega)
      clear hfl
      go_wp2_with (go_at_call 225; refine (unhide HC).mono ?_; rintro e w' ⟨rfl, rfl⟩)
      exact bodyPost_ret (v := .bool (decide ((prodL sh : Int) ≤ 64))) (by simp [results, Tryz.results222, go_sem]) rfl ⟨by rw [unhide HF], (by first | rfl | trivial)⟩
end Go.Proofs.YtjobgpahajhbnaaGreatDoor
namespace Go.Proofs
open Go.Shelf
def Tryz.keys41_ren : Go.Shelf.Ren := ⟨fun | 7 => 41 | 10 => 58 | n => n, fun | 23 => 87 | 26 => 9 | 3 => 89 | 28 => 85 | 0 => 0 | 27 => 84 | 33 => 93 | 4 => 4 | n => n, fun | n => n⟩
theorem Tryz.keys41 : Go.Proofs.SlLaysZ.n7 Tryz.prog Tryz.keys41_ren := {
  mixed := by kernel_rfl
  f7 := ⟨Tryz.f41.name, by decide, Tryz.func41.trans (congrArg some (by kernel_rfl))⟩
  f10 := ⟨Tryz.f58.name, by decide, Tryz.func58.trans (congrArg some (by kernel_rfl))⟩
  t0 := Tryz.underlying0
  a0 := Tryz.isAgg0
  z0 := Tryz.sizeOf0
  v0 := Tryz.zeroValue0
  t4 := Tryz.underlying4
  a4 := Tryz.isAgg4
  z4 := Tryz.sizeOf4
  v4 := Tryz.zeroValue4
  t23 := Tryz.underlying87
  a23 := Tryz.isAgg87
  z23 := Tryz.sizeOf87
  v23 := Tryz.zeroValue87
  t26 := Tryz.underlying9
  a26 := Tryz.isAgg9
  z26 := Tryz.sizeOf9
  v26 := Tryz.zeroValue9
  t27 := Tryz.underlying84
  a27 := Tryz.isAgg84
  z27 := Tryz.sizeOf84
  v27 := Tryz.zeroValue84
  t28 := Tryz.underlying85
  a28 := Tryz.isAgg85
  z28 := Tryz.sizeOf85
  v28 := Tryz.zeroValue85
  t33 := Tryz.underlying93
  a33 := Tryz.isAgg93
  z33 := Tryz.sizeOf93
  v33 := Tryz.zeroValue93 }
def Tryz.sorted40_ren : Go.Shelf.Ren := ⟨fun | 6 => 40 | 8 => 56 | 9 => 57 | 11 => 72 | 13 => 74 | 12 => 73 | 23 => 104 | 24 => 91 | 14 => 95 | 15 => 96 | 16 => 97 | 17 => 98 | 18 => 99 | 19 => 100 | 20 => 101 | 21 => 102 | 22 => 103 | 25 => 137 | 26 => 138 | 27 => 139 | 28 => 140 | 29 => 141 | 30 => 142 | 31 => 169 | n => n, fun | 26 => 9 | 28 => 85 | 24 => 54 | 0 => 0 | 3 => 3 | 37 => 146 | 48 => 177 | 50 => 138 | 4 => 4 | 40 => 181 | 39 => 180 | 45 => 167 | 5 => 5 | 9 => 9 | 51 => 222 | 55 => 226 | 57 => 260 | 58 => 261 | 33 => 93 | n => n, fun | n => n⟩
theorem Tryz.sorted40 : Go.Proofs.SlLaysZ.n6 Tryz.prog Tryz.sorted40_ren := {
  mixed := by kernel_rfl
  f6 := ⟨Tryz.f40.name, by decide, Tryz.func40.trans (congrArg some (by kernel_rfl))⟩
  f8 := ⟨Tryz.f56.name, by decide, Tryz.func56.trans (congrArg some (by kernel_rfl))⟩
  f11 := ⟨Tryz.f72.name, by decide, Tryz.func72.trans (congrArg some (by kernel_rfl))⟩
  t0 := Tryz.underlying0
  a0 := Tryz.isAgg0
  z0 := Tryz.sizeOf0
  v0 := Tryz.zeroValue0
  t24 := Tryz.underlying54
  a24 := Tryz.isAgg54
  z24 := Tryz.sizeOf54
  v24 := Tryz.zeroValue54
  t26 := Tryz.underlying9
  a26 := Tryz.isAgg9
  z26 := Tryz.sizeOf9
  v26 := Tryz.zeroValue9
  t28 := Tryz.underlying85
  a28 := Tryz.isAgg85
  z28 := Tryz.sizeOf85
  v28 := Tryz.zeroValue85
  i26 := by kernel_rfl }
def Tryz.sort57_ren : Go.Shelf.Ren := ⟨fun | 6 => 57 | 8 => 74 | 9 => 73 | 19 => 104 | 20 => 91 | 21 => 95 | 22 => 96 | 23 => 97 | 24 => 98 | 25 => 99 | 26 => 100 | 27 => 101 | 28 => 102 | 29 => 103 | 36 => 137 | 31 => 138 | 32 => 139 | 37 => 140 | 38 => 141 | 39 => 142 | 41 => 169 | n => n, fun | 27 => 54 | 29 => 9 | 3 => 3 | 32 => 146 | 26 => 54 | 0 => 0 | 44 => 177 | 46 => 138 | 4 => 4 | 36 => 181 | 35 => 180 | 41 => 167 | 5 => 5 | 9 => 9 | 53 => 222 | 57 => 226 | 63 => 260 | 64 => 261 | n => n, fun | n => n⟩
theorem Tryz.sort57 : Go.Proofs.SlLaysM.n6 Tryz.prog Tryz.sort57_ren := {
  mixed := by kernel_rfl
  f6 := ⟨Tryz.f57.name, by decide, Tryz.func57.trans (congrArg some (by kernel_rfl))⟩
  f8 := Tryz.func74.trans (congrArg some (by kernel_rfl))
  f9 := ⟨Tryz.f73.name, by decide, Tryz.func73.trans (congrArg some (by kernel_rfl))⟩
  f19 := Tryz.func104.trans (congrArg some (by kernel_rfl))
  f20 := Tryz.func91.trans (congrArg some (by kernel_rfl))
  f21 := ⟨Tryz.f95.name, by decide, Tryz.func95.trans (congrArg some (by kernel_rfl))⟩
  f22 := ⟨Tryz.f96.name, by decide, Tryz.func96.trans (congrArg some (by kernel_rfl))⟩
  f23 := ⟨Tryz.f97.name, by decide, Tryz.func97.trans (congrArg some (by kernel_rfl))⟩
  f24 := ⟨Tryz.f98.name, by decide, Tryz.func98.trans (congrArg some (by kernel_rfl))⟩
  f25 := ⟨Tryz.f99.name, by decide, Tryz.func99.trans (congrArg some (by kernel_rfl))⟩
  f26 := ⟨Tryz.f100.name, by decide, Tryz.func100.trans (congrArg some (by kernel_rfl))⟩
  f27 := ⟨Tryz.f101.name, by decide, Tryz.func101.trans (congrArg some (by kernel_rfl))⟩
  f28 := ⟨Tryz.f102.name, by decide, Tryz.func102.trans (congrArg some (by kernel_rfl))⟩
  f29 := ⟨Tryz.f103.name, by decide, Tryz.func103.trans (congrArg some (by kernel_rfl))⟩
  f31 := Tryz.func138.trans (congrArg some (by kernel_rfl))
  f32 := Tryz.func139.trans (congrArg some (by kernel_rfl))
  f36 := ⟨Tryz.f137.name, by decide, Tryz.func137.trans (congrArg some (by kernel_rfl))⟩
  f37 := ⟨Tryz.f140.name, by decide, Tryz.func140.trans (congrArg some (by kernel_rfl))⟩
  f38 := ⟨Tryz.f141.name, by decide, Tryz.func141.trans (congrArg some (by kernel_rfl))⟩
  f39 := ⟨Tryz.f142.name, by decide, Tryz.func142.trans (congrArg some (by kernel_rfl))⟩
  f41 := ⟨Tryz.f169.name, by decide, Tryz.func169.trans (congrArg some (by kernel_rfl))⟩
  t0 := Tryz.underlying0
  a0 := Tryz.isAgg0
  z0 := Tryz.sizeOf0
  v0 := Tryz.zeroValue0
  t3 := Tryz.underlying3
  a3 := Tryz.isAgg3
  z3 := Tryz.sizeOf3
  v3 := Tryz.zeroValue3
  t4 := Tryz.underlying4
  a4 := Tryz.isAgg4
  z4 := Tryz.sizeOf4
  v4 := Tryz.zeroValue4
  t5 := Tryz.underlying5
  a5 := Tryz.isAgg5
  z5 := Tryz.sizeOf5
  v5 := Tryz.zeroValue5
  t9 := Tryz.underlying9
  a9 := Tryz.isAgg9
  z9 := Tryz.sizeOf9
  v9 := Tryz.zeroValue9
  t26 := Tryz.underlying54
  a26 := Tryz.isAgg54
  z26 := Tryz.sizeOf54
  v26 := Tryz.zeroValue54
  t27 := Tryz.underlying54
  a27 := Tryz.isAgg54
  z27 := Tryz.sizeOf54
  v27 := Tryz.zeroValue54
  t29 := Tryz.underlying9
  a29 := Tryz.isAgg9
  z29 := Tryz.sizeOf9
  v29 := Tryz.zeroValue9
  t32 := Tryz.underlying146
  a32 := Tryz.isAgg146
  z32 := Tryz.sizeOf146
  v32 := Tryz.zeroValue146
  t35 := Tryz.underlying180
  a35 := Tryz.isAgg180
  z35 := Tryz.sizeOf180
  v35 := Tryz.zeroValue180
  t36 := Tryz.underlying181
  a36 := Tryz.isAgg181
  z36 := Tryz.sizeOf181
  v36 := Tryz.zeroValue181
  t41 := Tryz.underlying167
  a41 := Tryz.isAgg167
  z41 := Tryz.sizeOf167
  v41 := Tryz.zeroValue167
  t44 := Tryz.underlying177
  a44 := Tryz.isAgg177
  z44 := Tryz.sizeOf177
  v44 := Tryz.zeroValue177
  t46 := Tryz.underlying138
  a46 := Tryz.isAgg138
  z46 := Tryz.sizeOf138
  v46 := Tryz.zeroValue138
  t53 := Tryz.underlying222
  a53 := Tryz.isAgg222
  z53 := Tryz.sizeOf222
  v53 := Tryz.zeroValue222
  t57 := Tryz.underlying226
  a57 := Tryz.isAgg226
  z57 := Tryz.sizeOf226
  v57 := Tryz.zeroValue226
  t63 := Tryz.underlying260
  a63 := Tryz.isAgg260
  z63 := Tryz.sizeOf260
  v63 := Tryz.zeroValue260
  t64 := Tryz.underlying261
  a64 := Tryz.isAgg261
  z64 := Tryz.sizeOf261
  v64 := Tryz.zeroValue261 }
end Go.Proofs
namespace Go.Proofs
open Go.RowKit Go.Maps Go.Sort Go.Shelf

theorem Tryz.sorts40 (m : Nat) : AnyZ.SortsIn Tryz.prog Tryz.sorted40_ren Fence.wide m :=
  ⟨fun blk off cap ss W hH hblk hsz => callsIn_wide.2 (AnyM.slices_Sort_string Tryz.sort57 blk off cap ss W hH hblk hsz),
   fun p cap W => callsIn_wide.2 (AnyM.slices_Sort_string_none Tryz.sort57 p cap W)⟩
theorem Tryz.maps_Keys_41 (mb : Option Nat) (W : World) : CallsIn Fence.wide 5 Tryz.prog 41 #[.map mb] W fun e w' => e = .returned (.func (.func 58) #[] #[.pointer (some ⟨W.heap.size, 0, none⟩)]) ∧ w' = W.alloc (.cells #[.map mb] 87) :=
  AnyZ.keys_in Tryz.keys41 Fence.wide 5 trivial rfl mb W
set_option maxHeartbeats 1000000 in
theorem Tryz.slices_Sorted_keys {H : Type} (b nn : Nat) (D0 : DataW H) (R : Value → Option (DataW H × List MemPlace)) (w : World) (hown : w.ownsMap Tryz.prog 9 R b nn D0) (hmax : Maps.size D0 ≤ maxLen) (hbytes : Maps.size D0 * 16 ≤ 140737488355328) :
    CallsIn Fence.wide 5 Tryz.prog 40 #[.func (.func 58) #[] #[.pointer (some ⟨w.heap.size, 0, none⟩)]] (w.alloc (.cells #[.map (some b)] 87)) fun e w' => ∃ (v : Value) (ss : List (List UInt8)), e = .returned v ∧ ss.Perm (strKeys D0) ∧
      w'.ownsRow (w.alloc (.cells #[.map (some b)] 87)).heap.size 9 1 v ss.length ((ss.mergeSort (fun x y => decide (x ≤ y))).map encStr) ∧ (v = .slice none 0 0 ↔ ss = []) ∧ Below (w.alloc (.cells #[.map (some b)] 87)).heap.size (w.alloc (.cells #[.map (some b)] 87)) w' := by
  have hbl := hown.lt
  have hseq : SeqGives Fence.wide 2 Tryz.prog 58 #[.pointer (some ⟨w.heap.size, 0, none⟩)] encStr (fun ss => ss.Perm (strKeys D0)) (Maps.size D0) (w.alloc (.cells #[.map (some b)] 87)) :=
    AnyZ.keys_gives (ρ := Tryz.keys41_ren) { Tryz.keys41 with } Fence.wide _ trivial rfl (by omega) w.heap.size b nn D0 _ (by simp) (by simp) (by
      obtain ⟨es, clock, hb, Ft, hs, hD⟩ := hown
      exact ⟨es, clock, (Below.heap_alloc _ _ b hbl).trans hb, Ft, hs, hD⟩)
  exact AnyZ.sorted_in Tryz.sorted40 Fence.wide 5 trivial trivial trivial trivial rfl (by omega) (Tryz.sorts40 _) (enters_of Tryz.func57 (by kernel_rfl) rfl) 58 #[.pointer (some ⟨w.heap.size, 0, none⟩)] trivial (enters_of Tryz.func58 (by kernel_rfl) rfl) _ _ hmax hbytes _ hseq
end Go.Proofs
namespace Go.Proofs.YtjobgpahajhbnaaGreatDoor
open Go.RowKit Go.Proofs Go.Maps
attribute [local go_sem ↓] Go.wp_at_zero Go.wp_at_succ

set_option maxHeartbeats 1000000 in
theorem names_any {H : Type} (db mb nn : Nat) (D0 : DataW H) (R : Value → Option (DataW H × List MemPlace)) (w : World) (c1 : w.cell? ⟨db, 1, none⟩ = some (.map (some mb))) (hown : w.ownsMap Tryz.prog 9 R mb nn D0) (hmax : Maps.size D0 ≤ maxLen) (hbytes : Maps.size D0 * 16 ≤ 140737488355328) :
    Calls Tryz.prog 31 #[.pointer (some ⟨db, 0, none⟩)] w fun e w' => ∃ (v : Value) (ss : List (List UInt8)), e = .returned v ∧ ss.Perm (strKeys D0) ∧
      w'.ownsRow (w.heap.size + 1) 9 1 v ss.length ((ss.mergeSort (fun x y => decide (x ≤ y))).map encStr) ∧ Below w.heap.size w w' := by
  have HO := hide (callsIn_wide.1 (Tryz.slices_Sorted_keys mb nn D0 R w hown hmax hbytes))
  clear hown hmax hbytes
  go_enter Tryz.func31, Tryz.ntmps31
  go_wp2_with (first | (go_at_call 41; refine (callsIn_wide.1 (Tryz.maps_Keys_41 _ _)).mono ?_; rintro e w' ⟨rfl, rfl⟩) | (go_at_call 40; refine (unhide HO).mono ?_; rintro e w' ⟨v, ss, rfl, hS, hrow, hnil, hb⟩))
  refine bodyPost_ret (v := v) (by simp [results, Tryz.results31, go_sem]) rfl ⟨v, ss, rfl, hS, by simpa using hrow, ?_⟩
  exact ((Below.refl _ _).alloc (Nat.le_refl _) _).trans (hb.mono (by simp))
end Go.Proofs.YtjobgpahajhbnaaGreatDoor
