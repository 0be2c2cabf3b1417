import Derived.Test.YtjobgpahajhbnaaGreatDoorRf
import Derived.Test.YtjobgpahajhbnaaGreatDoorTe
import Derived.Shelf.Spec.SlicesGrow
import Derived.Test.YtjobgpahajhbnaaGreatDoorTr
import Derived.Test.YtjobgpahajhbnaaGreatDoorVb
import Derived.Test.YtjobgpahajhbnaaGreatDoorRi
namespace Go.Proofs
open Go.Shelf
end Go.Proofs
namespace Go.Proofs.YtjobgpahajhbnaaGreatDoor
open Go.RowKit Go.Proofs Go.Maps
attribute [local go_sem ↓] Go.wp_at_zero Go.wp_at_succ

theorem zeros_size (k : Nat) : (Builtin.zeroCells (Value.int .i64 0).cells k).size = k := by
  simp [Builtin.zeroCells, Value.cells]
theorem run_append_none {P : Program} (w : World) (t tx ty e e' : TypeId) (i : TypeInfo) (ht : P.underlying t = some (.slice e)) (ht' : P.underlying tx = some (.slice e')) (hi : P.info? e = some i) (base xo : Option Addr) (sLen sCap c : Nat) (hle : sLen ≤ sCap) :
    (Builtin.append_ #[t, tx] ty #[.slice base sLen sCap, .slice xo 0 c]).run P w = .ok (.slice base sLen sCap) w := by
  have hl : ∀ (x : Addr), (loadCells x 0).run P w = .ok #[] w := fun x => by simpa using run_loadCells_list (P := P) w x [] (by simp)
  cases base <;> cases xo <;> simp [Builtin.append_, run_underlying ht, run_underlying ht', sizeOf, typeInfo, hi, hle, storeCells, Builtin.lenOf, Builtin.firstCells, hl]
theorem wpList_append_none {P : Program} {w : World} {ops : Array Oper} {rest : List Oper} {o : Oper} {a : Act} {Q : Exit → Act → World → Prop} (hgd : o.guard = none) (s x : Operand) (t : TypeId) (ho : o.op = .call { callee := .builtin .append, args := #[s, x], argTypes := #[t, t] })
    (e : TypeId) (i : TypeInfo) (ht : P.underlying t = some (.slice e)) (hi : P.info? e = some i) (base : Option Addr) (sLen sCap : Nat) (hle : sLen ≤ sCap) (hs : a.eval s = .slice base sLen sCap) (xo : Option Addr) (c : Nat) (hx : a.eval x = .slice xo 0 c)
    (h : wpList P ops Q rest (a.put o.dst (.slice base sLen sCap)) w) : wpList P ops Q (o :: rest) a w :=
  wpList_plain hgd fun _ hK => by
    have hr := run_append_none (P := P) w t t o.type e e i ht ht hi base xo sLen sCap c hle
    unfold Oper.wp execOp
    simp only [ho, resolve, invoke, builtin, Sem.run_bind, Sem.run_pure, Result.andThen_ok, List.map_toArray, List.map_cons, List.map_nil, hs, hx, hr]
    exact hK _ _ h
/-- lists of lists in memory -/
def Lists (Q : Nat → Prop) (w : World) (gb : Nat) (L : List (List Int)) : Prop := ∀ i, (h : i < L.length) → ∃ o n c, w.cell? ⟨gb, i, none⟩ = some (.slice o n c) ∧ Nums Q w (.slice o n c) L[i]
def lens (L : List (List Int)) (i : Nat) : Nat := (L.take i).flatten.length
theorem lens_succ {L : List (List Int)} {i : Nat} (h : i < L.length) : lens L (i + 1) = lens L i + L[i].length := by
  unfold lens
  rw [List.take_succ_eq_append_getElem h, List.flatten_append, List.length_append]
  simp
theorem flat_succ {L : List (List Int)} {i : Nat} (h : i < L.length) : (L.take (i + 1)).flatten = (L.take i).flatten ++ L[i] := by
  rw [List.take_succ_eq_append_getElem h, List.flatten_append]
  simp
theorem lens_le (L : List (List Int)) (i : Nat) : lens L i ≤ L.flatten.length := by
  have : L.flatten.length = (L.take i).flatten.length + (L.drop i).flatten.length := by
    rw [← List.length_append, ← List.flatten_append, List.take_append_drop]
  unfold lens
  omega
theorem nums_src {Q : Nat → Prop} {w : World} {b off c : Nat} {xs : List Int} (h : Nums Q w (.slice (some ⟨b, off, none⟩) xs.length c) xs) : ∀ j u, (xs.map (Value.int .i64))[j]? = some u → w.cell? ((⟨b, off, none⟩ : Addr).add j) = some u := by
  intro j u hu
  obtain ⟨hj, rfl⟩ := maps_get hu
  obtain ⟨ao, cap, hv, _, hc, _⟩ := h
  obtain ⟨b', off', ha, _, _, hcell⟩ := hc (by omega)
  injection hv with e1 e2 e3
  rw [← e1] at ha
  injection ha with ha
  injection ha with e4 e5
  subst e4
  subst e5
  have e : (⟨b, off, none⟩ : Addr).add j = ⟨b, off + j, none⟩ := by cases j <;> simp [Addr.add]
  rw [e]
  exact hcell j hj
theorem ints_one {xs : List Int} : ∀ u ∈ xs.map (Value.int .i64), u.oneCell' = true := by
  intro u hu
  obtain ⟨x, _, rfl⟩ := List.mem_map.1 hu
  rfl
end Go.Proofs.YtjobgpahajhbnaaGreatDoor
namespace Go.Proofs.YtjobgpahajhbnaaGreatDoor
open Go.RowKit Go.Proofs Go.Maps
attribute [local go_sem ↓] Go.wp_at_zero Go.wp_at_succ

theorem foldl_mul (l : List Nat) (a : Nat) : l.foldl (· * ·) a = a * l.foldl (· * ·) 1 := by
  induction l generalizing a with
  | nil => simp
  | cons x l ih =>
    simp only [List.foldl_cons, Nat.one_mul]
    rw [ih (a * x), ih x, Nat.mul_assoc]
theorem prodL_append (l r : List Nat) : prodL (l ++ r) = prodL l * prodL r := by
  unfold prodL
  rw [List.foldl_append, foldl_mul]
theorem prodL_one (n : Nat) : prodL [n] = n := by simp [prodL]
theorem prodL_succ {sh : List Nat} {k : Nat} (h : k < sh.length) : prodL (sh.take (k + 1)) = prodL (sh.take k) * sh[k] := by
  rw [List.take_succ_eq_append_getElem h, prodL_append, prodL_one]
theorem prodL_le {sh : List Nat} (h : ∀ n ∈ sh, n ≤ 400) : prodL sh ≤ 400 ^ sh.length := by
  induction sh with
  | nil => simp [prodL]
  | cons x l ih =>
    have h1 := ih (fun n hn => h n (List.mem_cons_of_mem _ hn))
    have h2 := h x (by simp)
    have e : prodL (x :: l) = x * prodL l := by
      have := prodL_append [x] l
      rw [prodL_one] at this
      exact this
    rw [e, List.length_cons, Nat.pow_succ, Nat.mul_comm]
    exact Nat.mul_le_mul h1 h2
structure Lens (sh : List Nat) : Prop where
  rank : sh.length ≤ 3
  lens : ∀ n ∈ sh, n ≤ 400
theorem Lens.take {sh : List Nat} (h : Lens sh) (k : Nat) : Lens (sh.take k) := ⟨by have := h.rank; simp; omega, fun n hn => h.lens n (List.mem_of_mem_take hn)⟩
theorem Lens.prod {sh : List Nat} (h : Lens sh) : prodL sh ≤ 64000000 := by
  have h1 := prodL_le h.lens
  have h2 : 400 ^ sh.length ≤ 400 ^ 3 := Nat.pow_le_pow_right (by decide) h.rank
  have h3 : 400 ^ 3 = 64000000 := by decide
  omega
set_option maxHeartbeats 1000000 in
theorem count_any {Q : Nat → Prop} (w : World) (so : Option Addr) (sn sc : Nat) (sh : List Nat) (h : Nums Q w (.slice so sn sc) (sh.map Int.ofNat)) (hl : Lens sh) :
    Calls Tryz.prog 225 #[.slice so sn sc] w fun e w' => e = .returned (.int .i64 (prodL sh)) ∧ w' = w := by
  have hn := nums_len h
  simp at hn
  have hsn3 : sn ≤ 3 := by have := hl.rank; omega
  have HL := hide hl
  have HN := hide hn
  have HH := hide h
  clear h hl hn
  go_enter Tryz.func225, Tryz.ntmps225
  go_wp2_with fail
  go_loopw [3, 8] (fun v3 v8 wr => ∃ k : Nat, v8 = .int .i64 k ∧ v3 = .int .i64 (prodL (sh.take k)) ∧ k ≤ sn ∧ wr = w) (fun _ v8 _ => sn - (intOf v8).toNat)
  case atStart => exact ⟨0, rfl, by simp [prodL], by omega, rfl⟩
  case round =>
    obtain ⟨k, rfl, rfl, hk, hwr⟩ := hrel
    have hwr' := hwr.symm
    subst hwr'
    by_cases hlt : k < sn
    · have hks : k < sh.length := by rw [← unhide HN]; exact hlt
      obtain ⟨b, off, rfl, hb, hc, -⟩ := (unhide HH).at (k := k) (by simpa using hks)
      simp at hc
      have hs := prodL_succ hks
      have hm := ((unhide HL).take (k + 1)).prod
      obtain ⟨m, hm1⟩ : ∃ m, prodL (sh.take k) = m := ⟨_, rfl⟩
      obtain ⟨m', hm2⟩ : ∃ m', prodL (sh.take (k + 1)) = m' := ⟨_, rfl⟩
      obtain ⟨y, hy⟩ : ∃ y, sh[k] = y := ⟨_, rfl⟩
      rw [hm1, hm2, hy] at hs
      rw [hm2] at hm
      rw [hy] at hc
      rw [hm1]
      have hw1 : IntKind.i64.wrap ((m : Int) * (y : Int)) = (m' : Int) := by
        rw [← Int.natCast_mul, ← hs]
        exact wrap_pos (by omega) (by omega)
      have hi0 : (0 : Int) ≤ (k : Int) := by omega
      have hi1 : (k : Int) < (sn : Int) := by omega
      have HM := hide hm2
      clear hs hm hm1 hm2 hy
      go_wp2_with fail
      go_roundw
      case rel => exact ⟨k + 1, by go_num, by rw [unhide HM], by omega, (by first | rfl | trivial)⟩
      case measure => simp [intOf]; omega
    · have hke : k = sn := by omega
      subst hke
      have hfl : sh.take k = sh := List.take_of_length_le (by rw [← unhide HN]; exact Nat.le_refl _)
      rw [hfl]
      clear hfl
      go_wp2_with fail
      exact bodyPost_ret (v := .int .i64 (prodL sh)) (by simp [results, Tryz.results225, go_sem]) rfl ⟨rfl, (by first | rfl | trivial)⟩
def fitsB (sh : List Nat) : Bool := sh.all (fun n => decide (n ≤ 64)) && decide (prodL sh ≤ 64)
set_option maxHeartbeats 1000000 in
theorem fits_any {Q : Nat → Prop} (w : World) (so : Option Addr) (sn sc : Nat) (sh : List Nat) (h : Nums Q w (.slice so sn sc) (sh.map Int.ofNat)) (hl : Lens sh) :
    Calls Tryz.prog 222 #[.slice so sn sc] w fun e w' => e = .returned (.bool (fitsB sh)) ∧ w' = w := by
  have hn := nums_len h
  simp at hn
  have hsn3 : sn ≤ 3 := by have := hl.rank; omega
  have HL := hide hl
  have HN := hide hn
  have HH := hide h
  have HC := hide (count_any w so sn sc sh h hl)
  clear h hl hn
  go_enter Tryz.func222, Tryz.ntmps222
  go_wp2_with fail
  go_loopw [7] (fun v7 wr => ∃ k : Nat, v7 = .int .i64 k ∧ (∀ n ∈ sh.take k, n ≤ 64) ∧ k ≤ sn ∧ wr = w) (fun v7 _ => sn - (intOf v7).toNat)
  case atStart => exact ⟨0, rfl, by simp, by omega, rfl⟩
  case round =>
    obtain ⟨k, rfl, hall, hk, hwr⟩ := hrel
    have hwr' := hwr.symm
    subst hwr'
    have HA := hide hall
    clear hall
    by_cases hlt : k < sn
    · have hks : k < sh.length := by rw [← unhide HN]; exact hlt
      obtain ⟨b, off, rfl, hb, hc, -⟩ := (unhide HH).at (k := k) (by simpa using hks)
      simp at hc
      have hy64 := (unhide HL).lens _ (List.getElem_mem hks)
      have HTk : Hid (sh.take (k + 1) = sh.take k ++ [sh[k]]) := hide (List.take_succ_eq_append_getElem hks)
      have HMem := hide (List.getElem_mem hks)
      obtain ⟨y, hy⟩ : ∃ y, sh[k] = y := ⟨_, rfl⟩
      rw [hy] at hc hy64 HTk HMem
      have hi0 : (0 : Int) ≤ (k : Int) := by omega
      have hi1 : (k : Int) < (sn : Int) := by omega
      clear hy
      by_cases hbig : 64 < y
      · have hb' : (64 : Int) < (y : Int) := by omega
        have HF : Hid (fitsB sh = false) := hide (by
          unfold fitsB
          rw [Bool.and_eq_false_iff]
          left
          rw [List.all_eq_false]
          exact ⟨y, unhide HMem, by simp; omega⟩)
        go_wp2_with fail
        exact bodyPost_ret (v := .bool false) (by simp [results, Tryz.results222, go_sem]) rfl ⟨by rw [unhide HF], (by first | rfl | trivial)⟩
      · have hb' : ¬ ((64 : Int) < (y : Int)) := by omega
        go_wp2_with fail
        go_roundw
        case rel => exact ⟨k + 1, by go_num, (by rw [unhide HTk]; intro n hn; rcases List.mem_append.1 hn with h | h; exact unhide HA n h; simp at h; omega), by omega, (by first | rfl | trivial)⟩
        case measure => simp [intOf]; omega
    · have hke : k = sn := by omega
      subst hke
      have hfl : sh.take k = sh := List.take_of_length_le (by rw [← unhide HN]; exact Nat.le_refl _)
      rw [hfl] at HA
      have HF : Hid (fitsB sh = decide ((prodL sh : Int) ≤ 64)) := hide (by
        unfold fitsB
        have : sh.all (fun n => decide (n ≤ 64)) = true := by rw [List.all_eq_true]; intro n hn; simpa using unhide HA n hn
        rw [this, Bool.true_and]
        simp
        omega)
      clear hfl
      go_wp2_with (go_at_call 225; refine (unhide HC).mono ?_; rintro e w' ⟨rfl, rfl⟩)
      exact bodyPost_ret (v := .bool (decide ((prodL sh : Int) ≤ 64))) (by simp [results, Tryz.results222, go_sem]) rfl ⟨by rw [unhide HF], (by first | rfl | trivial)⟩
end Go.Proofs.YtjobgpahajhbnaaGreatDoor
namespace Go.Proofs.YtjobgpahajhbnaaGreatDoor
open Go.RowKit Go.Proofs Go.Maps
attribute [local go_sem ↓] Go.wp_at_zero Go.wp_at_succ

set_option maxHeartbeats 1000000 in
set_option maxRecDepth 20000 in
theorem last_any {P : Nat → Prop} (w : World) (so : Option Addr) (sn sc : Nat) (co : Option Addr) (cn cc : Nat) (a : Arr) (ha : IsArr P w (.agg #[.slice so sn sc, .slice co cn cc]) a) (sh : List Nat) (len : Nat) (hs : a.shape = sh ++ [len]) (h3 : sh.length ≤ 3) :
    Calls Tryz.prog 234 #[.agg #[.slice so sn sc, .slice co cn cc]] w fun e w' => e = .returned (.int .i64 len) ∧ Below w.heap.size w w' := by
  have hsn := (isArr_len ha).2
  rw [hs] at hsn
  simp at hsn
  obtain ⟨so', sn', sc', co', cn', cc', hv, h1, h2⟩ := ha
  injection hv with hv
  simp at hv
  obtain ⟨⟨rfl, rfl, rfl⟩, rfl, rfl, rfl⟩ := hv
  rw [hs] at h1
  obtain ⟨b, off, rfl, hb, hc, -⟩ := h1.at (k := sh.length) (by simp)
  simp at hc
  have hc2 : (w.alloc (.cells #[.slice (some ⟨b, off, none⟩) sn sc, .slice co cn cc] 89)).cell? ⟨b, off + sh.length, none⟩ = some (.int .i64 len) := by rw [World.cell?_alloc_lt _ _ _ hb]; exact hc
  have hc3 : ((w.alloc (.cells #[.slice (some ⟨b, off, none⟩) sn sc, .slice co cn cc] 89)).alloc (.cells #[.slice (some ⟨b, off, none⟩) sn sc, .slice co cn cc] 89)).cell? ⟨b, off + sh.length, none⟩ = some (.int .i64 len) := by rw [World.cell?_alloc_lt _ _ _ (by simp; omega)]; exact hc2
  obtain ⟨k, hk⟩ : ∃ k, sh.length = k := ⟨_, rfl⟩
  rw [hk] at hsn hc2 hc3 h3
  have HR := hide (fun w' => rank_any w' (some ⟨b, off, none⟩) sn sc co cn cc)
  have hk0 : (0 : Int) ≤ (k : Int) := by omega
  have hk1 : (k : Int) < (sn : Int) := by omega
  have hw1 : IntKind.i64.wrap ((sn : Int) - 1) = (k : Int) := by
    have e : ((sn : Int) - 1) = (k : Int) := by omega
    rw [e]
    exact wrap_pos (by omega) (by omega)
  clear hsn
  clear h1 h2 hs hk hc
  go_enter Tryz.func234, Tryz.ntmps234
  go_wp2_with fail
  go_region_with (first | (go_at_call 221; refine (unhide HR _).mono ?_; rintro e w' ⟨rfl, rfl⟩))
  all_goals
    go_wp2_with fail
    refine bodyPost_ret (v := .int .i64 len) (by simp [results, Tryz.results234, go_sem]) rfl ⟨rfl, ?_⟩
    first
    | exact ((Below.refl _ _).alloc (Nat.le_refl _) _).drew.alloc (by simp) _
    | trace_state
theorem nums_take_any {P : Nat → Prop} {w : World} {ao : Option Addr} {n cap : Nat} {xs : List Int} (h : Nums P w (.slice ao n cap) xs) {k : Nat} (hk : k ≤ n) : Nums P w (.slice ao k cap) (xs.take k) := by
  have hn := nums_len h
  obtain ⟨ao', cap', hv, hcap, h1, h2⟩ := h
  injection hv with e1 e2 e3
  subst e1 e3
  have hkl : k ≤ xs.length := by omega
  refine ⟨ao, cap, by simp [Nat.min_eq_left hkl], by simp; omega, fun h0 => ?_, h2⟩
  have h0' : 0 < xs.length := by simp at h0; omega
  obtain ⟨b, off, ha, hp, hl, hc⟩ := h1 h0'
  refine ⟨b, off, ha, hp, hl, fun i hi => ?_⟩
  simp at hi
  rw [hc i (by omega)]
  simp
theorem nums_cap {P : Nat → Prop} {w : World} {ao : Option Addr} {n cap : Nat} {xs : List Int} (h : Nums P w (.slice ao n cap) xs) : n ≤ cap := by
  obtain ⟨ao', cap', hv, hcap, _⟩ := h
  injection hv with e1 e2 e3
  omega
theorem clone_own {Q : Nat → Prop} (w : World) (ao : Option Addr) (n cap : Nat) (xs : List Int) (h : Nums Q w (.slice ao n cap) xs) (hx : xs.length ≤ 200) (h0 : 0 < n) :
    Calls Tryz.prog 79 #[.slice ao n cap] w fun e w' => ∃ g c, e = .returned (.slice (some ⟨g, 0, none⟩) n c) ∧ w'.ownsRow w.heap.size 3 1 (.slice (some ⟨g, 0, none⟩) n c) n (xs.map (Value.int .i64)) ∧ Below w.heap.size w w' := by
  have hn := nums_len h
  obtain ⟨ao', cap', hv, _, hcell, hspot⟩ := h
  injection hv with e1 e2 e3
  subst e1 e3
  obtain ⟨b, off, rfl, _, _, hc⟩ := hcell (by omega)
  obtain ⟨i0, hi, hz0, hz1, hz2⟩ := info_parts Tryz.info3
  refine (Tryz.slices_Clone_f79 i0 (.int .i64 0) 1 8 hi hz0 hz1 hz2 rfl (by decide) (fun w => by kernel_rfl) b off n cap (xs.map (Value.int .i64)) w (by simp [hn]) (by unfold maxLen; omega) (by omega) ?_ ?_).mono ?_
  · intro j u hu
    obtain ⟨hj, rfl⟩ := maps_get hu
    exact hc j hj
  · intro u hu
    obtain ⟨y, _, rfl⟩ := List.mem_map.1 hu
    rfl
  · rintro e w' ⟨v', rfl, hown, _, hb⟩
    obtain ⟨hl, ⟨rfl, hz⟩ | ⟨g, c, cur, rfl, r⟩⟩ := hown
    · omega
    · exact ⟨g, c, rfl, ⟨hl, .inr ⟨g, c, cur, rfl, r⟩⟩, hb⟩
end Go.Proofs.YtjobgpahajhbnaaGreatDoor
namespace Go.Proofs.YtjobgpahajhbnaaGreatDoor
open Go.RowKit Go.Proofs
attribute [local go_sem ↓] Go.wp_at_zero Go.wp_at_succ

set_option maxHeartbeats 400000 in
theorem new_ok (fuel : Int) (h : 0 ≤ fuel ∧ fuel ≤ 1000) (w : World) : Calls Tryz.prog 32 #[.int .i64 fuel] w fun e w' => e = .returned (.tuple #[.pointer (some ⟨w.heap.size, 0, none⟩), .int .i64 0]) ∧ w' = w.alloc (.cells #[.int .i64 fuel, .map none] 91) := by
  have h1 : ¬ fuel < 0 := by omega
  have h2 : ¬ 1000 < fuel := by omega
  go_enter Tryz.func32, Tryz.ntmps32
  go_wp2
  exact bodyPost_ret (v := .tuple #[.pointer (some ⟨w.heap.size, 0, none⟩), .int .i64 0]) (by simp [results, Tryz.results32, go_sem]) rfl ⟨rfl, rfl⟩
set_option maxHeartbeats 400000 in
theorem desk_any (w : World) : Calls Tryz.prog 15 #[] w fun e w' => e = .returned (.tuple #[.pointer (some ⟨w.heap.size, 0, none⟩), .bool true]) ∧ w' = w.alloc (.cells #[.int .i64 1000, .map none] 91) := by
  go_enter Tryz.func15, Tryz.ntmps15
  go_wp2_with (go_at_call 32; refine (new_ok 1000 (by decide) _).mono ?_; rintro e w' ⟨rfl, rfl⟩)
  exact bodyPost_ret (v := .tuple #[.pointer (some ⟨w.heap.size, 0, none⟩), .bool true]) (by simp [results, Tryz.results15, go_sem]) rfl ⟨rfl, rfl⟩
end Go.Proofs.YtjobgpahajhbnaaGreatDoor
namespace Go.Proofs.YtjobgpahajhbnaaGreatDoor
open Go.RowKit Go.Proofs
attribute [local go_sem ↓] Go.wp_at_zero Go.wp_at_succ

/-- the two results' blocks of a call in w, and what is said of them behind a callee -/
theorem res_cells {W0 w w1 : World} (hlt : W0.heap.size < w.heap.size) (hk : Kp W0 ((w.alloc (.cells #[.slice none 0 0, .slice none 0 0] 89)).alloc (.cells #[.int .i64 0, .int .i64 0] 117)) w1) :
    (w1.cell? ⟨w.heap.size, 0, none⟩ = some (.slice none 0 0) ∧ w1.cell? ⟨w.heap.size, 1, none⟩ = some (.slice none 0 0) ∧ w1.cell? ⟨w.heap.size + 1, 0, none⟩ = some (.int .i64 0) ∧ w1.cell? ⟨w.heap.size + 1, 1, none⟩ = some (.int .i64 0)) ∧
    (w1.frozen? ⟨w.heap.size, 0, none⟩ = false ∧ w1.frozen? ⟨w.heap.size, 1, none⟩ = false ∧ w1.frozen? ⟨w.heap.size + 1, 0, none⟩ = false ∧ w1.frozen? ⟨w.heap.size + 1, 1, none⟩ = false) := by
  have h1 := fun i => hk.cell (b := w.heap.size) (by simp; omega) (by omega) i
  have h2 := fun i => hk.cell (b := w.heap.size + 1) (by simp) (by omega) i
  have f1 := fun i => hk.frozen (b := w.heap.size) (by simp; omega) (by omega) i
  have f2 := fun i => hk.frozen (b := w.heap.size + 1) (by simp) (by omega) i
  rw [h1, h1, h2, h2, f1, f1, f2, f2]
  simp
/-- P, but for the two results' blocks -/
def But (P : Nat → Prop) (n : Nat) (b : Nat) : Prop := P b ∧ b ≠ n ∧ b ≠ n + 1
theorem but_new {P : Nat → Prop} {w : World} (hP : ∀ b, w.heap.size ≤ b → P b) {o1 o2 : Obj} : ∀ b, ((w.alloc o1).alloc o2).heap.size ≤ b → But P w.heap.size b := by
  intro b h
  simp at h
  exact ⟨hP b (by omega), by omega, by omega⟩
theorem but_arr {P : Nat → Prop} {w : World} {n : Nat} {v : Value} {a : Arr} (h : IsArr (But P n) w v a) (v0 v1 v2 v3 : Value) : IsArr P ((((w.setCell ⟨n, 0, none⟩ v0).setCell ⟨n, 1, none⟩ v1).setCell ⟨n + 1, 0, none⟩ v2).setCell ⟨n + 1, 1, none⟩ v3) v a :=
  ((((h.set (fun h => h.2.1 rfl) 0 _).set (fun h => h.2.1 rfl) 1 _).set (fun h => h.2.2 rfl) 0 _).set (fun h => h.2.2 rfl) 1 _).imp (fun _ h _ => h.1)
theorem but_look {P : Nat → Prop} {W0 : World} {mv : Value} {env : ByteArray → Option Arr} (h : Look P W0 mv env) {n : Nat} (hn : W0.heap.size ≤ n) : Look (But P n) W0 mv env := h.imp (fun _ hb hl => ⟨hb, by omega, by omega⟩)
theorem wl_err {P : Nat → Prop} {W0 w w' : World} {mv : Value} {fuel : Int} {k : Nat} {er : Int} {p : Nat} (h1 : Kp W0 w w') (h2 : Wk W0 mv fuel k w') (hn : er ≠ 0) : WLeft P W0 mv fuel w (.inl (er, p)) (.returned (.tuple #[zArr, .agg #[.int .i64 er, .int .i64 p]])) w' := ⟨h1, rfl, hn, k, h2⟩
theorem wl_yes {P : Nat → Prop} {W0 w w' : World} {mv : Value} {fuel : Int} {k : Nat} {a : Arr} {v : Value} (h1 : Kp W0 w w') (h2 : Wk W0 mv fuel k w') (h3 : IsArr P w' v a) (hf : (k : Int) ≤ fuel) : WLeft P W0 mv fuel w (.inr (a, k)) (.returned (.tuple #[v, .agg #[.int .i64 0, .int .i64 0]])) w' := ⟨h1, v, rfl, h3, h2, hf⟩
theorem kp_two {W0 w w1 : World} {o1 o2 : Obj} (h : Kp W0 ((w.alloc o1).alloc o2) w1) : Kp W0 w w1 := (((Kp.refl W0 w).alloc o1).alloc o2).trans h

set_option maxHeartbeats 1000000 in
theorem ex_name (env : ByteArray → Option Arr) (fuel : Int) (f1 : ByteArray → Arr → Arr × Int) (f2 : ByteArray → Arr → Arr → Arr × Int) (B : Nat) (W0 : World) (mv : Value) (t : ByteArray) (ht : t.size ≤ 200) (p : Nat) : ExC env fuel f1 f2 B W0 mv (.name t p) := by
  intro P w c q hw hc hP hR hL hx
  obtain ⟨b, rr, xx, rfl, h1, h2, c0, c1, c2, c3, c4⟩ := hx
  have hlt := hw.lt
  have hb := hw.below
  have d0 := (hb.cell (p := ⟨b, 0, none⟩) h2).trans c0
  have d1 := (hb.cell (p := ⟨b, 1, none⟩) h2).trans c1
  have d2 := (hb.cell (p := ⟨b, 2, none⟩) h2).trans c2
  have d3 := (hb.cell (p := ⟨b, 3, none⟩) h2).trans c3
  have d4 := (hb.cell (p := ⟨b, 4, none⟩) h2).trans c4
  have hbl : b < w.heap.size := Nat.lt_of_lt_of_le h2 hb.size
  have hbl1 : b < w.heap.size + 1 := by omega
  have HCall := hide (fun w' hw' => value_any (But P w.heap.size) W0 mv fuel c w' hw' 1 rr xx t ht p env (but_look hL (by omega)) (fun h => hR h.1) hc)
  have HW := hide hw
  clear hw hP hL c0 c1 c2 c3 c4 hb h2
  go_enter Tryz.func77, Tryz.ntmps77
  go_wp2_with fail
  refine (unhide HCall _ (((unhide HW).alloc _).alloc _)).mono ?_
  intro e w1 hl
  cases he : env t with
  | none =>
    rw [he] at hl
    have HEV : Hid (evalE env fuel f1 f2 (.name t p) c = .inl (4, p)) := hide (by simp [evalE, he])
    obtain ⟨hk, rfl, _, c', hw'⟩ := hl
    obtain ⟨⟨e0, e1, e2, e3⟩, g0, g1, g2, g3⟩ := res_cells hlt hk
    have HK := hide (kp_two hk)
    have HW' := hide hw'
    clear hk hw'
    unfold zArr
    go_wp2_with fail
    refine bodyPost_ret (v := .tuple #[zArr, .agg #[.int .i64 4, .int .i64 p]]) (by simp [results, Tryz.results77, go_sem, zArr, e0, e1, e2, e3]) rfl ?_
    rw [unhide HEV]
    exact wl_err ((unhide HK).four (Nat.le_refl _) _ _ _ _) ((unhide HW').four hlt _ _ _ _) (by decide)
  | some a =>
    rw [he] at hl
    have HEV : Hid (evalE env fuel f1 f2 (.name t p) c = .inr (a, c)) := hide (by simp [evalE, he])
    obtain ⟨hk, v, rfl, ha, hw', hf⟩ := hl
    obtain ⟨⟨e0, e1, e2, e3⟩, g0, g1, g2, g3⟩ := res_cells hlt hk
    have HK := hide (kp_two hk)
    have HW' := hide hw'
    have HA := hide ha
    obtain ⟨so, sn, sc, co, cn, cc, rfl, _, _⟩ := ha
    clear hk hw'
    go_wp2_with fail
    refine bodyPost_ret (v := .tuple #[.agg #[.slice so sn sc, .slice co cn cc], .agg #[.int .i64 0, .int .i64 0]]) (by simp [results, Tryz.results77, go_sem, e0, e1, e2, e3]) rfl ?_
    rw [unhide HEV]
    exact wl_yes ((unhide HK).four (Nat.le_refl _) _ _ _ _) ((unhide HW').four hlt _ _ _ _) (but_arr (unhide HA) _ _ _ _) hf
end Go.Proofs.YtjobgpahajhbnaaGreatDoor
