import Derived.Test.YtjobgpahajhbnaaGreatDoorSi
import Derived.Shelf.Abstract
import Derived.Deep.RegionHeld3
import Derived.Deep.RegionWith
import Derived.Test.YtjobgpahajhbnaaGreatDoorWa
namespace Go.Proofs.YtjobgpahajhbnaaGreatDoor
open Go.RowKit

/-- an array of the document's: its shape, its cells -/
structure Arr where
  shape : List Nat
  cells : List Int
def prodL (l : List Nat) : Nat := l.foldl (· * ·) 1
def fit64 (c : Int) : Prop := -9223372036854775808 ≤ c ∧ c ≤ 9223372036854775807
structure Arr.ok (a : Arr) : Prop where
  rank : a.shape.length ≤ 3
  lens : ∀ n ∈ a.shape, n ≤ 200
  size : a.cells.length = prodL a.shape
  few : a.cells.length ≤ 200
  fits : ∀ c ∈ a.cells, fit64 c
/-- a list of numbers in memory, in blocks of which P holds -/
def Nums (P : Nat → Prop) (w : World) (v : Value) (xs : List Int) : Prop :=
  ∃ ao cap, v = .slice ao xs.length cap ∧ xs.length ≤ cap ∧ (0 < xs.length → ∃ b off, ao = some ⟨b, off, none⟩ ∧ P b ∧ b < w.heap.size ∧ ∀ i, (h : i < xs.length) → w.cell? ⟨b, off + i, none⟩ = some (.int .i64 xs[i])) ∧ ∀ a, ao = some a → a.spot = none
def IsArr (P : Nat → Prop) (w : World) (v : Value) (a : Arr) : Prop :=
  ∃ so sn sc co cn cc, v = .agg #[.slice so sn sc, .slice co cn cc] ∧ Nums P w (.slice so sn sc) (a.shape.map Int.ofNat) ∧ Nums P w (.slice co cn cc) a.cells
def zArr : Value := .agg #[.slice none 0 0, .slice none 0 0]
theorem Nums.keep {P : Nat → Prop} {w w' : World} {v : Value} {xs : List Int} (h : Nums P w v xs) (hs : w.heap.size ≤ w'.heap.size) (hb : ∀ b, P b → b < w.heap.size → w'.heap[b]? = w.heap[b]?) : Nums P w' v xs := by
  obtain ⟨ao, cap, hv, hc, h1, hsp⟩ := h
  refine ⟨ao, cap, hv, hc, fun h0 => ?_, hsp⟩
  obtain ⟨b, off, ha, hp, hl, hcell⟩ := h1 h0
  exact ⟨b, off, ha, hp, Nat.lt_of_lt_of_le hl hs, fun i hi => (World.cell?_of_block (hb b hp hl)).trans (hcell i hi)⟩
theorem Nums.imp {P Q : Nat → Prop} {w : World} {v : Value} {xs : List Int} (h : Nums P w v xs) (hq : ∀ b, P b → b < w.heap.size → Q b) : Nums Q w v xs := by
  obtain ⟨ao, cap, hv, hc, h1, hsp⟩ := h
  refine ⟨ao, cap, hv, hc, fun h0 => ?_, hsp⟩
  obtain ⟨b, off, ha, hp, hl, hcell⟩ := h1 h0
  exact ⟨b, off, ha, hq b hp hl, hl, hcell⟩
theorem IsArr.keep {P : Nat → Prop} {w w' : World} {v : Value} {a : Arr} (h : IsArr P w v a) (hs : w.heap.size ≤ w'.heap.size) (hb : ∀ b, P b → b < w.heap.size → w'.heap[b]? = w.heap[b]?) : IsArr P w' v a := by
  obtain ⟨so, sn, sc, co, cn, cc, hv, h1, h2⟩ := h
  exact ⟨so, sn, sc, co, cn, cc, hv, h1.keep hs hb, h2.keep hs hb⟩
theorem IsArr.below {P : Nat → Prop} {w w' : World} {v : Value} {a : Arr} (h : IsArr P w v a) (hb : Below w.heap.size w w') : IsArr P w' v a := h.keep hb.size (fun b _ hl => hb.block b hl)
theorem Nums.below {P : Nat → Prop} {w w' : World} {v : Value} {a : List Int} (h : Nums P w v a) (hb : Below w.heap.size w w') : Nums P w' v a := h.keep hb.size (fun b _ hl => hb.block b hl)
theorem IsArr.imp {P Q : Nat → Prop} {w : World} {v : Value} {a : Arr} (h : IsArr P w v a) (hq : ∀ b, P b → b < w.heap.size → Q b) : IsArr Q w v a := by
  obtain ⟨so, sn, sc, co, cn, cc, hv, h1, h2⟩ := h
  exact ⟨so, sn, sc, co, cn, cc, hv, h1.imp hq, h2.imp hq⟩
theorem nums_nil (P : Nat → Prop) (w : World) : Nums P w (.slice none 0 0) [] := ⟨none, 0, rfl, Nat.le_refl _, fun h => absurd h (by simp), fun a h => by cases h⟩
theorem nums_owns {P : Nat → Prop} {w : World} {B : Nat} {e : TypeId} {v : Value} {n : Nat} {xs : List Int} (h : w.ownsRow B e 1 v n (xs.map (Value.int .i64))) (hP : ∀ b, B ≤ b → P b) : Nums P w v xs := by
  obtain ⟨hl, ⟨rfl, h⟩ | ⟨g, cap, cur, rfl, hg, r⟩⟩ := h
  · have : xs = [] := by rw [h] at hl; simpa using hl
    subst this
    exact nums_nil P w
  · have hn : n = xs.length := by simpa using hl.symm
    subst hn
    have h' : w.ownsRow B e 1 (.slice (some ⟨g, 0, none⟩) xs.length cap) xs.length (xs.map (Value.int .i64)) := ⟨hl, .inr ⟨g, cap, cur, rfl, hg, r⟩⟩
    refine ⟨some ⟨g, 0, none⟩, cap, rfl, r.2.1, fun _ => ⟨g, 0, rfl, hP g hg, (h'.lt g rfl).2, fun i hi => ?_⟩, fun a h => by cases h; rfl⟩
    rw [Nat.zero_add, h'.cellAt i (by omega)]
    simp [hi]

theorem wrap_pos {n : Int} (h0 : 0 ≤ n) (h1 : n ≤ 9223372036854775807) : IntKind.i64.wrap n = n := by
  have e : n % (18446744073709551616 : Int) = n := Int.emod_eq_of_lt h0 (by omega)
  show (if (true && decide (n % (18446744073709551616 : Int) ≥ 9223372036854775808)) = true then n % (18446744073709551616 : Int) - 18446744073709551616 else n % (18446744073709551616 : Int)) = n
  rw [e, if_neg]
  simp
  omega
theorem wrap_cost {c n : Nat} (hc : c ≤ 1000) (hn : n ≤ 200) : IntKind.i64.wrap ((c : Int) + IntKind.i64.wrap (1 + (n : Int))) = ((c + (1 + n) : Nat) : Int) := by
  rw [wrap_pos (n := 1 + (n : Int)) (by omega) (by omega), wrap_pos (by omega) (by omega)]
  omega
/-- the worker lies in block W0.heap.size -/
structure Wk (W0 : World) (mv : Value) (fuel : Int) (c : Nat) (w : World) : Prop where
  below : Below W0.heap.size W0 w
  vals : w.cell? ⟨W0.heap.size, 0, none⟩ = some mv
  fuel : w.cell? ⟨W0.heap.size, 1, none⟩ = some (.int .i64 fuel)
  cost : w.cell? ⟨W0.heap.size, 2, none⟩ = some (.int .i64 c)
  fr : w.frozen? ⟨W0.heap.size, 2, none⟩ = false
  lt : W0.heap.size < w.heap.size
theorem Wk.keep {W0 : World} {mv : Value} {f : Int} {c : Nat} {w w' : World} (h : Wk W0 mv f c w) (hb : Below w.heap.size w w') : Wk W0 mv f c w' :=
  ⟨h.below.trans (hb.mono h.below.size), (hb.cell (p := ⟨W0.heap.size, 0, none⟩) h.lt).trans h.vals, (hb.cell (p := ⟨W0.heap.size, 1, none⟩) h.lt).trans h.fuel, (hb.cell (p := ⟨W0.heap.size, 2, none⟩) h.lt).trans h.cost, (hb.frozen (p := ⟨W0.heap.size, 2, none⟩) h.lt).trans h.fr, Nat.lt_of_lt_of_le h.lt hb.size⟩
theorem Wk.alloc {W0 : World} {mv : Value} {f : Int} {c : Nat} {w : World} (h : Wk W0 mv f c w) (o : Obj) : Wk W0 mv f c (w.alloc o) := h.keep ((Below.refl _ _).alloc (Nat.le_refl _) o)
theorem Wk.drew {W0 : World} {mv : Value} {f : Int} {c : Nat} {w : World} (h : Wk W0 mv f c w) : Wk W0 mv f c w.drew := ⟨h.below.drew, h.vals, h.fuel, h.cost, h.fr, h.lt⟩
theorem Wk.drewN {W0 : World} {mv : Value} {f : Int} {c : Nat} {w : World} (h : Wk W0 mv f c w) (n : Nat) : Wk W0 mv f c (w.drewN n) := ⟨⟨h.below.os, h.below.tape, h.below.output, h.below.size, h.below.block⟩, h.vals, h.fuel, h.cost, h.fr, h.lt⟩
theorem Wk.paid {W0 : World} {mv : Value} {f : Int} {c : Nat} {w : World} (h : Wk W0 mv f c w) (k : Nat) : Wk W0 mv f k (w.setCell ⟨W0.heap.size, 2, none⟩ (.int .i64 k)) :=
  ⟨h.below.setCell (Nat.le_refl _) _, (World.cell?_setCell_other _ _ _ _ (by simp)).trans h.vals, (World.cell?_setCell_other _ _ _ _ (by simp)).trans h.fuel, World.cell?_setCell_same _ _ _ h.cost, (World.frozen?_setCell _ _ _ _).trans h.fr, by simpa using h.lt⟩
theorem Wk.other {W0 : World} {mv : Value} {f : Int} {c : Nat} {w : World} (h : Wk W0 mv f c w) {b : Nat} (hb : W0.heap.size < b) (i : Nat) (v : Value) : Wk W0 mv f c (w.setCell ⟨b, i, none⟩ v) :=
  ⟨h.below.setCell (Nat.le_of_lt hb) _, (World.cell?_setCell_other _ _ _ _ (by intro e; injection e; omega)).trans h.vals, (World.cell?_setCell_other _ _ _ _ (by intro e; injection e; omega)).trans h.fuel, (World.cell?_setCell_other _ _ _ _ (by intro e; injection e; omega)).trans h.cost, (World.frozen?_setCell _ _ _ _).trans h.fr, by simpa using h.lt⟩
theorem Kp.drewN {W0 w w' : World} (h : Kp W0 w w') (n : Nat) : Kp W0 w (w'.drewN n) := ⟨h.os, h.tape, h.output, h.size, h.block⟩
theorem IsArr.kp {P : Nat → Prop} {W0 w w' : World} {v : Value} {a : Arr} (h : IsArr P w v a) (hP : ¬ P W0.heap.size) (hk : Kp W0 w w') : IsArr P w' v a :=
  h.keep hk.size (fun b hb hl => hk.block b hl (fun e => hP (by rw [← Option.some.inj e]; exact hb)))
/-- a store into a block that is no array's -/
theorem IsArr.set {P : Nat → Prop} {w : World} {v : Value} {a : Arr} (h : IsArr P w v a) {b : Nat} (hb : ¬ P b) (i : Nat) (u : Value) : IsArr P (w.setCell ⟨b, i, none⟩ u) v a :=
  h.keep (by simp) (fun c hc _ => RowKit.Below.heap_setCell _ _ _ _ (fun e => hb (by rw [← show c = b from e]; exact hc)))

/-- what an EXPR comes to: an error and its place, or an array and the cost so far -/
def payP (fuel : Int) (r : Arr × Int) (p c : Nat) : Sum (Int × Nat) (Arr × Nat) :=
  if r.2 ≠ 0 then .inl (r.2, p) else if fuel < ((c + (1 + r.1.cells.length) : Nat) : Int) then .inl (10, p) else .inr (r.1, c + (1 + r.1.cells.length))
def arrOf (ws : List Int) : Arr := if ws.length = 1 then ⟨[], ws⟩ else ⟨[ws.length], ws⟩
def evalE (env : ByteArray → Option Arr) (fuel : Int) (f1 : ByteArray → Arr → Arr × Int) (f2 : ByteArray → Arr → Arr → Arr × Int) : Ex → Nat → Sum (Int × Nat) (Arr × Nat)
  | .num ws, c => .inr (arrOf ws, c)
  | .name t p, c => match env t with
    | none => .inl (4, p)
    | some a => .inr (a, c)
  | .one t p r, c => match evalE env fuel f1 f2 r c with
    | .inl e => .inl e
    | .inr x => payP fuel (f1 t x.1) p x.2
  | .two t p l r, c => match evalE env fuel f1 f2 r c with
    | .inl e => .inl e
    | .inr x => match evalE env fuel f1 f2 l x.2 with
      | .inl e => .inl e
      | .inr y => payP fuel (f2 t y.1 x.1) p y.2
/-- what a call of the worker's leaves -/
def WLeft (P : Nat → Prop) (W0 : World) (mv : Value) (fuel : Int) (w : World) (r : Sum (Int × Nat) (Arr × Nat)) (e : Ending) (w' : World) : Prop :=
  Kp W0 w w' ∧ match r with
  | .inl x => e = .returned (.tuple #[zArr, .agg #[.int .i64 x.1, .int .i64 x.2]]) ∧ x.1 ≠ 0 ∧ ∃ c, Wk W0 mv fuel c w'
  | .inr x => ∃ v, e = .returned (.tuple #[v, .agg #[.int .i64 0, .int .i64 0]]) ∧ IsArr P w' v x.1 ∧ Wk W0 mv fuel x.2 w' ∧ (x.2 : Int) ≤ fuel
theorem wl_ok {P : Nat → Prop} {W0 w w' : World} {mv : Value} {fuel : Int} {k : Nat} {a : Arr} {v : Value} (h1 : Kp W0 w w') (h2 : Wk W0 mv fuel k w') (h3 : IsArr P w v a) (hP : ¬ P W0.heap.size) (hf : (k : Int) ≤ fuel) : WLeft P W0 mv fuel w (.inr (a, k)) (.returned (.tuple #[v, .agg #[.int .i64 0, .int .i64 0]])) w' :=
  ⟨h1, v, rfl, h3.kp hP h1, h2, hf⟩
theorem Wk.four {W0 : World} {mv : Value} {f : Int} {c : Nat} {w : World} (h : Wk W0 mv f c w) {b : Nat} (hb : W0.heap.size < b) (v0 v1 v2 v3 : Value) : Wk W0 mv f c ((((w.setCell ⟨b, 0, none⟩ v0).setCell ⟨b, 1, none⟩ v1).setCell ⟨b + 1, 0, none⟩ v2).setCell ⟨b + 1, 1, none⟩ v3) :=
  (((h.other hb _ _).other hb _ _).other (by omega) _ _).other (by omega) _ _
theorem Kp.four {W0 w w' : World} (h : Kp W0 w w') {b : Nat} (hb : w.heap.size ≤ b) (v0 v1 v2 v3 : Value) : Kp W0 w ((((w'.setCell ⟨b, 0, none⟩ v0).setCell ⟨b, 1, none⟩ v1).setCell ⟨b + 1, 0, none⟩ v2).setCell ⟨b + 1, 1, none⟩ v3) :=
  (((h.new hb _ _).new hb _ _).new (by omega) _ _).new (by omega) _ _

set_option maxHeartbeats 600000 in
theorem size_any (w : World) (so : Option Addr) (sn sc : Nat) (co : Option Addr) (cn cc : Nat) :
    Calls Tryz.prog 156 #[.agg #[.slice so sn sc, .slice co cn cc]] w fun e w' => e = .returned (.int .i64 cn) ∧ w' = w.alloc (.cells #[.slice so sn sc, .slice co cn cc] 89) := by
  go_enter Tryz.func156, Tryz.ntmps156
  go_wp2
  go_ret
  exact ⟨rfl, rfl⟩

set_option maxHeartbeats 600000 in
theorem pay_err (P : Nat → Prop) (W0 : World) (mv : Value) (fuel : Int) (c : Nat) (w : World) (hw : Wk W0 mv fuel c w) (so : Option Addr) (sn sc : Nat) (co : Option Addr) (cn cc : Nat) (er : Int) (p : Nat) (he : (er != 0) = true) :
    Calls Tryz.prog 110 #[.pointer (some ⟨W0.heap.size, 0, none⟩), .agg #[.slice so sn sc, .slice co cn cc], .int .i64 er, .int .i64 p] w (WLeft P W0 mv fuel w (.inl (er, p))) := by
  have HW := hide hw
  have hlt := hw.lt
  have HE := hide (show er ≠ 0 by simpa using he)
  clear hw
  go_enter Tryz.func110, Tryz.ntmps110
  go_wp2_with fail
  refine bodyPost_ret (v := .tuple #[zArr, .agg #[.int .i64 er, .int .i64 p]]) (by simp [results, Tryz.results110, go_sem, zArr]) rfl ⟨?_, rfl, unhide HE, c, ?_⟩
  · exact (((Kp.refl W0 w).alloc _).alloc _).alloc _
  · exact (((unhide HW).alloc _).alloc _).alloc _

set_option maxHeartbeats 1000000 in
theorem pay_fuel (P : Nat → Prop) (W0 : World) (mv : Value) (fuel : Int) (c : Nat) (w : World) (hw : Wk W0 mv fuel c w) (so : Option Addr) (sn sc : Nat) (co : Option Addr) (cn cc : Nat) (p : Nat) (hc : c ≤ 1000) (hn : cn ≤ 200) (hf : fuel < ((c + (1 + cn) : Nat) : Int)) :
    Calls Tryz.prog 110 #[.pointer (some ⟨W0.heap.size, 0, none⟩), .agg #[.slice so sn sc, .slice co cn cc], .int .i64 0, .int .i64 p] w (WLeft P W0 mv fuel w (.inl (10, p))) := by
  have HW := hide hw
  have hlt := hw.lt
  have c1 := hw.fuel
  have c2 := hw.cost
  have f2 := hw.fr
  have hne : W0.heap.size ≠ w.heap.size := by omega
  have hf' : fuel < (c : Int) + (1 + (cn : Int)) := by omega
  have hlt1 : W0.heap.size < w.heap.size + 1 := by omega
  have hlt2 : W0.heap.size < w.heap.size + 1 + 1 := by omega
  have hlt3 : W0.heap.size < w.heap.size + 1 + 1 + 1 := by omega
  obtain ⟨k, hk⟩ : ∃ k, c + (1 + cn) = k := ⟨_, rfl⟩
  clear hw hf
  go_enter Tryz.func110, Tryz.ntmps110
  go_wp2_with fail
  have HKK := hide hk
  clear hk
  go_region_with (first | (go_at_call 156; refine (size_any _ so sn sc co cn cc).mono ?_; rintro e w1 ⟨rfl, rfl⟩))
  all_goals
    rw [wrap_cost hc hn]
    simp only [unhide HKK]
    have hfk : fuel < (k : Int) := by have := unhide HKK; omega
    have c1' : (w.setCell ⟨W0.heap.size, 2, none⟩ (.int .i64 (k : Int))).cell? ⟨W0.heap.size, 1, none⟩ = some (.int .i64 fuel) := (World.cell?_setCell_other _ _ _ _ (by simp)).trans c1
    have c2' : (w.setCell ⟨W0.heap.size, 2, none⟩ (.int .i64 (k : Int))).cell? ⟨W0.heap.size, 2, none⟩ = some (.int .i64 (k : Int)) := World.cell?_setCell_same _ _ _ c2
    go_wp2_with fail
    go_quiet (fail)
    go_wp2_with fail
    refine bodyPost_ret (v := .tuple #[zArr, .agg #[.int .i64 10, .int .i64 p]]) (by simp [results, Tryz.results110, go_sem, zArr]) rfl ?_
    exact ⟨((((((Kp.setReader W0 w 2 (.int .i64 (k : Int))).alloc _).alloc _).alloc _).alloc _).drewN _).four (by omega) _ _ _ _, rfl, (show (10 : Int) ≠ 0 by decide), k, (((((((unhide HW).paid k).alloc _).alloc _).alloc _).alloc _).drewN _).four (by omega) _ _ _ _⟩
set_option maxHeartbeats 1000000 in
theorem pay_ok (P : Nat → Prop) (W0 : World) (mv : Value) (fuel : Int) (c : Nat) (w : World) (hw : Wk W0 mv fuel c w) (so : Option Addr) (sn sc : Nat) (co : Option Addr) (cn cc : Nat) (p : Nat) (hc : c ≤ 1000) (hn : cn ≤ 200) (hf : ((c + (1 + cn) : Nat) : Int) ≤ fuel) (a : Arr) (ha : IsArr P w (.agg #[.slice so sn sc, .slice co cn cc]) a) (hP : ¬ P W0.heap.size) :
    Calls Tryz.prog 110 #[.pointer (some ⟨W0.heap.size, 0, none⟩), .agg #[.slice so sn sc, .slice co cn cc], .int .i64 0, .int .i64 p] w (WLeft P W0 mv fuel w (.inr (a, c + (1 + cn)))) := by
  have HW := hide hw
  have hlt := hw.lt
  have c1 := hw.fuel
  have c2 := hw.cost
  have f2 := hw.fr
  have hne : W0.heap.size ≠ w.heap.size := by omega
  have hf' : (c : Int) + (1 + (cn : Int)) ≤ fuel := by omega
  have HA := hide ha
  have hlt1 : W0.heap.size < w.heap.size + 1 := by omega
  have hlt2 : W0.heap.size < w.heap.size + 1 + 1 := by omega
  have hlt3 : W0.heap.size < w.heap.size + 1 + 1 + 1 := by omega
  obtain ⟨k, hk⟩ : ∃ k, c + (1 + cn) = k := ⟨_, rfl⟩
  clear hw hf ha
  go_enter Tryz.func110, Tryz.ntmps110
  go_wp2_with fail
  have HKK := hide hk
  clear hk
  go_region_with (first | (go_at_call 156; refine (size_any _ so sn sc co cn cc).mono ?_; rintro e w1 ⟨rfl, rfl⟩))
  all_goals
    rw [wrap_cost hc hn]
    simp only [unhide HKK]
    have hfk : (k : Int) ≤ fuel := by have := unhide HKK; omega
    have c1' : (w.setCell ⟨W0.heap.size, 2, none⟩ (.int .i64 (k : Int))).cell? ⟨W0.heap.size, 1, none⟩ = some (.int .i64 fuel) := (World.cell?_setCell_other _ _ _ _ (by simp)).trans c1
    have c2' : (w.setCell ⟨W0.heap.size, 2, none⟩ (.int .i64 (k : Int))).cell? ⟨W0.heap.size, 2, none⟩ = some (.int .i64 (k : Int)) := World.cell?_setCell_same _ _ _ c2
    go_wp2_with fail
    go_quiet (fail)
    go_wp2_with fail
    refine bodyPost_ret (v := .tuple #[.agg #[.slice so sn sc, .slice co cn cc], .agg #[.int .i64 0, .int .i64 0]]) (by simp [results, Tryz.results110, go_sem]) rfl ?_
    rw [unhide HKK]
    exact wl_ok (((((((Kp.setReader W0 w 2 (.int .i64 (k : Int))).alloc _).alloc _).alloc _).alloc _).drewN _).four (by omega) _ _ _ _) ((((((((unhide HW).paid k).alloc _).alloc _).alloc _).alloc _).drewN _).four (by omega) _ _ _ _) (unhide HA) hP hfk
theorem isArr_len {P : Nat → Prop} {w : World} {so : Option Addr} {sn sc : Nat} {co : Option Addr} {cn cc : Nat} {a : Arr} (h : IsArr P w (.agg #[.slice so sn sc, .slice co cn cc]) a) : cn = a.cells.length ∧ sn = a.shape.length := by
  obtain ⟨so', sn', sc', co', cn', cc', hv, ⟨_, _, h1, _⟩, ⟨_, _, h2, _⟩⟩ := h
  injection hv with hv
  simp at hv h1 h2
  exact ⟨by rw [hv.2.2.1]; exact h2.2.1, by rw [hv.1.2.1]; exact h1.2.1⟩
theorem pay_any (P : Nat → Prop) (W0 : World) (mv : Value) (fuel : Int) (c : Nat) (w : World) (hw : Wk W0 mv fuel c w) (v : Value) (r : Arr × Int) (p : Nat) (hc : (c : Int) ≤ fuel) (hfl : fuel ≤ 1000) (ha : IsArr P w v r.1) (hn : r.1.cells.length ≤ 200) (hP : ¬ P W0.heap.size) :
    Calls Tryz.prog 110 #[.pointer (some ⟨W0.heap.size, 0, none⟩), v, .int .i64 r.2, .int .i64 p] w (WLeft P W0 mv fuel w (payP fuel r p c)) := by
  have ha' := ha
  obtain ⟨so, sn, sc, co, cn, cc, rfl, _, _⟩ := ha
  obtain ⟨hl, _⟩ := isArr_len ha'
  unfold payP
  by_cases he : r.2 = 0
  · rw [if_neg (by simpa using he), he]
    rw [← hl] at hn ⊢
    by_cases hf : fuel < ((c + (1 + cn) : Nat) : Int)
    · rw [if_pos hf]
      exact pay_fuel P W0 mv fuel c w hw so sn sc co cn cc p (by omega) hn hf
    · rw [if_neg hf]
      exact pay_ok P W0 mv fuel c w hw so sn sc co cn cc p (by omega) hn (by omega) r.1 ha' hP
  · rw [if_pos he]
    exact pay_err P W0 mv fuel c w hw so sn sc co cn cc r.2 p (by simpa using he)
end Go.Proofs.YtjobgpahajhbnaaGreatDoor
namespace Go.Proofs.YtjobgpahajhbnaaGreatDoor
open Go.RowKit

theorem Tryz.info3 : (Tryz.prog.info? 3).map (fun i => (i.zero, i.size, i.bytes)) = some (some (.int .i64 0), 1, 8) := by kernel_rfl
theorem maps_get {xs : List Int} {j : Nat} {u : Value} (h : (xs.map (Value.int .i64))[j]? = some u) : ∃ hj : j < xs.length, u = .int .i64 xs[j] := by
  rw [List.getElem?_map] at h
  cases hx : xs[j]? with
  | none => rw [hx] at h; cases h
  | some y =>
    rw [hx] at h
    obtain ⟨hj, rfl⟩ := List.getElem?_eq_some_iff.1 hx
    exact ⟨hj, (Option.some.inj h).symm⟩
/-- a list that no one else holds -/
theorem clone80 (P : Nat → Prop) (w : World) (hP : ∀ b, w.heap.size ≤ b → P b) {Q : Nat → Prop} (v : Value) (xs : List Int) (h : Nums Q w v xs) (hx : xs.length ≤ 200) :
    Calls Tryz.prog 80 #[v] w fun e w' => ∃ so sn sc, e = .returned (.slice so sn sc) ∧ Nums P w' (.slice so sn sc) xs ∧ Below w.heap.size w w' := by
  obtain ⟨ao, cap, rfl, _, hcell, hspot⟩ := h
  by_cases h0 : 0 < xs.length
  · obtain ⟨b, off, rfl, _, _, hc⟩ := hcell h0
    obtain ⟨i0, hi, hz0, hz1, hz2⟩ := info_parts Tryz.info2
    refine (Tryz.slices_Clone_f80 i0 (.int .i64 0) 1 8 hi hz0 hz1 hz2 rfl (by decide) (fun w => by kernel_rfl) b off xs.length cap (xs.map (Value.int .i64)) w (by simp) (by unfold maxLen; omega) (by omega) ?_ ?_).mono ?_
    · intro j u hu
      obtain ⟨hj, rfl⟩ := maps_get hu
      exact hc j hj
    · intro u hu
      obtain ⟨y, _, rfl⟩ := List.mem_map.1 hu
      rfl
    · rintro e w' ⟨v', rfl, hown, _, hb⟩
      have hn := nums_owns (P := P) hown hP
      obtain ⟨ao', cap', rfl, r⟩ := hn
      exact ⟨ao', xs.length, cap', rfl, ⟨ao', cap', rfl, r⟩, hb⟩
  · have hx0 : xs = [] := List.eq_nil_of_length_eq_zero (by omega)
    subst hx0
    cases ao with
    | none =>
      refine (Tryz.slices_Clone_nil_f80 0 cap w).mono ?_
      rintro e w' ⟨rfl, rfl⟩
      exact ⟨none, 0, 0, rfl, nums_nil P _, Below.refl _ _⟩
    | some a =>
      obtain ⟨b, off, spot⟩ := a
      have hsp : spot = none := hspot _ rfl
      subst hsp
      obtain ⟨i0, hi, hz0, hz1, hz2⟩ := info_parts Tryz.info2
      refine (Tryz.slices_Clone_f80 i0 (.int .i64 0) 1 8 hi hz0 hz1 hz2 rfl (by decide) (fun w => by kernel_rfl) b off 0 cap [] w (by simp) (by unfold maxLen; omega) (by omega) (fun j u hu => by simp at hu) (fun u hu => by simp at hu)).mono ?_
      rintro e w' ⟨v', rfl, hown, _, hb⟩
      have hn := nums_owns (P := P) (xs := []) hown hP
      obtain ⟨ao', cap', rfl, r⟩ := hn
      exact ⟨ao', 0, cap', rfl, ⟨ao', cap', rfl, r⟩, hb⟩
/-- a list that no one else holds -/
theorem clone79 (P : Nat → Prop) (w : World) (hP : ∀ b, w.heap.size ≤ b → P b) {Q : Nat → Prop} (v : Value) (xs : List Int) (h : Nums Q w v xs) (hx : xs.length ≤ 200) :
    Calls Tryz.prog 79 #[v] w fun e w' => ∃ so sn sc, e = .returned (.slice so sn sc) ∧ Nums P w' (.slice so sn sc) xs ∧ Below w.heap.size w w' := by
  obtain ⟨ao, cap, rfl, _, hcell, hspot⟩ := h
  by_cases h0 : 0 < xs.length
  · obtain ⟨b, off, rfl, _, _, hc⟩ := hcell h0
    obtain ⟨i0, hi, hz0, hz1, hz2⟩ := info_parts Tryz.info3
    refine (Tryz.slices_Clone_f79 i0 (.int .i64 0) 1 8 hi hz0 hz1 hz2 rfl (by decide) (fun w => by kernel_rfl) b off xs.length cap (xs.map (Value.int .i64)) w (by simp) (by unfold maxLen; omega) (by omega) ?_ ?_).mono ?_
    · intro j u hu
      obtain ⟨hj, rfl⟩ := maps_get hu
      exact hc j hj
    · intro u hu
      obtain ⟨y, _, rfl⟩ := List.mem_map.1 hu
      rfl
    · rintro e w' ⟨v', rfl, hown, _, hb⟩
      have hn := nums_owns (P := P) hown hP
      obtain ⟨ao', cap', rfl, r⟩ := hn
      exact ⟨ao', xs.length, cap', rfl, ⟨ao', cap', rfl, r⟩, hb⟩
  · have hx0 : xs = [] := List.eq_nil_of_length_eq_zero (by omega)
    subst hx0
    cases ao with
    | none =>
      refine (Tryz.slices_Clone_nil_f79 0 cap w).mono ?_
      rintro e w' ⟨rfl, rfl⟩
      exact ⟨none, 0, 0, rfl, nums_nil P _, Below.refl _ _⟩
    | some a =>
      obtain ⟨b, off, spot⟩ := a
      have hsp : spot = none := hspot _ rfl
      subst hsp
      obtain ⟨i0, hi, hz0, hz1, hz2⟩ := info_parts Tryz.info3
      refine (Tryz.slices_Clone_f79 i0 (.int .i64 0) 1 8 hi hz0 hz1 hz2 rfl (by decide) (fun w => by kernel_rfl) b off 0 cap [] w (by simp) (by unfold maxLen; omega) (by omega) (fun j u hu => by simp at hu) (fun u hu => by simp at hu)).mono ?_
      rintro e w' ⟨v', rfl, hown, _, hb⟩
      have hn := nums_owns (P := P) (xs := []) hown hP
      obtain ⟨ao', cap', rfl, r⟩ := hn
      exact ⟨ao', 0, cap', rfl, ⟨ao', cap', rfl, r⟩, hb⟩
theorem nums_one {P : Nat → Prop} {w : World} {x : Int} {b : Nat} {e : TypeId} (hb : w.heap.size = b) (hP : P b) : Nums P (w.alloc (.cells #[.int .i64 x] e)) (.slice (some ⟨b, 0, none⟩) 1 1) [x] := by
  subst hb
  refine ⟨some ⟨w.heap.size, 0, none⟩, 1, rfl, Nat.le_refl _, fun _ => ⟨w.heap.size, 0, rfl, hP, by simp, fun i hi => ?_⟩, fun a h => by cases h; rfl⟩
  simp at hi
  subst hi
  simp

set_option maxHeartbeats 600000 in
theorem scalar_any (P : Nat → Prop) (w : World) (hP : ∀ b, w.heap.size ≤ b → P b) (x : Int) :
    Calls Tryz.prog 150 #[.int .i64 x] w fun e w' => ∃ co cn cc, e = .returned (.agg #[.slice none 0 0, .slice co cn cc]) ∧ IsArr P w' (.agg #[.slice none 0 0, .slice co cn cc]) ⟨[], [x]⟩ ∧ Below w.heap.size w w' := by
  go_enter Tryz.func150, Tryz.ntmps150
  go_wp2_with fail
  refine bodyPost_ret (v := .agg #[.slice none 0 0, .slice (some ⟨w.heap.size + 1, 0, none⟩) 1 1]) (by simp [results, Tryz.results150, go_sem]) rfl ⟨_, _, _, rfl, ⟨_, _, _, _, _, _, rfl, nums_nil _ _, nums_one (by simp) (hP _ (by omega))⟩, ?_⟩
  exact ((Below.refl _ _).alloc (Nat.le_refl _) _).alloc (by simp) _
set_option maxHeartbeats 600000 in
theorem row_any (P : Nat → Prop) (w : World) (hP : ∀ b, w.heap.size ≤ b → P b) (v : Value) (xs : List Int) (h : Nums P w v xs) :
    Calls Tryz.prog 151 #[v] w fun e w' => ∃ so sn sc co cn cc, e = .returned (.agg #[.slice so sn sc, .slice co cn cc]) ∧ IsArr P w' (.agg #[.slice so sn sc, .slice co cn cc]) ⟨[xs.length], xs⟩ ∧ Below w.heap.size w w' := by
  have h' := h
  obtain ⟨ao, cap, rfl, _, _⟩ := h
  have H := hide h'
  clear h'
  go_enter Tryz.func151, Tryz.ntmps151
  go_wp2_with fail
  refine bodyPost_ret (v := .agg #[.slice (some ⟨w.heap.size + 1, 0, none⟩) 1 1, .slice ao xs.length cap]) (by simp [results, Tryz.results151, go_sem]) rfl ⟨_, _, _, _, _, _, rfl, ⟨_, _, _, _, _, _, rfl, nums_one (by simp) (hP _ (by omega)), ?_⟩, ?_⟩
  · exact (unhide H).below (((Below.refl _ _).alloc (Nat.le_refl _) _).alloc (by simp) _)
  · exact ((Below.refl _ _).alloc (Nat.le_refl _) _).alloc (by simp) _

theorem nums_ints {B : Nat} {P : Nat → Prop} {w : World} {v : Value} {ws : List Int} (h : IntsIn B w v ws) (hl : ∀ b, B < b → b < w.heap.size → P b) : Nums P w v ws := by
  obtain ⟨b, cap, rfl, hcap, h1, h2, hc⟩ := h
  exact ⟨some ⟨b, 0, none⟩, cap, rfl, hcap, fun _ => ⟨b, 0, rfl, hl b h1 h2, h2, fun i hi => by rw [Nat.zero_add]; exact hc i hi⟩, fun a h => by cases h; rfl⟩
set_option maxHeartbeats 600000 in
theorem of_one (P : Nat → Prop) (w : World) (hP : ∀ b, w.heap.size ≤ b → P b) (b off cap : Nat) (x : Int) (hc : w.cell? ⟨b, off, none⟩ = some (.int .i64 x)) (hb : b < w.heap.size) :
    Calls Tryz.prog 107 #[.slice (some ⟨b, off, none⟩) 1 cap] w fun e w' => ∃ so sn sc co cn cc, e = .returned (.agg #[.slice so sn sc, .slice co cn cc]) ∧ IsArr P w' (.agg #[.slice so sn sc, .slice co cn cc]) ⟨[], [x]⟩ ∧ Below w.heap.size w w' := by
  have HP : Hid (∀ b, w.heap.size ≤ b → P b) := hP
  clear hP
  have hc2 : (w.alloc (.cells #[.slice none 0 0, .slice none 0 0] 89)).cell? ⟨b, off, none⟩ = some (.int .i64 x) := by rw [World.cell?_alloc_lt _ _ _ hb]; exact hc
  go_enter Tryz.func107, Tryz.ntmps107
  go_wp2_with fail
  refine (scalar_any (fun b => P b ∧ b ≠ w.heap.size) _ (fun b h => ⟨unhide HP b (by simp at h; omega), by simp at h; omega⟩) x).mono ?_
  rintro e w1 ⟨co, cn, cc, rfl, ha, hb1⟩
  have HA := hide ha
  obtain ⟨hcc, hff⟩ := bcell hb1
  have d0 := hcc w.heap.size 0 (by simp)
  have d1 := hcc w.heap.size 1 (by simp)
  have g0 := hff w.heap.size 0 (by simp)
  have g1 := hff w.heap.size 1 (by simp)
  simp at d0 d1 g0 g1
  have HB := hide hb1
  clear ha hb1 hcc hff hc
  go_wp2_with fail
  refine bodyPost_ret (v := .agg #[.slice none 0 0, .slice co cn cc]) (by simp [results, Tryz.results107, go_sem, d0, d1]) rfl ⟨_, _, _, _, _, _, rfl, ?_, ?_⟩
  · exact (((unhide HA).set (fun h => h.2 rfl) 0 _).set (fun h => h.2 rfl) 1 _).imp (fun b h _ => h.1)
  · exact ((((Below.refl _ _).alloc (Nat.le_refl _) _).trans ((unhide HB).mono (by simp))).setCell (Nat.le_refl _) _).setCell (Nat.le_refl _) _
set_option maxHeartbeats 600000 in
theorem of_many (P : Nat → Prop) (w : World) (hP : ∀ b, w.heap.size ≤ b → P b) (ao : Option Addr) (cap : Nat) (xs : List Int) {Q : Nat → Prop} (hx : Nums Q w (.slice ao xs.length cap) xs) (h1 : ¬ xs.length = 1) (hl : xs.length ≤ 200) :
    Calls Tryz.prog 107 #[.slice ao xs.length cap] w fun e w' => ∃ so sn sc co cn cc, e = .returned (.agg #[.slice so sn sc, .slice co cn cc]) ∧ IsArr P w' (.agg #[.slice so sn sc, .slice co cn cc]) ⟨[xs.length], xs⟩ ∧ Below w.heap.size w w' := by
  have HP : Hid (∀ b, w.heap.size ≤ b → P b) := hP
  have HX := hide hx
  have h1' : ((xs.length : Int) == 1) = false := beq_eq_false_iff_ne.2 (by omega)
  clear hP hx
  go_enter Tryz.func107, Tryz.ntmps107
  go_wp2_with fail
  refine (clone80 (fun b => P b ∧ b ≠ w.heap.size) _ (fun b h => ⟨unhide HP b (by simp at h; omega), by simp at h; omega⟩) _ xs ((unhide HX).below ((Below.refl _ _).alloc (Nat.le_refl _) _)) hl).mono ?_
  rintro e w1 ⟨so, sn, sc, rfl, hn, hb1⟩
  have HN := hide hn
  have HB := hide hb1
  have hs1 := hb1.size
  simp at hs1
  clear hn hb1
  go_wp2_with fail
  refine (row_any (fun b => P b ∧ b ≠ w.heap.size) _ (fun b h => ⟨unhide HP b (by omega), by omega⟩) _ xs (unhide HN)).mono ?_
  rintro e w2 ⟨so2, sn2, sc2, co2, cn2, cc2, rfl, ha, hb2⟩
  have HA := hide ha
  have hb3 := below2' (unhide HB) hb2
  obtain ⟨hcc, hff⟩ := bcell hb3
  have d0 := hcc w.heap.size 0 (by simp)
  have d1 := hcc w.heap.size 1 (by simp)
  have g0 := hff w.heap.size 0 (by simp)
  have g1 := hff w.heap.size 1 (by simp)
  simp at d0 d1 g0 g1
  have HB3 := hide hb3
  clear ha hb2 hb3 hcc hff
  go_wp2_with fail
  refine bodyPost_ret (v := .agg #[.slice so2 sn2 sc2, .slice co2 cn2 cc2]) (by simp [results, Tryz.results107, go_sem, d0, d1]) rfl ⟨_, _, _, _, _, _, rfl, ?_, ?_⟩
  · exact (((unhide HA).set (fun h => h.2 rfl) 0 _).set (fun h => h.2 rfl) 1 _).imp (fun b h _ => h.1)
  · exact ((((Below.refl _ _).alloc (Nat.le_refl _) _).trans ((unhide HB3).mono (by simp))).setCell (Nat.le_refl _) _).setCell (Nat.le_refl _) _
theorem of_any (P : Nat → Prop) (w : World) (hP : ∀ b, w.heap.size ≤ b → P b) (v : Value) (ws : List Int) {Q : Nat → Prop} (h : Nums Q w v ws) (h0 : 0 < ws.length) (hl : ws.length ≤ 200) :
    Calls Tryz.prog 107 #[v] w fun e w' => ∃ so sn sc co cn cc, e = .returned (.agg #[.slice so sn sc, .slice co cn cc]) ∧ IsArr P w' (.agg #[.slice so sn sc, .slice co cn cc]) (arrOf ws) ∧ Below w.heap.size w w' := by
  have h' := h
  obtain ⟨ao, cap, rfl, hcap, hc, hsp⟩ := h
  unfold arrOf
  by_cases h1 : ws.length = 1
  · rw [if_pos h1]
    obtain ⟨b, off, rfl, _, hb, hcell⟩ := hc h0
    match ws, h1 with
    | [x], _ =>
      exact of_one P w hP b off cap x (hcell 0 (by simp)) hb
  · rw [if_neg h1]
    exact of_many P w hP ao cap ws h' h1 hl
end Go.Proofs.YtjobgpahajhbnaaGreatDoor
