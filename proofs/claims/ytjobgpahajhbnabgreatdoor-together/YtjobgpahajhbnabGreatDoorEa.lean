import Derived.Test.YtjobgpahajhbnabGreatDoorSh
import Derived.Shelf.Abstract
import Derived.Deep.RegionHeld3
import Derived.Deep.RegionWith
import Derived.Test.YtjobgpahajhbnabGreatDoorWa
import Derived.Laws.CopyOwn
import Derived.Deep.RegionLaw
namespace Go.Proofs.YtjobgpahajhbnabGreatDoor
open Go.RowKit
structure Arr where
  shape : List Nat
  cells : List Int
def Jj (l : List Nat) : Nat := l.foldl (· * ·) 1
def Jg (c : Int) : Prop := -9223372036854775808 ≤ c ∧ c ≤ 9223372036854775807
structure Arr.ok (a : Arr) : Prop where
  rank : a.shape.length ≤ 3
  lens : ∀ n ∈ a.shape, n ≤ 200
  size : a.cells.length = Jj a.shape
  few : a.cells.length ≤ 200
  fits : ∀ c ∈ a.cells, Jg c
def Nums (P : Nat → Prop) (w : World) (v : Value) (xs : List Int) : Prop :=
  ∃ ao cap, v = .slice ao xs.length cap ∧ xs.length ≤ cap ∧ (0 < xs.length → ∃ b off, ao = some ⟨b, off, none⟩ ∧ P b ∧ b < w.heap.size ∧ ∀ i, (h : i < xs.length) → w.cell? ⟨b, off + i, none⟩ = some (.int .i64 xs[i])) ∧ ∀ a, ao = some a → a.spot = none
def IsArr (P : Nat → Prop) (w : World) (v : Value) (a : Arr) : Prop :=
  ∃ so sn sc co cn cc, v = .agg #[.slice so sn sc, .slice co cn cc] ∧ Nums P w (.slice so sn sc) (a.shape.map Int.ofNat) ∧ Nums P w (.slice co cn cc) a.cells
def zArr : Value := .agg #[.slice none 0 0, .slice none 0 0]
theorem Nums.keep {P : Nat → Prop} {w w' : World} {v : Value} {xs : List Int} (h : Nums P w v xs) (hs : w.heap.size ≤ w'.heap.size) (hb : ∀ b, P b → b < w.heap.size → w'.heap[b]? = w.heap[b]?) : Nums P w' v xs := by
  obtain ⟨ao, cap, hv, hc, h1, hsp⟩ := h
  refine ⟨ao, cap, hv, hc, fun h0 => ?_, hsp⟩
  obtain ⟨b, off, ha, hp, hl, hcell⟩ := h1 h0
  exact ⟨b, off, ha, hp, Nat.lt_of_lt_of_le hl hs, fun i hi => (World.cell?_of_block (hb b hp hl)).trans (hcell i hi)⟩
theorem Nums.imp {P Q : Nat → Prop} {w : World} {v : Value} {xs : List Int} (h : Nums P w v xs) (hq : ∀ b, P b → b < w.heap.size → Q b) : Nums Q w v xs := by
  obtain ⟨ao, cap, hv, hc, h1, hsp⟩ := h
  refine ⟨ao, cap, hv, hc, fun h0 => ?_, hsp⟩
  obtain ⟨b, off, ha, hp, hl, hcell⟩ := h1 h0
  exact ⟨b, off, ha, hq b hp hl, hl, hcell⟩
theorem IsArr.keep {P : Nat → Prop} {w w' : World} {v : Value} {a : Arr} (h : IsArr P w v a) (hs : w.heap.size ≤ w'.heap.size) (hb : ∀ b, P b → b < w.heap.size → w'.heap[b]? = w.heap[b]?) : IsArr P w' v a := by
  obtain ⟨so, sn, sc, co, cn, cc, hv, h1, h2⟩ := h
  exact ⟨so, sn, sc, co, cn, cc, hv, h1.keep hs hb, h2.keep hs hb⟩
theorem IsArr.below {P : Nat → Prop} {w w' : World} {v : Value} {a : Arr} (h : IsArr P w v a) (hb : Below w.heap.size w w') : IsArr P w' v a := h.keep hb.size (fun b _ hl => hb.block b hl)
theorem Nums.below {P : Nat → Prop} {w w' : World} {v : Value} {a : List Int} (h : Nums P w v a) (hb : Below w.heap.size w w') : Nums P w' v a := h.keep hb.size (fun b _ hl => hb.block b hl)
theorem IsArr.imp {P Q : Nat → Prop} {w : World} {v : Value} {a : Arr} (h : IsArr P w v a) (hq : ∀ b, P b → b < w.heap.size → Q b) : IsArr Q w v a := by
  obtain ⟨so, sn, sc, co, cn, cc, hv, h1, h2⟩ := h
  exact ⟨so, sn, sc, co, cn, cc, hv, h1.imp hq, h2.imp hq⟩
theorem Jn (P : Nat → Prop) (w : World) : Nums P w (.slice none 0 0) [] := ⟨none, 0, rfl, Nat.le_refl _, fun h => absurd h (by simp), fun a h => by cases h⟩
theorem Js {P : Nat → Prop} {w : World} {B : Nat} {e : TypeId} {v : Value} {n : Nat} {xs : List Int} (h : w.ownsRow B e 1 v n (xs.map (Value.int .i64))) (hP : ∀ b, B ≤ b → P b) : Nums P w v xs := by
  obtain ⟨hl, ⟨rfl, h⟩ | ⟨g, cap, cur, rfl, hg, r⟩⟩ := h
  · have : xs = [] := by rw [h] at hl; simpa using hl
    subst this
    exact Jn P w
  · have hn : n = xs.length := by simpa using hl.symm
    subst hn
    have h' : w.ownsRow B e 1 (.slice (some ⟨g, 0, none⟩) xs.length cap) xs.length (xs.map (Value.int .i64)) := ⟨hl, .inr ⟨g, cap, cur, rfl, hg, r⟩⟩
    refine ⟨some ⟨g, 0, none⟩, cap, rfl, r.2.1, fun _ => ⟨g, 0, rfl, hP g hg, (h'.lt g rfl).2, fun i hi => ?_⟩, fun a h => by cases h; rfl⟩
    rw [Nat.zero_add, h'.cellAt i (by omega)]
    simp [hi]
theorem Jd {n : Int} (h0 : 0 ≤ n) (h1 : n ≤ 9223372036854775807) : IntKind.i64.wrap n = n := by
  have e : n % (18446744073709551616 : Int) = n := Int.emod_eq_of_lt h0 (by omega)
  show (if (true && decide (n % (18446744073709551616 : Int) ≥ 9223372036854775808)) = true then n % (18446744073709551616 : Int) - 18446744073709551616 else n % (18446744073709551616 : Int)) = n
  rw [e, if_neg]
  simp
  omega
theorem Nf {c n : Nat} (hc : c ≤ 1000) (hn : n ≤ 200) : IntKind.i64.wrap ((c : Int) + IntKind.i64.wrap (1 + (n : Int))) = ((c + (1 + n) : Nat) : Int) := by
  rw [Jd (n := 1 + (n : Int)) (by omega) (by omega), Jd (by omega) (by omega)]
  omega
structure Wk (W0 : World) (mv : Value) (fuel : Int) (c : Nat) (w : World) : Prop where
  below : Below W0.heap.size W0 w
  vals : w.cell? ⟨W0.heap.size, 0, none⟩ = some mv
  fuel : w.cell? ⟨W0.heap.size, 1, none⟩ = some (.int .i64 fuel)
  cost : w.cell? ⟨W0.heap.size, 2, none⟩ = some (.int .i64 c)
  fr : w.frozen? ⟨W0.heap.size, 2, none⟩ = false
  lt : W0.heap.size < w.heap.size
theorem Wk.keep {W0 : World} {mv : Value} {f : Int} {c : Nat} {w w' : World} (h : Wk W0 mv f c w) (hb : Below w.heap.size w w') : Wk W0 mv f c w' :=
  ⟨h.below.trans (hb.mono h.below.size), (hb.cell (p := ⟨W0.heap.size, 0, none⟩) h.lt).trans h.vals, (hb.cell (p := ⟨W0.heap.size, 1, none⟩) h.lt).trans h.fuel, (hb.cell (p := ⟨W0.heap.size, 2, none⟩) h.lt).trans h.cost, (hb.frozen (p := ⟨W0.heap.size, 2, none⟩) h.lt).trans h.fr, Nat.lt_of_lt_of_le h.lt hb.size⟩
theorem Wk.alloc {W0 : World} {mv : Value} {f : Int} {c : Nat} {w : World} (h : Wk W0 mv f c w) (o : Obj) : Wk W0 mv f c (w.alloc o) := h.keep ((Below.refl _ _).alloc (Nat.le_refl _) o)
theorem Wk.drew {W0 : World} {mv : Value} {f : Int} {c : Nat} {w : World} (h : Wk W0 mv f c w) : Wk W0 mv f c w.drew := ⟨h.below.drew, h.vals, h.fuel, h.cost, h.fr, h.lt⟩
theorem Wk.drewN {W0 : World} {mv : Value} {f : Int} {c : Nat} {w : World} (h : Wk W0 mv f c w) (n : Nat) : Wk W0 mv f c (w.drewN n) := ⟨⟨h.below.os, h.below.tape, h.below.output, h.below.size, h.below.block⟩, h.vals, h.fuel, h.cost, h.fr, h.lt⟩
theorem Wk.paid {W0 : World} {mv : Value} {f : Int} {c : Nat} {w : World} (h : Wk W0 mv f c w) (k : Nat) : Wk W0 mv f k (w.setCell ⟨W0.heap.size, 2, none⟩ (.int .i64 k)) :=
  ⟨h.below.setCell (Nat.le_refl _) _, (World.cell?_setCell_other _ _ _ _ (by simp)).trans h.vals, (World.cell?_setCell_other _ _ _ _ (by simp)).trans h.fuel, World.cell?_setCell_same _ _ _ h.cost, (World.frozen?_setCell _ _ _ _).trans h.fr, by simpa using h.lt⟩
theorem Wk.other {W0 : World} {mv : Value} {f : Int} {c : Nat} {w : World} (h : Wk W0 mv f c w) {b : Nat} (hb : W0.heap.size < b) (i : Nat) (v : Value) : Wk W0 mv f c (w.setCell ⟨b, i, none⟩ v) :=
  ⟨h.below.setCell (Nat.le_of_lt hb) _, (World.cell?_setCell_other _ _ _ _ (by intro e; injection e; omega)).trans h.vals, (World.cell?_setCell_other _ _ _ _ (by intro e; injection e; omega)).trans h.fuel, (World.cell?_setCell_other _ _ _ _ (by intro e; injection e; omega)).trans h.cost, (World.frozen?_setCell _ _ _ _).trans h.fr, by simpa using h.lt⟩
theorem Kp.drewN {W0 w w' : World} (h : Kp W0 w w') (n : Nat) : Kp W0 w (w'.drewN n) := ⟨h.os, h.tape, h.output, h.size, h.block⟩
theorem IsArr.kp {P : Nat → Prop} {W0 w w' : World} {v : Value} {a : Arr} (h : IsArr P w v a) (hP : ¬ P W0.heap.size) (hk : Kp W0 w w') : IsArr P w' v a :=
  h.keep hk.size (fun b hb hl => hk.block b hl (fun e => hP (by rw [← Option.some.inj e]; exact hb)))
theorem IsArr.set {P : Nat → Prop} {w : World} {v : Value} {a : Arr} (h : IsArr P w v a) {b : Nat} (hb : ¬ P b) (i : Nat) (u : Value) : IsArr P (w.setCell ⟨b, i, none⟩ u) v a :=
  h.keep (by simp) (fun c hc _ => RowKit.Below.heap_setCell _ _ _ _ (fun e => hb (by rw [← show c = b from e]; exact hc)))
def payP (fuel : Int) (r : Arr × Int) (p c : Nat) : Sum (Int × Nat) (Arr × Nat) :=
  if r.2 ≠ 0 then .inl (r.2, p) else if fuel < ((c + (1 + r.1.cells.length) : Nat) : Int) then .inl (10, p) else .inr (r.1, c + (1 + r.1.cells.length))
def Jim (ws : List Int) : Arr := if ws.length = 1 then ⟨[], ws⟩ else ⟨[ws.length], ws⟩
def Jt (env : ByteArray → Option Arr) (fuel : Int) (f1 : ByteArray → Arr → Arr × Int) (f2 : ByteArray → Arr → Arr → Arr × Int) : Ex → Nat → Sum (Int × Nat) (Arr × Nat)
  | .num ws, c => .inr (Jim ws, c)
  | .name t p, c => match env t with
    | none => .inl (4, p)
    | some a => .inr (a, c)
  | .one t p r, c => match Jt env fuel f1 f2 r c with
    | .inl e => .inl e
    | .inr x => payP fuel (f1 t x.1) p x.2
  | .two t p l r, c => match Jt env fuel f1 f2 r c with
    | .inl e => .inl e
    | .inr x => match Jt env fuel f1 f2 l x.2 with
      | .inl e => .inl e
      | .inr y => payP fuel (f2 t y.1 x.1) p y.2
def Gc (P : Nat → Prop) (W0 : World) (mv : Value) (fuel : Int) (w : World) (r : Sum (Int × Nat) (Arr × Nat)) (e : Ending) (w' : World) : Prop :=
  Kp W0 w w' ∧ match r with
  | .inl x => e = .returned (.tuple #[zArr, .agg #[.int .i64 x.1, .int .i64 x.2]]) ∧ x.1 ≠ 0 ∧ ∃ c, Wk W0 mv fuel c w'
  | .inr x => ∃ v, e = .returned (.tuple #[v, .agg #[.int .i64 0, .int .i64 0]]) ∧ IsArr P w' v x.1 ∧ Wk W0 mv fuel x.2 w' ∧ (x.2 : Int) ≤ fuel
theorem Jnd {P : Nat → Prop} {W0 w w' : World} {mv : Value} {fuel : Int} {k : Nat} {a : Arr} {v : Value} (h1 : Kp W0 w w') (h2 : Wk W0 mv fuel k w') (h3 : IsArr P w v a) (hP : ¬ P W0.heap.size) (hf : (k : Int) ≤ fuel) : Gc P W0 mv fuel w (.inr (a, k)) (.returned (.tuple #[v, .agg #[.int .i64 0, .int .i64 0]])) w' :=
  ⟨h1, v, rfl, h3.kp hP h1, h2, hf⟩
theorem Wk.four {W0 : World} {mv : Value} {f : Int} {c : Nat} {w : World} (h : Wk W0 mv f c w) {b : Nat} (hb : W0.heap.size < b) (v0 v1 v2 v3 : Value) : Wk W0 mv f c ((((w.setCell ⟨b, 0, none⟩ v0).setCell ⟨b, 1, none⟩ v1).setCell ⟨b + 1, 0, none⟩ v2).setCell ⟨b + 1, 1, none⟩ v3) :=
  (((h.other hb _ _).other hb _ _).other (by omega) _ _).other (by omega) _ _
theorem Kp.four {W0 w w' : World} (h : Kp W0 w w') {b : Nat} (hb : w.heap.size ≤ b) (v0 v1 v2 v3 : Value) : Kp W0 w ((((w'.setCell ⟨b, 0, none⟩ v0).setCell ⟨b, 1, none⟩ v1).setCell ⟨b + 1, 0, none⟩ v2).setCell ⟨b + 1, 1, none⟩ v3) :=
  (((h.new hb _ _).new hb _ _).new (by omega) _ _).new (by omega) _ _
set_option maxHeartbeats 600000 in
theorem J2 (w : World) (so : Option Addr) (sn sc : Nat) (co : Option Addr) (cn cc : Nat) :
    Calls Tryz.prog 76 #[.agg #[.slice so sn sc, .slice co cn cc]] w fun e w' => e = .returned (.int .i64 cn) ∧ w' = w.alloc (.cells #[.slice so sn sc, .slice co cn cc] 57) := by
  go_enter Tryz.func76, Tryz.ntmps76
  go_wp2
  go_ret
  exact ⟨rfl, rfl⟩
set_option maxHeartbeats 600000 in
theorem Jl9 (P : Nat → Prop) (W0 : World) (mv : Value) (fuel : Int) (c : Nat) (w : World) (hw : Wk W0 mv fuel c w) (so : Option Addr) (sn sc : Nat) (co : Option Addr) (cn cc : Nat) (er : Int) (p : Nat) (he : (er != 0) = true) :
    Calls Tryz.prog 48 #[.pointer (some ⟨W0.heap.size, 0, none⟩), .agg #[.slice so sn sc, .slice co cn cc], .int .i64 er, .int .i64 p] w (Gc P W0 mv fuel w (.inl (er, p))) := by
  have HW := hide hw
  have hlt := hw.lt
  have HE := hide (show er ≠ 0 by simpa using he)
  clear hw
  go_enter Tryz.func48, Tryz.ntmps48
  go_wp2_with fail
  refine bodyPost_ret (v := .tuple #[zArr, .agg #[.int .i64 er, .int .i64 p]]) (by simp [results, Tryz.results48, go_sem, zArr]) rfl ⟨?_, rfl, Ja HE, c, ?_⟩
  · exact (((Kp.refl W0 w).alloc _).alloc _).alloc _
  · exact (((Ja HW).alloc _).alloc _).alloc _
set_option maxHeartbeats 1000000 in
theorem Jjr (P : Nat → Prop) (W0 : World) (mv : Value) (fuel : Int) (c : Nat) (w : World) (hw : Wk W0 mv fuel c w) (so : Option Addr) (sn sc : Nat) (co : Option Addr) (cn cc : Nat) (p : Nat) (hc : c ≤ 1000) (hn : cn ≤ 200) (hf : fuel < ((c + (1 + cn) : Nat) : Int)) :
    Calls Tryz.prog 48 #[.pointer (some ⟨W0.heap.size, 0, none⟩), .agg #[.slice so sn sc, .slice co cn cc], .int .i64 0, .int .i64 p] w (Gc P W0 mv fuel w (.inl (10, p))) := by
  have HW := hide hw
  have hlt := hw.lt
  have c1 := hw.fuel
  have c2 := hw.cost
  have f2 := hw.fr
  have hne : W0.heap.size ≠ w.heap.size := by omega
  have hf' : fuel < (c : Int) + (1 + (cn : Int)) := by omega
  have hlt1 : W0.heap.size < w.heap.size + 1 := by omega
  have hlt2 : W0.heap.size < w.heap.size + 1 + 1 := by omega
  have hlt3 : W0.heap.size < w.heap.size + 1 + 1 + 1 := by omega
  obtain ⟨k, hk⟩ : ∃ k, c + (1 + cn) = k := ⟨_, rfl⟩
  clear hw hf
  go_enter Tryz.func48, Tryz.ntmps48
  go_wp2_with fail
  have HKK := hide hk
  clear hk
  go_region_with (first | (go_at_call 76; refine (J2 _ so sn sc co cn cc).mono ?_; rintro e w1 ⟨rfl, rfl⟩))
  all_goals
    rw [Nf hc hn]
    simp only [Ja HKK]
    have hfk : fuel < (k : Int) := by have := Ja HKK; omega
    have c1' : (w.setCell ⟨W0.heap.size, 2, none⟩ (.int .i64 (k : Int))).cell? ⟨W0.heap.size, 1, none⟩ = some (.int .i64 fuel) := (World.cell?_setCell_other _ _ _ _ (by simp)).trans c1
    have c2' : (w.setCell ⟨W0.heap.size, 2, none⟩ (.int .i64 (k : Int))).cell? ⟨W0.heap.size, 2, none⟩ = some (.int .i64 (k : Int)) := World.cell?_setCell_same _ _ _ c2
    go_wp2_with fail
    go_quiet (fail)
    go_wp2_with fail
    refine bodyPost_ret (v := .tuple #[zArr, .agg #[.int .i64 10, .int .i64 p]]) (by simp [results, Tryz.results48, go_sem, zArr]) rfl ?_
    exact ⟨((((((Kp.setReader W0 w 2 (.int .i64 (k : Int))).alloc _).alloc _).alloc _).alloc _).drewN _).four (by omega) _ _ _ _, rfl, (show (10 : Int) ≠ 0 by decide), k, (((((((Ja HW).paid k).alloc _).alloc _).alloc _).alloc _).drewN _).four (by omega) _ _ _ _⟩
set_option maxHeartbeats 1000000 in
theorem Jnn (P : Nat → Prop) (W0 : World) (mv : Value) (fuel : Int) (c : Nat) (w : World) (hw : Wk W0 mv fuel c w) (so : Option Addr) (sn sc : Nat) (co : Option Addr) (cn cc : Nat) (p : Nat) (hc : c ≤ 1000) (hn : cn ≤ 200) (hf : ((c + (1 + cn) : Nat) : Int) ≤ fuel) (a : Arr) (ha : IsArr P w (.agg #[.slice so sn sc, .slice co cn cc]) a) (hP : ¬ P W0.heap.size) :
    Calls Tryz.prog 48 #[.pointer (some ⟨W0.heap.size, 0, none⟩), .agg #[.slice so sn sc, .slice co cn cc], .int .i64 0, .int .i64 p] w (Gc P W0 mv fuel w (.inr (a, c + (1 + cn)))) := by
  have HW := hide hw
  have hlt := hw.lt
  have c1 := hw.fuel
  have c2 := hw.cost
  have f2 := hw.fr
  have hne : W0.heap.size ≠ w.heap.size := by omega
  have hf' : (c : Int) + (1 + (cn : Int)) ≤ fuel := by omega
  have HA := hide ha
  have hlt1 : W0.heap.size < w.heap.size + 1 := by omega
  have hlt2 : W0.heap.size < w.heap.size + 1 + 1 := by omega
  have hlt3 : W0.heap.size < w.heap.size + 1 + 1 + 1 := by omega
  obtain ⟨k, hk⟩ : ∃ k, c + (1 + cn) = k := ⟨_, rfl⟩
  clear hw hf ha
  go_enter Tryz.func48, Tryz.ntmps48
  go_wp2_with fail
  have HKK := hide hk
  clear hk
  go_region_with (first | (go_at_call 76; refine (J2 _ so sn sc co cn cc).mono ?_; rintro e w1 ⟨rfl, rfl⟩))
  all_goals
    rw [Nf hc hn]
    simp only [Ja HKK]
    have hfk : (k : Int) ≤ fuel := by have := Ja HKK; omega
    have c1' : (w.setCell ⟨W0.heap.size, 2, none⟩ (.int .i64 (k : Int))).cell? ⟨W0.heap.size, 1, none⟩ = some (.int .i64 fuel) := (World.cell?_setCell_other _ _ _ _ (by simp)).trans c1
    have c2' : (w.setCell ⟨W0.heap.size, 2, none⟩ (.int .i64 (k : Int))).cell? ⟨W0.heap.size, 2, none⟩ = some (.int .i64 (k : Int)) := World.cell?_setCell_same _ _ _ c2
    go_wp2_with fail
    go_quiet (fail)
    go_wp2_with fail
    refine bodyPost_ret (v := .tuple #[.agg #[.slice so sn sc, .slice co cn cc], .agg #[.int .i64 0, .int .i64 0]]) (by simp [results, Tryz.results48, go_sem]) rfl ?_
    rw [Ja HKK]
    exact Jnd (((((((Kp.setReader W0 w 2 (.int .i64 (k : Int))).alloc _).alloc _).alloc _).alloc _).drewN _).four (by omega) _ _ _ _) ((((((((Ja HW).paid k).alloc _).alloc _).alloc _).alloc _).drewN _).four (by omega) _ _ _ _) (Ja HA) hP hfk
theorem Jc {P : Nat → Prop} {w : World} {so : Option Addr} {sn sc : Nat} {co : Option Addr} {cn cc : Nat} {a : Arr} (h : IsArr P w (.agg #[.slice so sn sc, .slice co cn cc]) a) : cn = a.cells.length ∧ sn = a.shape.length := by
  obtain ⟨so', sn', sc', co', cn', cc', hv, ⟨_, _, h1, _⟩, ⟨_, _, h2, _⟩⟩ := h
  injection hv with hv
  simp at hv h1 h2
  exact ⟨by rw [hv.2.2.1]; exact h2.2.1, by rw [hv.1.2.1]; exact h1.2.1⟩
theorem Jgf (P : Nat → Prop) (W0 : World) (mv : Value) (fuel : Int) (c : Nat) (w : World) (hw : Wk W0 mv fuel c w) (v : Value) (r : Arr × Int) (p : Nat) (hc : (c : Int) ≤ fuel) (hfl : fuel ≤ 1000) (ha : IsArr P w v r.1) (hn : r.1.cells.length ≤ 200) (hP : ¬ P W0.heap.size) :
    Calls Tryz.prog 48 #[.pointer (some ⟨W0.heap.size, 0, none⟩), v, .int .i64 r.2, .int .i64 p] w (Gc P W0 mv fuel w (payP fuel r p c)) := by
  have ha' := ha
  obtain ⟨so, sn, sc, co, cn, cc, rfl, _, _⟩ := ha
  obtain ⟨hl, _⟩ := Jc ha'
  unfold payP
  by_cases he : r.2 = 0
  · rw [if_neg (by simpa using he), he]
    rw [← hl] at hn ⊢
    by_cases hf : fuel < ((c + (1 + cn) : Nat) : Int)
    · rw [if_pos hf]
      exact Jjr P W0 mv fuel c w hw so sn sc co cn cc p (by omega) hn hf
    · rw [if_neg hf]
      exact Jnn P W0 mv fuel c w hw so sn sc co cn cc p (by omega) hn (by omega) r.1 ha' hP
  · rw [if_pos he]
    exact Jl9 P W0 mv fuel c w hw so sn sc co cn cc r.2 p (by simpa using he)
end Go.Proofs.YtjobgpahajhbnabGreatDoor
namespace Go.Proofs.YtjobgpahajhbnabGreatDoor
open Go.RowKit
theorem Tryz.info3 : (Tryz.prog.info? 3).map (fun i => (i.zero, i.size, i.bytes)) = some (some (.int .i64 0), 1, 8) := by kernel_rfl
theorem Z0 {xs : List Int} {j : Nat} {u : Value} (h : (xs.map (Value.int .i64))[j]? = some u) : ∃ hj : j < xs.length, u = .int .i64 xs[j] := by
  rw [List.getElem?_map] at h
  cases hx : xs[j]? with
  | none => rw [hx] at h; cases h
  | some y =>
    rw [hx] at h
    obtain ⟨hj, rfl⟩ := List.getElem?_eq_some_iff.1 hx
    exact ⟨hj, (Option.some.inj h).symm⟩
theorem Jid (P : Nat → Prop) (w : World) (hP : ∀ b, w.heap.size ≤ b → P b) {Q : Nat → Prop} (v : Value) (xs : List Int) (h : Nums Q w v xs) (hx : xs.length ≤ 200) :
    Calls Tryz.prog 38 #[v] w fun e w' => ∃ so sn sc, e = .returned (.slice so sn sc) ∧ Nums P w' (.slice so sn sc) xs ∧ Below w.heap.size w w' := by
  obtain ⟨ao, cap, rfl, _, hcell, hspot⟩ := h
  by_cases h0 : 0 < xs.length
  · obtain ⟨b, off, rfl, _, _, hc⟩ := hcell h0
    obtain ⟨i0, hi, hz0, hz1, hz2⟩ := info_parts Tryz.info2
    refine (Tryz.slices_Clone_f80 i0 (.int .i64 0) 1 8 hi hz0 hz1 hz2 rfl (by decide) (fun w => by kernel_rfl) b off xs.length cap (xs.map (Value.int .i64)) w (by simp) (by unfold maxLen; omega) (by omega) ?_ ?_).mono ?_
    · intro j u hu
      obtain ⟨hj, rfl⟩ := Z0 hu
      exact hc j hj
    · intro u hu
      obtain ⟨y, _, rfl⟩ := List.mem_map.1 hu
      rfl
    · rintro e w' ⟨v', rfl, hown, _, hb⟩
      have hn := Js (P := P) hown hP
      obtain ⟨ao', cap', rfl, r⟩ := hn
      exact ⟨ao', xs.length, cap', rfl, ⟨ao', cap', rfl, r⟩, hb⟩
  · have hx0 : xs = [] := List.eq_nil_of_length_eq_zero (by omega)
    subst hx0
    cases ao with
    | none =>
      refine (Tryz.slices_Clone_nil_f80 0 cap w).mono ?_
      rintro e w' ⟨rfl, rfl⟩
      exact ⟨none, 0, 0, rfl, Jn P _, Below.refl _ _⟩
    | some a =>
      obtain ⟨b, off, spot⟩ := a
      have hsp : spot = none := hspot _ rfl
      subst hsp
      obtain ⟨i0, hi, hz0, hz1, hz2⟩ := info_parts Tryz.info2
      refine (Tryz.slices_Clone_f80 i0 (.int .i64 0) 1 8 hi hz0 hz1 hz2 rfl (by decide) (fun w => by kernel_rfl) b off 0 cap [] w (by simp) (by unfold maxLen; omega) (by omega) (fun j u hu => by simp at hu) (fun u hu => by simp at hu)).mono ?_
      rintro e w' ⟨v', rfl, hown, _, hb⟩
      have hn := Js (P := P) (xs := []) hown hP
      obtain ⟨ao', cap', rfl, r⟩ := hn
      exact ⟨ao', 0, cap', rfl, ⟨ao', cap', rfl, r⟩, hb⟩
theorem Jm8 (P : Nat → Prop) (w : World) (hP : ∀ b, w.heap.size ≤ b → P b) {Q : Nat → Prop} (v : Value) (xs : List Int) (h : Nums Q w v xs) (hx : xs.length ≤ 200) :
    Calls Tryz.prog 37 #[v] w fun e w' => ∃ so sn sc, e = .returned (.slice so sn sc) ∧ Nums P w' (.slice so sn sc) xs ∧ Below w.heap.size w w' := by
  obtain ⟨ao, cap, rfl, _, hcell, hspot⟩ := h
  by_cases h0 : 0 < xs.length
  · obtain ⟨b, off, rfl, _, _, hc⟩ := hcell h0
    obtain ⟨i0, hi, hz0, hz1, hz2⟩ := info_parts Tryz.info3
    refine (Tryz.slices_Clone_f79 i0 (.int .i64 0) 1 8 hi hz0 hz1 hz2 rfl (by decide) (fun w => by kernel_rfl) b off xs.length cap (xs.map (Value.int .i64)) w (by simp) (by unfold maxLen; omega) (by omega) ?_ ?_).mono ?_
    · intro j u hu
      obtain ⟨hj, rfl⟩ := Z0 hu
      exact hc j hj
    · intro u hu
      obtain ⟨y, _, rfl⟩ := List.mem_map.1 hu
      rfl
    · rintro e w' ⟨v', rfl, hown, _, hb⟩
      have hn := Js (P := P) hown hP
      obtain ⟨ao', cap', rfl, r⟩ := hn
      exact ⟨ao', xs.length, cap', rfl, ⟨ao', cap', rfl, r⟩, hb⟩
  · have hx0 : xs = [] := List.eq_nil_of_length_eq_zero (by omega)
    subst hx0
    cases ao with
    | none =>
      refine (Tryz.slices_Clone_nil_f79 0 cap w).mono ?_
      rintro e w' ⟨rfl, rfl⟩
      exact ⟨none, 0, 0, rfl, Jn P _, Below.refl _ _⟩
    | some a =>
      obtain ⟨b, off, spot⟩ := a
      have hsp : spot = none := hspot _ rfl
      subst hsp
      obtain ⟨i0, hi, hz0, hz1, hz2⟩ := info_parts Tryz.info3
      refine (Tryz.slices_Clone_f79 i0 (.int .i64 0) 1 8 hi hz0 hz1 hz2 rfl (by decide) (fun w => by kernel_rfl) b off 0 cap [] w (by simp) (by unfold maxLen; omega) (by omega) (fun j u hu => by simp at hu) (fun u hu => by simp at hu)).mono ?_
      rintro e w' ⟨v', rfl, hown, _, hb⟩
      have hn := Js (P := P) (xs := []) hown hP
      obtain ⟨ao', cap', rfl, r⟩ := hn
      exact ⟨ao', 0, cap', rfl, ⟨ao', cap', rfl, r⟩, hb⟩
theorem Fw {P : Nat → Prop} {w : World} {x : Int} {b : Nat} {e : TypeId} (hb : w.heap.size = b) (hP : P b) : Nums P (w.alloc (.cells #[.int .i64 x] e)) (.slice (some ⟨b, 0, none⟩) 1 1) [x] := by
  subst hb
  refine ⟨some ⟨w.heap.size, 0, none⟩, 1, rfl, Nat.le_refl _, fun _ => ⟨w.heap.size, 0, rfl, hP, by simp, fun i hi => ?_⟩, fun a h => by cases h; rfl⟩
  simp at hi
  subst hi
  simp
set_option maxHeartbeats 600000 in
theorem Ve (P : Nat → Prop) (w : World) (hP : ∀ b, w.heap.size ≤ b → P b) (x : Int) :
    Calls Tryz.prog 70 #[.int .i64 x] w fun e w' => ∃ co cn cc, e = .returned (.agg #[.slice none 0 0, .slice co cn cc]) ∧ IsArr P w' (.agg #[.slice none 0 0, .slice co cn cc]) ⟨[], [x]⟩ ∧ Below w.heap.size w w' := by
  go_enter Tryz.func70, Tryz.ntmps70
  go_wp2_with fail
  refine bodyPost_ret (v := .agg #[.slice none 0 0, .slice (some ⟨w.heap.size + 1, 0, none⟩) 1 1]) (by simp [results, Tryz.results70, go_sem]) rfl ⟨_, _, _, rfl, ⟨_, _, _, _, _, _, rfl, Jn _ _, Fw (by simp) (hP _ (by omega))⟩, ?_⟩
  exact ((Below.refl _ _).alloc (Nat.le_refl _) _).alloc (by simp) _
set_option maxHeartbeats 600000 in
theorem Zp (P : Nat → Prop) (w : World) (hP : ∀ b, w.heap.size ≤ b → P b) (v : Value) (xs : List Int) (h : Nums P w v xs) :
    Calls Tryz.prog 71 #[v] w fun e w' => ∃ so sn sc co cn cc, e = .returned (.agg #[.slice so sn sc, .slice co cn cc]) ∧ IsArr P w' (.agg #[.slice so sn sc, .slice co cn cc]) ⟨[xs.length], xs⟩ ∧ Below w.heap.size w w' := by
  have h' := h
  obtain ⟨ao, cap, rfl, _, _⟩ := h
  have H := hide h'
  clear h'
  go_enter Tryz.func71, Tryz.ntmps71
  go_wp2_with fail
  refine bodyPost_ret (v := .agg #[.slice (some ⟨w.heap.size + 1, 0, none⟩) 1 1, .slice ao xs.length cap]) (by simp [results, Tryz.results71, go_sem]) rfl ⟨_, _, _, _, _, _, rfl, ⟨_, _, _, _, _, _, rfl, Fw (by simp) (hP _ (by omega)), ?_⟩, ?_⟩
  · exact (Ja H).below (((Below.refl _ _).alloc (Nat.le_refl _) _).alloc (by simp) _)
  · exact ((Below.refl _ _).alloc (Nat.le_refl _) _).alloc (by simp) _
theorem Jgy {B : Nat} {P : Nat → Prop} {w : World} {v : Value} {ws : List Int} (h : IntsIn B w v ws) (hl : ∀ b, B < b → b < w.heap.size → P b) : Nums P w v ws := by
  obtain ⟨b, cap, rfl, hcap, h1, h2, hc⟩ := h
  exact ⟨some ⟨b, 0, none⟩, cap, rfl, hcap, fun _ => ⟨b, 0, rfl, hl b h1 h2, h2, fun i hi => by rw [Nat.zero_add]; exact hc i hi⟩, fun a h => by cases h; rfl⟩
set_option maxHeartbeats 600000 in
theorem Jnp (P : Nat → Prop) (w : World) (hP : ∀ b, w.heap.size ≤ b → P b) (b off cap : Nat) (x : Int) (hc : w.cell? ⟨b, off, none⟩ = some (.int .i64 x)) (hb : b < w.heap.size) :
    Calls Tryz.prog 45 #[.slice (some ⟨b, off, none⟩) 1 cap] w fun e w' => ∃ so sn sc co cn cc, e = .returned (.agg #[.slice so sn sc, .slice co cn cc]) ∧ IsArr P w' (.agg #[.slice so sn sc, .slice co cn cc]) ⟨[], [x]⟩ ∧ Below w.heap.size w w' := by
  have HP : Hid (∀ b, w.heap.size ≤ b → P b) := hP
  clear hP
  have hc2 : (w.alloc (.cells #[.slice none 0 0, .slice none 0 0] 57)).cell? ⟨b, off, none⟩ = some (.int .i64 x) := by rw [World.cell?_alloc_lt _ _ _ hb]; exact hc
  go_enter Tryz.func45, Tryz.ntmps45
  go_wp2_with fail
  refine (Ve (fun b => P b ∧ b ≠ w.heap.size) _ (fun b h => ⟨Ja HP b (by simp at h; omega), by simp at h; omega⟩) x).mono ?_
  rintro e w1 ⟨co, cn, cc, rfl, ha, hb1⟩
  have HA := hide ha
  obtain ⟨hcc, hff⟩ := Jr hb1
  have d0 := hcc w.heap.size 0 (by simp)
  have d1 := hcc w.heap.size 1 (by simp)
  have g0 := hff w.heap.size 0 (by simp)
  have g1 := hff w.heap.size 1 (by simp)
  simp at d0 d1 g0 g1
  have HB := hide hb1
  clear ha hb1 hcc hff hc
  go_wp2_with fail
  refine bodyPost_ret (v := .agg #[.slice none 0 0, .slice co cn cc]) (by simp [results, Tryz.results45, go_sem, d0, d1]) rfl ⟨_, _, _, _, _, _, rfl, ?_, ?_⟩
  · exact (((Ja HA).set (fun h => h.2 rfl) 0 _).set (fun h => h.2 rfl) 1 _).imp (fun b h _ => h.1)
  · exact ((((Below.refl _ _).alloc (Nat.le_refl _) _).trans ((Ja HB).mono (by simp))).setCell (Nat.le_refl _) _).setCell (Nat.le_refl _) _
set_option maxHeartbeats 600000 in
theorem Jmb (P : Nat → Prop) (w : World) (hP : ∀ b, w.heap.size ≤ b → P b) (ao : Option Addr) (cap : Nat) (xs : List Int) {Q : Nat → Prop} (hx : Nums Q w (.slice ao xs.length cap) xs) (h1 : ¬ xs.length = 1) (hl : xs.length ≤ 200) :
    Calls Tryz.prog 45 #[.slice ao xs.length cap] w fun e w' => ∃ so sn sc co cn cc, e = .returned (.agg #[.slice so sn sc, .slice co cn cc]) ∧ IsArr P w' (.agg #[.slice so sn sc, .slice co cn cc]) ⟨[xs.length], xs⟩ ∧ Below w.heap.size w w' := by
  have HP : Hid (∀ b, w.heap.size ≤ b → P b) := hP
  have HX := hide hx
  have h1' : ((xs.length : Int) == 1) = false := beq_eq_false_iff_ne.2 (by omega)
  clear hP hx
  go_enter Tryz.func45, Tryz.ntmps45
  go_wp2_with fail
  refine (Jid (fun b => P b ∧ b ≠ w.heap.size) _ (fun b h => ⟨Ja HP b (by simp at h; omega), by simp at h; omega⟩) _ xs ((Ja HX).below ((Below.refl _ _).alloc (Nat.le_refl _) _)) hl).mono ?_
  rintro e w1 ⟨so, sn, sc, rfl, hn, hb1⟩
  have HN := hide hn
  have HB := hide hb1
  have hs1 := hb1.size
  simp at hs1
  clear hn hb1
  go_wp2_with fail
  refine (Zp (fun b => P b ∧ b ≠ w.heap.size) _ (fun b h => ⟨Ja HP b (by omega), by omega⟩) _ xs (Ja HN)).mono ?_
  rintro e w2 ⟨so2, sn2, sc2, co2, cn2, cc2, rfl, ha, hb2⟩
  have HA := hide ha
  have hb3 := Yw (Ja HB) hb2
  obtain ⟨hcc, hff⟩ := Jr hb3
  have d0 := hcc w.heap.size 0 (by simp)
  have d1 := hcc w.heap.size 1 (by simp)
  have g0 := hff w.heap.size 0 (by simp)
  have g1 := hff w.heap.size 1 (by simp)
  simp at d0 d1 g0 g1
  have HB3 := hide hb3
  clear ha hb2 hb3 hcc hff
  go_wp2_with fail
  refine bodyPost_ret (v := .agg #[.slice so2 sn2 sc2, .slice co2 cn2 cc2]) (by simp [results, Tryz.results45, go_sem, d0, d1]) rfl ⟨_, _, _, _, _, _, rfl, ?_, ?_⟩
  · exact (((Ja HA).set (fun h => h.2 rfl) 0 _).set (fun h => h.2 rfl) 1 _).imp (fun b h _ => h.1)
  · exact ((((Below.refl _ _).alloc (Nat.le_refl _) _).trans ((Ja HB3).mono (by simp))).setCell (Nat.le_refl _) _).setCell (Nat.le_refl _) _
theorem Jnq (P : Nat → Prop) (w : World) (hP : ∀ b, w.heap.size ≤ b → P b) (v : Value) (ws : List Int) {Q : Nat → Prop} (h : Nums Q w v ws) (h0 : 0 < ws.length) (hl : ws.length ≤ 200) :
    Calls Tryz.prog 45 #[v] w fun e w' => ∃ so sn sc co cn cc, e = .returned (.agg #[.slice so sn sc, .slice co cn cc]) ∧ IsArr P w' (.agg #[.slice so sn sc, .slice co cn cc]) (Jim ws) ∧ Below w.heap.size w w' := by
  have h' := h
  obtain ⟨ao, cap, rfl, hcap, hc, hsp⟩ := h
  unfold Jim
  by_cases h1 : ws.length = 1
  · rw [if_pos h1]
    obtain ⟨b, off, rfl, _, hb, hcell⟩ := hc h0
    match ws, h1 with
    | [x], _ =>
      exact Jnp P w hP b off cap x (hcell 0 (by simp)) hb
  · rw [if_neg h1]
    exact Jmb P w hP ao cap ws h' h1 hl
end Go.Proofs.YtjobgpahajhbnabGreatDoor
namespace Go.Proofs.YtjobgpahajhbnabGreatDoor
open Go.RowKit Go.Proofs
theorem Tryz.size2 : (Tryz.prog.info? 2).map (·.size) = some 1 := by kernel_rfl
theorem Jd5 {w : World} {B g n : Nat} {e : TypeId} {xs : List Value} (h : w.ownsRow B e 1 (.slice (some ⟨g, 0, none⟩) n n) n xs) : ∃ cur : List Value, w.heap[g]? = some (.cells cur.toArray e (0, 0)) ∧ cur.length = n := by
  obtain ⟨_, ⟨h, _⟩ | ⟨g', cap, cur, hv, hg, hc, hn, hm, hz, ht⟩⟩ := h
  · cases h
  · injection hv with h1 h2 h3
    injection h1 with h1
    injection h1 with h1
    subst h1 h3
    exact ⟨cur.toList, by simpa using hc, by simpa using hz⟩
theorem Fj {w : World} {g i : Nat} {e : TypeId} {cur : List Value} {u : Value} (h : w.heap[g]? = some (.cells cur.toArray e (0, 0))) (hu : cur[i]? = some u) : w.cell? ⟨g, i, none⟩ = some u := by
  unfold World.cell?
  rw [h]
  simp
  simpa using hu
def Gd (cur : List Value) (m : Nat) (v : Value) : Prop := ∀ i, i < m → cur[i]? = some v
theorem Vt {cur : List Value} {m k : Nat} {v : Value} (h : Gd cur m v) (hl : m + k ≤ cur.length) : Gd (splice cur m (List.replicate k v)) (m + k) v := by
  intro i hi
  unfold splice
  by_cases h1 : i < m
  · rw [List.getElem?_append_left (by simp; omega), List.getElem?_take, if_pos h1]
    exact h i h1
  · rw [List.getElem?_append_right (by simp; omega), List.length_take, Nat.min_eq_left (by omega), List.getElem?_append_left (by simp; omega), List.getElem?_replicate, if_pos (by omega)]
theorem Jd6 {P : Nat → Prop} {w : World} {g n : Nat} {e : TypeId} {cur : List Value} {x : Int} (h : w.heap[g]? = some (.cells cur.toArray e (0, 0))) (hf : Gd cur n (.int .i64 x)) (hP : P g) : Nums P w (.slice (some ⟨g, 0, none⟩) n n) (List.replicate n x) := by
  refine ⟨some ⟨g, 0, none⟩, n, by simp, by simp, fun _ => ⟨g, 0, rfl, hP, (Array.getElem?_eq_some_iff.1 h).1, fun i hi => ?_⟩, fun a h => by cases h; rfl⟩
  rw [Nat.zero_add]
  simp at hi ⊢
  exact Fj h (hf i hi)
theorem Jod {cs : List Value} {m n k : Nat} (h : cs.length = k) (h2 : Nat.min m (n - m) = k) : cs.length = Nat.min m (n - m) := by rw [h, h2]
theorem Jm5 {w : World} {g m k : Nat} {e : TypeId} {cu cs : List Value} {x : Int} (hg : w.heap[g]? = some (.cells cu.toArray e (0, 0))) (hf : Gd cu m (.int .i64 x)) (hcs : List.replicate k (Value.int .i64 x) = cs) (hk : k ≤ m) : ∀ j v, cs[j]? = some v → w.drew.cell? ((⟨g, 0, none⟩ : Addr).add j) = some v := by
  intro j v hv
  rw [← hcs, List.getElem?_replicate] at hv
  split at hv
  · rw [← Option.some.inj hv]
    have e : (⟨g, 0, none⟩ : Addr).add j = ⟨g, j, none⟩ := by cases j <;> simp [Addr.add]
    rw [e]
    exact Fj hg (hf j (by omega))
  · cases hv
theorem Jlq {cs cu : List Value} {m n k : Nat} (h : cs.length = k) (h2 : cu.length = n) (h3 : m + k ≤ n) : m + cs.length ≤ cu.length := by omega
theorem Jlp {cs : List Value} {k : Nat} {x : Int} (hcs : List.replicate k (Value.int .i64 x) = cs) : ∀ v ∈ cs, v.oneCell' = true := by
  intro v hv
  rw [← hcs] at hv
  rw [(List.mem_replicate.1 hv).2]
  rfl
theorem F6 {w w1 : World} {g off dLen dCap : Nat} {ad : Addr} {sLen sCap : Nat} {cur cs : List Value} (hg : w1.heap[g]? = some (.cells cur.toArray 2 (0, 0))) (hn : cs.length = Nat.min sLen dLen) (hsrc : ∀ j v, cs[j]? = some v → w1.cell? (ad.add j) = some v) (hfit : off + cs.length ≤ cur.length) (h1 : ∀ v ∈ cs, v.oneCell' = true) (hb : Below w.heap.size w w1) (hBg : w.heap.size ≤ g) :
    ∃ w2, (Builtin.copy_ #[32, 32] 3 #[.slice (some ⟨g, off, none⟩) dLen dCap, .slice (some ad) sLen sCap]).run Tryz.prog w1 = .ok (.int .i64 (cs.length : Int)) w2 ∧ w2.heap[g]? = some (.cells (splice cur off cs).toArray 2 (0, 0)) ∧ Below w.heap.size w w2 := by
  have hrun := run_copy_row (P := Tryz.prog) w1 32 32 3 2 g off dLen dCap ad sLen sCap cur.toArray 2 cs Tryz.underlying32 Tryz.size2 hg hn hsrc (by simpa using hfit) h1
  exact ⟨_, hrun, (show _ = _ by simpa [splice] using setRow_heap w1 g _ _ 2 _ hg), below_setRow hb hBg _⟩
set_option maxHeartbeats 2000000 in
set_option maxRecDepth 10000 in
theorem Vg (P : Nat → Prop) (w : World) (hP : ∀ b, w.heap.size ≤ b → P b) (xb xo xc : Nat) (x : Int) (n : Nat) (hn : n ≤ 200) (hx : w.cell? ⟨xb, xo, none⟩ = some (.int .i64 x)) (hxb : xb < w.heap.size) :
    Calls Tryz.prog 147 #[.slice (some ⟨xb, xo, none⟩) 1 xc, .int .i64 n] w fun e w' => ∃ g, e = .returned (.slice (some ⟨g, 0, none⟩) n n) ∧ Nums P w' (.slice (some ⟨g, 0, none⟩) n n) (List.replicate n x) ∧ Below w.heap.size w w' := by
  obtain ⟨i0, hi, hz0, hz1, hz2⟩ := info_parts Tryz.info2
  have HI := hide hi
  have HZ0 := hide hz0
  have HZ1 := hide hz1
  have HZ2 := hide hz2
  have HP : Hid (∀ b, w.heap.size ≤ b → P b) := hP
  have HX := hide hx
  have HXB := hide hxb
  have hmul := Tryz.bits_Mul 1 n (by omega) (by omega) w
  rw [show (1 * n / 18446744073709551616 : Nat) = 0 by omega, show (1 * n % 18446744073709551616 : Nat) = n by omega] at hmul
  have HM := hide hmul
  clear hi hz0 hz1 hz2 hP hmul hx hxb
  go_enter Tryz.func147, Tryz.ntmps147
  go_wp2_with (first | (go_at_call 197; refine (Ja HM).mono ?_; rintro e w' ⟨rfl, hw'⟩; have hw2 := hw'.symm; subst hw2; clear hw') | (at_make; refine wpList_make_full _ rfl _ _ 32 rfl w.heap.size 2 i0 (.int .i64 0) 1 Tryz.underlying32 (Ja HI) (Ja HZ0) (Ja HZ1) .i64 .i64 _ _ n rfl rfl ?_ ?_ (by rw [Ja HZ2]; omega) (by unfold maxLen; omega) (Nat.le_refl _) ?_))
  · rfl
  · rfl
  intro w1 hown hgrow
  obtain ⟨cur, hg, hlen⟩ := Jd5 hown
  have hb1 : Below w.heap.size w w1 := (Below.refl _ _).grown hgrow (Nat.le_refl _) (fun k hk => by cases hk)
  have x1 := (hb1.cell (p := ⟨xb, xo, none⟩) (Ja HXB)).trans (Ja HX)
  have HG := hide hg
  have HB1 := hide hb1
  have HX1 := hide x1
  have HL := hide hlen
  clear hown hgrow hg hb1 x1 hlen
  obtain ⟨k, hk⟩ : ∃ k, Nat.min 1 n = k := ⟨_, rfl⟩
  have hkn : k ≤ n := by rw [← hk]; exact Nat.min_le_right _ _
  have hk1 : k ≤ 1 := by rw [← hk]; exact Nat.min_le_left _ _
  have hk0 : 0 < n → 0 < k := by intro h; rw [← hk]; exact Nat.lt_min.2 ⟨by omega, h⟩
  obtain ⟨cs, hcs⟩ : ∃ cs, List.replicate k (Value.int .i64 x) = cs := ⟨_, rfl⟩
  have hcl : cs.length = k := by rw [← hcs]; simp
  have HK := hide hk
  have HCS := hide hcs
  have HCL := hide hcl
  have HK0 := hide hk0
  clear hk hcs hcl hk0
  obtain ⟨w2, hrun, hg2, hb2⟩ := F6 (w := w) (w1 := w1) (g := w.heap.size) (off := 0) (dLen := n) (dCap := n) (ad := ⟨xb, xo, none⟩) (sLen := 1) (sCap := xc) (cur := cur) (cs := cs) (Ja HG) (by rw [Ja HCL, ← Ja HK]) (by
    intro j v hv
    rw [← Ja HCS, List.getElem?_replicate] at hv
    split at hv
    · have : j = 0 := by omega
      subst this
      rw [← Option.some.inj hv]
      exact Ja HX1
    · cases hv) (by rw [Ja HCL, Ja HL]; omega) (Jlp (Ja HCS)) (Ja HB1) (Nat.le_refl _)
  rw [Ja HCL] at hrun
  have hg2 := hide hg2
  have HF : Hid (Gd (splice cur 0 cs) k (.int .i64 x)) := hide (by
    rw [← Ja HCS]
    have := Vt (cur := cur) (m := 0) (k := k) (v := .int .i64 x) (fun i h => by omega) (by rw [Ja HL]; omega)
    rwa [Nat.zero_add] at this)
  have HLS : Hid ((splice cur 0 cs).length = n) := hide (by rw [length_splice _ _ _ (by rw [Ja HCL, Ja HL]; omega)]; exact Ja HL)
  have HB2 := hide hb2
  clear hb2
  go_wp2_with fail
  go_loopw [8] (fun v8 wr => ∃ (m : Nat) (cu : List Value), v8 = .int .i64 m ∧ m ≤ n ∧ (0 < n → 0 < m) ∧ wr.heap[w.heap.size]? = some (.cells cu.toArray 2 (0, 0)) ∧ cu.length = n ∧ Gd cu m (.int .i64 x) ∧ Below w.heap.size w wr) (fun v8 _ => n - (intOf v8).toNat)
  case atStart => exact ⟨k, _, rfl, hkn, Ja HK0, Ja hg2, Ja HLS, Ja HF, Ja HB2⟩
  case round =>
    obtain ⟨m, cu, rfl, hmn, hm0, hgr, hlr, hfr, hbr⟩ := hrel
    have HGr := hide hgr
    have HLr := hide hlr
    have HFr := hide hfr
    have HBr := hide hbr
    clear hgr hlr hfr hbr
    by_cases hlt : m < n
    · have hm1 : 0 < m := hm0 (by omega)
      clear hm0
      obtain ⟨k2, hk2⟩ : ∃ k2, Nat.min m (n - m) = k2 := ⟨_, rfl⟩
      have hk2m : k2 ≤ m := by rw [← hk2]; exact Nat.min_le_left _ _
      have hk2n : m + k2 ≤ n := by have : k2 ≤ n - m := (by rw [← hk2]; exact Nat.min_le_right _ _); omega
      have hk20 : 0 < k2 := by rw [← hk2]; exact Nat.lt_min.2 ⟨hm1, by omega⟩
      obtain ⟨cs2, hcs2⟩ : ∃ cs, List.replicate k2 (Value.int .i64 x) = cs := ⟨_, rfl⟩
      have hcl2 : cs2.length = k2 := by rw [← hcs2]; simp
      have HK2 := hide hk2
      have HCS2 := hide hcs2
      have HCL2 := hide hcl2
      have hi0 : (0 : Int) ≤ (m : Int) := by omega
      have hi1 : (m : Int) ≤ (n : Int) := by omega
      have hi2 : (m : Int) < (n : Int) := by omega
      clear hk2 hcs2 hcl2
      have hnm : ¬ n = m := by omega
      obtain ⟨w4, hrun4, hg4, hb4⟩ := F6 (w := w) (w1 := wr.drew) (g := w.heap.size) (off := m) (dLen := n - m) (dCap := n - m) (ad := ⟨w.heap.size, 0, none⟩) (sLen := m) (sCap := n) (cur := cu) (cs := cs2) (Ja HGr) (Jod (Ja HCL2) (Ja HK2)) (Jm5 (Ja HGr) (Ja HFr) (Ja HCS2) hk2m) (Jlq (Ja HCL2) (Ja HLr) hk2n) (Jlp (Ja HCS2)) (Ja HBr).drew (Nat.le_refl _)
      rw [Ja HCL2] at hrun4
      have HG4 := hide hg4
      have HB4 := hide hb4
      have HF4 : Hid (Gd (splice cu m cs2) (m + k2) (.int .i64 x)) := hide (by rw [← Ja HCS2]; exact Vt (Ja HFr) (by rw [Ja HLr]; exact hk2n))
      have HL4 : Hid ((splice cu m cs2).length = n) := hide (by rw [length_splice _ _ _ (Jlq (Ja HCL2) (Ja HLr) hk2n)]; exact Ja HLr)
      clear hg4 hb4
      go_wp2_with fail
      go_region
      all_goals
        go_wp2_with fail
        go_roundw
        case rel => exact ⟨m + k2, _, by go_num, hk2n, fun _ => by omega, Ja HG4, Ja HL4, Ja HF4, Ja HB4⟩
        case measure => simp [intOf]; omega
    · have hmn' : m = n := by omega
      subst hmn'
      go_wp2_with fail
      go_ret
      exact ⟨w.heap.size, rfl, Jd6 (Ja HGr) (Ja HFr) (Ja HP _ (Nat.le_refl _)), Ja HBr⟩
end Go.Proofs.YtjobgpahajhbnabGreatDoor
