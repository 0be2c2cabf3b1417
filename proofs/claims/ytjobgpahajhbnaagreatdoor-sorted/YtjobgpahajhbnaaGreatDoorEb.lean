import Derived.Test.YtjobgpahajhbnaaGreatDoorEa
import Derived.Deep.DrawnRows
import Derived.Maps.OwnSet
import Derived.Laws.EntriesVeiled
import Derived.Test.YtjobgpahajhbnaaGreatDoorSi
import Derived.Deep.RegionHeld3
namespace Go.Proofs.YtjobgpahajhbnaaGreatDoor
open Go.RowKit
attribute [local go_sem ↓] Go.wp_at_zero Go.wp_at_succ

/-- what a look into the desk's values says, in every world that holds what W0 holds -/
def Look (P : Nat → Prop) (W0 : World) (mv : Value) (env : ByteArray → Option Arr) : Prop :=
  ∀ t : ByteArray, t.size ≤ 200 → ∃ v, (∀ w, Below W0.heap.size W0 w → (Instr.lookup 87 mv (.string t) true).run Tryz.prog w = .ok (.tuple #[v, .bool (env t).isSome]) w) ∧
    match env t with
    | none => v = zArr
    | some a => IsArr P W0 v a

set_option maxHeartbeats 1000000 in
theorem value_no (P : Nat → Prop) (W0 : World) (mv : Value) (fuel : Int) (c : Nat) (w : World) (hw : Wk W0 mv fuel c w) (k r x : Int) (t : ByteArray) (p : Nat)
    (hl : ∀ w, Below W0.heap.size W0 w → (Instr.lookup 87 mv (.string t) true).run Tryz.prog w = .ok (.tuple #[zArr, .bool false]) w) :
    Calls Tryz.prog 108 #[.pointer (some ⟨W0.heap.size, 0, none⟩), .agg #[.int .i64 k, .int .i64 r, .int .i64 x, .string t, .int .i64 p]] w (WLeft P W0 mv fuel w (.inl (4, p))) := by
  have HW := hide hw
  have hlt := hw.lt
  have c0 := hw.vals
  have HL := hide hl
  have hne : W0.heap.size ≠ w.heap.size := by omega
  have hlt1 : W0.heap.size < w.heap.size + 1 := by omega
  have hlt2 : W0.heap.size < w.heap.size + 1 + 1 := by omega
  have hlt3 : W0.heap.size < w.heap.size + 1 + 1 + 1 := by omega
  unfold zArr at HL
  clear hw hl
  have HS : Hid (∀ w', Below (((w.alloc (.cells #[.int .i64 k, .int .i64 r, .int .i64 x, .string t, .int .i64 p] 155)).alloc (.cells #[.slice none 0 0, .slice none 0 0] 89)).alloc (.cells #[.int .i64 0, .int .i64 0] 117)).heap.size (((w.alloc (.cells #[.int .i64 k, .int .i64 r, .int .i64 x, .string t, .int .i64 p] 155)).alloc (.cells #[.slice none 0 0, .slice none 0 0] 89)).alloc (.cells #[.int .i64 0, .int .i64 0] 117)) w' → w'.cell? ⟨W0.heap.size, 0, none⟩ = some mv ∧ w'.cell? ⟨w.heap.size, 3, none⟩ = some (.string t) ∧ w'.cell? ⟨w.heap.size, 4, none⟩ = some (.int .i64 p) ∧ (Instr.lookup 87 mv (.string t) true).run Tryz.prog w' = .ok (.tuple #[.agg #[.slice none 0 0, .slice none 0 0], .bool false]) w') := by
    intro w' hb
    have h3 := (((unhide HW).alloc (.cells #[.int .i64 k, .int .i64 r, .int .i64 x, .string t, .int .i64 p] 155)).alloc (.cells #[.slice none 0 0, .slice none 0 0] 89)).alloc (.cells #[.int .i64 0, .int .i64 0] 117)
    have hq := ((Below.refl (w.heap.size + 1) (w.alloc (.cells #[.int .i64 k, .int .i64 r, .int .i64 x, .string t, .int .i64 p] 155))).alloc (by simp) (.cells #[.slice none 0 0, .slice none 0 0] 89)).alloc (by simp) (.cells #[.int .i64 0, .int .i64 0] 117)
    refine ⟨(h3.keep hb).vals, ?_, ?_, unhide HL _ (h3.keep hb).below⟩
    · exact (hb.cell (p := ⟨w.heap.size, 3, none⟩) (by simp; omega)).trans ((hq.cell (p := ⟨w.heap.size, 3, none⟩) (by simp)).trans (by simp))
    · exact (hb.cell (p := ⟨w.heap.size, 4, none⟩) (by simp; omega)).trans ((hq.cell (p := ⟨w.heap.size, 4, none⟩) (by simp)).trans (by simp))
  go_enter Tryz.func108, Tryz.ntmps108
  go_wp2_with fail
  go_region_held3 (fun w' => w'.cell? ⟨W0.heap.size, 0, none⟩ = some mv ∧ w'.cell? ⟨w.heap.size, 3, none⟩ = some (.string t) ∧ w'.cell? ⟨w.heap.size, 4, none⟩ = some (.int .i64 p) ∧ (Instr.lookup 87 mv (.string t) true).run Tryz.prog w' = .ok (.tuple #[.agg #[.slice none 0 0, .slice none 0 0], .bool false]) w')
    (first | exact unhide HS _ (Below.refl _ _).drew | exact unhide HS _ ((Below.refl _ _).alloc (Nat.le_refl _) _).drew)
    (fail)
  all_goals
    have hS := unhide HS _ ((Below.refl _ _).alloc (Nat.le_refl _) (.cells #[.slice none 0 0, .slice none 0 0] 89)).drew
    obtain ⟨_, _, s4, _⟩ := hS
    go_wp2_with fail
    go_region
    all_goals
      go_wp2_with fail
      refine bodyPost_ret (v := .tuple #[zArr, .agg #[.int .i64 4, .int .i64 p]]) (by simp [results, Tryz.results108, go_sem, zArr]) rfl ?_
      exact ⟨(((((Kp.refl W0 w).alloc _).alloc _).alloc _).alloc _).drew.drew, rfl, (show (4 : Int) ≠ 0 by decide), c, (((((unhide HW).alloc _).alloc _).alloc _).alloc _).drew.drew⟩
set_option maxHeartbeats 1000000 in
theorem value_yes (P : Nat → Prop) (W0 : World) (mv : Value) (fuel : Int) (c : Nat) (w : World) (hw : Wk W0 mv fuel c w) (k r x : Int) (t : ByteArray) (p : Nat)
    (so : Option Addr) (sn sc : Nat) (co : Option Addr) (cn cc : Nat) (a : Arr) (ha : IsArr P w (.agg #[.slice so sn sc, .slice co cn cc]) a) (hP : ¬ P W0.heap.size) (hc : (c : Int) ≤ fuel)
    (hl : ∀ w, Below W0.heap.size W0 w → (Instr.lookup 87 mv (.string t) true).run Tryz.prog w = .ok (.tuple #[.agg #[.slice so sn sc, .slice co cn cc], .bool true]) w) :
    Calls Tryz.prog 108 #[.pointer (some ⟨W0.heap.size, 0, none⟩), .agg #[.int .i64 k, .int .i64 r, .int .i64 x, .string t, .int .i64 p]] w (WLeft P W0 mv fuel w (.inr (a, c))) := by
  have HW := hide hw
  have hlt := hw.lt
  have c0 := hw.vals
  have HL := hide hl
  have hne : W0.heap.size ≠ w.heap.size := by omega
  have hlt1 : W0.heap.size < w.heap.size + 1 := by omega
  have hlt2 : W0.heap.size < w.heap.size + 1 + 1 := by omega
  have hlt3 : W0.heap.size < w.heap.size + 1 + 1 + 1 := by omega
  have HA := hide ha
  clear hw hl ha
  have HS : Hid (∀ w', Below (((w.alloc (.cells #[.int .i64 k, .int .i64 r, .int .i64 x, .string t, .int .i64 p] 155)).alloc (.cells #[.slice none 0 0, .slice none 0 0] 89)).alloc (.cells #[.int .i64 0, .int .i64 0] 117)).heap.size (((w.alloc (.cells #[.int .i64 k, .int .i64 r, .int .i64 x, .string t, .int .i64 p] 155)).alloc (.cells #[.slice none 0 0, .slice none 0 0] 89)).alloc (.cells #[.int .i64 0, .int .i64 0] 117)) w' → w'.cell? ⟨W0.heap.size, 0, none⟩ = some mv ∧ w'.cell? ⟨w.heap.size, 3, none⟩ = some (.string t) ∧ w'.cell? ⟨w.heap.size, 4, none⟩ = some (.int .i64 p) ∧ (Instr.lookup 87 mv (.string t) true).run Tryz.prog w' = .ok (.tuple #[.agg #[.slice so sn sc, .slice co cn cc], .bool true]) w') := by
    intro w' hb
    have h3 := (((unhide HW).alloc (.cells #[.int .i64 k, .int .i64 r, .int .i64 x, .string t, .int .i64 p] 155)).alloc (.cells #[.slice none 0 0, .slice none 0 0] 89)).alloc (.cells #[.int .i64 0, .int .i64 0] 117)
    have hq := ((Below.refl (w.heap.size + 1) (w.alloc (.cells #[.int .i64 k, .int .i64 r, .int .i64 x, .string t, .int .i64 p] 155))).alloc (by simp) (.cells #[.slice none 0 0, .slice none 0 0] 89)).alloc (by simp) (.cells #[.int .i64 0, .int .i64 0] 117)
    refine ⟨(h3.keep hb).vals, ?_, ?_, unhide HL _ (h3.keep hb).below⟩
    · exact (hb.cell (p := ⟨w.heap.size, 3, none⟩) (by simp; omega)).trans ((hq.cell (p := ⟨w.heap.size, 3, none⟩) (by simp)).trans (by simp))
    · exact (hb.cell (p := ⟨w.heap.size, 4, none⟩) (by simp; omega)).trans ((hq.cell (p := ⟨w.heap.size, 4, none⟩) (by simp)).trans (by simp))
  go_enter Tryz.func108, Tryz.ntmps108
  go_wp2_with fail
  go_region_held3 (fun w' => w'.cell? ⟨W0.heap.size, 0, none⟩ = some mv ∧ w'.cell? ⟨w.heap.size, 3, none⟩ = some (.string t) ∧ w'.cell? ⟨w.heap.size, 4, none⟩ = some (.int .i64 p) ∧ (Instr.lookup 87 mv (.string t) true).run Tryz.prog w' = .ok (.tuple #[.agg #[.slice so sn sc, .slice co cn cc], .bool true]) w')
    (first | exact unhide HS _ (Below.refl _ _).drew | exact unhide HS _ ((Below.refl _ _).alloc (Nat.le_refl _) _).drew)
    (fail)
  all_goals
    go_wp2_with fail
    refine bodyPost_ret (v := .tuple #[.agg #[.slice so sn sc, .slice co cn cc], .agg #[.int .i64 0, .int .i64 0]]) (by simp [results, Tryz.results108, go_sem]) rfl ?_
    exact wl_ok (((((Kp.refl W0 w).alloc _).alloc _).alloc _).alloc _).drew (((((unhide HW).alloc _).alloc _).alloc _).alloc _).drew (unhide HA) hP hc
theorem value_any (P : Nat → Prop) (W0 : World) (mv : Value) (fuel : Int) (c : Nat) (w : World) (hw : Wk W0 mv fuel c w) (k r x : Int) (t : ByteArray) (ht : t.size ≤ 200) (p : Nat) (env : ByteArray → Option Arr) (hl : Look P W0 mv env) (hP : ¬ P W0.heap.size) (hc : (c : Int) ≤ fuel) :
    Calls Tryz.prog 108 #[.pointer (some ⟨W0.heap.size, 0, none⟩), .agg #[.int .i64 k, .int .i64 r, .int .i64 x, .string t, .int .i64 p]] w (WLeft P W0 mv fuel w (match env t with | none => .inl (4, p) | some a => .inr (a, c))) := by
  obtain ⟨v, h1, h2⟩ := hl t ht
  cases he : env t with
  | none =>
    rw [he] at h1 h2
    simp only at h2
    subst h2
    exact value_no P W0 mv fuel c w hw k r x t p h1
  | some a =>
    rw [he] at h1 h2
    simp only at h2
    have h3 : IsArr P w v a := h2.below hw.below
    have h4 := h3
    obtain ⟨so, sn, sc, co, cn, cc, rfl, _, _⟩ := h3
    exact value_yes P W0 mv fuel c w hw k r x t p so sn sc co cn cc a h4 hP hc h1
end Go.Proofs.YtjobgpahajhbnaaGreatDoor
namespace Go.Proofs.YtjobgpahajhbnaaGreatDoor
open Go.RowKit Go.Proofs
attribute [local go_sem ↓] Go.wp_at_zero Go.wp_at_succ

/-- function g, with what it holds, makes of an array what f makes of it -/
def FnOne (g : Nat) (lb : Array Value) (w : World) (f : Arr → Arr × Int) : Prop := ∀ (W : World) (P : Nat → Prop) (v : Value) (a : Arr), Below w.heap.size w W → (∀ b, W.heap.size ≤ b → P b) → IsArr P W v a → a.ok →
  Calls Tryz.prog g (#[v] ++ lb) W fun e W' => ∃ so sn sc co cn cc, e = .returned (.tuple #[.agg #[.slice so sn sc, .slice co cn cc], .int .i64 (f a).2]) ∧ IsArr P W' (.agg #[.slice so sn sc, .slice co cn cc]) (f a).1 ∧ Below W.heap.size W W'
def FnTwo (g : Nat) (lb : Array Value) (w : World) (f : Arr → Arr → Arr × Int) : Prop := ∀ (W : World) (P : Nat → Prop) (u v : Value) (a b : Arr), Below w.heap.size w W → (∀ b, W.heap.size ≤ b → P b) → IsArr P W u a → IsArr P W v b → a.ok → b.ok →
  Calls Tryz.prog g (#[u, v] ++ lb) W fun e W' => ∃ so sn sc co cn cc, e = .returned (.tuple #[.agg #[.slice so sn sc, .slice co cn cc], .int .i64 (f a b).2]) ∧ IsArr P W' (.agg #[.slice so sn sc, .slice co cn cc]) (f a b).1 ∧ Below W.heap.size W W'
structure OneC (t : ByteArray) (f : Arr → Arr × Int) : Prop where
  finds : ∀ w, Calls Tryz.prog 109 #[.string t] w fun e w' => ∃ g lb, e = .returned (.func (.func g) #[] lb) ∧ Enters Tryz.prog g ∧ Below w.heap.size w w' ∧ FnOne g lb w' f
  ok : ∀ a, a.ok → (f a).1.cells.length ≤ 200 ∧ ((f a).2 = 0 → (f a).1.ok)
structure TwoC (t : ByteArray) (f : Arr → Arr → Arr × Int) : Prop where
  finds : ∀ w, Calls Tryz.prog 111 #[.string t] w fun e w' => ∃ g lb, e = .returned (.func (.func g) #[] lb) ∧ Enters Tryz.prog g ∧ Below w.heap.size w w' ∧ FnTwo g lb w' f
  ok : ∀ a b, a.ok → b.ok → (f a b).1.cells.length ≤ 200 ∧ ((f a b).2 = 0 → (f a b).1.ok)
/-- a tree of which we know what its functions do -/
def Good (f1 : ByteArray → Arr → Arr × Int) (f2 : ByteArray → Arr → Arr → Arr × Int) : Ex → Prop
  | .num ws => 0 < ws.length ∧ ws.length ≤ 200 ∧ ∀ c ∈ ws, fit64 c
  | .name t _ => t.size ≤ 200
  | .one t _ r => OneC t (f1 t) ∧ Good f1 f2 r
  | .two t _ l r => TwoC t (f2 t) ∧ Good f1 f2 l ∧ Good f1 f2 r
theorem arrOf_ok {ws : List Int} (h1 : ws.length ≤ 200) (hf : ∀ c ∈ ws, fit64 c) : (arrOf ws).ok := by
  unfold arrOf
  by_cases h : ws.length = 1
  · rw [if_pos h]
    exact ⟨by simp, by simp, by simpa [prodL] using h, h1, hf⟩
  · rw [if_neg h]
    exact ⟨by simp, by simp; omega, by simp [prodL], h1, hf⟩
theorem payP_ok {fuel : Int} {r : Arr × Int} {p c : Nat} {x : Arr × Nat} (h : payP fuel r p c = .inr x) : x.1 = r.1 ∧ (x.2 : Int) ≤ fuel ∧ r.2 = 0 := by
  unfold payP at h
  split at h
  · cases h
  · rename_i h0
    split at h
    · cases h
    · cases h
      exact ⟨rfl, by omega, by simpa using h0⟩
theorem eval_ok {env : ByteArray → Option Arr} {fuel : Int} {f1 : ByteArray → Arr → Arr × Int} {f2 : ByteArray → Arr → Arr → Arr × Int} (he : ∀ t a, env t = some a → a.ok) : ∀ (x : Ex) (c : Nat) (r : Arr × Nat), Good f1 f2 x → (c : Int) ≤ fuel → evalE env fuel f1 f2 x c = .inr r → r.1.ok ∧ (r.2 : Int) ≤ fuel
  | .num ws, c, r, hg, hc, h => by
    simp only [evalE] at h
    cases h
    exact ⟨arrOf_ok hg.2.1 hg.2.2, hc⟩
  | .name t p, c, r, hg, hc, h => by
    simp only [evalE] at h
    cases ht : env t with
    | none => rw [ht] at h; cases h
    | some a => rw [ht] at h; cases h; exact ⟨he t a ht, hc⟩
  | .one t p e, c, r, hg, hc, h => by
    simp only [evalE] at h
    cases h1 : evalE env fuel f1 f2 e c with
    | inl e => rw [h1] at h; cases h
    | inr y =>
      rw [h1] at h
      obtain ⟨k1, _⟩ := eval_ok he e c y hg.2 hc h1
      obtain ⟨k3, k4, k5⟩ := payP_ok h
      exact ⟨by rw [k3]; exact (hg.1.ok _ k1).2 k5, k4⟩
  | .two t p l e, c, r, hg, hc, h => by
    simp only [evalE] at h
    cases h1 : evalE env fuel f1 f2 e c with
    | inl e => rw [h1] at h; cases h
    | inr y =>
      rw [h1] at h
      simp only at h
      obtain ⟨k1, k2⟩ := eval_ok he e c y hg.2.2 hc h1
      cases h2 : evalE env fuel f1 f2 l y.2 with
      | inl e => rw [h2] at h; cases h
      | inr z =>
        rw [h2] at h
        obtain ⟨m1, _⟩ := eval_ok he l y.2 z hg.2.1 k2 h2
        obtain ⟨k3, k4, k5⟩ := payP_ok h
        exact ⟨by rw [k3]; exact (hg.1.ok _ _ m1 k1).2 k5, k4⟩
theorem Look.imp {P Q : Nat → Prop} {W0 : World} {mv : Value} {env : ByteArray → Option Arr} (h : Look P W0 mv env) (hq : ∀ b, P b → b < W0.heap.size → Q b) : Look Q W0 mv env := by
  intro t ht
  obtain ⟨v, h1, h2⟩ := h t ht
  refine ⟨v, h1, ?_⟩
  cases he : env t with
  | none => rw [he] at h2; exact h2
  | some a => rw [he] at h2; exact IsArr.imp h2 hq
def ExC (env : ByteArray → Option Arr) (fuel : Int) (f1 : ByteArray → Arr → Arr × Int) (f2 : ByteArray → Arr → Arr → Arr × Int) (B : Nat) (W0 : World) (mv : Value) (x : Ex) : Prop :=
  ∀ (P : Nat → Prop) (w : World) (c : Nat) (q : Option Addr), Wk W0 mv fuel c w → (c : Int) ≤ fuel → (∀ b, w.heap.size ≤ b → P b) → ¬ P W0.heap.size → Look P W0 mv env → IsEx B W0 q x →
    Calls Tryz.prog 77 #[.pointer (some ⟨W0.heap.size, 0, none⟩), .pointer q] w (WLeft P W0 mv fuel w (evalE env fuel f1 f2 x c))

set_option maxHeartbeats 1000000 in
theorem ex_num (env : ByteArray → Option Arr) (fuel : Int) (f1 : ByteArray → Arr → Arr × Int) (f2 : ByteArray → Arr → Arr → Arr × Int) (B : Nat) (W0 : World) (mv : Value) (ws : List Int) : ExC env fuel f1 f2 B W0 mv (.num ws) := by
  intro P w c q hw hc hP hR hL hx
  obtain ⟨b, n, rfl, h1, h2, c0, c7, hi, h0, h200⟩ := hx
  have hlt := hw.lt
  have hb := hw.below
  have d0 := (hb.cell (p := ⟨b, 0, none⟩) h2).trans c0
  have d7 := (hb.cell (p := ⟨b, 7, none⟩) h2).trans c7
  have hbl : b < w.heap.size := Nat.lt_of_lt_of_le h2 hb.size
  have HN := hide (nums_ints (P := fun _ => True) (hi.keep (Behind.of_below hb)) (fun _ _ _ => trivial))
  have hn := unhide HN
  obtain ⟨nb, ncap, rfl, _, _, _, _⟩ := hi
  have HW := hide hw
  have HP : Hid (∀ b, w.heap.size ≤ b → P b) := hP
  clear hw hP hL c0 c7 hb hn h2
  go_enter Tryz.func77, Tryz.ntmps77
  go_wp2_with fail
  refine (of_any (fun b => P b ∧ b ≠ w.heap.size ∧ b ≠ w.heap.size + 1) _ (fun b h => ⟨unhide HP b (by simp at h; omega), by simp at h; omega, by simp at h; omega⟩) _ ws ((unhide HN).below (((Below.refl w.heap.size w).alloc (Nat.le_refl _) _).alloc (by simp) _)) h0 h200).mono ?_
  rintro e w1 ⟨so, sn, sc, co, cn, cc, rfl, ha, hb1⟩
  have HA := hide ha
  obtain ⟨hcc, hff⟩ := bcell hb1
  have e0 := hcc w.heap.size 0 (by simp; omega)
  have e1 := hcc w.heap.size 1 (by simp; omega)
  have e2 := hcc (w.heap.size + 1) 0 (by simp)
  have e3 := hcc (w.heap.size + 1) 1 (by simp)
  have g0 := hff w.heap.size 0 (by simp; omega)
  have g1 := hff w.heap.size 1 (by simp; omega)
  have g2 := hff (w.heap.size + 1) 0 (by simp)
  have g3 := hff (w.heap.size + 1) 1 (by simp)
  simp at e0 e1 e2 e3 g0 g1 g2 g3
  have HB := hide hb1
  clear ha hb1 hcc hff
  go_wp2_with fail
  refine bodyPost_ret (v := .tuple #[.agg #[.slice so sn sc, .slice co cn cc], .agg #[.int .i64 0, .int .i64 0]]) (by simp [results, Tryz.results77, go_sem, e0, e1, e2, e3]) rfl ?_
  have hb2 : Below w.heap.size w w1 := (((Below.refl w.heap.size w).alloc (Nat.le_refl _) _).alloc (by simp) _).trans ((unhide HB).mono (by simp; omega))
  refine ⟨(Kp.of_below hb2).four (Nat.le_refl _) _ _ _ _, _, rfl, ?_, ((unhide HW).keep hb2).four hlt _ _ _ _, hc⟩
  exact (((((unhide HA).set (fun h => h.2.1 rfl) 0 _).set (fun h => h.2.1 rfl) 1 _).set (fun h => h.2.2 rfl) 0 _).set (fun h => h.2.2 rfl) 1 _).imp (fun b h _ => h.1)
end Go.Proofs.YtjobgpahajhbnaaGreatDoor
namespace Go.Proofs.YtjobgpahajhbnaaGreatDoor
open Go.RowKit Go.Proofs Go.Maps

theorem wpList_insert_own {H : Type} {P : Program} (w : World) {ops : Array Oper} {rest : List Oper} {o : Oper} {a : Act} {Q : Exit → Act → World → Prop}
    (hg : o.guard = none) (m x v : Operand) (t : TypeId) (hop : o.op = Op.insert t m x v)
    (k e : TypeId) (K : Keyed P k) (ht : P.underlying t = some (.map k e)) (R : Value → Option (DataW H × List MemPlace)) (b n : Nat) (D : DataW H)
    (hm : a.eval m = .map (some b)) (hown : w.ownsMap P k R b n D) (hn : n < maxLen) (key val : Value) (kl : Lit) (hx : a.eval x = key) (hv : a.eval v = val) (hkey : keyOf P k key = some kl)
    (d : DataW H) (ps : List MemPlace) (hval : R val = some (d, ps))
    (hK : ∀ w', w'.ownsMap P k R b (n + 1) (D.put kl d) → w.grownBy w' (some b) → wpList P ops Q rest (a.put o.dst undef) w') :
    wpList P ops Q (o :: rest) a w := by
  refine wpList_plain hg fun K' hK' => ?_
  obtain ⟨w', hrun, r1, r2⟩ := hown.update K ht hn hkey hval
  unfold Oper.wp
  simp [execOp, hop, hm, hx, hv, hrun, Result.andThen]
  exact hK' _ _ (hK w' r1 r2)

theorem Tryz.law9 : Keyed Tryz.prog 9 := string_keyed Tryz.underlying9
/-- an element reads as itself -/
def selfE (v : Value) : Option (DataW Value × List MemPlace) := some (.held v, [])
theorem Tryz.zero241 (w : World) : (zeroValue 241).run Tryz.prog w = .ok (.agg #[.nilFunc, .int .i64 0]) w := by kernel_rfl

theorem below_map {b : Nat} {w w1 w2 : World} (h : Below b w w1) (hb : b = w.heap.size) (hg : w1.grownBy w2 (some b)) : Below b w w2 := h.grown hg (by rw [hb]; exact h.size) (fun q hq => by cases hq; exact Nat.le_refl _)
def signsD : DataW Value := ((((((((((.map [] : DataW Value).put (.string [43]) (.held (.agg #[.func (.func 190) #[] #[], .int .i64 0]))).put (.string [45]) (.held (.agg #[.func (.func 191) #[] #[], .int .i64 0]))).put (.string [42]) (.held (.agg #[.func (.func 192) #[] #[], .int .i64 1]))).put (.string [37]) (.held (.agg #[.func (.func 193) #[] #[], .int .i64 1]))).put (.string [124]) (.held (.agg #[.func (.func 194) #[] #[], .int .i64 0]))).put (.string [38]) (.held (.agg #[.func (.func 195) #[] #[], .int .i64 9223372036854775807]))).put (.string [33]) (.held (.agg #[.func (.func 196) #[] #[], .int .i64 (-9223372036854775808)]))).put (.string [61]) (.held (.agg #[.func (.func 197) #[] #[], .int .i64 1]))).put (.string [60]) (.held (.agg #[.func (.func 198) #[] #[], .int .i64 0])))
set_option maxHeartbeats 1000000 in
set_option maxRecDepth 20000 in
theorem signs_any (w : World) : Calls Tryz.prog 154 #[] w fun e w' => e = .returned (.map (some w.heap.size)) ∧ w'.ownsMap Tryz.prog 9 selfE w.heap.size 9 signsD ∧ Below w.heap.size w w' := by
  have hmm := @run_makeMap Tryz.prog
  have hb0 : Below w.heap.size w (w.alloc (.map #[] 0)) := (Below.refl w.heap.size w).alloc (Nat.le_refl _) _
  have HO0 := hide (World.ownsMap_made w Tryz.prog 9 selfE)
  have HB0 := hide hb0
  clear hb0
  go_enter Tryz.func154, Tryz.ntmps154
  go_wp2_with (refine wpList_insert_own _ rfl _ _ _ 242 rfl 9 241 Tryz.law9 Tryz.underlying242 selfE _ _ _ rfl (unhide HO0) (by decide) _ _ (.string [43]) rfl rfl rfl (.held (.agg #[.func (.func 190) #[] #[], .int .i64 0])) [] rfl ?_)
  intro w1 o1 k1
  have HO1 := hide o1
  have HB1 := hide (below_map (unhide HB0) rfl k1)
  clear o1 k1 HO0 HB0
  go_wp2_with (refine wpList_insert_own _ rfl _ _ _ 242 rfl 9 241 Tryz.law9 Tryz.underlying242 selfE _ _ _ rfl (unhide HO1) (by decide) _ _ (.string [45]) rfl rfl rfl (.held (.agg #[.func (.func 191) #[] #[], .int .i64 0])) [] rfl ?_)
  intro w2 o2 k2
  have HO2 := hide o2
  have HB2 := hide (below_map (unhide HB1) rfl k2)
  clear o2 k2 HO1 HB1
  go_wp2_with (refine wpList_insert_own _ rfl _ _ _ 242 rfl 9 241 Tryz.law9 Tryz.underlying242 selfE _ _ _ rfl (unhide HO2) (by decide) _ _ (.string [42]) rfl rfl rfl (.held (.agg #[.func (.func 192) #[] #[], .int .i64 1])) [] rfl ?_)
  intro w3 o3 k3
  have HO3 := hide o3
  have HB3 := hide (below_map (unhide HB2) rfl k3)
  clear o3 k3 HO2 HB2
  go_wp2_with (refine wpList_insert_own _ rfl _ _ _ 242 rfl 9 241 Tryz.law9 Tryz.underlying242 selfE _ _ _ rfl (unhide HO3) (by decide) _ _ (.string [37]) rfl rfl rfl (.held (.agg #[.func (.func 193) #[] #[], .int .i64 1])) [] rfl ?_)
  intro w4 o4 k4
  have HO4 := hide o4
  have HB4 := hide (below_map (unhide HB3) rfl k4)
  clear o4 k4 HO3 HB3
  go_wp2_with (refine wpList_insert_own _ rfl _ _ _ 242 rfl 9 241 Tryz.law9 Tryz.underlying242 selfE _ _ _ rfl (unhide HO4) (by decide) _ _ (.string [124]) rfl rfl rfl (.held (.agg #[.func (.func 194) #[] #[], .int .i64 0])) [] rfl ?_)
  intro w5 o5 k5
  have HO5 := hide o5
  have HB5 := hide (below_map (unhide HB4) rfl k5)
  clear o5 k5 HO4 HB4
  go_wp2_with (refine wpList_insert_own _ rfl _ _ _ 242 rfl 9 241 Tryz.law9 Tryz.underlying242 selfE _ _ _ rfl (unhide HO5) (by decide) _ _ (.string [38]) rfl rfl rfl (.held (.agg #[.func (.func 195) #[] #[], .int .i64 9223372036854775807])) [] rfl ?_)
  intro w6 o6 k6
  have HO6 := hide o6
  have HB6 := hide (below_map (unhide HB5) rfl k6)
  clear o6 k6 HO5 HB5
  go_wp2_with (refine wpList_insert_own _ rfl _ _ _ 242 rfl 9 241 Tryz.law9 Tryz.underlying242 selfE _ _ _ rfl (unhide HO6) (by decide) _ _ (.string [33]) rfl rfl rfl (.held (.agg #[.func (.func 196) #[] #[], .int .i64 (-9223372036854775808)])) [] rfl ?_)
  intro w7 o7 k7
  have HO7 := hide o7
  have HB7 := hide (below_map (unhide HB6) rfl k7)
  clear o7 k7 HO6 HB6
  go_wp2_with (refine wpList_insert_own _ rfl _ _ _ 242 rfl 9 241 Tryz.law9 Tryz.underlying242 selfE _ _ _ rfl (unhide HO7) (by decide) _ _ (.string [61]) rfl rfl rfl (.held (.agg #[.func (.func 197) #[] #[], .int .i64 1])) [] rfl ?_)
  intro w8 o8 k8
  have HO8 := hide o8
  have HB8 := hide (below_map (unhide HB7) rfl k8)
  clear o8 k8 HO7 HB7
  go_wp2_with (refine wpList_insert_own _ rfl _ _ _ 242 rfl 9 241 Tryz.law9 Tryz.underlying242 selfE _ _ _ rfl (unhide HO8) (by decide) _ _ (.string [60]) rfl rfl rfl (.held (.agg #[.func (.func 198) #[] #[], .int .i64 0])) [] rfl ?_)
  intro w9 o9 k9
  have HO9 := hide o9
  have HB9 := hide (below_map (unhide HB8) rfl k9)
  clear o9 k9 HO8 HB8
  go_wp2_with fail
  exact bodyPost_ret (v := .map (some w.heap.size)) (by simp [results, Tryz.results154, go_sem]) rfl ⟨rfl, unhide HO9, unhide HB9⟩
def formsOneD : DataW Value := (((.map [] : DataW Value).put (.string [47]) (.held (.func (.func 177) #[] #[]))).put (.string [92]) (.held (.func (.func 178) #[] #[])))
set_option maxHeartbeats 1000000 in
set_option maxRecDepth 20000 in
theorem formsOne_any (w : World) : Calls Tryz.prog 152 #[] w fun e w' => e = .returned (.map (some w.heap.size)) ∧ w'.ownsMap Tryz.prog 9 selfE w.heap.size 2 formsOneD ∧ Below w.heap.size w w' := by
  have hmm := @run_makeMap Tryz.prog
  have hb0 : Below w.heap.size w (w.alloc (.map #[] 0)) := (Below.refl w.heap.size w).alloc (Nat.le_refl _) _
  have HO0 := hide (World.ownsMap_made w Tryz.prog 9 selfE)
  have HB0 := hide hb0
  clear hb0
  go_enter Tryz.func152, Tryz.ntmps152
  go_wp2_with (refine wpList_insert_own _ rfl _ _ _ 236 rfl 9 235 Tryz.law9 Tryz.underlying236 selfE _ _ _ rfl (unhide HO0) (by decide) _ _ (.string [47]) rfl rfl rfl (.held (.func (.func 177) #[] #[])) [] rfl ?_)
  intro w1 o1 k1
  have HO1 := hide o1
  have HB1 := hide (below_map (unhide HB0) rfl k1)
  clear o1 k1 HO0 HB0
  go_wp2_with (refine wpList_insert_own _ rfl _ _ _ 236 rfl 9 235 Tryz.law9 Tryz.underlying236 selfE _ _ _ rfl (unhide HO1) (by decide) _ _ (.string [92]) rfl rfl rfl (.held (.func (.func 178) #[] #[])) [] rfl ?_)
  intro w2 o2 k2
  have HO2 := hide o2
  have HB2 := hide (below_map (unhide HB1) rfl k2)
  clear o2 k2 HO1 HB1
  go_wp2_with fail
  exact bodyPost_ret (v := .map (some w.heap.size)) (by simp [results, Tryz.results152, go_sem]) rfl ⟨rfl, unhide HO2, unhide HB2⟩
def onesD : DataW Value := ((((((((((((.map [] : DataW Value).put (.string [43]) (.held (.func (.func 179) #[] #[]))).put (.string [45]) (.held (.func (.func 180) #[] #[]))).put (.string [42]) (.held (.func (.func 181) #[] #[]))).put (.string [124]) (.held (.func (.func 182) #[] #[]))).put (.string [105, 111, 116, 97]) (.held (.func (.func 183) #[] #[]))).put (.string [114, 104, 111]) (.held (.func (.func 184) #[] #[]))).put (.string [114, 97, 118, 101, 108]) (.held (.func (.func 185) #[] #[]))).put (.string [114, 101, 118]) (.held (.func (.func 186) #[] #[]))).put (.string [117, 112]) (.held (.func (.func 187) #[] #[]))).put (.string [100, 111, 119, 110]) (.held (.func (.func 188) #[] #[]))).put (.string [102, 108, 105, 112]) (.held (.func (.func 189) #[] #[])))
set_option maxHeartbeats 1000000 in
set_option maxRecDepth 20000 in
theorem ones_any (w : World) : Calls Tryz.prog 153 #[] w fun e w' => e = .returned (.map (some w.heap.size)) ∧ w'.ownsMap Tryz.prog 9 selfE w.heap.size 11 onesD ∧ Below w.heap.size w w' := by
  have hmm := @run_makeMap Tryz.prog
  have hb0 : Below w.heap.size w (w.alloc (.map #[] 0)) := (Below.refl w.heap.size w).alloc (Nat.le_refl _) _
  have HO0 := hide (World.ownsMap_made w Tryz.prog 9 selfE)
  have HB0 := hide hb0
  clear hb0
  go_enter Tryz.func153, Tryz.ntmps153
  go_wp2_with (refine wpList_insert_own _ rfl _ _ _ 238 rfl 9 201 Tryz.law9 Tryz.underlying238 selfE _ _ _ rfl (unhide HO0) (by decide) _ _ (.string [43]) rfl rfl rfl (.held (.func (.func 179) #[] #[])) [] rfl ?_)
  intro w1 o1 k1
  have HO1 := hide o1
  have HB1 := hide (below_map (unhide HB0) rfl k1)
  clear o1 k1 HO0 HB0
  go_wp2_with (refine wpList_insert_own _ rfl _ _ _ 238 rfl 9 201 Tryz.law9 Tryz.underlying238 selfE _ _ _ rfl (unhide HO1) (by decide) _ _ (.string [45]) rfl rfl rfl (.held (.func (.func 180) #[] #[])) [] rfl ?_)
  intro w2 o2 k2
  have HO2 := hide o2
  have HB2 := hide (below_map (unhide HB1) rfl k2)
  clear o2 k2 HO1 HB1
  go_wp2_with (refine wpList_insert_own _ rfl _ _ _ 238 rfl 9 201 Tryz.law9 Tryz.underlying238 selfE _ _ _ rfl (unhide HO2) (by decide) _ _ (.string [42]) rfl rfl rfl (.held (.func (.func 181) #[] #[])) [] rfl ?_)
  intro w3 o3 k3
  have HO3 := hide o3
  have HB3 := hide (below_map (unhide HB2) rfl k3)
  clear o3 k3 HO2 HB2
  go_wp2_with (refine wpList_insert_own _ rfl _ _ _ 238 rfl 9 201 Tryz.law9 Tryz.underlying238 selfE _ _ _ rfl (unhide HO3) (by decide) _ _ (.string [124]) rfl rfl rfl (.held (.func (.func 182) #[] #[])) [] rfl ?_)
  intro w4 o4 k4
  have HO4 := hide o4
  have HB4 := hide (below_map (unhide HB3) rfl k4)
  clear o4 k4 HO3 HB3
  go_wp2_with (refine wpList_insert_own _ rfl _ _ _ 238 rfl 9 201 Tryz.law9 Tryz.underlying238 selfE _ _ _ rfl (unhide HO4) (by decide) _ _ (.string [105, 111, 116, 97]) rfl rfl rfl (.held (.func (.func 183) #[] #[])) [] rfl ?_)
  intro w5 o5 k5
  have HO5 := hide o5
  have HB5 := hide (below_map (unhide HB4) rfl k5)
  clear o5 k5 HO4 HB4
  go_wp2_with (refine wpList_insert_own _ rfl _ _ _ 238 rfl 9 201 Tryz.law9 Tryz.underlying238 selfE _ _ _ rfl (unhide HO5) (by decide) _ _ (.string [114, 104, 111]) rfl rfl rfl (.held (.func (.func 184) #[] #[])) [] rfl ?_)
  intro w6 o6 k6
  have HO6 := hide o6
  have HB6 := hide (below_map (unhide HB5) rfl k6)
  clear o6 k6 HO5 HB5
  go_wp2_with (refine wpList_insert_own _ rfl _ _ _ 238 rfl 9 201 Tryz.law9 Tryz.underlying238 selfE _ _ _ rfl (unhide HO6) (by decide) _ _ (.string [114, 97, 118, 101, 108]) rfl rfl rfl (.held (.func (.func 185) #[] #[])) [] rfl ?_)
  intro w7 o7 k7
  have HO7 := hide o7
  have HB7 := hide (below_map (unhide HB6) rfl k7)
  clear o7 k7 HO6 HB6
  go_wp2_with (refine wpList_insert_own _ rfl _ _ _ 238 rfl 9 201 Tryz.law9 Tryz.underlying238 selfE _ _ _ rfl (unhide HO7) (by decide) _ _ (.string [114, 101, 118]) rfl rfl rfl (.held (.func (.func 186) #[] #[])) [] rfl ?_)
  intro w8 o8 k8
  have HO8 := hide o8
  have HB8 := hide (below_map (unhide HB7) rfl k8)
  clear o8 k8 HO7 HB7
  go_wp2_with (refine wpList_insert_own _ rfl _ _ _ 238 rfl 9 201 Tryz.law9 Tryz.underlying238 selfE _ _ _ rfl (unhide HO8) (by decide) _ _ (.string [117, 112]) rfl rfl rfl (.held (.func (.func 187) #[] #[])) [] rfl ?_)
  intro w9 o9 k9
  have HO9 := hide o9
  have HB9 := hide (below_map (unhide HB8) rfl k9)
  clear o9 k9 HO8 HB8
  go_wp2_with (refine wpList_insert_own _ rfl _ _ _ 238 rfl 9 201 Tryz.law9 Tryz.underlying238 selfE _ _ _ rfl (unhide HO9) (by decide) _ _ (.string [100, 111, 119, 110]) rfl rfl rfl (.held (.func (.func 188) #[] #[])) [] rfl ?_)
  intro w10 o10 k10
  have HO10 := hide o10
  have HB10 := hide (below_map (unhide HB9) rfl k10)
  clear o10 k10 HO9 HB9
  go_wp2_with (refine wpList_insert_own _ rfl _ _ _ 238 rfl 9 201 Tryz.law9 Tryz.underlying238 selfE _ _ _ rfl (unhide HO10) (by decide) _ _ (.string [102, 108, 105, 112]) rfl rfl rfl (.held (.func (.func 189) #[] #[])) [] rfl ?_)
  intro w11 o11 k11
  have HO11 := hide o11
  have HB11 := hide (below_map (unhide HB10) rfl k11)
  clear o11 k11 HO10 HB10
  go_wp2_with fail
  exact bodyPost_ret (v := .map (some w.heap.size)) (by simp [results, Tryz.results153, go_sem]) rfl ⟨rfl, unhide HO11, unhide HB11⟩
def formsTwoD : DataW Value := ((.map [] : DataW Value).put (.string [46]) (.held (.func (.func 199) #[] #[])))
set_option maxHeartbeats 1000000 in
set_option maxRecDepth 20000 in
theorem formsTwo_any (w : World) : Calls Tryz.prog 157 #[] w fun e w' => e = .returned (.map (some w.heap.size)) ∧ w'.ownsMap Tryz.prog 9 selfE w.heap.size 1 formsTwoD ∧ Below w.heap.size w w' := by
  have hmm := @run_makeMap Tryz.prog
  have hb0 : Below w.heap.size w (w.alloc (.map #[] 0)) := (Below.refl w.heap.size w).alloc (Nat.le_refl _) _
  have HO0 := hide (World.ownsMap_made w Tryz.prog 9 selfE)
  have HB0 := hide hb0
  clear hb0
  go_enter Tryz.func157, Tryz.ntmps157
  go_wp2_with (refine wpList_insert_own _ rfl _ _ _ 247 rfl 9 246 Tryz.law9 Tryz.underlying247 selfE _ _ _ rfl (unhide HO0) (by decide) _ _ (.string [46]) rfl rfl rfl (.held (.func (.func 199) #[] #[])) [] rfl ?_)
  intro w1 o1 k1
  have HO1 := hide o1
  have HB1 := hide (below_map (unhide HB0) rfl k1)
  clear o1 k1 HO0 HB0
  go_wp2_with fail
  exact bodyPost_ret (v := .map (some w.heap.size)) (by simp [results, Tryz.results157, go_sem]) rfl ⟨rfl, unhide HO1, unhide HB1⟩
def twosD : DataW Value := (((((((((.map [] : DataW Value).put (.string [114, 104, 111]) (.held (.func (.func 200) #[] #[]))).put (.string [114, 101, 118]) (.held (.func (.func 201) #[] #[]))).put (.string [116, 97, 107, 101]) (.held (.func (.func 202) #[] #[]))).put (.string [100, 114, 111, 112]) (.held (.func (.func 203) #[] #[]))).put (.string [99, 97, 116]) (.held (.func (.func 204) #[] #[]))).put (.string [105, 110]) (.held (.func (.func 205) #[] #[]))).put (.string [97, 116]) (.held (.func (.func 206) #[] #[]))).put (.string [107, 101, 101, 112]) (.held (.func (.func 207) #[] #[])))
set_option maxHeartbeats 1000000 in
set_option maxRecDepth 20000 in
theorem twos_any (w : World) : Calls Tryz.prog 158 #[] w fun e w' => e = .returned (.map (some w.heap.size)) ∧ w'.ownsMap Tryz.prog 9 selfE w.heap.size 8 twosD ∧ Below w.heap.size w w' := by
  have hmm := @run_makeMap Tryz.prog
  have hb0 : Below w.heap.size w (w.alloc (.map #[] 0)) := (Below.refl w.heap.size w).alloc (Nat.le_refl _) _
  have HO0 := hide (World.ownsMap_made w Tryz.prog 9 selfE)
  have HB0 := hide hb0
  clear hb0
  go_enter Tryz.func158, Tryz.ntmps158
  go_wp2_with (refine wpList_insert_own _ rfl _ _ _ 249 rfl 9 205 Tryz.law9 Tryz.underlying249 selfE _ _ _ rfl (unhide HO0) (by decide) _ _ (.string [114, 104, 111]) rfl rfl rfl (.held (.func (.func 200) #[] #[])) [] rfl ?_)
  intro w1 o1 k1
  have HO1 := hide o1
  have HB1 := hide (below_map (unhide HB0) rfl k1)
  clear o1 k1 HO0 HB0
  go_wp2_with (refine wpList_insert_own _ rfl _ _ _ 249 rfl 9 205 Tryz.law9 Tryz.underlying249 selfE _ _ _ rfl (unhide HO1) (by decide) _ _ (.string [114, 101, 118]) rfl rfl rfl (.held (.func (.func 201) #[] #[])) [] rfl ?_)
  intro w2 o2 k2
  have HO2 := hide o2
  have HB2 := hide (below_map (unhide HB1) rfl k2)
  clear o2 k2 HO1 HB1
  go_wp2_with (refine wpList_insert_own _ rfl _ _ _ 249 rfl 9 205 Tryz.law9 Tryz.underlying249 selfE _ _ _ rfl (unhide HO2) (by decide) _ _ (.string [116, 97, 107, 101]) rfl rfl rfl (.held (.func (.func 202) #[] #[])) [] rfl ?_)
  intro w3 o3 k3
  have HO3 := hide o3
  have HB3 := hide (below_map (unhide HB2) rfl k3)
  clear o3 k3 HO2 HB2
  go_wp2_with (refine wpList_insert_own _ rfl _ _ _ 249 rfl 9 205 Tryz.law9 Tryz.underlying249 selfE _ _ _ rfl (unhide HO3) (by decide) _ _ (.string [100, 114, 111, 112]) rfl rfl rfl (.held (.func (.func 203) #[] #[])) [] rfl ?_)
  intro w4 o4 k4
  have HO4 := hide o4
  have HB4 := hide (below_map (unhide HB3) rfl k4)
  clear o4 k4 HO3 HB3
  go_wp2_with (refine wpList_insert_own _ rfl _ _ _ 249 rfl 9 205 Tryz.law9 Tryz.underlying249 selfE _ _ _ rfl (unhide HO4) (by decide) _ _ (.string [99, 97, 116]) rfl rfl rfl (.held (.func (.func 204) #[] #[])) [] rfl ?_)
  intro w5 o5 k5
  have HO5 := hide o5
  have HB5 := hide (below_map (unhide HB4) rfl k5)
  clear o5 k5 HO4 HB4
  go_wp2_with (refine wpList_insert_own _ rfl _ _ _ 249 rfl 9 205 Tryz.law9 Tryz.underlying249 selfE _ _ _ rfl (unhide HO5) (by decide) _ _ (.string [105, 110]) rfl rfl rfl (.held (.func (.func 205) #[] #[])) [] rfl ?_)
  intro w6 o6 k6
  have HO6 := hide o6
  have HB6 := hide (below_map (unhide HB5) rfl k6)
  clear o6 k6 HO5 HB5
  go_wp2_with (refine wpList_insert_own _ rfl _ _ _ 249 rfl 9 205 Tryz.law9 Tryz.underlying249 selfE _ _ _ rfl (unhide HO6) (by decide) _ _ (.string [97, 116]) rfl rfl rfl (.held (.func (.func 206) #[] #[])) [] rfl ?_)
  intro w7 o7 k7
  have HO7 := hide o7
  have HB7 := hide (below_map (unhide HB6) rfl k7)
  clear o7 k7 HO6 HB6
  go_wp2_with (refine wpList_insert_own _ rfl _ _ _ 249 rfl 9 205 Tryz.law9 Tryz.underlying249 selfE _ _ _ rfl (unhide HO7) (by decide) _ _ (.string [107, 101, 101, 112]) rfl rfl rfl (.held (.func (.func 207) #[] #[])) [] rfl ?_)
  intro w8 o8 k8
  have HO8 := hide o8
  have HB8 := hide (below_map (unhide HB7) rfl k8)
  clear o8 k8 HO7 HB7
  go_wp2_with fail
  exact bodyPost_ret (v := .map (some w.heap.size)) (by simp [results, Tryz.results158, go_sem]) rfl ⟨rfl, unhide HO8, unhide HB8⟩
end Go.Proofs.YtjobgpahajhbnaaGreatDoor
namespace Go.Proofs.YtjobgpahajhbnaaGreatDoor
open Go.RowKit Go.Proofs Go.Maps
attribute [local go_sem ↓] Go.wp_at_zero Go.wp_at_succ

def heldOf : DataW Value → Value
  | .held v => v
  | _ => undef
theorem look_self {D : DataW Value} {n : Nat} {w : World} {b : Nat} {m e : TypeId} {zv : Value} (hm : Tryz.prog.underlying m = some (.map 9 e)) (hz : (zeroValue e).run Tryz.prog w = .ok zv w) (h : w.ownsMap Tryz.prog 9 selfE b n D) {t : ByteArray} {kl : Lit} {ok : Bool} {v : Value} (hk : keyOf Tryz.prog 9 (.string t) = some kl) (hh : Maps.has D kl = ok) (hat : D.atKey kl (.held zv) = .held v) :
    (Instr.lookup m (.map (some b)) (.string t) true).run Tryz.prog w = .ok (.tuple #[v, .bool ok]) w := by
  obtain ⟨u, ps, h1, h2⟩ := h.look_ok Tryz.law9 hm hz (show selfE zv = some (.held zv, []) from rfl) hk
  rw [hh] at h1
  rw [hat] at h2
  have h3 : DataW.held u = DataW.held v := congrArg Prod.fst (Option.some.inj h2)
  have h4 : u = v := congrArg heldOf h3
  rw [h1, h4]
end Go.Proofs.YtjobgpahajhbnaaGreatDoor
namespace Go.Proofs.YtjobgpahajhbnaaGreatDoor
open Go.RowKit Go.Proofs
attribute [local go_sem ↓] Go.wp_at_zero Go.wp_at_succ

set_option maxHeartbeats 400000 in
theorem pick_any (c n : Int) (hc : fit64 c) (hn : 0 < n) (w : World) : Calls Tryz.prog 25 #[.int .i64 c, .int .i64 n] w fun e w' => (∃ r, e = .returned (.int .i64 r) ∧ 0 ≤ r ∧ r < n) ∧ w' = w := by
  unfold fit64 at hc
  have hn0 : (n == 0) = false := by simp; omega
  by_cases h0 : c < 0
  · have e1 : wrap64 (c + 1) = c + 1 := by unfold wrap64; omega
    have e2 : wrap64 (-(c + 1)) = -(c + 1) := by unfold wrap64; omega
    have HM := hide (show 0 ≤ (-(c + 1)).tmod n ∧ (-(c + 1)).tmod n < n by
      rw [Int.tmod_eq_emod_of_nonneg (by omega)]
      exact ⟨Int.emod_nonneg _ (by omega), Int.emod_lt_of_pos _ hn⟩)
    go_enter Tryz.func25, Tryz.ntmps25
    go_wp2
    exact bodyPost_ret (v := .int .i64 (-((c + 1).tmod n))) (by simp [results, Tryz.results25, go_sem]) rfl ⟨⟨_, rfl, by have := unhide HM; rw [Int.neg_tmod] at this; exact this⟩, rfl⟩
  · have HM := hide (show 0 ≤ c.tmod n ∧ c.tmod n < n by
      rw [Int.tmod_eq_emod_of_nonneg (by omega)]
      exact ⟨Int.emod_nonneg _ (by omega), Int.emod_lt_of_pos _ hn⟩)
    go_enter Tryz.func25, Tryz.ntmps25
    go_wp2
    exact bodyPost_ret (v := .int .i64 (c % n)) (by simp [results, Tryz.results25, go_sem]) rfl ⟨⟨_, rfl, Int.emod_nonneg _ (by omega), Int.emod_lt_of_pos _ hn⟩, rfl⟩
theorem dec_all : ((List.range 100).all fun i => (Lib.decDigits i).all dU && decide (1 ≤ (Lib.decDigits i).length ∧ (Lib.decDigits i).length ≤ 2) && val (Lib.decDigits i) == i) = true := by kernel_rfl
theorem dec_nm {i : Nat} (h : i < 100) : (Lib.decDigits i).all dU = true ∧ 1 ≤ (Lib.decDigits i).length ∧ (Lib.decDigits i).length ≤ 2 ∧ val (Lib.decDigits i) = i := by
  have := List.all_eq_true.1 dec_all i (List.mem_range.2 h)
  simp only [Bool.and_eq_true, decide_eq_true_eq, beq_iff_eq] at this
  exact ⟨this.1.1, this.1.2.1, this.1.2.2, this.2⟩
set_option maxHeartbeats 400000 in
theorem num_any (n : Int) (h : -100 < n ∧ n < 100) (w : World) : Calls Tryz.prog 26 #[.int .i64 n] w fun e w' => (∃ t, e = .returned (.string ⟨List.toArray t⟩) ∧ Nm n t ∧ t.length ≤ 3) ∧ w' = w := by
  by_cases h0 : n < 0
  · obtain ⟨i, rfl⟩ : ∃ i : Nat, n = -(i : Int) := ⟨n.natAbs, by omega⟩
    have hi : i < 100 := by omega
    obtain ⟨d1, d2, d3, d4⟩ := dec_nm hi
    have e1 : wrap64 (-(-(i : Int))) = i := by unfold wrap64; omega
    go_enter Tryz.func26, Tryz.ntmps26
    go_wp2_with (go_at_call 39; refine (Tryz.strconv_FormatInt_10_small i hi _).mono ?_; rintro e w' ⟨rfl, rfl⟩)
    refine bodyPost_ret (v := .string ⟨(95 :: Lib.decDigits i).toArray⟩) (by simp [results, Tryz.results26, go_sem]; apply ba_ext; simp) rfl ⟨⟨_, rfl, ?_, by simp; omega⟩, rfl⟩
    have := Nm.neg _ d1 d2 (by omega) (by omega)
    rwa [d4] at this
  · obtain ⟨i, rfl⟩ : ∃ i : Nat, n = (i : Int) := ⟨n.natAbs, by omega⟩
    have hi : i < 100 := by omega
    obtain ⟨d1, d2, d3, d4⟩ := dec_nm hi
    go_enter Tryz.func26, Tryz.ntmps26
    go_wp2_with (go_at_call 39; refine (Tryz.strconv_FormatInt_10_small i hi _).mono ?_; rintro e w' ⟨rfl, rfl⟩)
    refine bodyPost_ret (v := .string ⟨(Lib.decDigits i).toArray⟩) (by simp [results, Tryz.results26, go_sem]) rfl ⟨⟨_, rfl, ?_, by omega⟩, rfl⟩
    have := Nm.pos _ d1 d2 (by omega) (by omega)
    rwa [d4] at this
end Go.Proofs.YtjobgpahajhbnaaGreatDoor
