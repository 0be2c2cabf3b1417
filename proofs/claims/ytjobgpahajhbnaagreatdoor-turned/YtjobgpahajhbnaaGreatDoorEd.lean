import Derived.Test.YtjobgpahajhbnaaGreatDoorEb
import Derived.Test.YtjobgpahajhbnaaGreatDoorEc
namespace Go.Proofs.YtjobgpahajhbnaaGreatDoor
open Go.RowKit Go.Proofs
attribute [local go_sem ↓] Go.wp_at_zero Go.wp_at_succ

/-- function g, with what it holds, makes of an array what f makes of it -/
def FnOne (g : Nat) (lb : Array Value) (w : World) (f : Arr → Arr × Int) : Prop := ∀ (W : World) (P : Nat → Prop) (v : Value) (a : Arr), Below w.heap.size w W → (∀ b, W.heap.size ≤ b → P b) → IsArr P W v a → a.ok →
  Calls Tryz.prog g (#[v] ++ lb) W fun e W' => ∃ so sn sc co cn cc, e = .returned (.tuple #[.agg #[.slice so sn sc, .slice co cn cc], .int .i64 (f a).2]) ∧ IsArr P W' (.agg #[.slice so sn sc, .slice co cn cc]) (f a).1 ∧ Below W.heap.size W W'
def FnTwo (g : Nat) (lb : Array Value) (w : World) (f : Arr → Arr → Arr × Int) : Prop := ∀ (W : World) (P : Nat → Prop) (u v : Value) (a b : Arr), Below w.heap.size w W → (∀ b, W.heap.size ≤ b → P b) → IsArr P W u a → IsArr P W v b → a.ok → b.ok →
  Calls Tryz.prog g (#[u, v] ++ lb) W fun e W' => ∃ so sn sc co cn cc, e = .returned (.tuple #[.agg #[.slice so sn sc, .slice co cn cc], .int .i64 (f a b).2]) ∧ IsArr P W' (.agg #[.slice so sn sc, .slice co cn cc]) (f a b).1 ∧ Below W.heap.size W W'
structure OneC (t : ByteArray) (f : Arr → Arr × Int) : Prop where
  finds : ∀ w, Calls Tryz.prog 109 #[.string t] w fun e w' => ∃ g lb, e = .returned (.func (.func g) #[] lb) ∧ Enters Tryz.prog g ∧ Below w.heap.size w w' ∧ FnOne g lb w' f
  ok : ∀ a, a.ok → (f a).1.cells.length ≤ 200 ∧ ((f a).2 = 0 → (f a).1.ok)
structure TwoC (t : ByteArray) (f : Arr → Arr → Arr × Int) : Prop where
  finds : ∀ w, Calls Tryz.prog 111 #[.string t] w fun e w' => ∃ g lb, e = .returned (.func (.func g) #[] lb) ∧ Enters Tryz.prog g ∧ Below w.heap.size w w' ∧ FnTwo g lb w' f
  ok : ∀ a b, a.ok → b.ok → (f a b).1.cells.length ≤ 200 ∧ ((f a b).2 = 0 → (f a b).1.ok)
/-- a tree of which we know what its functions do -/
def Good (f1 : ByteArray → Arr → Arr × Int) (f2 : ByteArray → Arr → Arr → Arr × Int) : Ex → Prop
  | .num ws => 0 < ws.length ∧ ws.length ≤ 200 ∧ ∀ c ∈ ws, fit64 c
  | .name t _ => t.size ≤ 200
  | .one t _ r => OneC t (f1 t) ∧ Good f1 f2 r
  | .two t _ l r => TwoC t (f2 t) ∧ Good f1 f2 l ∧ Good f1 f2 r
theorem arrOf_ok {ws : List Int} (h1 : ws.length ≤ 200) (hf : ∀ c ∈ ws, fit64 c) : (arrOf ws).ok := by
  unfold arrOf
  by_cases h : ws.length = 1
  · rw [if_pos h]
    exact ⟨by simp, by simp, by simpa [prodL] using h, h1, hf⟩
  · rw [if_neg h]
    exact ⟨by simp, by simp; omega, by simp [prodL], h1, hf⟩
theorem payP_ok {fuel : Int} {r : Arr × Int} {p c : Nat} {x : Arr × Nat} (h : payP fuel r p c = .inr x) : x.1 = r.1 ∧ (x.2 : Int) ≤ fuel ∧ r.2 = 0 := by
  unfold payP at h
  split at h
  · cases h
  · rename_i h0
    split at h
    · cases h
    · cases h
      exact ⟨rfl, by omega, by simpa using h0⟩
theorem eval_ok {env : ByteArray → Option Arr} {fuel : Int} {f1 : ByteArray → Arr → Arr × Int} {f2 : ByteArray → Arr → Arr → Arr × Int} (he : ∀ t a, env t = some a → a.ok) : ∀ (x : Ex) (c : Nat) (r : Arr × Nat), Good f1 f2 x → (c : Int) ≤ fuel → evalE env fuel f1 f2 x c = .inr r → r.1.ok ∧ (r.2 : Int) ≤ fuel
  | .num ws, c, r, hg, hc, h => by
    simp only [evalE] at h
    cases h
    exact ⟨arrOf_ok hg.2.1 hg.2.2, hc⟩
  | .name t p, c, r, hg, hc, h => by
    simp only [evalE] at h
    cases ht : env t with
    | none => rw [ht] at h; cases h
    | some a => rw [ht] at h; cases h; exact ⟨he t a ht, hc⟩
  | .one t p e, c, r, hg, hc, h => by
    simp only [evalE] at h
    cases h1 : evalE env fuel f1 f2 e c with
    | inl e => rw [h1] at h; cases h
    | inr y =>
      rw [h1] at h
      obtain ⟨k1, _⟩ := eval_ok he e c y hg.2 hc h1
      obtain ⟨k3, k4, k5⟩ := payP_ok h
      exact ⟨by rw [k3]; exact (hg.1.ok _ k1).2 k5, k4⟩
  | .two t p l e, c, r, hg, hc, h => by
    simp only [evalE] at h
    cases h1 : evalE env fuel f1 f2 e c with
    | inl e => rw [h1] at h; cases h
    | inr y =>
      rw [h1] at h
      simp only at h
      obtain ⟨k1, k2⟩ := eval_ok he e c y hg.2.2 hc h1
      cases h2 : evalE env fuel f1 f2 l y.2 with
      | inl e => rw [h2] at h; cases h
      | inr z =>
        rw [h2] at h
        obtain ⟨m1, _⟩ := eval_ok he l y.2 z hg.2.1 k2 h2
        obtain ⟨k3, k4, k5⟩ := payP_ok h
        exact ⟨by rw [k3]; exact (hg.1.ok _ _ m1 k1).2 k5, k4⟩
theorem Look.imp {P Q : Nat → Prop} {W0 : World} {mv : Value} {env : ByteArray → Option Arr} (h : Look P W0 mv env) (hq : ∀ b, P b → b < W0.heap.size → Q b) : Look Q W0 mv env := by
  intro t ht
  obtain ⟨v, h1, h2⟩ := h t ht
  refine ⟨v, h1, ?_⟩
  cases he : env t with
  | none => rw [he] at h2; exact h2
  | some a => rw [he] at h2; exact IsArr.imp h2 hq
def ExC (env : ByteArray → Option Arr) (fuel : Int) (f1 : ByteArray → Arr → Arr × Int) (f2 : ByteArray → Arr → Arr → Arr × Int) (B : Nat) (W0 : World) (mv : Value) (x : Ex) : Prop :=
  ∀ (P : Nat → Prop) (w : World) (c : Nat) (q : Option Addr), Wk W0 mv fuel c w → (c : Int) ≤ fuel → (∀ b, w.heap.size ≤ b → P b) → ¬ P W0.heap.size → Look P W0 mv env → IsEx B W0 q x →
    Calls Tryz.prog 77 #[.pointer (some ⟨W0.heap.size, 0, none⟩), .pointer q] w (WLeft P W0 mv fuel w (evalE env fuel f1 f2 x c))

set_option maxHeartbeats 1000000 in
theorem ex_num (env : ByteArray → Option Arr) (fuel : Int) (f1 : ByteArray → Arr → Arr × Int) (f2 : ByteArray → Arr → Arr → Arr × Int) (B : Nat) (W0 : World) (mv : Value) (ws : List Int) : ExC env fuel f1 f2 B W0 mv (.num ws) := by
  intro P w c q hw hc hP hR hL hx
  obtain ⟨b, n, rfl, h1, h2, c0, c7, hi, h0, h200⟩ := hx
  have hlt := hw.lt
  have hb := hw.below
  have d0 := (hb.cell (p := ⟨b, 0, none⟩) h2).trans c0
  have d7 := (hb.cell (p := ⟨b, 7, none⟩) h2).trans c7
  have hbl : b < w.heap.size := Nat.lt_of_lt_of_le h2 hb.size
  have HN := hide (nums_ints (P := fun _ => True) (hi.keep (Behind.of_below hb)) (fun _ _ _ => trivial))
  have hn := unhide HN
  obtain ⟨nb, ncap, rfl, _, _, _, _⟩ := hi
  have HW := hide hw
  have HP : Hid (∀ b, w.heap.size ≤ b → P b) := hP
  clear hw hP hL c0 c7 hb hn h2
  go_enter Tryz.func77, Tryz.ntmps77
  go_wp2_with fail
  refine (of_any (fun b => P b ∧ b ≠ w.heap.size ∧ b ≠ w.heap.size + 1) _ (fun b h => ⟨unhide HP b (by simp at h; omega), by simp at h; omega, by simp at h; omega⟩) _ ws ((unhide HN).below (((Below.refl w.heap.size w).alloc (Nat.le_refl _) _).alloc (by simp) _)) h0 h200).mono ?_
  rintro e w1 ⟨so, sn, sc, co, cn, cc, rfl, ha, hb1⟩
  have HA := hide ha
  obtain ⟨hcc, hff⟩ := bcell hb1
  have e0 := hcc w.heap.size 0 (by simp; omega)
  have e1 := hcc w.heap.size 1 (by simp; omega)
  have e2 := hcc (w.heap.size + 1) 0 (by simp)
  have e3 := hcc (w.heap.size + 1) 1 (by simp)
  have g0 := hff w.heap.size 0 (by simp; omega)
  have g1 := hff w.heap.size 1 (by simp; omega)
  have g2 := hff (w.heap.size + 1) 0 (by simp)
  have g3 := hff (w.heap.size + 1) 1 (by simp)
  simp at e0 e1 e2 e3 g0 g1 g2 g3
  have HB := hide hb1
  clear ha hb1 hcc hff
  go_wp2_with fail
  refine bodyPost_ret (v := .tuple #[.agg #[.slice so sn sc, .slice co cn cc], .agg #[.int .i64 0, .int .i64 0]]) (by simp [results, Tryz.results77, go_sem, e0, e1, e2, e3]) rfl ?_
  have hb2 : Below w.heap.size w w1 := (((Below.refl w.heap.size w).alloc (Nat.le_refl _) _).alloc (by simp) _).trans ((unhide HB).mono (by simp; omega))
  refine ⟨(Kp.of_below hb2).four (Nat.le_refl _) _ _ _ _, _, rfl, ?_, ((unhide HW).keep hb2).four hlt _ _ _ _, hc⟩
  exact (((((unhide HA).set (fun h => h.2.1 rfl) 0 _).set (fun h => h.2.1 rfl) 1 _).set (fun h => h.2.2 rfl) 0 _).set (fun h => h.2.2 rfl) 1 _).imp (fun b h _ => h.1)
end Go.Proofs.YtjobgpahajhbnaaGreatDoor
