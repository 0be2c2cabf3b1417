import Derived.Test.YtjobgpahajhbnaaGreatDoorVd
import Derived.Test.YtjobgpahajhbnaaGreatDoorEe
import Derived.StringKeys
namespace Go.Proofs.YtjobgpahajhbnaaGreatDoor
open Go.RowKit Go.Proofs Go.Maps
attribute [local go_sem ↓] Go.wp_at_zero Go.wp_at_succ

def f1S : ByteArray → Arr → Arr × Int := fun _ _ => (eArr, 0)
def f2S : ByteArray → Arr → Arr → Arr × Int := fun t => pairP (sgF (t.data.toList.headD 0))
theorem f2S_sg (sg : UInt8) (_ : gU sg = true) : f2S ⟨#[sg]⟩ = pairP (sgF sg) := rfl
theorem Tryz.zero89 (w : World) : (zeroValue 89).run Tryz.prog w = .ok zArr w := by kernel_rfl
theorem look_none (P : Nat → Prop) (W : World) : Look P W (.map none) (fun _ => none) := by
  intro t ht
  refine ⟨zArr, fun w _ => ?_, rfl⟩
  exact Maps.look_nil true Tryz.law9 Tryz.underlying87 (Tryz.zero89 w) (Go.WideMaps.keyOf_string_mk Tryz.underlying9 (by unfold maxLen; omega))
theorem read_t {g : Gr} {t : List UInt8} (ht : Tx false g t) (hd : g.deep ≤ 8) (hl : t.length ≤ 200) (w : World) (hv : Evs w) :
    Calls Tryz.prog 59 #[.string ⟨t.toArray⟩] w fun e w' => ∃ q x, e = .returned (.tuple #[.agg #[.string ⟨#[]⟩, .pointer q], .int .i64 0, .int .i64 0]) ∧ Below w.heap.size w w' ∧ IsG g x ∧ IsEx w.heap.size w' q x := by
  obtain ⟨e1, e2, y, hy, hi⟩ := tx_tree ht hl hd
  refine (gread_any _ w hv (by simp [ByteArray.size]; omega)).mono ?_
  rintro e w' ⟨q, rfl, hb, hx⟩
  obtain ⟨x, h1, h2⟩ := hx (by rw [e1])
  rw [tree_uniq h1 hy] at h2
  exact ⟨q, y, by rw [e1, e2], hb, hi, h2⟩
theorem expr_t {g : Gr} (hf : g.fine) (hc : g.cost ≤ 1000) {x : Ex} (hi : IsG g x) (P : Nat → Prop) (B : Nat) (W : World) (q : Option Addr) (hx : IsEx B W q x) (hP : ∀ b, W.heap.size ≤ b → P b) :
    Calls Tryz.prog 60 #[.pointer q, .map none, .int .i64 1000] W fun e w' => Below W.heap.size W w' ∧ ∃ so sn sc co cn cc, e = .returned (.tuple #[.agg #[.slice so sn sc, .slice co cn cc], .int .i64 g.cost, .agg #[.int .i64 0, .int .i64 0]]) ∧ IsArr P w' (.agg #[.slice so sn sc, .slice co cn cc]) ⟨[], [g.val]⟩ := by
  obtain ⟨h1, h2⟩ := gr_eval (env := fun _ => none) (fuel := 1000) (f1 := f1S) f2S_sg g x 0 hi hf (by omega)
  refine (expr_top (fun _ => none) 1000 f1S f2S B W (.map none) ⟨_, rfl⟩ (by decide) (by decide) (fun _ _ h => by cases h) x h1 q hx P hP (look_none P W)).mono ?_
  rintro e w' ⟨hb, h⟩
  rw [h2, Nat.zero_add] at h
  exact ⟨hb, h⟩
set_option maxHeartbeats 400000 in
theorem shape_any (P : Nat → Prop) (w : World) (hP : ∀ b, w.heap.size ≤ b → P b) {Q : Nat → Prop} (so : Option Addr) (sn sc : Nat) (co : Option Addr) (cn cc : Nat) (xs : List Int) (h : Nums Q w (.slice so sn sc) xs) (hx : xs.length ≤ 200) :
    Calls Tryz.prog 62 #[.agg #[.slice so sn sc, .slice co cn cc]] w fun e w' => ∃ so sn sc, e = .returned (.slice so sn sc) ∧ Nums P w' (.slice so sn sc) xs ∧ Below w.heap.size w w' := by
  have hw0 : Below w.heap.size w (w.alloc (.cells #[.slice so sn sc, .slice co cn cc] 89)) := (Below.refl _ _).alloc (Nat.le_refl _) _
  have HC := hide (clone79 P _ (fun b hb => hP b (by simp at hb; omega)) _ xs (h.below hw0) hx)
  have HB0 := hide hw0
  clear h hP hw0
  go_enter Tryz.func62, Tryz.ntmps62
  go_wp2_with (go_at_call 79; refine (unhide HC).mono ?_; rintro e w1 ⟨a1, a2, a3, rfl, hn, hb1⟩; have HB1 := hide hb1; have HN1 := hide hn; clear hb1 hn)
  exact bodyPost_ret (v := .slice a1 a2 a3) (by simp [results, Tryz.results62, go_sem]) rfl ⟨_, _, _, rfl, unhide HN1, (unhide HB0).trans ((unhide HB1).mono (unhide HB0).size)⟩
set_option maxHeartbeats 400000 in
theorem cells_any (P : Nat → Prop) (w : World) (hP : ∀ b, w.heap.size ≤ b → P b) {Q : Nat → Prop} (so : Option Addr) (sn sc : Nat) (co : Option Addr) (cn cc : Nat) (xs : List Int) (h : Nums Q w (.slice co cn cc) xs) (hx : xs.length ≤ 200) :
    Calls Tryz.prog 63 #[.agg #[.slice so sn sc, .slice co cn cc]] w fun e w' => ∃ so sn sc, e = .returned (.slice so sn sc) ∧ Nums P w' (.slice so sn sc) xs ∧ Below w.heap.size w w' := by
  have hw0 : Below w.heap.size w (w.alloc (.cells #[.slice so sn sc, .slice co cn cc] 89)) := (Below.refl _ _).alloc (Nat.le_refl _) _
  have HC := hide (clone80 P _ (fun b hb => hP b (by simp at hb; omega)) _ xs (h.below hw0) hx)
  have HB0 := hide hw0
  clear h hP hw0
  go_enter Tryz.func63, Tryz.ntmps63
  go_wp2_with (go_at_call 80; refine (unhide HC).mono ?_; rintro e w1 ⟨a1, a2, a3, rfl, hn, hb1⟩; have HB1 := hide hb1; have HN1 := hide hn; clear hb1 hn)
  exact bodyPost_ret (v := .slice a1 a2 a3) (by simp [results, Tryz.results63, go_sem]) rfl ⟨_, _, _, rfl, unhide HN1, (unhide HB0).trans ((unhide HB1).mono (unhide HB0).size)⟩
end Go.Proofs.YtjobgpahajhbnaaGreatDoor
