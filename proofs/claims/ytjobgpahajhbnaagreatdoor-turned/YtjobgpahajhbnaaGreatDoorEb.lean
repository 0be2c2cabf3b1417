import Derived.Test.YtjobgpahajhbnaaGreatDoorEa
import Derived.Deep.DrawnRows
namespace Go.Proofs.YtjobgpahajhbnaaGreatDoor
open Go.RowKit
attribute [local go_sem ↓] Go.wp_at_zero Go.wp_at_succ

/-- what a look into the desk's values says, in every world that holds what W0 holds -/
def Look (P : Nat → Prop) (W0 : World) (mv : Value) (env : ByteArray → Option Arr) : Prop :=
  ∀ t : ByteArray, t.size ≤ 200 → ∃ v, (∀ w, Below W0.heap.size W0 w → (Instr.lookup 87 mv (.string t) true).run Tryz.prog w = .ok (.tuple #[v, .bool (env t).isSome]) w) ∧
    match env t with
    | none => v = zArr
    | some a => IsArr P W0 v a

set_option maxHeartbeats 1000000 in
theorem value_no (P : Nat → Prop) (W0 : World) (mv : Value) (fuel : Int) (c : Nat) (w : World) (hw : Wk W0 mv fuel c w) (k r x : Int) (t : ByteArray) (p : Nat)
    (hl : ∀ w, Below W0.heap.size W0 w → (Instr.lookup 87 mv (.string t) true).run Tryz.prog w = .ok (.tuple #[zArr, .bool false]) w) :
    Calls Tryz.prog 108 #[.pointer (some ⟨W0.heap.size, 0, none⟩), .agg #[.int .i64 k, .int .i64 r, .int .i64 x, .string t, .int .i64 p]] w (WLeft P W0 mv fuel w (.inl (4, p))) := by
  have HW := hide hw
  have hlt := hw.lt
  have c0 := hw.vals
  have HL := hide hl
  have hne : W0.heap.size ≠ w.heap.size := by omega
  have hlt1 : W0.heap.size < w.heap.size + 1 := by omega
  have hlt2 : W0.heap.size < w.heap.size + 1 + 1 := by omega
  have hlt3 : W0.heap.size < w.heap.size + 1 + 1 + 1 := by omega
  unfold zArr at HL
  clear hw hl
  have HS : Hid (∀ w', Below (((w.alloc (.cells #[.int .i64 k, .int .i64 r, .int .i64 x, .string t, .int .i64 p] 155)).alloc (.cells #[.slice none 0 0, .slice none 0 0] 89)).alloc (.cells #[.int .i64 0, .int .i64 0] 117)).heap.size (((w.alloc (.cells #[.int .i64 k, .int .i64 r, .int .i64 x, .string t, .int .i64 p] 155)).alloc (.cells #[.slice none 0 0, .slice none 0 0] 89)).alloc (.cells #[.int .i64 0, .int .i64 0] 117)) w' → w'.cell? ⟨W0.heap.size, 0, none⟩ = some mv ∧ w'.cell? ⟨w.heap.size, 3, none⟩ = some (.string t) ∧ w'.cell? ⟨w.heap.size, 4, none⟩ = some (.int .i64 p) ∧ (Instr.lookup 87 mv (.string t) true).run Tryz.prog w' = .ok (.tuple #[.agg #[.slice none 0 0, .slice none 0 0], .bool false]) w') := by
    intro w' hb
    have h3 := (((unhide HW).alloc (.cells #[.int .i64 k, .int .i64 r, .int .i64 x, .string t, .int .i64 p] 155)).alloc (.cells #[.slice none 0 0, .slice none 0 0] 89)).alloc (.cells #[.int .i64 0, .int .i64 0] 117)
    have hq := ((Below.refl (w.heap.size + 1) (w.alloc (.cells #[.int .i64 k, .int .i64 r, .int .i64 x, .string t, .int .i64 p] 155))).alloc (by simp) (.cells #[.slice none 0 0, .slice none 0 0] 89)).alloc (by simp) (.cells #[.int .i64 0, .int .i64 0] 117)
    refine ⟨(h3.keep hb).vals, ?_, ?_, unhide HL _ (h3.keep hb).below⟩
    · exact (hb.cell (p := ⟨w.heap.size, 3, none⟩) (by simp; omega)).trans ((hq.cell (p := ⟨w.heap.size, 3, none⟩) (by simp)).trans (by simp))
    · exact (hb.cell (p := ⟨w.heap.size, 4, none⟩) (by simp; omega)).trans ((hq.cell (p := ⟨w.heap.size, 4, none⟩) (by simp)).trans (by simp))
  go_enter Tryz.func108, Tryz.ntmps108
  go_wp2_with fail
  go_region_held3 (fun w' => w'.cell? ⟨W0.heap.size, 0, none⟩ = some mv ∧ w'.cell? ⟨w.heap.size, 3, none⟩ = some (.string t) ∧ w'.cell? ⟨w.heap.size, 4, none⟩ = some (.int .i64 p) ∧ (Instr.lookup 87 mv (.string t) true).run Tryz.prog w' = .ok (.tuple #[.agg #[.slice none 0 0, .slice none 0 0], .bool false]) w')
    (first | exact unhide HS _ (Below.refl _ _).drew | exact unhide HS _ ((Below.refl _ _).alloc (Nat.le_refl _) _).drew)
    (fail)
  all_goals
    have hS := unhide HS _ ((Below.refl _ _).alloc (Nat.le_refl _) (.cells #[.slice none 0 0, .slice none 0 0] 89)).drew
    obtain ⟨_, _, s4, _⟩ := hS
    go_wp2_with fail
    go_region
    all_goals
      go_wp2_with fail
      refine bodyPost_ret (v := .tuple #[zArr, .agg #[.int .i64 4, .int .i64 p]]) (by simp [results, Tryz.results108, go_sem, zArr]) rfl ?_
      exact ⟨(((((Kp.refl W0 w).alloc _).alloc _).alloc _).alloc _).drew.drew, rfl, (show (4 : Int) ≠ 0 by decide), c, (((((unhide HW).alloc _).alloc _).alloc _).alloc _).drew.drew⟩
set_option maxHeartbeats 1000000 in
theorem value_yes (P : Nat → Prop) (W0 : World) (mv : Value) (fuel : Int) (c : Nat) (w : World) (hw : Wk W0 mv fuel c w) (k r x : Int) (t : ByteArray) (p : Nat)
    (so : Option Addr) (sn sc : Nat) (co : Option Addr) (cn cc : Nat) (a : Arr) (ha : IsArr P w (.agg #[.slice so sn sc, .slice co cn cc]) a) (hP : ¬ P W0.heap.size) (hc : (c : Int) ≤ fuel)
    (hl : ∀ w, Below W0.heap.size W0 w → (Instr.lookup 87 mv (.string t) true).run Tryz.prog w = .ok (.tuple #[.agg #[.slice so sn sc, .slice co cn cc], .bool true]) w) :
    Calls Tryz.prog 108 #[.pointer (some ⟨W0.heap.size, 0, none⟩), .agg #[.int .i64 k, .int .i64 r, .int .i64 x, .string t, .int .i64 p]] w (WLeft P W0 mv fuel w (.inr (a, c))) := by
  have HW := hide hw
  have hlt := hw.lt
  have c0 := hw.vals
  have HL := hide hl
  have hne : W0.heap.size ≠ w.heap.size := by omega
  have hlt1 : W0.heap.size < w.heap.size + 1 := by omega
  have hlt2 : W0.heap.size < w.heap.size + 1 + 1 := by omega
  have hlt3 : W0.heap.size < w.heap.size + 1 + 1 + 1 := by omega
  have HA := hide ha
  clear hw hl ha
  have HS : Hid (∀ w', Below (((w.alloc (.cells #[.int .i64 k, .int .i64 r, .int .i64 x, .string t, .int .i64 p] 155)).alloc (.cells #[.slice none 0 0, .slice none 0 0] 89)).alloc (.cells #[.int .i64 0, .int .i64 0] 117)).heap.size (((w.alloc (.cells #[.int .i64 k, .int .i64 r, .int .i64 x, .string t, .int .i64 p] 155)).alloc (.cells #[.slice none 0 0, .slice none 0 0] 89)).alloc (.cells #[.int .i64 0, .int .i64 0] 117)) w' → w'.cell? ⟨W0.heap.size, 0, none⟩ = some mv ∧ w'.cell? ⟨w.heap.size, 3, none⟩ = some (.string t) ∧ w'.cell? ⟨w.heap.size, 4, none⟩ = some (.int .i64 p) ∧ (Instr.lookup 87 mv (.string t) true).run Tryz.prog w' = .ok (.tuple #[.agg #[.slice so sn sc, .slice co cn cc], .bool true]) w') := by
    intro w' hb
    have h3 := (((unhide HW).alloc (.cells #[.int .i64 k, .int .i64 r, .int .i64 x, .string t, .int .i64 p] 155)).alloc (.cells #[.slice none 0 0, .slice none 0 0] 89)).alloc (.cells #[.int .i64 0, .int .i64 0] 117)
    have hq := ((Below.refl (w.heap.size + 1) (w.alloc (.cells #[.int .i64 k, .int .i64 r, .int .i64 x, .string t, .int .i64 p] 155))).alloc (by simp) (.cells #[.slice none 0 0, .slice none 0 0] 89)).alloc (by simp) (.cells #[.int .i64 0, .int .i64 0] 117)
    refine ⟨(h3.keep hb).vals, ?_, ?_, unhide HL _ (h3.keep hb).below⟩
    · exact (hb.cell (p := ⟨w.heap.size, 3, none⟩) (by simp; omega)).trans ((hq.cell (p := ⟨w.heap.size, 3, none⟩) (by simp)).trans (by simp))
    · exact (hb.cell (p := ⟨w.heap.size, 4, none⟩) (by simp; omega)).trans ((hq.cell (p := ⟨w.heap.size, 4, none⟩) (by simp)).trans (by simp))
  go_enter Tryz.func108, Tryz.ntmps108
  go_wp2_with fail
  go_region_held3 (fun w' => w'.cell? ⟨W0.heap.size, 0, none⟩ = some mv ∧ w'.cell? ⟨w.heap.size, 3, none⟩ = some (.string t) ∧ w'.cell? ⟨w.heap.size, 4, none⟩ = some (.int .i64 p) ∧ (Instr.lookup 87 mv (.string t) true).run Tryz.prog w' = .ok (.tuple #[.agg #[.slice so sn sc, .slice co cn cc], .bool true]) w')
    (first | exact unhide HS _ (Below.refl _ _).drew | exact unhide HS _ ((Below.refl _ _).alloc (Nat.le_refl _) _).drew)
    (fail)
  all_goals
    go_wp2_with fail
    refine bodyPost_ret (v := .tuple #[.agg #[.slice so sn sc, .slice co cn cc], .agg #[.int .i64 0, .int .i64 0]]) (by simp [results, Tryz.results108, go_sem]) rfl ?_
    exact wl_ok (((((Kp.refl W0 w).alloc _).alloc _).alloc _).alloc _).drew (((((unhide HW).alloc _).alloc _).alloc _).alloc _).drew (unhide HA) hP hc
theorem value_any (P : Nat → Prop) (W0 : World) (mv : Value) (fuel : Int) (c : Nat) (w : World) (hw : Wk W0 mv fuel c w) (k r x : Int) (t : ByteArray) (ht : t.size ≤ 200) (p : Nat) (env : ByteArray → Option Arr) (hl : Look P W0 mv env) (hP : ¬ P W0.heap.size) (hc : (c : Int) ≤ fuel) :
    Calls Tryz.prog 108 #[.pointer (some ⟨W0.heap.size, 0, none⟩), .agg #[.int .i64 k, .int .i64 r, .int .i64 x, .string t, .int .i64 p]] w (WLeft P W0 mv fuel w (match env t with | none => .inl (4, p) | some a => .inr (a, c))) := by
  obtain ⟨v, h1, h2⟩ := hl t ht
  cases he : env t with
  | none =>
    rw [he] at h1 h2
    simp only at h2
    subst h2
    exact value_no P W0 mv fuel c w hw k r x t p h1
  | some a =>
    rw [he] at h1 h2
    simp only at h2
    have h3 : IsArr P w v a := h2.below hw.below
    have h4 := h3
    obtain ⟨so, sn, sc, co, cn, cc, rfl, _, _⟩ := h3
    exact value_yes P W0 mv fuel c w hw k r x t p so sn sc co cn cc a h4 hP hc h1
end Go.Proofs.YtjobgpahajhbnaaGreatDoor
