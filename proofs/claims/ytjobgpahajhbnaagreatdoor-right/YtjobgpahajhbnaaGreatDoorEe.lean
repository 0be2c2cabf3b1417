import Derived.Test.YtjobgpahajhbnaaGreatDoorEd
namespace Go.Proofs.YtjobgpahajhbnaaGreatDoor
open Go.RowKit Go.Proofs
attribute [local go_sem ↓] Go.wp_at_zero Go.wp_at_succ

/-- the two results' blocks of a call in w, and what is said of them behind a callee -/
theorem res_cells {W0 w w1 : World} (hlt : W0.heap.size < w.heap.size) (hk : Kp W0 ((w.alloc (.cells #[.slice none 0 0, .slice none 0 0] 89)).alloc (.cells #[.int .i64 0, .int .i64 0] 117)) w1) :
    (w1.cell? ⟨w.heap.size, 0, none⟩ = some (.slice none 0 0) ∧ w1.cell? ⟨w.heap.size, 1, none⟩ = some (.slice none 0 0) ∧ w1.cell? ⟨w.heap.size + 1, 0, none⟩ = some (.int .i64 0) ∧ w1.cell? ⟨w.heap.size + 1, 1, none⟩ = some (.int .i64 0)) ∧
    (w1.frozen? ⟨w.heap.size, 0, none⟩ = false ∧ w1.frozen? ⟨w.heap.size, 1, none⟩ = false ∧ w1.frozen? ⟨w.heap.size + 1, 0, none⟩ = false ∧ w1.frozen? ⟨w.heap.size + 1, 1, none⟩ = false) := by
  have h1 := fun i => hk.cell (b := w.heap.size) (by simp; omega) (by omega) i
  have h2 := fun i => hk.cell (b := w.heap.size + 1) (by simp) (by omega) i
  have f1 := fun i => hk.frozen (b := w.heap.size) (by simp; omega) (by omega) i
  have f2 := fun i => hk.frozen (b := w.heap.size + 1) (by simp) (by omega) i
  rw [h1, h1, h2, h2, f1, f1, f2, f2]
  simp
/-- P, but for the two results' blocks -/
def But (P : Nat → Prop) (n : Nat) (b : Nat) : Prop := P b ∧ b ≠ n ∧ b ≠ n + 1
theorem but_new {P : Nat → Prop} {w : World} (hP : ∀ b, w.heap.size ≤ b → P b) {o1 o2 : Obj} : ∀ b, ((w.alloc o1).alloc o2).heap.size ≤ b → But P w.heap.size b := by
  intro b h
  simp at h
  exact ⟨hP b (by omega), by omega, by omega⟩
theorem but_arr {P : Nat → Prop} {w : World} {n : Nat} {v : Value} {a : Arr} (h : IsArr (But P n) w v a) (v0 v1 v2 v3 : Value) : IsArr P ((((w.setCell ⟨n, 0, none⟩ v0).setCell ⟨n, 1, none⟩ v1).setCell ⟨n + 1, 0, none⟩ v2).setCell ⟨n + 1, 1, none⟩ v3) v a :=
  ((((h.set (fun h => h.2.1 rfl) 0 _).set (fun h => h.2.1 rfl) 1 _).set (fun h => h.2.2 rfl) 0 _).set (fun h => h.2.2 rfl) 1 _).imp (fun _ h _ => h.1)
theorem but_look {P : Nat → Prop} {W0 : World} {mv : Value} {env : ByteArray → Option Arr} (h : Look P W0 mv env) {n : Nat} (hn : W0.heap.size ≤ n) : Look (But P n) W0 mv env := h.imp (fun _ hb hl => ⟨hb, by omega, by omega⟩)
theorem wl_err {P : Nat → Prop} {W0 w w' : World} {mv : Value} {fuel : Int} {k : Nat} {er : Int} {p : Nat} (h1 : Kp W0 w w') (h2 : Wk W0 mv fuel k w') (hn : er ≠ 0) : WLeft P W0 mv fuel w (.inl (er, p)) (.returned (.tuple #[zArr, .agg #[.int .i64 er, .int .i64 p]])) w' := ⟨h1, rfl, hn, k, h2⟩
theorem wl_yes {P : Nat → Prop} {W0 w w' : World} {mv : Value} {fuel : Int} {k : Nat} {a : Arr} {v : Value} (h1 : Kp W0 w w') (h2 : Wk W0 mv fuel k w') (h3 : IsArr P w' v a) (hf : (k : Int) ≤ fuel) : WLeft P W0 mv fuel w (.inr (a, k)) (.returned (.tuple #[v, .agg #[.int .i64 0, .int .i64 0]])) w' := ⟨h1, v, rfl, h3, h2, hf⟩
theorem kp_two {W0 w w1 : World} {o1 o2 : Obj} (h : Kp W0 ((w.alloc o1).alloc o2) w1) : Kp W0 w w1 := (((Kp.refl W0 w).alloc o1).alloc o2).trans h

set_option maxHeartbeats 1000000 in
theorem ex_name (env : ByteArray → Option Arr) (fuel : Int) (f1 : ByteArray → Arr → Arr × Int) (f2 : ByteArray → Arr → Arr → Arr × Int) (B : Nat) (W0 : World) (mv : Value) (t : ByteArray) (ht : t.size ≤ 200) (p : Nat) : ExC env fuel f1 f2 B W0 mv (.name t p) := by
  intro P w c q hw hc hP hR hL hx
  obtain ⟨b, rr, xx, rfl, h1, h2, c0, c1, c2, c3, c4⟩ := hx
  have hlt := hw.lt
  have hb := hw.below
  have d0 := (hb.cell (p := ⟨b, 0, none⟩) h2).trans c0
  have d1 := (hb.cell (p := ⟨b, 1, none⟩) h2).trans c1
  have d2 := (hb.cell (p := ⟨b, 2, none⟩) h2).trans c2
  have d3 := (hb.cell (p := ⟨b, 3, none⟩) h2).trans c3
  have d4 := (hb.cell (p := ⟨b, 4, none⟩) h2).trans c4
  have hbl : b < w.heap.size := Nat.lt_of_lt_of_le h2 hb.size
  have hbl1 : b < w.heap.size + 1 := by omega
  have HCall := hide (fun w' hw' => value_any (But P w.heap.size) W0 mv fuel c w' hw' 1 rr xx t ht p env (but_look hL (by omega)) (fun h => hR h.1) hc)
  have HW := hide hw
  clear hw hP hL c0 c1 c2 c3 c4 hb h2
  go_enter Tryz.func77, Tryz.ntmps77
  go_wp2_with fail
  refine (unhide HCall _ (((unhide HW).alloc _).alloc _)).mono ?_
  intro e w1 hl
  cases he : env t with
  | none =>
    rw [he] at hl
    have HEV : Hid (evalE env fuel f1 f2 (.name t p) c = .inl (4, p)) := hide (by simp [evalE, he])
    obtain ⟨hk, rfl, _, c', hw'⟩ := hl
    obtain ⟨⟨e0, e1, e2, e3⟩, g0, g1, g2, g3⟩ := res_cells hlt hk
    have HK := hide (kp_two hk)
    have HW' := hide hw'
    clear hk hw'
    unfold zArr
    go_wp2_with fail
    refine bodyPost_ret (v := .tuple #[zArr, .agg #[.int .i64 4, .int .i64 p]]) (by simp [results, Tryz.results77, go_sem, zArr, e0, e1, e2, e3]) rfl ?_
    rw [unhide HEV]
    exact wl_err ((unhide HK).four (Nat.le_refl _) _ _ _ _) ((unhide HW').four hlt _ _ _ _) (by decide)
  | some a =>
    rw [he] at hl
    have HEV : Hid (evalE env fuel f1 f2 (.name t p) c = .inr (a, c)) := hide (by simp [evalE, he])
    obtain ⟨hk, v, rfl, ha, hw', hf⟩ := hl
    obtain ⟨⟨e0, e1, e2, e3⟩, g0, g1, g2, g3⟩ := res_cells hlt hk
    have HK := hide (kp_two hk)
    have HW' := hide hw'
    have HA := hide ha
    obtain ⟨so, sn, sc, co, cn, cc, rfl, _, _⟩ := ha
    clear hk hw'
    go_wp2_with fail
    refine bodyPost_ret (v := .tuple #[.agg #[.slice so sn sc, .slice co cn cc], .agg #[.int .i64 0, .int .i64 0]]) (by simp [results, Tryz.results77, go_sem, e0, e1, e2, e3]) rfl ?_
    rw [unhide HEV]
    exact wl_yes ((unhide HK).four (Nat.le_refl _) _ _ _ _) ((unhide HW').four hlt _ _ _ _) (but_arr (unhide HA) _ _ _ _) hf
end Go.Proofs.YtjobgpahajhbnaaGreatDoor
