import Derived.Test.YtjobgpahajhbnabGreatDoorTd
import Derived.Test.YtjobgpahajhbnabGreatDoorRi
namespace Go.Proofs.YtjobgpahajhbnabGreatDoor
open Go.RowKit Go.Proofs
attribute [local go_sem ↓] Go.wp_at_zero Go.wp_at_succ
set_option maxHeartbeats 400000 in
theorem Jnt (fuel : Int) (h : 0 ≤ fuel ∧ fuel ≤ 1000) (w : World) : Calls Tryz.prog 15 #[.int .i64 fuel] w fun e w' => e = .returned (.tuple #[.pointer (some ⟨w.heap.size, 0, none⟩), .int .i64 0]) ∧ w' = w.alloc (.cells #[.int .i64 fuel, .map none] 59) := by
  have h1 : ¬ fuel < 0 := by omega
  have h2 : ¬ 1000 < fuel := by omega
  go_enter Tryz.func15, Tryz.ntmps15
  go_wp2
  exact bodyPost_ret (v := .tuple #[.pointer (some ⟨w.heap.size, 0, none⟩), .int .i64 0]) (by simp [results, Tryz.results15, go_sem]) rfl ⟨rfl, rfl⟩
set_option maxHeartbeats 400000 in
theorem Jkz (w : World) : Calls Tryz.prog 6 #[] w fun e w' => e = .returned (.tuple #[.pointer (some ⟨w.heap.size, 0, none⟩), .bool true]) ∧ w' = w.alloc (.cells #[.int .i64 1000, .map none] 59) := by
  go_enter Tryz.func6, Tryz.ntmps6
  go_wp2_with (go_at_call 15; refine (Jnt 1000 (by decide) _).mono ?_; rintro e w' ⟨rfl, rfl⟩)
  exact bodyPost_ret (v := .tuple #[.pointer (some ⟨w.heap.size, 0, none⟩), .bool true]) (by simp [results, Tryz.results6, go_sem]) rfl ⟨rfl, rfl⟩
end Go.Proofs.YtjobgpahajhbnabGreatDoor
namespace Go.Proofs.YtjobgpahajhbnabGreatDoor
open Go.RowKit Go.Proofs
attribute [local go_sem ↓] Go.wp_at_zero Go.wp_at_succ
theorem Ka {W0 w w1 : World} (hlt : W0.heap.size < w.heap.size) (hk : Kp W0 ((w.alloc (.cells #[.slice none 0 0, .slice none 0 0] 57)).alloc (.cells #[.int .i64 0, .int .i64 0] 67)) w1) :
    (w1.cell? ⟨w.heap.size, 0, none⟩ = some (.slice none 0 0) ∧ w1.cell? ⟨w.heap.size, 1, none⟩ = some (.slice none 0 0) ∧ w1.cell? ⟨w.heap.size + 1, 0, none⟩ = some (.int .i64 0) ∧ w1.cell? ⟨w.heap.size + 1, 1, none⟩ = some (.int .i64 0)) ∧
    (w1.frozen? ⟨w.heap.size, 0, none⟩ = false ∧ w1.frozen? ⟨w.heap.size, 1, none⟩ = false ∧ w1.frozen? ⟨w.heap.size + 1, 0, none⟩ = false ∧ w1.frozen? ⟨w.heap.size + 1, 1, none⟩ = false) := by
  have h1 := fun i => hk.cell (b := w.heap.size) (by simp; omega) (by omega) i
  have h2 := fun i => hk.cell (b := w.heap.size + 1) (by simp) (by omega) i
  have f1 := fun i => hk.frozen (b := w.heap.size) (by simp; omega) (by omega) i
  have f2 := fun i => hk.frozen (b := w.heap.size + 1) (by simp) (by omega) i
  rw [h1, h1, h2, h2, f1, f1, f2, f2]
  simp
def But (P : Nat → Prop) (n : Nat) (b : Nat) : Prop := P b ∧ b ≠ n ∧ b ≠ n + 1
theorem Jb8 {P : Nat → Prop} {w : World} (hP : ∀ b, w.heap.size ≤ b → P b) {o1 o2 : Obj} : ∀ b, ((w.alloc o1).alloc o2).heap.size ≤ b → But P w.heap.size b := by
  intro b h
  simp at h
  exact ⟨hP b (by omega), by omega, by omega⟩
theorem Jb9 {P : Nat → Prop} {w : World} {n : Nat} {v : Value} {a : Arr} (h : IsArr (But P n) w v a) (v0 v1 v2 v3 : Value) : IsArr P ((((w.setCell ⟨n, 0, none⟩ v0).setCell ⟨n, 1, none⟩ v1).setCell ⟨n + 1, 0, none⟩ v2).setCell ⟨n + 1, 1, none⟩ v3) v a :=
  ((((h.set (fun h => h.2.1 rfl) 0 _).set (fun h => h.2.1 rfl) 1 _).set (fun h => h.2.2 rfl) 0 _).set (fun h => h.2.2 rfl) 1 _).imp (fun _ h _ => h.1)
theorem Q9 {P : Nat → Prop} {W0 : World} {mv : Value} {env : ByteArray → Option Arr} (h : Look P W0 mv env) {n : Nat} (hn : W0.heap.size ≤ n) : Look (But P n) W0 mv env := h.imp (fun _ hb hl => ⟨hb, by omega, by omega⟩)
theorem Gm {P : Nat → Prop} {W0 w w' : World} {mv : Value} {fuel : Int} {k : Nat} {er : Int} {p : Nat} (h1 : Kp W0 w w') (h2 : Wk W0 mv fuel k w') (hn : er ≠ 0) : Gc P W0 mv fuel w (.inl (er, p)) (.returned (.tuple #[zArr, .agg #[.int .i64 er, .int .i64 p]])) w' := ⟨h1, rfl, hn, k, h2⟩
theorem Jey {P : Nat → Prop} {W0 w w' : World} {mv : Value} {fuel : Int} {k : Nat} {a : Arr} {v : Value} (h1 : Kp W0 w w') (h2 : Wk W0 mv fuel k w') (h3 : IsArr P w' v a) (hf : (k : Int) ≤ fuel) : Gc P W0 mv fuel w (.inr (a, k)) (.returned (.tuple #[v, .agg #[.int .i64 0, .int .i64 0]])) w' := ⟨h1, v, rfl, h3, h2, hf⟩
theorem Vs {W0 w w1 : World} {o1 o2 : Obj} (h : Kp W0 ((w.alloc o1).alloc o2) w1) : Kp W0 w w1 := (((Kp.refl W0 w).alloc o1).alloc o2).trans h
set_option maxHeartbeats 1000000 in
theorem Jmy (env : ByteArray → Option Arr) (fuel : Int) (f1 : ByteArray → Arr → Arr × Int) (f2 : ByteArray → Arr → Arr → Arr × Int) (B : Nat) (W0 : World) (mv : Value) (t : ByteArray) (ht : t.size ≤ 200) (p : Nat) : ExC env fuel f1 f2 B W0 mv (.name t p) := by
  intro P w c q hw hc hP hR hL hx
  obtain ⟨b, rr, xx, rfl, h1, h2, c0, c1, c2, c3, c4⟩ := hx
  have hlt := hw.lt
  have hb := hw.below
  have d0 := (hb.cell (p := ⟨b, 0, none⟩) h2).trans c0
  have d1 := (hb.cell (p := ⟨b, 1, none⟩) h2).trans c1
  have d2 := (hb.cell (p := ⟨b, 2, none⟩) h2).trans c2
  have d3 := (hb.cell (p := ⟨b, 3, none⟩) h2).trans c3
  have d4 := (hb.cell (p := ⟨b, 4, none⟩) h2).trans c4
  have hbl : b < w.heap.size := Nat.lt_of_lt_of_le h2 hb.size
  have hbl1 : b < w.heap.size + 1 := by omega
  have HCall := hide (fun w' hw' => Je1 (But P w.heap.size) W0 mv fuel c w' hw' 1 rr xx t ht p env (Q9 hL (by omega)) (fun h => hR h.1) hc)
  have HW := hide hw
  clear hw hP hL c0 c1 c2 c3 c4 hb h2
  go_enter Tryz.func35, Tryz.ntmps35
  go_wp2_with fail
  refine (Ja HCall _ (((Ja HW).alloc _).alloc _)).mono ?_
  intro e w1 hl
  cases he : env t with
  | none =>
    rw [he] at hl
    have HEV : Hid (Jt env fuel f1 f2 (.name t p) c = .inl (4, p)) := hide (by simp [Jt, he])
    obtain ⟨hk, rfl, _, c', hw'⟩ := hl
    obtain ⟨⟨e0, e1, e2, e3⟩, g0, g1, g2, g3⟩ := Ka hlt hk
    have HK := hide (Vs hk)
    have HW' := hide hw'
    clear hk hw'
    unfold zArr
    go_wp2_with fail
    refine bodyPost_ret (v := .tuple #[zArr, .agg #[.int .i64 4, .int .i64 p]]) (by simp [results, Tryz.results35, go_sem, zArr, e0, e1, e2, e3]) rfl ?_
    rw [Ja HEV]
    exact Gm ((Ja HK).four (Nat.le_refl _) _ _ _ _) ((Ja HW').four hlt _ _ _ _) (by decide)
  | some a =>
    rw [he] at hl
    have HEV : Hid (Jt env fuel f1 f2 (.name t p) c = .inr (a, c)) := hide (by simp [Jt, he])
    obtain ⟨hk, v, rfl, ha, hw', hf⟩ := hl
    obtain ⟨⟨e0, e1, e2, e3⟩, g0, g1, g2, g3⟩ := Ka hlt hk
    have HK := hide (Vs hk)
    have HW' := hide hw'
    have HA := hide ha
    obtain ⟨so, sn, sc, co, cn, cc, rfl, _, _⟩ := ha
    clear hk hw'
    go_wp2_with fail
    refine bodyPost_ret (v := .tuple #[.agg #[.slice so sn sc, .slice co cn cc], .agg #[.int .i64 0, .int .i64 0]]) (by simp [results, Tryz.results35, go_sem, e0, e1, e2, e3]) rfl ?_
    rw [Ja HEV]
    exact Jey ((Ja HK).four (Nat.le_refl _) _ _ _ _) ((Ja HW').four hlt _ _ _ _) (Jb9 (Ja HA) _ _ _ _) hf
end Go.Proofs.YtjobgpahajhbnabGreatDoor
namespace Go.Proofs.YtjobgpahajhbnabGreatDoor
open Go.RowKit Go.Proofs
attribute [local go_sem ↓] Go.wp_at_zero Go.wp_at_succ
def New (P : Nat → Prop) (W : World) (b : Nat) : Prop := (P b ∧ b < W.heap.size) ∨ W.heap.size ≤ b
theorem Jbq {P : Nat → Prop} {w : World} {v : Value} {a : Arr} (h : IsArr P w v a) {W : World} (hs : w.heap.size ≤ W.heap.size) : IsArr (New P W) w v a := h.imp (fun _ hb hl => .inl ⟨hb, Nat.lt_of_lt_of_le hl hs⟩)
theorem FnOne.call {g : Nat} {lb : Array Value} {w : World} {f : Arr → Arr × Int} (h : FnOne g lb w f) {W : World} {P : Nat → Prop} {v : Value} {a : Arr} (hb : Below w.heap.size w W) (ha : IsArr P W v a) (hok : a.ok) :
    Calls Tryz.prog g (#[v] ++ lb) W fun e W' => ∃ so sn sc co cn cc, e = .returned (.tuple #[.agg #[.slice so sn sc, .slice co cn cc], .int .i64 (f a).2]) ∧ IsArr (New P W) W' (.agg #[.slice so sn sc, .slice co cn cc]) (f a).1 ∧ Below W.heap.size W W' :=
  h W (New P W) v a hb (fun _ h => .inr h) (Jbq ha (Nat.le_refl _)) hok
theorem FnTwo.call {g : Nat} {lb : Array Value} {w : World} {f : Arr → Arr → Arr × Int} (h : FnTwo g lb w f) {W : World} {P : Nat → Prop} {u v : Value} {a b : Arr} (hb : Below w.heap.size w W) (ha : IsArr P W u a) (hb' : IsArr P W v b) (hok : a.ok) (hok' : b.ok) :
    Calls Tryz.prog g (#[u, v] ++ lb) W fun e W' => ∃ so sn sc co cn cc, e = .returned (.tuple #[.agg #[.slice so sn sc, .slice co cn cc], .int .i64 (f a b).2]) ∧ IsArr (New P W) W' (.agg #[.slice so sn sc, .slice co cn cc]) (f a b).1 ∧ Below W.heap.size W W' :=
  h W (New P W) u v a b hb (fun _ h => .inr h) (Jbq ha (Nat.le_refl _)) (Jbq hb' (Nat.le_refl _)) hok hok'
theorem Z9 {W0 w w1 W5 w6 : World} (hlt : W0.heap.size < w.heap.size) (hs : w.heap.size + 1 < w1.heap.size) (hb : Below w1.heap.size w1 W5) (hk : Kp W0 W5 w6)
    (e : w1.cell? ⟨w.heap.size, 0, none⟩ = some (.slice none 0 0) ∧ w1.cell? ⟨w.heap.size, 1, none⟩ = some (.slice none 0 0) ∧ w1.cell? ⟨w.heap.size + 1, 0, none⟩ = some (.int .i64 0) ∧ w1.cell? ⟨w.heap.size + 1, 1, none⟩ = some (.int .i64 0))
    (g : w1.frozen? ⟨w.heap.size, 0, none⟩ = false ∧ w1.frozen? ⟨w.heap.size, 1, none⟩ = false ∧ w1.frozen? ⟨w.heap.size + 1, 0, none⟩ = false ∧ w1.frozen? ⟨w.heap.size + 1, 1, none⟩ = false) :
    (w6.cell? ⟨w.heap.size, 0, none⟩ = some (.slice none 0 0) ∧ w6.cell? ⟨w.heap.size, 1, none⟩ = some (.slice none 0 0) ∧ w6.cell? ⟨w.heap.size + 1, 0, none⟩ = some (.int .i64 0) ∧ w6.cell? ⟨w.heap.size + 1, 1, none⟩ = some (.int .i64 0)) ∧
    (w6.frozen? ⟨w.heap.size, 0, none⟩ = false ∧ w6.frozen? ⟨w.heap.size, 1, none⟩ = false ∧ w6.frozen? ⟨w.heap.size + 1, 0, none⟩ = false ∧ w6.frozen? ⟨w.heap.size + 1, 1, none⟩ = false) := by
  have h5 := hb.size
  have h1 := fun i => (hk.cell (b := w.heap.size) (by omega) (by omega) i).trans (hb.cell (p := ⟨w.heap.size, i, none⟩) (by show w.heap.size < w1.heap.size; omega))
  have h2 := fun i => (hk.cell (b := w.heap.size + 1) (by omega) (by omega) i).trans (hb.cell (p := ⟨w.heap.size + 1, i, none⟩) (by show w.heap.size + 1 < w1.heap.size; omega))
  have f1 := fun i => (hk.frozen (b := w.heap.size) (by omega) (by omega) i).trans (hb.frozen (p := ⟨w.heap.size, i, none⟩) (by show w.heap.size < w1.heap.size; omega))
  have f2 := fun i => (hk.frozen (b := w.heap.size + 1) (by omega) (by omega) i).trans (hb.frozen (p := ⟨w.heap.size + 1, i, none⟩) (by show w.heap.size + 1 < w1.heap.size; omega))
  rw [h1, h1, h2, h2, f1, f1, f2, f2]
  exact ⟨e, g⟩
structure Aft (P : Nat → Prop) (n : Nat) (w1 W5 : World) (n8 : Nat) (s0 s1 : Value) (a : Arr) : Prop where
  bel : Below w1.heap.size w1 W5
  c0 : W5.cell? ⟨n8, 0, none⟩ = some s0
  c1 : W5.cell? ⟨n8, 1, none⟩ = some s1
  arr : IsArr (But P n) W5 (.agg #[s0, s1]) a
  lo : w1.heap.size ≤ n8
  hi : n8 < W5.heap.size
theorem Jg1 {P : Nat → Prop} {n : Nat} {w1 w4 W : World} {v : Value} {a : Arr} (h : IsArr (New (fun b' => But P n b' ∧ b' < w1.heap.size) W) w4 v a) (hP : ∀ b, n ≤ b → P b) (hn : n + 1 < W.heap.size) : IsArr (But P n) w4 v a :=
  h.imp (fun b hb _ => by
    rcases hb with hb | hb
    · exact hb.1.1
    · exact ⟨hP b (by omega), by omega, by omega⟩)
theorem Jde {P : Nat → Prop} {n : Nat} {w1 w4 W : World} {s0 s1 : Value} {a : Arr} (hb : Below w1.heap.size w1 w4) (h : IsArr (New (fun b' => But P n b' ∧ b' < w1.heap.size) W) w4 (.agg #[s0, s1]) a) (hP : ∀ b, n ≤ b → P b) (hn : n + 1 < W.heap.size) : Aft P n w1 (w4.alloc (.cells #[s0, s1] 57)) w4.heap.size s0 s1 a :=
  ⟨hb.alloc hb.size _, by simp, by simp, (Jg1 h hP hn).below ((Below.refl _ _).alloc (Nat.le_refl _) _), hb.size, by simp⟩
theorem Xc {P : Nat → Prop} {n n8 : Nat} {w1 w4 W : World} {s0 s1 u0 u1 : Value} {a : Arr} (hb : Below w1.heap.size w1 w4) (h : IsArr (New (fun b' => But P n b' ∧ b' < w1.heap.size) W) w4 (.agg #[s0, s1]) a) (hP : ∀ b, n ≤ b → P b) (hn : n + 1 < W.heap.size) (hlo : w1.heap.size ≤ n8) (hhi : n8 < W.heap.size) (hW : W.heap.size ≤ w4.heap.size) (c0 : w4.cell? ⟨n8, 0, none⟩ = some u0) (c1 : w4.cell? ⟨n8, 1, none⟩ = some u1) :
    Aft P n w1 ((w4.setCell ⟨n8, 0, none⟩ s0).setCell ⟨n8, 1, none⟩ s1) n8 s0 s1 a := by
  have hno : ¬ New (fun b' => But P n b' ∧ b' < w1.heap.size) W n8 := by
    rintro (h | h)
    · have := h.1.2; omega
    · omega
  refine ⟨(hb.setCell hlo _).setCell hlo _, ?_, ?_, Jg1 ((h.set hno 0 _).set hno 1 _) hP hn, hlo, ?_⟩
  · rw [World.cell?_setCell_other _ _ _ _ (by simp)]
    exact World.cell?_setCell_same _ _ _ c0
  · exact World.cell?_setCell_same _ _ _ ((World.cell?_setCell_other _ _ _ _ (by simp)).trans c1)
  · simp; omega
set_option maxRecDepth 20000 in
set_option maxHeartbeats 2000000 in
theorem Jn8 (env : ByteArray → Option Arr) (fuel : Int) (f1 : ByteArray → Arr → Arr × Int) (f2 : ByteArray → Arr → Arr → Arr × Int) (B : Nat) (W0 : World) (mv : Value) (t : ByteArray) (p : Nat) (r : Ex) (hfl : fuel ≤ 1000) (he : ∀ t a, env t = some a → a.ok) (hf : OneC t (f1 t)) (hg : Good f1 f2 r) (ih : ExC env fuel f1 f2 B W0 mv r) : ExC env fuel f1 f2 B W0 mv (.one t p r) := by
  intro P w c q hw hc hP hR hL hx
  obtain ⟨b, k, q1, rfl, h1, h2, c0, k0, k1, c3, c4, c5, c6, hr⟩ := hx
  have hlt := hw.lt
  have hb := hw.below
  have d0 := (hb.cell (p := ⟨b, 0, none⟩) h2).trans c0
  have d6 := (hb.cell (p := ⟨b, 6, none⟩) h2).trans c6
  have k0' : (k == 0) = false := beq_eq_false_iff_ne.2 k0
  have k1' : (k == 1) = false := beq_eq_false_iff_ne.2 k1
  have hbl : b < w.heap.size := Nat.lt_of_lt_of_le h2 hb.size
  have hbl1 : b < w.heap.size + 1 := by omega
  have HCall := hide (ih (But P w.heap.size) ((w.alloc (.cells #[.slice none 0 0, .slice none 0 0] 57)).alloc (.cells #[.int .i64 0, .int .i64 0] 67)) c q1 ((hw.alloc _).alloc _) hc (Jb8 hP) (fun h => hR h.1) (Q9 hL (by omega)) hr)
  have HOK := hide (fun x => Ql he r c x hg hc)
  have HF := hide hf
  have HP : Hid (∀ b, w.heap.size ≤ b → P b) := hP
  have HB2 := hide h2
  have HC3 := hide c3
  have HC4 := hide c4
  have HC5 := hide c5
  clear hw hP hL c0 c3 c4 c5 c6 hb hr ih k0 k1 he hf hg h2
  go_enter Tryz.func35, Tryz.ntmps35
  go_wp2_with fail
  refine (Ja HCall).mono ?_
  intro e w1 hl
  cases hev : Jt env fuel f1 f2 r c with
  | inl er =>
    rw [hev] at hl
    have HEV : Hid (Jt env fuel f1 f2 (.one t p r) c = .inl er) := hide (by simp [Jt, hev])
    obtain ⟨ee, pp⟩ := er
    obtain ⟨hk, rfl, hne, c', hw'⟩ := hl
    obtain ⟨⟨e0, e1, e2, e3⟩, g0, g1, g2, g3⟩ := Ka hlt hk
    have hne' : (ee != 0) = true := by simpa using hne
    have HK := hide (Vs hk)
    have HW' := hide hw'
    have hs1 : w.heap.size + 1 < w1.heap.size := by have := hk.size; simp at this; omega
    have hs2 : w.heap.size < w1.heap.size := by omega
    clear hk hw' hev HCall
    unfold zArr
    go_wp2_with fail
    go_region
    all_goals
      go_wp2_with fail
      refine bodyPost_ret (v := .tuple #[zArr, .agg #[.int .i64 ee, .int .i64 pp]]) (by simp [results, Tryz.results35, go_sem, zArr, e0, e1, e2, e3, hs1, hs2]) rfl ?_
      rw [Ja HEV]
      exact Gm ((((Ja HK).four (Nat.le_refl _) _ _ _ _).alloc _).alloc _).drew ((((Ja HW').four hlt _ _ _ _).alloc _).alloc _).drew hne
  | inr x =>
    rw [hev] at hl
    have hxok := Ja HOK x hev
    have HEV : Hid (Jt env fuel f1 f2 (.one t p r) c = payP fuel (f1 t x.1) p x.2) := hide (by simp [Jt, hev])
    obtain ⟨a, c1⟩ := x
    obtain ⟨hk, v, rfl, ha, hw', hcf⟩ := hl
    simp only at hxok ha hw' hcf HEV
    obtain ⟨⟨e0, e1, e2, e3⟩, g0, g1, g2, g3⟩ := Ka hlt hk
    have HK := hide (Vs hk)
    have HW' := hide hw'
    have HA := hide ha
    obtain ⟨so, sn, sc, co, cn, cc, rfl, _, _⟩ := ha
    have hs1 : w.heap.size + 1 < w1.heap.size := by have := hk.size; simp at this; omega
    have hs2 : w.heap.size < w1.heap.size := by omega
    have hbw : b < w1.heap.size := Nat.lt_of_lt_of_le (Ja HB2) hw'.below.size
    have hbw1 : b < w1.heap.size + 1 := by omega
    have y3 := (hw'.below.cell (p := ⟨b, 3, none⟩) (Ja HB2)).trans (Ja HC3)
    have y4 := (hw'.below.cell (p := ⟨b, 4, none⟩) (Ja HB2)).trans (Ja HC4)
    have y5 := (hw'.below.cell (p := ⟨b, 5, none⟩) (Ja HB2)).trans (Ja HC5)
    have HY3 := hide y3
    have HY4 := hide y4
    have HS : Hid (∀ w', Below ((w1.alloc (.cells #[.slice so sn sc, .slice co cn cc] 57)).alloc (.cells #[.int .i64 0, .int .i64 0] 67)).heap.size ((w1.alloc (.cells #[.slice so sn sc, .slice co cn cc] 57)).alloc (.cells #[.int .i64 0, .int .i64 0] 67)) w' → w'.cell? ⟨b, 3, none⟩ = some (.string t) ∧ w'.cell? ⟨b, 4, none⟩ = some (.int .i64 p) ∧ w'.cell? ⟨w1.heap.size, 0, none⟩ = some (.slice so sn sc) ∧ w'.cell? ⟨w1.heap.size, 1, none⟩ = some (.slice co cn cc)) := by
      intro w' hb'
      have hq := ((Below.refl w1.heap.size w1).alloc (Nat.le_refl _) (.cells #[.slice so sn sc, .slice co cn cc] 57)).alloc (by simp) (.cells #[.int .i64 0, .int .i64 0] 67)
      have hq2 := (hq.trans (hb'.mono (by simp; omega)))
      exact ⟨(hq2.cell (p := ⟨b, 3, none⟩) hbw).trans (Ja HY3), (hq2.cell (p := ⟨b, 4, none⟩) hbw).trans (Ja HY4), (hb'.cell (p := ⟨w1.heap.size, 0, none⟩) (by simp; omega)).trans (by simp), (hb'.cell (p := ⟨w1.heap.size, 1, none⟩) (by simp; omega)).trans (by simp)⟩
    have HXO := hide hxok
    have HCF := hide hcf
    have HS2 := hide hs2
    clear hk hw' hev HCall y3 y4 hxok hcf hs2 d0 d6 hbl hbl1 h1
    go_wp2_with fail
    go_region_held3 (fun w' => w'.cell? ⟨b, 3, none⟩ = some (.string t) ∧ w'.cell? ⟨b, 4, none⟩ = some (.int .i64 p) ∧ w'.cell? ⟨w1.heap.size, 0, none⟩ = some (.slice so sn sc) ∧ w'.cell? ⟨w1.heap.size, 1, none⟩ = some (.slice co cn cc))
      (first | exact Ja HS _ (Below.refl _ _).drew | exact Ja HS _ ((Below.refl _ _).alloc (Nat.le_refl _) _).drew | exact Ja HS _ ((Below.refl _ _).drew.trans (Ja HB3)) | exact Ja HS _ (((Below.refl _ _).drew.trans (Ja HB3)).alloc (Ja HB3).size _) | exact Ja HS _ (((Below.refl _ _).alloc (Nat.le_refl _) _).drew.trans ((Ja HB3).mono (by simp))) | exact Ja HS _ ((Below.refl _ _).drew.trans ((Ja HB3).trans ((Ja HB4).mono (Ja HB3).size))) | exact Ja HS _ ((((Below.refl _ _).drew.trans (Ja HB3)).alloc (Ja HB3).size _).trans ((Ja HB4).mono (Nat.le_trans (Ja HB3).size (by simp)))) | exact Ja HS _ (((Below.refl _ _).alloc (Nat.le_refl _) _).drew.trans (((Ja HB3).mono (by simp)).trans ((Ja HB4).mono (Nat.le_trans (by simp) (Ja HB3).size)))) | exact Ja HS _ (((Below.refl _ _).drew.trans ((Ja HB3).trans ((Ja HB4).mono (Ja HB3).size))).alloc (Nat.le_trans (Ja HB3).size (Ja HB4).size) _) | exact Ja HS _ ((((((Below.refl _ _).drew.trans (Ja HB3)).alloc (Ja HB3).size _).trans ((Ja HB4).mono (Nat.le_trans (Ja HB3).size (by simp)))).setCell (Ja HB3).size _).setCell (Ja HB3).size _) | exact Ja HS _ (((((Below.refl _ _).alloc (Nat.le_refl _) _).drew.trans (((Ja HB3).mono (by simp)).trans ((Ja HB4).mono (Nat.le_trans (by simp) (Ja HB3).size)))).setCell (by simp) _).setCell (by simp) _) | (trace_state; fail))
      (first | (go_at_call 47; refine ((Ja HF).finds _).mono ?_; rintro e w3 ⟨g, lb, rfl, hen, hb3, hfn⟩; have hen2 : ∀ args w, (callFunc g args).run Tryz.prog w = .ok (.enter g args) w := hen; have HB3 := hide hb3; have HFn := hide hfn; obtain ⟨hc3, hf3⟩ := Jr hb3; have hs3 := hb3.size; (simp at hs3); have hs3' := Nat.lt_of_succ_le hs3; clear hb3 hfn hen) | (go_at_fn g; refine (FnOne.call (Ja HFn) (P := fun b' => But P w.heap.size b' ∧ b' < w1.heap.size) (a := a) ?_ ?_ (Ja HXO).1).mono ?_; (first | exact Below.refl _ _ | exact (Below.refl _ _).alloc (Nat.le_refl _) _); (refine ((Ja HA).imp (fun _ h hl => ⟨h, hl⟩)).below ?_; first | exact (((Below.refl w1.heap.size w1).alloc (Nat.le_refl _) _).alloc (by simp) _).drew.trans ((Ja HB3).mono (by simp; omega)) | exact ((((Below.refl w1.heap.size w1).alloc (Nat.le_refl _) _).alloc (by simp) _).drew.trans ((Ja HB3).mono (by simp; omega))).alloc (Nat.le_trans (by simp; omega) (Ja HB3).size) _ | exact ((((Below.refl w1.heap.size w1).alloc (Nat.le_refl _) _).alloc (by simp) _).alloc (by simp; omega) _).drew.trans ((Ja HB3).mono (by simp; omega))); rintro e w4 ⟨so4, sn4, sc4, co4, cn4, cc4, rfl, ha4, hb4⟩; have HB4 := hide hb4; have HA4 := hide ha4; obtain ⟨hc4, hf4⟩ := Jr hb4; clear hb4 ha4))
    have hA := Jde (P := P) (n := w.heap.size) (w1 := w1) ((((Below.refl w1.heap.size w1).alloc (Nat.le_refl _) _).alloc (by simp) _).drew.trans (((Ja HB3).mono (by simp; omega)).trans ((Ja HB4).mono (by omega)))) (Ja HA4) (Ja HP) (by omega)
    have HAF := hide hA
    obtain ⟨W5, hW5⟩ : ∃ W5, w4.alloc (.cells #[.slice so4 sn4 sc4, .slice co4 cn4 cc4] 57) = W5 := ⟨_, rfl⟩
    obtain ⟨n8, hn8⟩ : ∃ n8, w4.heap.size = n8 := ⟨_, rfl⟩
    simp only [hW5, hn8] at HAF ⊢
    clear hW5 hn8 hA
    rotate_left
    have hc40 : w4.cell? ⟨w3.heap.size, 0, none⟩ = some (.slice none 0 0) := by rw [hc4 _ _ (by simp)]; simp
    have hc41 : w4.cell? ⟨w3.heap.size, 1, none⟩ = some (.slice none 0 0) := by rw [hc4 _ _ (by simp)]; simp
    have hA := Xc (P := P) (n := w.heap.size) (n8 := w3.heap.size) (w1 := w1) (((((Below.refl w1.heap.size w1).alloc (Nat.le_refl _) _).alloc (by simp) _).drew.trans ((Ja HB3).mono (by simp; omega))).alloc (by omega) _ |>.trans ((Ja HB4).mono (by simp; omega))) (Ja HA4) (Ja HP) (by simp; omega) (by omega) (by simp) (Ja HB4).size hc40 hc41
    have HAF := hide hA
    obtain ⟨W5, hW5⟩ : ∃ W5, (w4.setCell ⟨w3.heap.size, 0, none⟩ (.slice so4 sn4 sc4)).setCell ⟨w3.heap.size, 1, none⟩ (.slice co4 cn4 cc4) = W5 := ⟨_, rfl⟩
    obtain ⟨n8, hn8⟩ : ∃ n8, w3.heap.size = n8 := ⟨_, rfl⟩
    rw [hW5] at HAF ⊢
    simp only [hn8] at HAF ⊢
    clear hW5 hn8 hA hc40 hc41
    rotate_left
    have hc40 : w4.cell? ⟨w1.heap.size + 1 + 1, 0, none⟩ = some (.slice none 0 0) := by rw [hc4 _ _ (by omega), hc3 _ _ (by simp)]; simp [World.cell?_alloc_at]
    have hc41 : w4.cell? ⟨w1.heap.size + 1 + 1, 1, none⟩ = some (.slice none 0 0) := by rw [hc4 _ _ (by omega), hc3 _ _ (by simp)]; simp [World.cell?_alloc_at]
    have hA := Xc (P := P) (n := w.heap.size) (n8 := w1.heap.size + 1 + 1) (w1 := w1) (((((Below.refl w1.heap.size w1).alloc (Nat.le_refl _) _).alloc (by simp) _).alloc (by simp; omega) _).drew.trans (((Ja HB3).mono (by simp; omega)).trans ((Ja HB4).mono (by omega)))) (Ja HA4) (Ja HP) (by omega) (by omega) (by omega) (Ja HB4).size hc40 hc41
    have HAF := hide hA
    obtain ⟨W5, hW5⟩ : ∃ W5, (w4.setCell ⟨w1.heap.size + 1 + 1, 0, none⟩ (.slice so4 sn4 sc4)).setCell ⟨w1.heap.size + 1 + 1, 1, none⟩ (.slice co4 cn4 cc4) = W5 := ⟨_, rfl⟩
    obtain ⟨n8, hn8⟩ : ∃ n8, w1.heap.size + 1 + 1 = n8 := ⟨_, rfl⟩
    rw [hW5] at HAF ⊢
    simp only [hn8] at HAF ⊢
    clear hW5 hn8 hA hc40 hc41
    rotate_left
    all_goals
      have s0 := (Ja HAF).c0
      have s1 := (Ja HAF).c1
      have y4 := ((Ja HAF).bel.cell (p := ⟨b, 4, none⟩) hbw).trans (Ja HY4)
      have hW5 := (Ja HW').keep ((Ja HAF).bel)
      have HPay := hide (Jgf (But P w.heap.size) W0 mv fuel c1 W5.drew hW5.drew (.agg #[.slice so4 sn4 sc4, .slice co4 cn4 cc4]) (f1 t a) p (Ja HCF) hfl ((Ja HAF).arr.below (Below.refl _ _).drew) ((Ja HF).ok a (Ja HXO).1).1 (fun h => hR h.1))
      have HE := hide (show _ ∧ _ ∧ _ ∧ _ from ⟨e0, e1, e2, e3⟩)
      have HG := hide (show _ ∧ _ ∧ _ ∧ _ from ⟨g0, g1, g2, g3⟩)
      have HAB := hide (Ja HAF).bel
      clear hW5 e0 e1 e2 e3 g0 g1 g2 g3 hc3 hf3 hc4 hf4 hs3 hs3' hen2 y5
      cases hpay : payP fuel (f1 t a) p c1 with
      | inl er =>
        obtain ⟨ee, pp⟩ := er
        rw [hpay] at HPay HEV
        clear hpay
        go_wp2_with fail
        go_region_with (first | (go_at_call 48; refine (Ja HPay).mono ?_; rintro e w6 ⟨hk6, rfl, hne6, c6, hw6⟩; have hk6' : Kp W0 W5 w6 := (Kp.refl W0 W5).drew.trans hk6; obtain ⟨⟨e0, e1, e2, e3⟩, g0, g1, g2, g3⟩ := Z9 hlt hs1 (Ja HAB) hk6' (Ja HE) (Ja HG); have HK6 := hide hk6'; have HW6 := hide hw6; clear hk6 hk6' hw6; unfold zArr))
        all_goals
          go_wp2_with fail
          refine bodyPost_ret (v := .tuple #[zArr, .agg #[.int .i64 ee, .int .i64 pp]]) (by simp [results, Tryz.results35, go_sem, zArr, e0, e1, e2, e3]) rfl ?_
          rw [Ja HEV]
          exact Gm ((((Ja HK).trans (Kp.of_below (Ja HAB))).trans (Ja HK6)).four (Nat.le_refl _) _ _ _ _) ((Ja HW6).four hlt _ _ _ _) hne6
      | inr z =>
        obtain ⟨a6, c6⟩ := z
        rw [hpay] at HPay HEV
        clear hpay
        go_wp2_with fail
        go_region_with (first | (go_at_call 48; refine (Ja HPay).mono ?_; rintro e w6 ⟨hk6, v6, rfl, ha6, hw6, hf6⟩; have hk6' : Kp W0 W5 w6 := (Kp.refl W0 W5).drew.trans hk6; obtain ⟨⟨e0, e1, e2, e3⟩, g0, g1, g2, g3⟩ := Z9 hlt hs1 (Ja HAB) hk6' (Ja HE) (Ja HG); have HK6 := hide hk6'; have HW6 := hide hw6; have HA6 := hide ha6; obtain ⟨so6, sn6, sc6, co6, cn6, cc6, rfl, _, _⟩ := ha6; clear hk6 hk6' hw6))
        all_goals
          go_wp2_with fail
          refine bodyPost_ret (v := .tuple #[.agg #[.slice so6 sn6 sc6, .slice co6 cn6 cc6], .agg #[.int .i64 0, .int .i64 0]]) (by simp [results, Tryz.results35, go_sem, e0, e1, e2, e3]) rfl ?_
          rw [Ja HEV]
          exact Jey ((((Ja HK).trans (Kp.of_below (Ja HAB))).trans (Ja HK6)).four (Nat.le_refl _) _ _ _ _) ((Ja HW6).four hlt _ _ _ _) (Jb9 (Ja HA6) _ _ _ _) hf6
end Go.Proofs.YtjobgpahajhbnabGreatDoor
