import Derived.Test.YtjobgpahajhbnabGreatDoorVb
namespace Go.Proofs.YtjobgpahajhbnabGreatDoor
open Go.RowKit Go.Proofs
attribute [local go_sem ↓] Go.wp_at_zero Go.wp_at_succ
def New (P : Nat → Prop) (W : World) (b : Nat) : Prop := (P b ∧ b < W.heap.size) ∨ W.heap.size ≤ b
theorem Ja6 {P : Nat → Prop} {w : World} {v : Value} {a : Arr} (h : IsArr P w v a) {W : World} (hs : w.heap.size ≤ W.heap.size) : IsArr (New P W) w v a := h.imp (fun _ hb hl => .inl ⟨hb, Nat.lt_of_lt_of_le hl hs⟩)
theorem FnOne.call {g : Nat} {lb : Array Value} {w : World} {f : Arr → Arr × Int} (h : FnOne g lb w f) {W : World} {P : Nat → Prop} {v : Value} {a : Arr} (hb : Below w.heap.size w W) (ha : IsArr P W v a) (hok : a.ok) :
    Calls Tryz.prog g (#[v] ++ lb) W fun e W' => ∃ so sn sc co cn cc, e = .returned (.tuple #[.agg #[.slice so sn sc, .slice co cn cc], .int .i64 (f a).2]) ∧ IsArr (New P W) W' (.agg #[.slice so sn sc, .slice co cn cc]) (f a).1 ∧ Below W.heap.size W W' :=
  h W (New P W) v a hb (fun _ h => .inr h) (Ja6 ha (Nat.le_refl _)) hok
theorem FnTwo.call {g : Nat} {lb : Array Value} {w : World} {f : Arr → Arr → Arr × Int} (h : FnTwo g lb w f) {W : World} {P : Nat → Prop} {u v : Value} {a b : Arr} (hb : Below w.heap.size w W) (ha : IsArr P W u a) (hb' : IsArr P W v b) (hok : a.ok) (hok' : b.ok) :
    Calls Tryz.prog g (#[u, v] ++ lb) W fun e W' => ∃ so sn sc co cn cc, e = .returned (.tuple #[.agg #[.slice so sn sc, .slice co cn cc], .int .i64 (f a b).2]) ∧ IsArr (New P W) W' (.agg #[.slice so sn sc, .slice co cn cc]) (f a b).1 ∧ Below W.heap.size W W' :=
  h W (New P W) u v a b hb (fun _ h => .inr h) (Ja6 ha (Nat.le_refl _)) (Ja6 hb' (Nat.le_refl _)) hok hok'
theorem Z6 {W0 w w1 W5 w6 : World} (hlt : W0.heap.size < w.heap.size) (hs : w.heap.size + 1 < w1.heap.size) (hb : Below w1.heap.size w1 W5) (hk : Kp W0 W5 w6)
    (e : w1.cell? ⟨w.heap.size, 0, none⟩ = some (.slice none 0 0) ∧ w1.cell? ⟨w.heap.size, 1, none⟩ = some (.slice none 0 0) ∧ w1.cell? ⟨w.heap.size + 1, 0, none⟩ = some (.int .i64 0) ∧ w1.cell? ⟨w.heap.size + 1, 1, none⟩ = some (.int .i64 0))
    (g : w1.frozen? ⟨w.heap.size, 0, none⟩ = false ∧ w1.frozen? ⟨w.heap.size, 1, none⟩ = false ∧ w1.frozen? ⟨w.heap.size + 1, 0, none⟩ = false ∧ w1.frozen? ⟨w.heap.size + 1, 1, none⟩ = false) :
    (w6.cell? ⟨w.heap.size, 0, none⟩ = some (.slice none 0 0) ∧ w6.cell? ⟨w.heap.size, 1, none⟩ = some (.slice none 0 0) ∧ w6.cell? ⟨w.heap.size + 1, 0, none⟩ = some (.int .i64 0) ∧ w6.cell? ⟨w.heap.size + 1, 1, none⟩ = some (.int .i64 0)) ∧
    (w6.frozen? ⟨w.heap.size, 0, none⟩ = false ∧ w6.frozen? ⟨w.heap.size, 1, none⟩ = false ∧ w6.frozen? ⟨w.heap.size + 1, 0, none⟩ = false ∧ w6.frozen? ⟨w.heap.size + 1, 1, none⟩ = false) := by
  have h5 := hb.size
  have h1 := fun i => (hk.cell (b := w.heap.size) (by omega) (by omega) i).trans (hb.cell (p := ⟨w.heap.size, i, none⟩) (by show w.heap.size < w1.heap.size; omega))
  have h2 := fun i => (hk.cell (b := w.heap.size + 1) (by omega) (by omega) i).trans (hb.cell (p := ⟨w.heap.size + 1, i, none⟩) (by show w.heap.size + 1 < w1.heap.size; omega))
  have f1 := fun i => (hk.frozen (b := w.heap.size) (by omega) (by omega) i).trans (hb.frozen (p := ⟨w.heap.size, i, none⟩) (by show w.heap.size < w1.heap.size; omega))
  have f2 := fun i => (hk.frozen (b := w.heap.size + 1) (by omega) (by omega) i).trans (hb.frozen (p := ⟨w.heap.size + 1, i, none⟩) (by show w.heap.size + 1 < w1.heap.size; omega))
  rw [h1, h1, h2, h2, f1, f1, f2, f2]
  exact ⟨e, g⟩
structure Aft (P : Nat → Prop) (n : Nat) (w1 W5 : World) (n8 : Nat) (s0 s1 : Value) (a : Arr) : Prop where
  bel : Below w1.heap.size w1 W5
  c0 : W5.cell? ⟨n8, 0, none⟩ = some s0
  c1 : W5.cell? ⟨n8, 1, none⟩ = some s1
  arr : IsArr (But P n) W5 (.agg #[s0, s1]) a
  lo : w1.heap.size ≤ n8
  hi : n8 < W5.heap.size
theorem Jgm {P : Nat → Prop} {n : Nat} {w1 w4 W : World} {v : Value} {a : Arr} (h : IsArr (New (fun b' => But P n b' ∧ b' < w1.heap.size) W) w4 v a) (hP : ∀ b, n ≤ b → P b) (hn : n + 1 < W.heap.size) : IsArr (But P n) w4 v a :=
  h.imp (fun b hb _ => by
    rcases hb with hb | hb
    · exact hb.1.1
    · exact ⟨hP b (by omega), by omega, by omega⟩)
theorem Jcx {P : Nat → Prop} {n : Nat} {w1 w4 W : World} {s0 s1 : Value} {a : Arr} (hb : Below w1.heap.size w1 w4) (h : IsArr (New (fun b' => But P n b' ∧ b' < w1.heap.size) W) w4 (.agg #[s0, s1]) a) (hP : ∀ b, n ≤ b → P b) (hn : n + 1 < W.heap.size) : Aft P n w1 (w4.alloc (.cells #[s0, s1] 57)) w4.heap.size s0 s1 a :=
  ⟨hb.alloc hb.size _, by simp, by simp, (Jgm h hP hn).below ((Below.refl _ _).alloc (Nat.le_refl _) _), hb.size, by simp⟩
theorem Xa {P : Nat → Prop} {n n8 : Nat} {w1 w4 W : World} {s0 s1 u0 u1 : Value} {a : Arr} (hb : Below w1.heap.size w1 w4) (h : IsArr (New (fun b' => But P n b' ∧ b' < w1.heap.size) W) w4 (.agg #[s0, s1]) a) (hP : ∀ b, n ≤ b → P b) (hn : n + 1 < W.heap.size) (hlo : w1.heap.size ≤ n8) (hhi : n8 < W.heap.size) (hW : W.heap.size ≤ w4.heap.size) (c0 : w4.cell? ⟨n8, 0, none⟩ = some u0) (c1 : w4.cell? ⟨n8, 1, none⟩ = some u1) :
    Aft P n w1 ((w4.setCell ⟨n8, 0, none⟩ s0).setCell ⟨n8, 1, none⟩ s1) n8 s0 s1 a := by
  have hno : ¬ New (fun b' => But P n b' ∧ b' < w1.heap.size) W n8 := by
    rintro (h | h)
    · have := h.1.2; omega
    · omega
  refine ⟨(hb.setCell hlo _).setCell hlo _, ?_, ?_, Jgm ((h.set hno 0 _).set hno 1 _) hP hn, hlo, ?_⟩
  · rw [World.cell?_setCell_other _ _ _ _ (by simp)]
    exact World.cell?_setCell_same _ _ _ c0
  · exact World.cell?_setCell_same _ _ _ ((World.cell?_setCell_other _ _ _ _ (by simp)).trans c1)
  · simp; omega
set_option maxRecDepth 20000 in
set_option maxHeartbeats 2000000 in
theorem Jo6 (env : ByteArray → Option Arr) (fuel : Int) (f1 : ByteArray → Arr → Arr × Int) (f2 : ByteArray → Arr → Arr → Arr × Int) (B : Nat) (W0 : World) (mv : Value) (t : ByteArray) (p : Nat) (r : Ex) (hfl : fuel ≤ 1000) (he : ∀ t a, env t = some a → a.ok) (hf : OneC t (f1 t)) (hg : Good f1 f2 r) (ih : ExC env fuel f1 f2 B W0 mv r) : ExC env fuel f1 f2 B W0 mv (.one t p r) := by
  intro P w c q hw hc hP hR hL hx
  obtain ⟨b, k, q1, rfl, h1, h2, c0, k0, k1, c3, c4, c5, c6, hr⟩ := hx
  have hlt := hw.lt
  have hb := hw.below
  have d0 := (hb.cell (p := ⟨b, 0, none⟩) h2).trans c0
  have d6 := (hb.cell (p := ⟨b, 6, none⟩) h2).trans c6
  have k0' : (k == 0) = false := beq_eq_false_iff_ne.2 k0
  have k1' : (k == 1) = false := beq_eq_false_iff_ne.2 k1
  have hbl : b < w.heap.size := Nat.lt_of_lt_of_le h2 hb.size
  have hbl1 : b < w.heap.size + 1 := by omega
  have HCall := hide (ih (But P w.heap.size) ((w.alloc (.cells #[.slice none 0 0, .slice none 0 0] 57)).alloc (.cells #[.int .i64 0, .int .i64 0] 67)) c q1 ((hw.alloc _).alloc _) hc (Jbq hP) (fun h => hR h.1) (Q8 hL (by omega)) hr)
  have HOK := hide (fun x => Qk he r c x hg hc)
  have HF := hide hf
  have HP : Hid (∀ b, w.heap.size ≤ b → P b) := hP
  have HB2 := hide h2
  have HC3 := hide c3
  have HC4 := hide c4
  have HC5 := hide c5
  clear hw hP hL c0 c3 c4 c5 c6 hb hr ih k0 k1 he hf hg h2
  go_enter Tryz.func35, Tryz.ntmps35
  go_wp2_with fail
  refine (Ja HCall).mono ?_
  intro e w1 hl
  cases hev : Ju env fuel f1 f2 r c with
  | inl er =>
    rw [hev] at hl
    have HEV : Hid (Ju env fuel f1 f2 (.one t p r) c = .inl er) := hide (by simp [Ju, hev])
    obtain ⟨ee, pp⟩ := er
    obtain ⟨hk, rfl, hne, c', hw'⟩ := hl
    obtain ⟨⟨e0, e1, e2, e3⟩, g0, g1, g2, g3⟩ := Z7 hlt hk
    have hne' : (ee != 0) = true := by simpa using hne
    have HK := hide (Vt hk)
    have HW' := hide hw'
    have hs1 : w.heap.size + 1 < w1.heap.size := by have := hk.size; simp at this; omega
    have hs2 : w.heap.size < w1.heap.size := by omega
    clear hk hw' hev HCall
    unfold zArr
    go_wp2_with fail
    go_region
    all_goals
      go_wp2_with fail
      refine bodyPost_ret (v := .tuple #[zArr, .agg #[.int .i64 ee, .int .i64 pp]]) (by simp [results, Tryz.results35, go_sem, zArr, e0, e1, e2, e3, hs1, hs2]) rfl ?_
      rw [Ja HEV]
      exact Gl ((((Ja HK).four (Nat.le_refl _) _ _ _ _).alloc _).alloc _).drew ((((Ja HW').four hlt _ _ _ _).alloc _).alloc _).drew hne
  | inr x =>
    rw [hev] at hl
    have hxok := Ja HOK x hev
    have HEV : Hid (Ju env fuel f1 f2 (.one t p r) c = payP fuel (f1 t x.1) p x.2) := hide (by simp [Ju, hev])
    obtain ⟨a, c1⟩ := x
    obtain ⟨hk, v, rfl, ha, hw', hcf⟩ := hl
    simp only at hxok ha hw' hcf HEV
    obtain ⟨⟨e0, e1, e2, e3⟩, g0, g1, g2, g3⟩ := Z7 hlt hk
    have HK := hide (Vt hk)
    have HW' := hide hw'
    have HA := hide ha
    obtain ⟨so, sn, sc, co, cn, cc, rfl, _, _⟩ := ha
    have hs1 : w.heap.size + 1 < w1.heap.size := by have := hk.size; simp at this; omega
    have hs2 : w.heap.size < w1.heap.size := by omega
    have hbw : b < w1.heap.size := Nat.lt_of_lt_of_le (Ja HB2) hw'.below.size
    have hbw1 : b < w1.heap.size + 1 := by omega
    have y3 := (hw'.below.cell (p := ⟨b, 3, none⟩) (Ja HB2)).trans (Ja HC3)
    have y4 := (hw'.below.cell (p := ⟨b, 4, none⟩) (Ja HB2)).trans (Ja HC4)
    have y5 := (hw'.below.cell (p := ⟨b, 5, none⟩) (Ja HB2)).trans (Ja HC5)
    have HY3 := hide y3
    have HY4 := hide y4
    have HS : Hid (∀ w', Below ((w1.alloc (.cells #[.slice so sn sc, .slice co cn cc] 57)).alloc (.cells #[.int .i64 0, .int .i64 0] 67)).heap.size ((w1.alloc (.cells #[.slice so sn sc, .slice co cn cc] 57)).alloc (.cells #[.int .i64 0, .int .i64 0] 67)) w' → w'.cell? ⟨b, 3, none⟩ = some (.string t) ∧ w'.cell? ⟨b, 4, none⟩ = some (.int .i64 p) ∧ w'.cell? ⟨w1.heap.size, 0, none⟩ = some (.slice so sn sc) ∧ w'.cell? ⟨w1.heap.size, 1, none⟩ = some (.slice co cn cc)) := by
      intro w' hb'
      have hq := ((Below.refl w1.heap.size w1).alloc (Nat.le_refl _) (.cells #[.slice so sn sc, .slice co cn cc] 57)).alloc (by simp) (.cells #[.int .i64 0, .int .i64 0] 67)
      have hq2 := (hq.trans (hb'.mono (by simp; omega)))
      exact ⟨(hq2.cell (p := ⟨b, 3, none⟩) hbw).trans (Ja HY3), (hq2.cell (p := ⟨b, 4, none⟩) hbw).trans (Ja HY4), (hb'.cell (p := ⟨w1.heap.size, 0, none⟩) (by simp; omega)).trans (by simp), (hb'.cell (p := ⟨w1.heap.size, 1, none⟩) (by simp; omega)).trans (by simp)⟩
    have HXO := hide hxok
    have HCF := hide hcf
    have HS2 := hide hs2
    clear hk hw' hev HCall y3 y4 hxok hcf hs2 d0 d6 hbl hbl1 h1
    go_wp2_with fail
    go_region_held3 (fun w' => w'.cell? ⟨b, 3, none⟩ = some (.string t) ∧ w'.cell? ⟨b, 4, none⟩ = some (.int .i64 p) ∧ w'.cell? ⟨w1.heap.size, 0, none⟩ = some (.slice so sn sc) ∧ w'.cell? ⟨w1.heap.size, 1, none⟩ = some (.slice co cn cc))
      (first | exact Ja HS _ (Below.refl _ _).drew | exact Ja HS _ ((Below.refl _ _).alloc (Nat.le_refl _) _).drew | exact Ja HS _ ((Below.refl _ _).drew.trans (Ja HB3)) | exact Ja HS _ (((Below.refl _ _).drew.trans (Ja HB3)).alloc (Ja HB3).size _) | exact Ja HS _ (((Below.refl _ _).alloc (Nat.le_refl _) _).drew.trans ((Ja HB3).mono (by simp))) | exact Ja HS _ ((Below.refl _ _).drew.trans ((Ja HB3).trans ((Ja HB4).mono (Ja HB3).size))) | exact Ja HS _ ((((Below.refl _ _).drew.trans (Ja HB3)).alloc (Ja HB3).size _).trans ((Ja HB4).mono (Nat.le_trans (Ja HB3).size (by simp)))) | exact Ja HS _ (((Below.refl _ _).alloc (Nat.le_refl _) _).drew.trans (((Ja HB3).mono (by simp)).trans ((Ja HB4).mono (Nat.le_trans (by simp) (Ja HB3).size)))) | exact Ja HS _ (((Below.refl _ _).drew.trans ((Ja HB3).trans ((Ja HB4).mono (Ja HB3).size))).alloc (Nat.le_trans (Ja HB3).size (Ja HB4).size) _) | exact Ja HS _ ((((((Below.refl _ _).drew.trans (Ja HB3)).alloc (Ja HB3).size _).trans ((Ja HB4).mono (Nat.le_trans (Ja HB3).size (by simp)))).setCell (Ja HB3).size _).setCell (Ja HB3).size _) | exact Ja HS _ (((((Below.refl _ _).alloc (Nat.le_refl _) _).drew.trans (((Ja HB3).mono (by simp)).trans ((Ja HB4).mono (Nat.le_trans (by simp) (Ja HB3).size)))).setCell (by simp) _).setCell (by simp) _) | (trace_state; fail))
      (first | (go_at_call 47; refine ((Ja HF).finds _).mono ?_; rintro e w3 ⟨g, lb, rfl, hen, hb3, hfn⟩; have hen2 : ∀ args w, (callFunc g args).run Tryz.prog w = .ok (.enter g args) w := hen; have HB3 := hide hb3; have HFn := hide hfn; obtain ⟨hc3, hf3⟩ := Jt hb3; have hs3 := hb3.size; (simp at hs3); have hs3' := Nat.lt_of_succ_le hs3; clear hb3 hfn hen) | (go_at_fn g; refine (FnOne.call (Ja HFn) (P := fun b' => But P w.heap.size b' ∧ b' < w1.heap.size) (a := a) ?_ ?_ (Ja HXO).1).mono ?_; (first | exact Below.refl _ _ | exact (Below.refl _ _).alloc (Nat.le_refl _) _); (refine ((Ja HA).imp (fun _ h hl => ⟨h, hl⟩)).below ?_; first | exact (((Below.refl w1.heap.size w1).alloc (Nat.le_refl _) _).alloc (by simp) _).drew.trans ((Ja HB3).mono (by simp; omega)) | exact ((((Below.refl w1.heap.size w1).alloc (Nat.le_refl _) _).alloc (by simp) _).drew.trans ((Ja HB3).mono (by simp; omega))).alloc (Nat.le_trans (by simp; omega) (Ja HB3).size) _ | exact ((((Below.refl w1.heap.size w1).alloc (Nat.le_refl _) _).alloc (by simp) _).alloc (by simp; omega) _).drew.trans ((Ja HB3).mono (by simp; omega))); rintro e w4 ⟨so4, sn4, sc4, co4, cn4, cc4, rfl, ha4, hb4⟩; have HB4 := hide hb4; have HA4 := hide ha4; obtain ⟨hc4, hf4⟩ := Jt hb4; clear hb4 ha4))
    have hA := Jcx (P := P) (n := w.heap.size) (w1 := w1) ((((Below.refl w1.heap.size w1).alloc (Nat.le_refl _) _).alloc (by simp) _).drew.trans (((Ja HB3).mono (by simp; omega)).trans ((Ja HB4).mono (by omega)))) (Ja HA4) (Ja HP) (by omega)
    have HAF := hide hA
    obtain ⟨W5, hW5⟩ : ∃ W5, w4.alloc (.cells #[.slice so4 sn4 sc4, .slice co4 cn4 cc4] 57) = W5 := ⟨_, rfl⟩
    obtain ⟨n8, hn8⟩ : ∃ n8, w4.heap.size = n8 := ⟨_, rfl⟩
    simp only [hW5, hn8] at HAF ⊢
    clear hW5 hn8 hA
    rotate_left
    have hc40 : w4.cell? ⟨w3.heap.size, 0, none⟩ = some (.slice none 0 0) := by rw [hc4 _ _ (by simp)]; simp
    have hc41 : w4.cell? ⟨w3.heap.size, 1, none⟩ = some (.slice none 0 0) := by rw [hc4 _ _ (by simp)]; simp
    have hA := Xa (P := P) (n := w.heap.size) (n8 := w3.heap.size) (w1 := w1) (((((Below.refl w1.heap.size w1).alloc (Nat.le_refl _) _).alloc (by simp) _).drew.trans ((Ja HB3).mono (by simp; omega))).alloc (by omega) _ |>.trans ((Ja HB4).mono (by simp; omega))) (Ja HA4) (Ja HP) (by simp; omega) (by omega) (by simp) (Ja HB4).size hc40 hc41
    have HAF := hide hA
    obtain ⟨W5, hW5⟩ : ∃ W5, (w4.setCell ⟨w3.heap.size, 0, none⟩ (.slice so4 sn4 sc4)).setCell ⟨w3.heap.size, 1, none⟩ (.slice co4 cn4 cc4) = W5 := ⟨_, rfl⟩
    obtain ⟨n8, hn8⟩ : ∃ n8, w3.heap.size = n8 := ⟨_, rfl⟩
    rw [hW5] at HAF ⊢
    simp only [hn8] at HAF ⊢
    clear hW5 hn8 hA hc40 hc41
    rotate_left
    have hc40 : w4.cell? ⟨w1.heap.size + 1 + 1, 0, none⟩ = some (.slice none 0 0) := by rw [hc4 _ _ (by omega), hc3 _ _ (by simp)]; simp [World.cell?_alloc_at]
    have hc41 : w4.cell? ⟨w1.heap.size + 1 + 1, 1, none⟩ = some (.slice none 0 0) := by rw [hc4 _ _ (by omega), hc3 _ _ (by simp)]; simp [World.cell?_alloc_at]
    have hA := Xa (P := P) (n := w.heap.size) (n8 := w1.heap.size + 1 + 1) (w1 := w1) (((((Below.refl w1.heap.size w1).alloc (Nat.le_refl _) _).alloc (by simp) _).alloc (by simp; omega) _).drew.trans (((Ja HB3).mono (by simp; omega)).trans ((Ja HB4).mono (by omega)))) (Ja HA4) (Ja HP) (by omega) (by omega) (by omega) (Ja HB4).size hc40 hc41
    have HAF := hide hA
    obtain ⟨W5, hW5⟩ : ∃ W5, (w4.setCell ⟨w1.heap.size + 1 + 1, 0, none⟩ (.slice so4 sn4 sc4)).setCell ⟨w1.heap.size + 1 + 1, 1, none⟩ (.slice co4 cn4 cc4) = W5 := ⟨_, rfl⟩
    obtain ⟨n8, hn8⟩ : ∃ n8, w1.heap.size + 1 + 1 = n8 := ⟨_, rfl⟩
    rw [hW5] at HAF ⊢
    simp only [hn8] at HAF ⊢
    clear hW5 hn8 hA hc40 hc41
    rotate_left
    all_goals
      have s0 := (Ja HAF).c0
      have s1 := (Ja HAF).c1
      have y4 := ((Ja HAF).bel.cell (p := ⟨b, 4, none⟩) hbw).trans (Ja HY4)
      have hW5 := (Ja HW').keep ((Ja HAF).bel)
      have HPay := hide (Jfz (But P w.heap.size) W0 mv fuel c1 W5.drew hW5.drew (.agg #[.slice so4 sn4 sc4, .slice co4 cn4 cc4]) (f1 t a) p (Ja HCF) hfl ((Ja HAF).arr.below (Below.refl _ _).drew) ((Ja HF).ok a (Ja HXO).1).1 (fun h => hR h.1))
      have HE := hide (show _ ∧ _ ∧ _ ∧ _ from ⟨e0, e1, e2, e3⟩)
      have HG := hide (show _ ∧ _ ∧ _ ∧ _ from ⟨g0, g1, g2, g3⟩)
      have HAB := hide (Ja HAF).bel
      clear hW5 e0 e1 e2 e3 g0 g1 g2 g3 hc3 hf3 hc4 hf4 hs3 hs3' hen2 y5
      cases hpay : payP fuel (f1 t a) p c1 with
      | inl er =>
        obtain ⟨ee, pp⟩ := er
        rw [hpay] at HPay HEV
        clear hpay
        go_wp2_with fail
        go_region_with (first | (go_at_call 48; refine (Ja HPay).mono ?_; rintro e w6 ⟨hk6, rfl, hne6, c6, hw6⟩; have hk6' : Kp W0 W5 w6 := (Kp.refl W0 W5).drew.trans hk6; obtain ⟨⟨e0, e1, e2, e3⟩, g0, g1, g2, g3⟩ := Z6 hlt hs1 (Ja HAB) hk6' (Ja HE) (Ja HG); have HK6 := hide hk6'; have HW6 := hide hw6; clear hk6 hk6' hw6; unfold zArr))
        all_goals
          go_wp2_with fail
          refine bodyPost_ret (v := .tuple #[zArr, .agg #[.int .i64 ee, .int .i64 pp]]) (by simp [results, Tryz.results35, go_sem, zArr, e0, e1, e2, e3]) rfl ?_
          rw [Ja HEV]
          exact Gl ((((Ja HK).trans (Kp.of_below (Ja HAB))).trans (Ja HK6)).four (Nat.le_refl _) _ _ _ _) ((Ja HW6).four hlt _ _ _ _) hne6
      | inr z =>
        obtain ⟨a6, c6⟩ := z
        rw [hpay] at HPay HEV
        clear hpay
        go_wp2_with fail
        go_region_with (first | (go_at_call 48; refine (Ja HPay).mono ?_; rintro e w6 ⟨hk6, v6, rfl, ha6, hw6, hf6⟩; have hk6' : Kp W0 W5 w6 := (Kp.refl W0 W5).drew.trans hk6; obtain ⟨⟨e0, e1, e2, e3⟩, g0, g1, g2, g3⟩ := Z6 hlt hs1 (Ja HAB) hk6' (Ja HE) (Ja HG); have HK6 := hide hk6'; have HW6 := hide hw6; have HA6 := hide ha6; obtain ⟨so6, sn6, sc6, co6, cn6, cc6, rfl, _, _⟩ := ha6; clear hk6 hk6' hw6))
        all_goals
          go_wp2_with fail
          refine bodyPost_ret (v := .tuple #[.agg #[.slice so6 sn6 sc6, .slice co6 cn6 cc6], .agg #[.int .i64 0, .int .i64 0]]) (by simp [results, Tryz.results35, go_sem, e0, e1, e2, e3]) rfl ?_
          rw [Ja HEV]
          exact Jel ((((Ja HK).trans (Kp.of_below (Ja HAB))).trans (Ja HK6)).four (Nat.le_refl _) _ _ _ _) ((Ja HW6).four hlt _ _ _ _) (Jbr (Ja HA6) _ _ _ _) hf6
end Go.Proofs.YtjobgpahajhbnabGreatDoor
namespace Go.Proofs.YtjobgpahajhbnabGreatDoor
open Go.RowKit Go.Proofs
attribute [local go_sem ↓] Go.wp_at_zero Go.wp_at_succ
theorem Jg8 {B : Nat} {w : World} : ∀ {x : Ex} {q : Option Addr}, IsEx B w q x → ∃ a, q = some a
  | .num _, _, ⟨_, _, h, _⟩ => ⟨_, h⟩
  | .name _ _, _, ⟨_, _, _, h, _⟩ => ⟨_, h⟩
  | .one _ _ _, _, ⟨_, _, _, h, _⟩ => ⟨_, h⟩
  | .two _ _ _ _, _, ⟨_, _, _, _, h, _⟩ => ⟨_, h⟩
theorem N5 {W0 w1 w2 : World} {A : Array Value} (hlt : W0.heap.size < w1.heap.size) (hk : Kp W0 ((w1.alloc (.cells A 57)).alloc (.cells #[.int .i64 0, .int .i64 0] 67)) w2) :
    (w2.cell? ⟨w1.heap.size + 1, 0, none⟩ = some (.int .i64 0) ∧ w2.cell? ⟨w1.heap.size + 1, 1, none⟩ = some (.int .i64 0)) ∧ (w2.frozen? ⟨w1.heap.size + 1, 0, none⟩ = false ∧ w2.frozen? ⟨w1.heap.size + 1, 1, none⟩ = false) := by
  have h2 := fun i => hk.cell (b := w1.heap.size + 1) (by simp) (by omega) i
  have f2 := fun i => hk.frozen (b := w1.heap.size + 1) (by simp) (by omega) i
  rw [h2, h2, f2, f2]
  simp
structure Aft2 (P : Nat → Prop) (n : Nat) (W0 w1 w2 W4 : World) (mv : Value) (fuel : Int) (c2 b : Nat) (t : ByteArray) (p : Nat) (r0 r1 l0 l1 : Value) (a a2 : Arr) (w : World) : Prop where
  keep : ∀ W, Below W4.heap.size W4 W → Wk W0 mv fuel c2 W
  sz : W4.heap.size = w2.heap.size + 1
  kp : ∀ W, Kp W0 W w2 → W.heap.size ≤ w1.heap.size + 1 → Kp W0 W W4
  cells : ∀ w', Below W4.heap.size W4 w' → w'.cell? ⟨b, 3, none⟩ = some (.string t) ∧ w'.cell? ⟨b, 4, none⟩ = some (.int .i64 p) ∧ w'.cell? ⟨w1.heap.size, 0, none⟩ = some r0 ∧ w'.cell? ⟨w1.heap.size, 1, none⟩ = some r1 ∧ w'.cell? ⟨w2.heap.size, 0, none⟩ = some l0 ∧ w'.cell? ⟨w2.heap.size, 1, none⟩ = some l1
  right : IsArr (But P n) W4 (.agg #[r0, r1]) a
  left : IsArr (But P n) W4 (.agg #[l0, l1]) a2
  e : W4.cell? ⟨w.heap.size, 0, none⟩ = some (.slice none 0 0) ∧ W4.cell? ⟨w.heap.size, 1, none⟩ = some (.slice none 0 0) ∧ W4.cell? ⟨w.heap.size + 1, 0, none⟩ = some (.int .i64 0) ∧ W4.cell? ⟨w.heap.size + 1, 1, none⟩ = some (.int .i64 0)
  g : W4.frozen? ⟨w.heap.size, 0, none⟩ = false ∧ W4.frozen? ⟨w.heap.size, 1, none⟩ = false ∧ W4.frozen? ⟨w.heap.size + 1, 0, none⟩ = false ∧ W4.frozen? ⟨w.heap.size + 1, 1, none⟩ = false
theorem Jz {W : World} {b c i : Nat} {v0 v1 : Value} (h : c ≠ b) : ((W.setCell ⟨b, 0, none⟩ v0).setCell ⟨b, 1, none⟩ v1).cell? ⟨c, i, none⟩ = W.cell? ⟨c, i, none⟩ := by
  rw [World.cell?_setCell_other, World.cell?_setCell_other] <;> (intro e; injection e; omega)
theorem Jn9 {P : Nat → Prop} {W0 w w1 w2 : World} {mv : Value} {fuel : Int} {c2 b : Nat} {t : ByteArray} {p : Nat} {r0 r1 l0 l1 : Value} {a a2 : Arr} (hlt : W0.heap.size < w.heap.size) (hs1 : w.heap.size + 1 < w1.heap.size) (hl1 : W0.heap.size < w1.heap.size) (hs3 : w1.heap.size + 1 < w2.heap.size) (hk : Kp W0 w1 w2) (hw2 : Wk W0 mv fuel c2 w2) (hb : b < W0.heap.size)
    (y3 : w2.cell? ⟨b, 3, none⟩ = some (.string t)) (y4 : w2.cell? ⟨b, 4, none⟩ = some (.int .i64 p)) (t0 : w2.cell? ⟨w1.heap.size, 0, none⟩ = some r0) (t1 : w2.cell? ⟨w1.heap.size, 1, none⟩ = some r1)
    (hr : IsArr (fun b' => But P w.heap.size b' ∧ b' < w1.heap.size) w1 (.agg #[r0, r1]) a) (hR : ¬ But P w.heap.size W0.heap.size) (hl : IsArr (But (But P w.heap.size) w1.heap.size) w2 (.agg #[l0, l1]) a2)
    (e : w2.cell? ⟨w.heap.size, 0, none⟩ = some (.slice none 0 0) ∧ w2.cell? ⟨w.heap.size, 1, none⟩ = some (.slice none 0 0) ∧ w2.cell? ⟨w.heap.size + 1, 0, none⟩ = some (.int .i64 0) ∧ w2.cell? ⟨w.heap.size + 1, 1, none⟩ = some (.int .i64 0))
    (g : w2.frozen? ⟨w.heap.size, 0, none⟩ = false ∧ w2.frozen? ⟨w.heap.size, 1, none⟩ = false ∧ w2.frozen? ⟨w.heap.size + 1, 0, none⟩ = false ∧ w2.frozen? ⟨w.heap.size + 1, 1, none⟩ = false) :
    Aft2 P w.heap.size W0 w1 w2 (((w2.setCell ⟨w1.heap.size + 1, 0, none⟩ (.int .i64 0)).setCell ⟨w1.heap.size + 1, 1, none⟩ (.int .i64 0)).alloc (.cells #[l0, l1] 57)) mv fuel c2 b t p r0 r1 l0 l1 a a2 w := by
  have hsz : (((w2.setCell ⟨w1.heap.size + 1, 0, none⟩ (.int .i64 0)).setCell ⟨w1.heap.size + 1, 1, none⟩ (.int .i64 0)).alloc (.cells #[l0, l1] 57)).heap.size = w2.heap.size + 1 := by simp
  have hcell : ∀ (c i : Nat), c < w2.heap.size → c ≠ w1.heap.size + 1 → (((w2.setCell ⟨w1.heap.size + 1, 0, none⟩ (.int .i64 0)).setCell ⟨w1.heap.size + 1, 1, none⟩ (.int .i64 0)).alloc (.cells #[l0, l1] 57)).cell? ⟨c, i, none⟩ = w2.cell? ⟨c, i, none⟩ := by
    intro c i h1 h2
    rw [World.cell?_alloc_lt _ _ ⟨c, i, none⟩ (by simpa using h1), Jz h2]
  have hfr : ∀ (c i : Nat), c < w2.heap.size → (((w2.setCell ⟨w1.heap.size + 1, 0, none⟩ (.int .i64 0)).setCell ⟨w1.heap.size + 1, 1, none⟩ (.int .i64 0)).alloc (.cells #[l0, l1] 57)).frozen? ⟨c, i, none⟩ = w2.frozen? ⟨c, i, none⟩ := by
    intro c i h1
    rw [World.frozen?_of_block (w := (w2.setCell ⟨w1.heap.size + 1, 0, none⟩ (.int .i64 0)).setCell ⟨w1.heap.size + 1, 1, none⟩ (.int .i64 0)) (a := ⟨c, i, none⟩) (RowKit.Below.heap_alloc _ _ _ (by simpa using h1)), World.frozen?_setCell, World.frozen?_setCell]
  have hbl := hw2.below.size
  have hwk := ((hw2.other (b := w1.heap.size + 1) (by omega) 0 (.int .i64 0)).other (b := w1.heap.size + 1) (by omega) 1 (.int .i64 0)).alloc (.cells #[l0, l1] 57)
  refine ⟨fun W hb => hwk.keep hb, hsz, fun W hk hW => ((hk.new hW _ _).new hW _ _).alloc _, ?_, ?_, ?_, ?_, ?_⟩
  · intro w' hb'
    have k : ∀ (c i : Nat), c < w2.heap.size + 1 → w'.cell? ⟨c, i, none⟩ = (((w2.setCell ⟨w1.heap.size + 1, 0, none⟩ (.int .i64 0)).setCell ⟨w1.heap.size + 1, 1, none⟩ (.int .i64 0)).alloc (.cells #[l0, l1] 57)).cell? ⟨c, i, none⟩ := fun c i h => hb'.cell (p := ⟨c, i, none⟩) (by rw [hsz]; exact h)
    refine ⟨?_, ?_, ?_, ?_, ?_, ?_⟩
    · rw [k _ _ (by omega), hcell _ _ (by omega) (by omega)]; exact y3
    · rw [k _ _ (by omega), hcell _ _ (by omega) (by omega)]; exact y4
    · rw [k _ _ (by omega), hcell _ _ (by omega) (by omega)]; exact t0
    · rw [k _ _ (by omega), hcell _ _ (by omega) (by omega)]; exact t1
    · rw [k _ _ (by omega), World.cell?_alloc_at _ _ _ _ (by simp)]; rfl
    · rw [k _ _ (by omega), World.cell?_alloc_at _ _ _ _ (by simp)]; rfl
  · have h1 := hr.keep hk.size (fun b' hb' hl' => hk.block b' hl' (fun e => by
      have := Option.some.inj e
      subst this
      exact hR hb'.1))
    exact (((h1.set (b := w1.heap.size + 1) (fun h => by have := h.2; omega) 0 (.int .i64 0)).set (b := w1.heap.size + 1) (fun h => by have := h.2; omega) 1 (.int .i64 0)).below ((Below.refl _ _).alloc (Nat.le_refl _) _)).imp (fun _ h _ => h.1)
  · exact (((hl.set (fun h => h.2.2 rfl) 0 (.int .i64 0)).set (fun h => h.2.2 rfl) 1 (.int .i64 0)).below ((Below.refl _ _).alloc (Nat.le_refl _) _)).imp (fun _ h _ => h.1)
  · rw [hcell _ _ (by omega) (by omega), hcell _ _ (by omega) (by omega), hcell _ _ (by omega) (by omega), hcell _ _ (by omega) (by omega)]; exact e
  · rw [hfr _ _ (by omega), hfr _ _ (by omega), hfr _ _ (by omega), hfr _ _ (by omega)]; exact g
set_option maxRecDepth 20000 in
set_option maxHeartbeats 2000000 in
theorem Jo5 (env : ByteArray → Option Arr) (fuel : Int) (f1 : ByteArray → Arr → Arr × Int) (f2 : ByteArray → Arr → Arr → Arr × Int) (B : Nat) (W0 : World) (mv : Value) (t : ByteArray) (p : Nat) (l r : Ex) (hfl : fuel ≤ 1000) (he : ∀ t a, env t = some a → a.ok) (hf : TwoC t (f2 t)) (hgl : Good f1 f2 l) (hg : Good f1 f2 r) (ihl : ExC env fuel f1 f2 B W0 mv l) (ih : ExC env fuel f1 f2 B W0 mv r) : ExC env fuel f1 f2 B W0 mv (.two t p l r) := by
  intro P w c q hw hc hP hR hL hx
  obtain ⟨b, k, ql, q1, rfl, h1, h2, c0, k0, k1, c3, c4, c5, c6, hxl, hr⟩ := hx
  obtain ⟨lb0, rfl⟩ := Jg8 hxl
  have hlt := hw.lt
  have hb := hw.below
  have d0 := (hb.cell (p := ⟨b, 0, none⟩) h2).trans c0
  have d6 := (hb.cell (p := ⟨b, 6, none⟩) h2).trans c6
  have k0' : (k == 0) = false := beq_eq_false_iff_ne.2 k0
  have k1' : (k == 1) = false := beq_eq_false_iff_ne.2 k1
  have hbl : b < w.heap.size := Nat.lt_of_lt_of_le h2 hb.size
  have hbl1 : b < w.heap.size + 1 := by omega
  have HCall := hide (ih (But P w.heap.size) ((w.alloc (.cells #[.slice none 0 0, .slice none 0 0] 57)).alloc (.cells #[.int .i64 0, .int .i64 0] 67)) c q1 ((hw.alloc _).alloc _) hc (Jbq hP) (fun h => hR h.1) (Q8 hL (by omega)) hr)
  have HOK := hide (fun x => Qk he r c x hg hc)
  have HF := hide hf
  have HOKL := hide (fun (c : Nat) (x : Arr × Nat) (hc : (c : Int) ≤ fuel) => Qk (f1 := f1) (f2 := f2) he l c x hgl hc)
  have HIL := hide ihl
  have HXL := hide hxl
  have HLk := hide hL
  have HP : Hid (∀ b, w.heap.size ≤ b → P b) := hP
  have HB2 := hide h2
  have HC3 := hide c3
  have HC4 := hide c4
  have HC5 := hide c5
  clear hw hP hL c0 c3 c4 c5 c6 hb hr ih k0 k1 he hf hg h2 hgl ihl hxl
  go_enter Tryz.func35, Tryz.ntmps35
  go_wp2_with fail
  refine (Ja HCall).mono ?_
  intro e w1 hl
  cases hev : Ju env fuel f1 f2 r c with
  | inl er =>
    rw [hev] at hl
    have HEV : Hid (Ju env fuel f1 f2 (.two t p l r) c = .inl er) := hide (by simp [Ju, hev])
    obtain ⟨ee, pp⟩ := er
    obtain ⟨hk, rfl, hne, c', hw'⟩ := hl
    obtain ⟨⟨e0, e1, e2, e3⟩, g0, g1, g2, g3⟩ := Z7 hlt hk
    have hne' : (ee != 0) = true := by simpa using hne
    have HK := hide (Vt hk)
    have HW' := hide hw'
    have hs1 : w.heap.size + 1 < w1.heap.size := by have := hk.size; simp at this; omega
    have hs2 : w.heap.size < w1.heap.size := by omega
    clear hk hw' hev HCall
    unfold zArr
    go_wp2_with fail
    go_region
    all_goals
      go_wp2_with fail
      refine bodyPost_ret (v := .tuple #[zArr, .agg #[.int .i64 ee, .int .i64 pp]]) (by simp [results, Tryz.results35, go_sem, zArr, e0, e1, e2, e3, hs1, hs2]) rfl ?_
      rw [Ja HEV]
      exact Gl ((((Ja HK).four (Nat.le_refl _) _ _ _ _).alloc _).alloc _).drew ((((Ja HW').four hlt _ _ _ _).alloc _).alloc _).drew hne
  | inr x =>
    rw [hev] at hl
    have hxok := Ja HOK x hev
    have HEV1 : Hid (∀ y, Ju env fuel f1 f2 l x.2 = .inl y → Ju env fuel f1 f2 (.two t p l r) c = .inl y) := fun y hy => by simp [Ju, hev, hy]
    have HEV2 : Hid (∀ y, Ju env fuel f1 f2 l x.2 = .inr y → Ju env fuel f1 f2 (.two t p l r) c = payP fuel (f2 t y.1 x.1) p y.2) := fun y hy => by simp [Ju, hev, hy]
    obtain ⟨a, c1⟩ := x
    obtain ⟨hk, v, rfl, ha, hw', hcf⟩ := hl
    simp only at hxok ha hw' hcf HEV1 HEV2
    obtain ⟨⟨e0, e1, e2, e3⟩, g0, g1, g2, g3⟩ := Z7 hlt hk
    have HK := hide (Vt hk)
    have HA := hide ha
    obtain ⟨so, sn, sc, co, cn, cc, rfl, _, _⟩ := ha
    have hs1 : w.heap.size + 1 < w1.heap.size := by have := hk.size; simp at this; omega
    have hs2 : w.heap.size < w1.heap.size := by omega
    have hbw : b < w1.heap.size := Nat.lt_of_lt_of_le (Ja HB2) hw'.below.size
    have hbw1 : b < w1.heap.size + 1 := by omega
    have y5 := (hw'.below.cell (p := ⟨b, 5, none⟩) (Ja HB2)).trans (Ja HC5)
    have HCall2 := hide (Ja HIL (But (But P w.heap.size) w1.heap.size) ((w1.alloc (.cells #[.slice so sn sc, .slice co cn cc] 57)).alloc (.cells #[.int .i64 0, .int .i64 0] 67)) c1 (some lb0) ((hw'.alloc _).alloc _) hcf (Jbq (fun b' h => ⟨Ja HP b' (by omega), by omega, by omega⟩)) (fun h => hR h.1.1) (Q8 (Q8 (Ja HLk) (by omega)) (by have := hw'.lt; omega)) (Ja HXL))
    have HE := hide (show _ ∧ _ ∧ _ ∧ _ from ⟨e0, e1, e2, e3⟩)
    have HG := hide (show _ ∧ _ ∧ _ ∧ _ from ⟨g0, g1, g2, g3⟩)
    have HXO := hide hxok
    have HCF := hide hcf
    have hl1 := hw'.lt
    clear hk hw' hev HCall d0 d6 hbl hbl1 h1 e0 e1 e2 e3 g0 g1 g2 g3 hxok hcf
    go_wp2_with fail
    refine (Ja HCall2).mono ?_
    intro e w2 hl2
    cases hev2 : Ju env fuel f1 f2 l c1 with
    | inl er =>
      rw [hev2] at hl2
      have HEV := hide (Ja HEV1 _ hev2)
      obtain ⟨ee, pp⟩ := er
      obtain ⟨hk2, rfl, hne, c', hw2⟩ := hl2
      have hk2' := Vt hk2
      obtain ⟨⟨e0, e1, e2, e3⟩, g0, g1, g2, g3⟩ := Z6 hlt hs1 (Below.refl _ _) hk2' (Ja HE) (Ja HG)
      obtain ⟨⟨x2, x3⟩, z2, z3⟩ := N5 hl1 hk2
      have hne' : (ee != 0) = true := by simpa using hne
      have HK2 := hide hk2'
      have HW2 := hide hw2
      have hs3 : w1.heap.size + 1 < w2.heap.size := by have := hk2.size; simp at this; omega
      have hs4 : w.heap.size < w2.heap.size := by omega
      have hs5 : w.heap.size + 1 < w2.heap.size := by omega
      have n1 : w.heap.size ≠ w1.heap.size + 1 := by omega
      have n2 : w.heap.size + 1 ≠ w1.heap.size + 1 := by omega
      clear hk2 hk2' hw2 hev2 HCall2
      unfold zArr
      go_wp2_with fail
      go_region
      all_goals
        go_wp2_with fail
        refine bodyPost_ret (v := .tuple #[zArr, .agg #[.int .i64 ee, .int .i64 pp]]) (by simp [results, Tryz.results35, go_sem, zArr, e0, e1, e2, e3, hs4, hs5]) rfl ?_
        rw [Ja HEV]
        exact Gl (((((((Ja HK).trans (Ja HK2)).new (by omega) _ _).new (by omega) _ _).four (Nat.le_refl _) _ _ _ _).alloc _).drew) (((((((Ja HW2).other (by omega) _ _).other (by omega) _ _).four hlt _ _ _ _).alloc _).drew)) hne
    | inr y =>
      rw [hev2] at hl2
      have hyok := Ja HOKL c1 y (Ja HCF) hev2
      have HEV := hide (Ja HEV2 _ hev2)
      obtain ⟨a2, c2⟩ := y
      obtain ⟨hk2, v2, rfl, ha2, hw2, hcf2⟩ := hl2
      simp only at hyok ha2 hw2 hcf2 HEV
      have hk2' := Vt hk2
      obtain ⟨⟨e0, e1, e2, e3⟩, g0, g1, g2, g3⟩ := Z6 hlt hs1 (Below.refl _ _) hk2' (Ja HE) (Ja HG)
      obtain ⟨⟨x2, x3⟩, z2, z3⟩ := N5 hl1 hk2
      have t60 := (hk2.cell (b := w1.heap.size) (by simp; omega) (by omega) 0)
      have t61 := (hk2.cell (b := w1.heap.size) (by simp; omega) (by omega) 1)
      simp at t60 t61
      have HA2 := hide ha2
      obtain ⟨so2, sn2, sc2, co2, cn2, cc2, rfl, _, _⟩ := ha2
      have hs3 : w1.heap.size + 1 < w2.heap.size := by have := hk2.size; simp at this; omega
      have y3 := (hw2.below.cell (p := ⟨b, 3, none⟩) (Ja HB2)).trans (Ja HC3)
      have y4 := (hw2.below.cell (p := ⟨b, 4, none⟩) (Ja HB2)).trans (Ja HC4)
      have hbR := Ja HB2
      have H4 : Hid (Aft2 P w.heap.size W0 w1 w2 (((w2.setCell ⟨w1.heap.size + 1, 0, none⟩ (.int .i64 0)).setCell ⟨w1.heap.size + 1, 1, none⟩ (.int .i64 0)).alloc (.cells #[.slice so2 sn2 sc2, .slice co2 cn2 cc2] 57)) mv fuel c2 b t p (.slice so sn sc) (.slice co cn cc) (.slice so2 sn2 sc2) (.slice co2 cn2 cc2) a a2 w) :=
        Jn9 hlt hs1 hl1 hs3 hk2' hw2 hbR y3 y4 t60 t61 ((Ja HA).imp (fun _ h hl => ⟨h, hl⟩)) (fun h => hR h.1) (Ja HA2) ⟨e0, e1, e2, e3⟩ ⟨g0, g1, g2, g3⟩
      have HK2 := hide hk2'
      have HCF2 := hide hcf2
      have HYO := hide hyok
      clear hk2 hk2' hw2 hev2 HCall2 y3 y4 hyok hcf2 t60 t61 hbR e0 e1 e2 e3 g0 g1 g2 g3 hs2 hbw hbw1
      go_wp2_with fail
      obtain ⟨W4, hW4⟩ : ∃ W4, ((w2.setCell ⟨w1.heap.size + 1, 0, none⟩ (.int .i64 0)).setCell ⟨w1.heap.size + 1, 1, none⟩ (.int .i64 0)).alloc (.cells #[.slice so2 sn2 sc2, .slice co2 cn2 cc2] 57) = W4 := ⟨_, rfl⟩
      rw [hW4] at H4 ⊢
      clear hW4 x2 x3 z2 z3
      have HS : Hid (∀ w', Below W4.heap.size W4 w' → w'.cell? ⟨b, 3, none⟩ = some (.string t) ∧ w'.cell? ⟨b, 4, none⟩ = some (.int .i64 p) ∧ w'.cell? ⟨w1.heap.size, 0, none⟩ = some (.slice so sn sc) ∧ w'.cell? ⟨w1.heap.size, 1, none⟩ = some (.slice co cn cc) ∧ w'.cell? ⟨w2.heap.size, 0, none⟩ = some (.slice so2 sn2 sc2) ∧ w'.cell? ⟨w2.heap.size, 1, none⟩ = some (.slice co2 cn2 cc2)) := (Ja H4).cells
      have hsz4 := (Ja H4).sz
      have HSZ4 := hide hsz4
      have HN4 : Hid (w.heap.size + 1 < W4.heap.size) := hide (by omega)
      clear hsz4 hs3 hl1
      go_region_held3 (fun w' => w'.cell? ⟨b, 3, none⟩ = some (.string t) ∧ w'.cell? ⟨b, 4, none⟩ = some (.int .i64 p) ∧ w'.cell? ⟨w1.heap.size, 0, none⟩ = some (.slice so sn sc) ∧ w'.cell? ⟨w1.heap.size, 1, none⟩ = some (.slice co cn cc) ∧ w'.cell? ⟨w2.heap.size, 0, none⟩ = some (.slice so2 sn2 sc2) ∧ w'.cell? ⟨w2.heap.size, 1, none⟩ = some (.slice co2 cn2 cc2))
        (first | exact Ja HS _ (Below.refl _ _).drew | exact Ja HS _ ((Below.refl _ _).alloc (Nat.le_refl _) _).drew | exact Ja HS _ ((Below.refl W4.heap.size W4).drew.trans (Ja HB3)) | exact Ja HS _ (((Below.refl W4.heap.size W4).drew.trans (Ja HB3)).alloc (Ja HB3).size _) | exact Ja HS _ (((Below.refl W4.heap.size W4).alloc (Nat.le_refl _) _).drew.trans ((Ja HB3).mono (by simp))) | exact Ja HS _ ((Below.refl W4.heap.size W4).drew.trans ((Ja HB3).trans ((Ja HB4).mono (Ja HB3).size))) | exact Ja HS _ ((((Below.refl W4.heap.size W4).drew.trans (Ja HB3)).alloc (Ja HB3).size _).trans ((Ja HB4).mono (Nat.le_trans (Ja HB3).size (by simp)))) | exact Ja HS _ (((Below.refl W4.heap.size W4).alloc (Nat.le_refl _) _).drew.trans (((Ja HB3).mono (by simp)).trans ((Ja HB4).mono (Nat.le_trans (by simp) (Ja HB3).size)))) | exact Ja HS _ (((Below.refl W4.heap.size W4).drew.trans ((Ja HB3).trans ((Ja HB4).mono (Ja HB3).size))).alloc (Nat.le_trans (Ja HB3).size (Ja HB4).size) _) | exact Ja HS _ ((((((Below.refl W4.heap.size W4).drew.trans (Ja HB3)).alloc (Ja HB3).size _).trans ((Ja HB4).mono (Nat.le_trans (Ja HB3).size (by simp)))).setCell (p := ⟨w3.heap.size, 0, none⟩) (Ja HB3).size _).setCell (p := ⟨w3.heap.size, 1, none⟩) (Ja HB3).size _) | exact Ja HS _ (((((Below.refl W4.heap.size W4).alloc (Nat.le_refl _) _).drew.trans (((Ja HB3).mono (by simp)).trans ((Ja HB4).mono (Nat.le_trans (by simp) (Ja HB3).size)))).setCell (p := ⟨W4.heap.size, 0, none⟩) (Nat.le_refl _) _).setCell (p := ⟨W4.heap.size, 1, none⟩) (Nat.le_refl _) _))
        (first | (go_at_call 49; refine ((Ja HF).finds _).mono ?_; rintro e w3 ⟨g, lb, rfl, hen, hb3, hfn⟩; have hen2 : ∀ args w, (callFunc g args).run Tryz.prog w = .ok (.enter g args) w := hen; have HB3 := hide hb3; have HFn := hide hfn; obtain ⟨hc3, hf3⟩ := Jt hb3; have hs3 := hb3.size; (simp at hs3); have hs3' := Nat.lt_of_succ_le hs3; clear hb3 hfn hen) | (go_at_call 49; refine ((Ja HF).finds _).mono ?_; rintro e w3 ⟨g, lb, rfl, hen, hb3, hfn⟩; have hen2 : ∀ args w, (callFunc g args).run Tryz.prog w = .ok (.enter g args) w := hen; have HB3 := hide hb3; have HFn := hide hfn; obtain ⟨hc3, hf3⟩ := Jt hb3; have hs3 := hb3.size; (simp at hs3); clear hb3 hfn hen) | (go_at_fn g; refine (FnTwo.call (Ja HFn) (P := fun b' => But P w.heap.size b' ∧ b' < W4.heap.size) (a := a2) (b := a) ?_ ?_ ?_ (Ja HYO).1 (Ja HXO).1).mono ?_; (first | exact Below.refl _ _ | exact (Below.refl _ _).alloc (Nat.le_refl _) _); (refine ((Ja H4).left.imp (fun _ h hl => ⟨h, hl⟩)).below ?_; first | exact ((Below.refl W4.heap.size W4).drew.trans (Ja HB3)) | exact (((Below.refl W4.heap.size W4).drew.trans (Ja HB3)).alloc (Ja HB3).size _) | exact (((Below.refl W4.heap.size W4).alloc (Nat.le_refl _) _).drew.trans ((Ja HB3).mono (by simp)))); (refine ((Ja H4).right.imp (fun _ h hl => ⟨h, hl⟩)).below ?_; first | exact ((Below.refl W4.heap.size W4).drew.trans (Ja HB3)) | exact (((Below.refl W4.heap.size W4).drew.trans (Ja HB3)).alloc (Ja HB3).size _) | exact (((Below.refl W4.heap.size W4).alloc (Nat.le_refl _) _).drew.trans ((Ja HB3).mono (by simp)))); rintro e w5 ⟨so4, sn4, sc4, co4, cn4, cc4, rfl, ha4, hb4⟩; have HB4 := hide hb4; have HA4 := hide ha4; obtain ⟨hc4, hf4⟩ := Jt hb4; clear hb4 ha4))
      have hN4 := Ja HN4
      have hA := Jcx (P := P) (n := w.heap.size) (w1 := W4) ((Below.refl W4.heap.size W4).drew.trans ((Ja HB3).trans ((Ja HB4).mono (Ja HB3).size))) (Ja HA4) (Ja HP) (Nat.lt_of_lt_of_le hN4 (Ja HB3).size)
      have HAF := hide hA
      obtain ⟨W5, hW5⟩ : ∃ W5, w5.alloc (.cells #[.slice so4 sn4 sc4, .slice co4 cn4 cc4] 57) = W5 := ⟨_, rfl⟩
      obtain ⟨n8, hn8⟩ : ∃ n8, w5.heap.size = n8 := ⟨_, rfl⟩
      simp only [hW5, hn8] at HAF ⊢
      clear hW5 hn8 hA hN4
      rotate_left
      have hN4 := Ja HN4
      have h34 := (Ja HB3).size
      have hc40 : w5.cell? ⟨w3.heap.size, 0, none⟩ = some (.slice none 0 0) := by rw [hc4 _ _ (by simp)]; simp
      have hc41 : w5.cell? ⟨w3.heap.size, 1, none⟩ = some (.slice none 0 0) := by rw [hc4 _ _ (by simp)]; simp
      have hA := Xa (P := P) (n := w.heap.size) (n8 := w3.heap.size) (w1 := W4) ((((Below.refl W4.heap.size W4).drew.trans (Ja HB3)).alloc (Ja HB3).size _).trans ((Ja HB4).mono (Nat.le_trans (Ja HB3).size (by simp)))) (Ja HA4) (Ja HP) (by have h : W4.heap.size ≤ w3.heap.size := h34; simp; omega) h34 (by simp) (Ja HB4).size hc40 hc41
      have HAF := hide hA
      obtain ⟨W5, hW5⟩ : ∃ W5, (w5.setCell ⟨w3.heap.size, 0, none⟩ (.slice so4 sn4 sc4)).setCell ⟨w3.heap.size, 1, none⟩ (.slice co4 cn4 cc4) = W5 := ⟨_, rfl⟩
      obtain ⟨n8, hn8⟩ : ∃ n8, w3.heap.size = n8 := ⟨_, rfl⟩
      rw [hW5] at HAF ⊢
      simp only [hn8] at HAF ⊢
      clear hW5 hn8 hA hc40 hc41 hN4 h34
      rotate_left
      have hN4 := Ja HN4
      have h34 : W4.heap.size + 1 ≤ w3.heap.size := by have := (Ja HB3).size; simpa using this
      have hc40 : w5.cell? ⟨W4.heap.size, 0, none⟩ = some (.slice none 0 0) := by rw [hc4 _ _ (by omega), hc3 _ _ (by simp)]; simp
      have hc41 : w5.cell? ⟨W4.heap.size, 1, none⟩ = some (.slice none 0 0) := by rw [hc4 _ _ (by omega), hc3 _ _ (by simp)]; simp
      have hA := Xa (P := P) (n := w.heap.size) (n8 := W4.heap.size) (w1 := W4) (((Below.refl W4.heap.size W4).alloc (Nat.le_refl _) _).drew.trans (((Ja HB3).mono (by simp)).trans ((Ja HB4).mono (Nat.le_trans (by simp) (Ja HB3).size)))) (Ja HA4) (Ja HP) (by omega) (Nat.le_refl _) (by omega) (Ja HB4).size hc40 hc41
      have HAF := hide hA
      obtain ⟨W5, hW5⟩ : ∃ W5, (w5.setCell ⟨W4.heap.size, 0, none⟩ (.slice so4 sn4 sc4)).setCell ⟨W4.heap.size, 1, none⟩ (.slice co4 cn4 cc4) = W5 := ⟨_, rfl⟩
      obtain ⟨n8, hn8⟩ : ∃ n8, W4.heap.size = n8 := ⟨_, rfl⟩
      rw [hW5] at HAF ⊢
      have HAF' : Hid (Aft P w.heap.size W4 W5 n8 (.slice so4 sn4 sc4) (.slice co4 cn4 cc4) (f2 t a2 a).1) := by rw [← hn8]; exact HAF
      rw [hn8]
      clear hW5 hn8 hA hc40 hc41 hN4 h34 HAF
      have HAF := HAF'
      clear HAF'
      rotate_left
      all_goals
        have s0 := (Ja HAF).c0
        have s1 := (Ja HAF).c1
        have y4 := (Ja HS W5 ((Ja HAF).bel)).2.1
        have hW5 := (Ja H4).keep W5 (Ja HAF).bel
        have HPay := hide (Jfz (But P w.heap.size) W0 mv fuel c2 W5.drew hW5.drew (.agg #[.slice so4 sn4 sc4, .slice co4 cn4 cc4]) (f2 t a2 a) p (Ja HCF2) hfl ((Ja HAF).arr.below (Below.refl _ _).drew) ((Ja HF).ok a2 a (Ja HYO).1 (Ja HXO).1).1 (fun h => hR h.1))
        have HAB := hide (Ja HAF).bel
        have HN4' : Hid (w.heap.size + 1 < W4.heap.size) := HN4
        have HKW : Hid (Kp W0 w W5) := ((Ja H4).kp w ((Ja HK).trans (Ja HK2)) (by omega)).trans (Kp.of_below (Ja HAB))
        clear hW5 hc3 hf3 hc4 hf4 hs3 hen2
        cases hpay : payP fuel (f2 t a2 a) p c2 with
        | inl er =>
          obtain ⟨ee, pp⟩ := er
          rw [hpay] at HPay HEV
          clear hpay
          go_wp2_with fail
          go_region_with (first | (go_at_call 48; refine (Ja HPay).mono ?_; rintro e w6 ⟨hk6, rfl, hne6, c6, hw6⟩; have hk6' : Kp W0 W5 w6 := (Kp.refl W0 W5).drew.trans hk6; obtain ⟨⟨e0, e1, e2, e3⟩, g0, g1, g2, g3⟩ := Z6 hlt (Ja HN4) (Ja HAB) hk6' (Ja H4).e (Ja H4).g; have HK6 := hide hk6'; have HW6 := hide hw6; clear hk6 hk6' hw6; unfold zArr))
          all_goals
            go_wp2_with fail
            refine bodyPost_ret (v := .tuple #[zArr, .agg #[.int .i64 ee, .int .i64 pp]]) (by simp [results, Tryz.results35, go_sem, zArr, e0, e1, e2, e3]) rfl ?_
            rw [Ja HEV]
            exact Gl (((Ja HKW).trans (Ja HK6)).four (Nat.le_refl _) _ _ _ _) ((Ja HW6).four hlt _ _ _ _) hne6
        | inr z =>
          obtain ⟨a6, c6⟩ := z
          rw [hpay] at HPay HEV
          clear hpay
          go_wp2_with fail
          go_region_with (first | (go_at_call 48; refine (Ja HPay).mono ?_; rintro e w6 ⟨hk6, v6, rfl, ha6, hw6, hf6⟩; have hk6' : Kp W0 W5 w6 := (Kp.refl W0 W5).drew.trans hk6; obtain ⟨⟨e0, e1, e2, e3⟩, g0, g1, g2, g3⟩ := Z6 hlt (Ja HN4) (Ja HAB) hk6' (Ja H4).e (Ja H4).g; have HK6 := hide hk6'; have HW6 := hide hw6; have HA6 := hide ha6; obtain ⟨so6, sn6, sc6, co6, cn6, cc6, rfl, _, _⟩ := ha6; clear hk6 hk6' hw6))
          all_goals
            go_wp2_with fail
            refine bodyPost_ret (v := .tuple #[.agg #[.slice so6 sn6 sc6, .slice co6 cn6 cc6], .agg #[.int .i64 0, .int .i64 0]]) (by simp [results, Tryz.results35, go_sem, e0, e1, e2, e3]) rfl ?_
            rw [Ja HEV]
            exact Jel (((Ja HKW).trans (Ja HK6)).four (Nat.le_refl _) _ _ _ _) ((Ja HW6).four hlt _ _ _ _) (Jbr (Ja HA6) _ _ _ _) hf6
end Go.Proofs.YtjobgpahajhbnabGreatDoor
