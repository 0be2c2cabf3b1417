import Derived.Test.YtjobgpahajhbnabGreatDoorVd
import Derived.StringKeys
namespace Go.Proofs.YtjobgpahajhbnabGreatDoor
open Go.RowKit Go.Proofs
attribute [local go_sem ↓] Go.wp_at_zero Go.wp_at_succ
theorem Jhn {B : Nat} {w : World} : ∀ {x : Ex} {q : Option Addr}, IsEx B w q x → ∃ a, q = some a
  | .num _, _, ⟨_, _, h, _⟩ => ⟨_, h⟩
  | .name _ _, _, ⟨_, _, _, h, _⟩ => ⟨_, h⟩
  | .one _ _ _, _, ⟨_, _, _, h, _⟩ => ⟨_, h⟩
  | .two _ _ _ _, _, ⟨_, _, _, _, h, _⟩ => ⟨_, h⟩
theorem Jak {W0 w1 w2 : World} {A : Array Value} (hlt : W0.heap.size < w1.heap.size) (hk : Kp W0 ((w1.alloc (.cells A 57)).alloc (.cells #[.int .i64 0, .int .i64 0] 67)) w2) :
    (w2.cell? ⟨w1.heap.size + 1, 0, none⟩ = some (.int .i64 0) ∧ w2.cell? ⟨w1.heap.size + 1, 1, none⟩ = some (.int .i64 0)) ∧ (w2.frozen? ⟨w1.heap.size + 1, 0, none⟩ = false ∧ w2.frozen? ⟨w1.heap.size + 1, 1, none⟩ = false) := by
  have h2 := fun i => hk.cell (b := w1.heap.size + 1) (by simp) (by omega) i
  have f2 := fun i => hk.frozen (b := w1.heap.size + 1) (by simp) (by omega) i
  rw [h2, h2, f2, f2]
  simp
structure Aft2 (P : Nat → Prop) (n : Nat) (W0 w1 w2 W4 : World) (mv : Value) (fuel : Int) (c2 b : Nat) (t : ByteArray) (p : Nat) (r0 r1 l0 l1 : Value) (a a2 : Arr) (w : World) : Prop where
  keep : ∀ W, Below W4.heap.size W4 W → Wk W0 mv fuel c2 W
  sz : W4.heap.size = w2.heap.size + 1
  kp : ∀ W, Kp W0 W w2 → W.heap.size ≤ w1.heap.size + 1 → Kp W0 W W4
  cells : ∀ w', Below W4.heap.size W4 w' → w'.cell? ⟨b, 3, none⟩ = some (.string t) ∧ w'.cell? ⟨b, 4, none⟩ = some (.int .i64 p) ∧ w'.cell? ⟨w1.heap.size, 0, none⟩ = some r0 ∧ w'.cell? ⟨w1.heap.size, 1, none⟩ = some r1 ∧ w'.cell? ⟨w2.heap.size, 0, none⟩ = some l0 ∧ w'.cell? ⟨w2.heap.size, 1, none⟩ = some l1
  right : IsArr (But P n) W4 (.agg #[r0, r1]) a
  left : IsArr (But P n) W4 (.agg #[l0, l1]) a2
  e : W4.cell? ⟨w.heap.size, 0, none⟩ = some (.slice none 0 0) ∧ W4.cell? ⟨w.heap.size, 1, none⟩ = some (.slice none 0 0) ∧ W4.cell? ⟨w.heap.size + 1, 0, none⟩ = some (.int .i64 0) ∧ W4.cell? ⟨w.heap.size + 1, 1, none⟩ = some (.int .i64 0)
  g : W4.frozen? ⟨w.heap.size, 0, none⟩ = false ∧ W4.frozen? ⟨w.heap.size, 1, none⟩ = false ∧ W4.frozen? ⟨w.heap.size + 1, 0, none⟩ = false ∧ W4.frozen? ⟨w.heap.size + 1, 1, none⟩ = false
theorem Jz {W : World} {b c i : Nat} {v0 v1 : Value} (h : c ≠ b) : ((W.setCell ⟨b, 0, none⟩ v0).setCell ⟨b, 1, none⟩ v1).cell? ⟨c, i, none⟩ = W.cell? ⟨c, i, none⟩ := by
  rw [World.cell?_setCell_other, World.cell?_setCell_other] <;> (intro e; injection e; omega)
theorem Jnc {P : Nat → Prop} {W0 w w1 w2 : World} {mv : Value} {fuel : Int} {c2 b : Nat} {t : ByteArray} {p : Nat} {r0 r1 l0 l1 : Value} {a a2 : Arr} (hlt : W0.heap.size < w.heap.size) (hs1 : w.heap.size + 1 < w1.heap.size) (hl1 : W0.heap.size < w1.heap.size) (hs3 : w1.heap.size + 1 < w2.heap.size) (hk : Kp W0 w1 w2) (hw2 : Wk W0 mv fuel c2 w2) (hb : b < W0.heap.size)
    (y3 : w2.cell? ⟨b, 3, none⟩ = some (.string t)) (y4 : w2.cell? ⟨b, 4, none⟩ = some (.int .i64 p)) (t0 : w2.cell? ⟨w1.heap.size, 0, none⟩ = some r0) (t1 : w2.cell? ⟨w1.heap.size, 1, none⟩ = some r1)
    (hr : IsArr (fun b' => But P w.heap.size b' ∧ b' < w1.heap.size) w1 (.agg #[r0, r1]) a) (hR : ¬ But P w.heap.size W0.heap.size) (hl : IsArr (But (But P w.heap.size) w1.heap.size) w2 (.agg #[l0, l1]) a2)
    (e : w2.cell? ⟨w.heap.size, 0, none⟩ = some (.slice none 0 0) ∧ w2.cell? ⟨w.heap.size, 1, none⟩ = some (.slice none 0 0) ∧ w2.cell? ⟨w.heap.size + 1, 0, none⟩ = some (.int .i64 0) ∧ w2.cell? ⟨w.heap.size + 1, 1, none⟩ = some (.int .i64 0))
    (g : w2.frozen? ⟨w.heap.size, 0, none⟩ = false ∧ w2.frozen? ⟨w.heap.size, 1, none⟩ = false ∧ w2.frozen? ⟨w.heap.size + 1, 0, none⟩ = false ∧ w2.frozen? ⟨w.heap.size + 1, 1, none⟩ = false) :
    Aft2 P w.heap.size W0 w1 w2 (((w2.setCell ⟨w1.heap.size + 1, 0, none⟩ (.int .i64 0)).setCell ⟨w1.heap.size + 1, 1, none⟩ (.int .i64 0)).alloc (.cells #[l0, l1] 57)) mv fuel c2 b t p r0 r1 l0 l1 a a2 w := by
  have hsz : (((w2.setCell ⟨w1.heap.size + 1, 0, none⟩ (.int .i64 0)).setCell ⟨w1.heap.size + 1, 1, none⟩ (.int .i64 0)).alloc (.cells #[l0, l1] 57)).heap.size = w2.heap.size + 1 := by simp
  have hcell : ∀ (c i : Nat), c < w2.heap.size → c ≠ w1.heap.size + 1 → (((w2.setCell ⟨w1.heap.size + 1, 0, none⟩ (.int .i64 0)).setCell ⟨w1.heap.size + 1, 1, none⟩ (.int .i64 0)).alloc (.cells #[l0, l1] 57)).cell? ⟨c, i, none⟩ = w2.cell? ⟨c, i, none⟩ := by
    intro c i h1 h2
    rw [World.cell?_alloc_lt _ _ ⟨c, i, none⟩ (by simpa using h1), Jz h2]
  have hfr : ∀ (c i : Nat), c < w2.heap.size → (((w2.setCell ⟨w1.heap.size + 1, 0, none⟩ (.int .i64 0)).setCell ⟨w1.heap.size + 1, 1, none⟩ (.int .i64 0)).alloc (.cells #[l0, l1] 57)).frozen? ⟨c, i, none⟩ = w2.frozen? ⟨c, i, none⟩ := by
    intro c i h1
    rw [World.frozen?_of_block (w := (w2.setCell ⟨w1.heap.size + 1, 0, none⟩ (.int .i64 0)).setCell ⟨w1.heap.size + 1, 1, none⟩ (.int .i64 0)) (a := ⟨c, i, none⟩) (RowKit.Below.heap_alloc _ _ _ (by simpa using h1)), World.frozen?_setCell, World.frozen?_setCell]
  have hbl := hw2.below.size
  have hwk := ((hw2.other (b := w1.heap.size + 1) (by omega) 0 (.int .i64 0)).other (b := w1.heap.size + 1) (by omega) 1 (.int .i64 0)).alloc (.cells #[l0, l1] 57)
  refine ⟨fun W hb => hwk.keep hb, hsz, fun W hk hW => ((hk.new hW _ _).new hW _ _).alloc _, ?_, ?_, ?_, ?_, ?_⟩
  · intro w' hb'
    have k : ∀ (c i : Nat), c < w2.heap.size + 1 → w'.cell? ⟨c, i, none⟩ = (((w2.setCell ⟨w1.heap.size + 1, 0, none⟩ (.int .i64 0)).setCell ⟨w1.heap.size + 1, 1, none⟩ (.int .i64 0)).alloc (.cells #[l0, l1] 57)).cell? ⟨c, i, none⟩ := fun c i h => hb'.cell (p := ⟨c, i, none⟩) (by rw [hsz]; exact h)
    refine ⟨?_, ?_, ?_, ?_, ?_, ?_⟩
    · rw [k _ _ (by omega), hcell _ _ (by omega) (by omega)]; exact y3
    · rw [k _ _ (by omega), hcell _ _ (by omega) (by omega)]; exact y4
    · rw [k _ _ (by omega), hcell _ _ (by omega) (by omega)]; exact t0
    · rw [k _ _ (by omega), hcell _ _ (by omega) (by omega)]; exact t1
    · rw [k _ _ (by omega), World.cell?_alloc_at _ _ _ _ (by simp)]; rfl
    · rw [k _ _ (by omega), World.cell?_alloc_at _ _ _ _ (by simp)]; rfl
  · have h1 := hr.keep hk.size (fun b' hb' hl' => hk.block b' hl' (fun e => by
      have := Option.some.inj e
      subst this
      exact hR hb'.1))
    exact (((h1.set (b := w1.heap.size + 1) (fun h => by have := h.2; omega) 0 (.int .i64 0)).set (b := w1.heap.size + 1) (fun h => by have := h.2; omega) 1 (.int .i64 0)).below ((Below.refl _ _).alloc (Nat.le_refl _) _)).imp (fun _ h _ => h.1)
  · exact (((hl.set (fun h => h.2.2 rfl) 0 (.int .i64 0)).set (fun h => h.2.2 rfl) 1 (.int .i64 0)).below ((Below.refl _ _).alloc (Nat.le_refl _) _)).imp (fun _ h _ => h.1)
  · rw [hcell _ _ (by omega) (by omega), hcell _ _ (by omega) (by omega), hcell _ _ (by omega) (by omega), hcell _ _ (by omega) (by omega)]; exact e
  · rw [hfr _ _ (by omega), hfr _ _ (by omega), hfr _ _ (by omega), hfr _ _ (by omega)]; exact g
set_option maxRecDepth 20000 in
set_option maxHeartbeats 2000000 in
theorem Jn7 (env : ByteArray → Option Arr) (fuel : Int) (f1 : ByteArray → Arr → Arr × Int) (f2 : ByteArray → Arr → Arr → Arr × Int) (B : Nat) (W0 : World) (mv : Value) (t : ByteArray) (p : Nat) (l r : Ex) (hfl : fuel ≤ 1000) (he : ∀ t a, env t = some a → a.ok) (hf : TwoC t (f2 t)) (hgl : Good f1 f2 l) (hg : Good f1 f2 r) (ihl : ExC env fuel f1 f2 B W0 mv l) (ih : ExC env fuel f1 f2 B W0 mv r) : ExC env fuel f1 f2 B W0 mv (.two t p l r) := by
  intro P w c q hw hc hP hR hL hx
  obtain ⟨b, k, ql, q1, rfl, h1, h2, c0, k0, k1, c3, c4, c5, c6, hxl, hr⟩ := hx
  obtain ⟨lb0, rfl⟩ := Jhn hxl
  have hlt := hw.lt
  have hb := hw.below
  have d0 := (hb.cell (p := ⟨b, 0, none⟩) h2).trans c0
  have d6 := (hb.cell (p := ⟨b, 6, none⟩) h2).trans c6
  have k0' : (k == 0) = false := beq_eq_false_iff_ne.2 k0
  have k1' : (k == 1) = false := beq_eq_false_iff_ne.2 k1
  have hbl : b < w.heap.size := Nat.lt_of_lt_of_le h2 hb.size
  have hbl1 : b < w.heap.size + 1 := by omega
  have HCall := hide (ih (But P w.heap.size) ((w.alloc (.cells #[.slice none 0 0, .slice none 0 0] 57)).alloc (.cells #[.int .i64 0, .int .i64 0] 67)) c q1 ((hw.alloc _).alloc _) hc (Jb8 hP) (fun h => hR h.1) (Q9 hL (by omega)) hr)
  have HOK := hide (fun x => Ql he r c x hg hc)
  have HF := hide hf
  have HOKL := hide (fun (c : Nat) (x : Arr × Nat) (hc : (c : Int) ≤ fuel) => Ql (f1 := f1) (f2 := f2) he l c x hgl hc)
  have HIL := hide ihl
  have HXL := hide hxl
  have HLk := hide hL
  have HP : Hid (∀ b, w.heap.size ≤ b → P b) := hP
  have HB2 := hide h2
  have HC3 := hide c3
  have HC4 := hide c4
  have HC5 := hide c5
  clear hw hP hL c0 c3 c4 c5 c6 hb hr ih k0 k1 he hf hg h2 hgl ihl hxl
  go_enter Tryz.func35, Tryz.ntmps35
  go_wp2_with fail
  refine (Ja HCall).mono ?_
  intro e w1 hl
  cases hev : Jt env fuel f1 f2 r c with
  | inl er =>
    rw [hev] at hl
    have HEV : Hid (Jt env fuel f1 f2 (.two t p l r) c = .inl er) := hide (by simp [Jt, hev])
    obtain ⟨ee, pp⟩ := er
    obtain ⟨hk, rfl, hne, c', hw'⟩ := hl
    obtain ⟨⟨e0, e1, e2, e3⟩, g0, g1, g2, g3⟩ := Ka hlt hk
    have hne' : (ee != 0) = true := by simpa using hne
    have HK := hide (Vs hk)
    have HW' := hide hw'
    have hs1 : w.heap.size + 1 < w1.heap.size := by have := hk.size; simp at this; omega
    have hs2 : w.heap.size < w1.heap.size := by omega
    clear hk hw' hev HCall
    unfold zArr
    go_wp2_with fail
    go_region
    all_goals
      go_wp2_with fail
      refine bodyPost_ret (v := .tuple #[zArr, .agg #[.int .i64 ee, .int .i64 pp]]) (by simp [results, Tryz.results35, go_sem, zArr, e0, e1, e2, e3, hs1, hs2]) rfl ?_
      rw [Ja HEV]
      exact Gm ((((Ja HK).four (Nat.le_refl _) _ _ _ _).alloc _).alloc _).drew ((((Ja HW').four hlt _ _ _ _).alloc _).alloc _).drew hne
  | inr x =>
    rw [hev] at hl
    have hxok := Ja HOK x hev
    have HEV1 : Hid (∀ y, Jt env fuel f1 f2 l x.2 = .inl y → Jt env fuel f1 f2 (.two t p l r) c = .inl y) := fun y hy => by simp [Jt, hev, hy]
    have HEV2 : Hid (∀ y, Jt env fuel f1 f2 l x.2 = .inr y → Jt env fuel f1 f2 (.two t p l r) c = payP fuel (f2 t y.1 x.1) p y.2) := fun y hy => by simp [Jt, hev, hy]
    obtain ⟨a, c1⟩ := x
    obtain ⟨hk, v, rfl, ha, hw', hcf⟩ := hl
    simp only at hxok ha hw' hcf HEV1 HEV2
    obtain ⟨⟨e0, e1, e2, e3⟩, g0, g1, g2, g3⟩ := Ka hlt hk
    have HK := hide (Vs hk)
    have HA := hide ha
    obtain ⟨so, sn, sc, co, cn, cc, rfl, _, _⟩ := ha
    have hs1 : w.heap.size + 1 < w1.heap.size := by have := hk.size; simp at this; omega
    have hs2 : w.heap.size < w1.heap.size := by omega
    have hbw : b < w1.heap.size := Nat.lt_of_lt_of_le (Ja HB2) hw'.below.size
    have hbw1 : b < w1.heap.size + 1 := by omega
    have y5 := (hw'.below.cell (p := ⟨b, 5, none⟩) (Ja HB2)).trans (Ja HC5)
    have HCall2 := hide (Ja HIL (But (But P w.heap.size) w1.heap.size) ((w1.alloc (.cells #[.slice so sn sc, .slice co cn cc] 57)).alloc (.cells #[.int .i64 0, .int .i64 0] 67)) c1 (some lb0) ((hw'.alloc _).alloc _) hcf (Jb8 (fun b' h => ⟨Ja HP b' (by omega), by omega, by omega⟩)) (fun h => hR h.1.1) (Q9 (Q9 (Ja HLk) (by omega)) (by have := hw'.lt; omega)) (Ja HXL))
    have HE := hide (show _ ∧ _ ∧ _ ∧ _ from ⟨e0, e1, e2, e3⟩)
    have HG := hide (show _ ∧ _ ∧ _ ∧ _ from ⟨g0, g1, g2, g3⟩)
    have HXO := hide hxok
    have HCF := hide hcf
    have hl1 := hw'.lt
    clear hk hw' hev HCall d0 d6 hbl hbl1 h1 e0 e1 e2 e3 g0 g1 g2 g3 hxok hcf
    go_wp2_with fail
    refine (Ja HCall2).mono ?_
    intro e w2 hl2
    cases hev2 : Jt env fuel f1 f2 l c1 with
    | inl er =>
      rw [hev2] at hl2
      have HEV := hide (Ja HEV1 _ hev2)
      obtain ⟨ee, pp⟩ := er
      obtain ⟨hk2, rfl, hne, c', hw2⟩ := hl2
      have hk2' := Vs hk2
      obtain ⟨⟨e0, e1, e2, e3⟩, g0, g1, g2, g3⟩ := Z9 hlt hs1 (Below.refl _ _) hk2' (Ja HE) (Ja HG)
      obtain ⟨⟨x2, x3⟩, z2, z3⟩ := Jak hl1 hk2
      have hne' : (ee != 0) = true := by simpa using hne
      have HK2 := hide hk2'
      have HW2 := hide hw2
      have hs3 : w1.heap.size + 1 < w2.heap.size := by have := hk2.size; simp at this; omega
      have hs4 : w.heap.size < w2.heap.size := by omega
      have hs5 : w.heap.size + 1 < w2.heap.size := by omega
      have n1 : w.heap.size ≠ w1.heap.size + 1 := by omega
      have n2 : w.heap.size + 1 ≠ w1.heap.size + 1 := by omega
      clear hk2 hk2' hw2 hev2 HCall2
      unfold zArr
      go_wp2_with fail
      go_region
      all_goals
        go_wp2_with fail
        refine bodyPost_ret (v := .tuple #[zArr, .agg #[.int .i64 ee, .int .i64 pp]]) (by simp [results, Tryz.results35, go_sem, zArr, e0, e1, e2, e3, hs4, hs5]) rfl ?_
        rw [Ja HEV]
        exact Gm (((((((Ja HK).trans (Ja HK2)).new (by omega) _ _).new (by omega) _ _).four (Nat.le_refl _) _ _ _ _).alloc _).drew) (((((((Ja HW2).other (by omega) _ _).other (by omega) _ _).four hlt _ _ _ _).alloc _).drew)) hne
    | inr y =>
      rw [hev2] at hl2
      have hyok := Ja HOKL c1 y (Ja HCF) hev2
      have HEV := hide (Ja HEV2 _ hev2)
      obtain ⟨a2, c2⟩ := y
      obtain ⟨hk2, v2, rfl, ha2, hw2, hcf2⟩ := hl2
      simp only at hyok ha2 hw2 hcf2 HEV
      have hk2' := Vs hk2
      obtain ⟨⟨e0, e1, e2, e3⟩, g0, g1, g2, g3⟩ := Z9 hlt hs1 (Below.refl _ _) hk2' (Ja HE) (Ja HG)
      obtain ⟨⟨x2, x3⟩, z2, z3⟩ := Jak hl1 hk2
      have t60 := (hk2.cell (b := w1.heap.size) (by simp; omega) (by omega) 0)
      have t61 := (hk2.cell (b := w1.heap.size) (by simp; omega) (by omega) 1)
      simp at t60 t61
      have HA2 := hide ha2
      obtain ⟨so2, sn2, sc2, co2, cn2, cc2, rfl, _, _⟩ := ha2
      have hs3 : w1.heap.size + 1 < w2.heap.size := by have := hk2.size; simp at this; omega
      have y3 := (hw2.below.cell (p := ⟨b, 3, none⟩) (Ja HB2)).trans (Ja HC3)
      have y4 := (hw2.below.cell (p := ⟨b, 4, none⟩) (Ja HB2)).trans (Ja HC4)
      have hbR := Ja HB2
      have H4 : Hid (Aft2 P w.heap.size W0 w1 w2 (((w2.setCell ⟨w1.heap.size + 1, 0, none⟩ (.int .i64 0)).setCell ⟨w1.heap.size + 1, 1, none⟩ (.int .i64 0)).alloc (.cells #[.slice so2 sn2 sc2, .slice co2 cn2 cc2] 57)) mv fuel c2 b t p (.slice so sn sc) (.slice co cn cc) (.slice so2 sn2 sc2) (.slice co2 cn2 cc2) a a2 w) :=
        Jnc hlt hs1 hl1 hs3 hk2' hw2 hbR y3 y4 t60 t61 ((Ja HA).imp (fun _ h hl => ⟨h, hl⟩)) (fun h => hR h.1) (Ja HA2) ⟨e0, e1, e2, e3⟩ ⟨g0, g1, g2, g3⟩
      have HK2 := hide hk2'
      have HCF2 := hide hcf2
      have HYO := hide hyok
      clear hk2 hk2' hw2 hev2 HCall2 y3 y4 hyok hcf2 t60 t61 hbR e0 e1 e2 e3 g0 g1 g2 g3 hs2 hbw hbw1
      go_wp2_with fail
      obtain ⟨W4, hW4⟩ : ∃ W4, ((w2.setCell ⟨w1.heap.size + 1, 0, none⟩ (.int .i64 0)).setCell ⟨w1.heap.size + 1, 1, none⟩ (.int .i64 0)).alloc (.cells #[.slice so2 sn2 sc2, .slice co2 cn2 cc2] 57) = W4 := ⟨_, rfl⟩
      rw [hW4] at H4 ⊢
      clear hW4 x2 x3 z2 z3
      have HS : Hid (∀ w', Below W4.heap.size W4 w' → w'.cell? ⟨b, 3, none⟩ = some (.string t) ∧ w'.cell? ⟨b, 4, none⟩ = some (.int .i64 p) ∧ w'.cell? ⟨w1.heap.size, 0, none⟩ = some (.slice so sn sc) ∧ w'.cell? ⟨w1.heap.size, 1, none⟩ = some (.slice co cn cc) ∧ w'.cell? ⟨w2.heap.size, 0, none⟩ = some (.slice so2 sn2 sc2) ∧ w'.cell? ⟨w2.heap.size, 1, none⟩ = some (.slice co2 cn2 cc2)) := (Ja H4).cells
      have hsz4 := (Ja H4).sz
      have HSZ4 := hide hsz4
      have HN4 : Hid (w.heap.size + 1 < W4.heap.size) := hide (by omega)
      clear hsz4 hs3 hl1
      go_region_held3 (fun w' => w'.cell? ⟨b, 3, none⟩ = some (.string t) ∧ w'.cell? ⟨b, 4, none⟩ = some (.int .i64 p) ∧ w'.cell? ⟨w1.heap.size, 0, none⟩ = some (.slice so sn sc) ∧ w'.cell? ⟨w1.heap.size, 1, none⟩ = some (.slice co cn cc) ∧ w'.cell? ⟨w2.heap.size, 0, none⟩ = some (.slice so2 sn2 sc2) ∧ w'.cell? ⟨w2.heap.size, 1, none⟩ = some (.slice co2 cn2 cc2))
        (first | exact Ja HS _ (Below.refl _ _).drew | exact Ja HS _ ((Below.refl _ _).alloc (Nat.le_refl _) _).drew | exact Ja HS _ ((Below.refl W4.heap.size W4).drew.trans (Ja HB3)) | exact Ja HS _ (((Below.refl W4.heap.size W4).drew.trans (Ja HB3)).alloc (Ja HB3).size _) | exact Ja HS _ (((Below.refl W4.heap.size W4).alloc (Nat.le_refl _) _).drew.trans ((Ja HB3).mono (by simp))) | exact Ja HS _ ((Below.refl W4.heap.size W4).drew.trans ((Ja HB3).trans ((Ja HB4).mono (Ja HB3).size))) | exact Ja HS _ ((((Below.refl W4.heap.size W4).drew.trans (Ja HB3)).alloc (Ja HB3).size _).trans ((Ja HB4).mono (Nat.le_trans (Ja HB3).size (by simp)))) | exact Ja HS _ (((Below.refl W4.heap.size W4).alloc (Nat.le_refl _) _).drew.trans (((Ja HB3).mono (by simp)).trans ((Ja HB4).mono (Nat.le_trans (by simp) (Ja HB3).size)))) | exact Ja HS _ (((Below.refl W4.heap.size W4).drew.trans ((Ja HB3).trans ((Ja HB4).mono (Ja HB3).size))).alloc (Nat.le_trans (Ja HB3).size (Ja HB4).size) _) | exact Ja HS _ ((((((Below.refl W4.heap.size W4).drew.trans (Ja HB3)).alloc (Ja HB3).size _).trans ((Ja HB4).mono (Nat.le_trans (Ja HB3).size (by simp)))).setCell (p := ⟨w3.heap.size, 0, none⟩) (Ja HB3).size _).setCell (p := ⟨w3.heap.size, 1, none⟩) (Ja HB3).size _) | exact Ja HS _ (((((Below.refl W4.heap.size W4).alloc (Nat.le_refl _) _).drew.trans (((Ja HB3).mono (by simp)).trans ((Ja HB4).mono (Nat.le_trans (by simp) (Ja HB3).size)))).setCell (p := ⟨W4.heap.size, 0, none⟩) (Nat.le_refl _) _).setCell (p := ⟨W4.heap.size, 1, none⟩) (Nat.le_refl _) _))
        (first | (go_at_call 49; refine ((Ja HF).finds _).mono ?_; rintro e w3 ⟨g, lb, rfl, hen, hb3, hfn⟩; have hen2 : ∀ args w, (callFunc g args).run Tryz.prog w = .ok (.enter g args) w := hen; have HB3 := hide hb3; have HFn := hide hfn; obtain ⟨hc3, hf3⟩ := Jr hb3; have hs3 := hb3.size; (simp at hs3); have hs3' := Nat.lt_of_succ_le hs3; clear hb3 hfn hen) | (go_at_call 49; refine ((Ja HF).finds _).mono ?_; rintro e w3 ⟨g, lb, rfl, hen, hb3, hfn⟩; have hen2 : ∀ args w, (callFunc g args).run Tryz.prog w = .ok (.enter g args) w := hen; have HB3 := hide hb3; have HFn := hide hfn; obtain ⟨hc3, hf3⟩ := Jr hb3; have hs3 := hb3.size; (simp at hs3); clear hb3 hfn hen) | (go_at_fn g; refine (FnTwo.call (Ja HFn) (P := fun b' => But P w.heap.size b' ∧ b' < W4.heap.size) (a := a2) (b := a) ?_ ?_ ?_ (Ja HYO).1 (Ja HXO).1).mono ?_; (first | exact Below.refl _ _ | exact (Below.refl _ _).alloc (Nat.le_refl _) _); (refine ((Ja H4).left.imp (fun _ h hl => ⟨h, hl⟩)).below ?_; first | exact ((Below.refl W4.heap.size W4).drew.trans (Ja HB3)) | exact (((Below.refl W4.heap.size W4).drew.trans (Ja HB3)).alloc (Ja HB3).size _) | exact (((Below.refl W4.heap.size W4).alloc (Nat.le_refl _) _).drew.trans ((Ja HB3).mono (by simp)))); (refine ((Ja H4).right.imp (fun _ h hl => ⟨h, hl⟩)).below ?_; first | exact ((Below.refl W4.heap.size W4).drew.trans (Ja HB3)) | exact (((Below.refl W4.heap.size W4).drew.trans (Ja HB3)).alloc (Ja HB3).size _) | exact (((Below.refl W4.heap.size W4).alloc (Nat.le_refl _) _).drew.trans ((Ja HB3).mono (by simp)))); rintro e w5 ⟨so4, sn4, sc4, co4, cn4, cc4, rfl, ha4, hb4⟩; have HB4 := hide hb4; have HA4 := hide ha4; obtain ⟨hc4, hf4⟩ := Jr hb4; clear hb4 ha4))
      have hN4 := Ja HN4
      have hA := Jde (P := P) (n := w.heap.size) (w1 := W4) ((Below.refl W4.heap.size W4).drew.trans ((Ja HB3).trans ((Ja HB4).mono (Ja HB3).size))) (Ja HA4) (Ja HP) (Nat.lt_of_lt_of_le hN4 (Ja HB3).size)
      have HAF := hide hA
      obtain ⟨W5, hW5⟩ : ∃ W5, w5.alloc (.cells #[.slice so4 sn4 sc4, .slice co4 cn4 cc4] 57) = W5 := ⟨_, rfl⟩
      obtain ⟨n8, hn8⟩ : ∃ n8, w5.heap.size = n8 := ⟨_, rfl⟩
      simp only [hW5, hn8] at HAF ⊢
      clear hW5 hn8 hA hN4
      rotate_left
      have hN4 := Ja HN4
      have h34 := (Ja HB3).size
      have hc40 : w5.cell? ⟨w3.heap.size, 0, none⟩ = some (.slice none 0 0) := by rw [hc4 _ _ (by simp)]; simp
      have hc41 : w5.cell? ⟨w3.heap.size, 1, none⟩ = some (.slice none 0 0) := by rw [hc4 _ _ (by simp)]; simp
      have hA := Xc (P := P) (n := w.heap.size) (n8 := w3.heap.size) (w1 := W4) ((((Below.refl W4.heap.size W4).drew.trans (Ja HB3)).alloc (Ja HB3).size _).trans ((Ja HB4).mono (Nat.le_trans (Ja HB3).size (by simp)))) (Ja HA4) (Ja HP) (by have h : W4.heap.size ≤ w3.heap.size := h34; simp; omega) h34 (by simp) (Ja HB4).size hc40 hc41
      have HAF := hide hA
      obtain ⟨W5, hW5⟩ : ∃ W5, (w5.setCell ⟨w3.heap.size, 0, none⟩ (.slice so4 sn4 sc4)).setCell ⟨w3.heap.size, 1, none⟩ (.slice co4 cn4 cc4) = W5 := ⟨_, rfl⟩
      obtain ⟨n8, hn8⟩ : ∃ n8, w3.heap.size = n8 := ⟨_, rfl⟩
      rw [hW5] at HAF ⊢
      simp only [hn8] at HAF ⊢
      clear hW5 hn8 hA hc40 hc41 hN4 h34
      rotate_left
      have hN4 := Ja HN4
      have h34 : W4.heap.size + 1 ≤ w3.heap.size := by have := (Ja HB3).size; simpa using this
      have hc40 : w5.cell? ⟨W4.heap.size, 0, none⟩ = some (.slice none 0 0) := by rw [hc4 _ _ (by omega), hc3 _ _ (by simp)]; simp
      have hc41 : w5.cell? ⟨W4.heap.size, 1, none⟩ = some (.slice none 0 0) := by rw [hc4 _ _ (by omega), hc3 _ _ (by simp)]; simp
      have hA := Xc (P := P) (n := w.heap.size) (n8 := W4.heap.size) (w1 := W4) (((Below.refl W4.heap.size W4).alloc (Nat.le_refl _) _).drew.trans (((Ja HB3).mono (by simp)).trans ((Ja HB4).mono (Nat.le_trans (by simp) (Ja HB3).size)))) (Ja HA4) (Ja HP) (by omega) (Nat.le_refl _) (by omega) (Ja HB4).size hc40 hc41
      have HAF := hide hA
      obtain ⟨W5, hW5⟩ : ∃ W5, (w5.setCell ⟨W4.heap.size, 0, none⟩ (.slice so4 sn4 sc4)).setCell ⟨W4.heap.size, 1, none⟩ (.slice co4 cn4 cc4) = W5 := ⟨_, rfl⟩
      obtain ⟨n8, hn8⟩ : ∃ n8, W4.heap.size = n8 := ⟨_, rfl⟩
      rw [hW5] at HAF ⊢
      have HAF' : Hid (Aft P w.heap.size W4 W5 n8 (.slice so4 sn4 sc4) (.slice co4 cn4 cc4) (f2 t a2 a).1) := by rw [← hn8]; exact HAF
      rw [hn8]
      clear hW5 hn8 hA hc40 hc41 hN4 h34 HAF
      have HAF := HAF'
      clear HAF'
      rotate_left
      all_goals
        have s0 := (Ja HAF).c0
        have s1 := (Ja HAF).c1
        have y4 := (Ja HS W5 ((Ja HAF).bel)).2.1
        have hW5 := (Ja H4).keep W5 (Ja HAF).bel
        have HPay := hide (Jgf (But P w.heap.size) W0 mv fuel c2 W5.drew hW5.drew (.agg #[.slice so4 sn4 sc4, .slice co4 cn4 cc4]) (f2 t a2 a) p (Ja HCF2) hfl ((Ja HAF).arr.below (Below.refl _ _).drew) ((Ja HF).ok a2 a (Ja HYO).1 (Ja HXO).1).1 (fun h => hR h.1))
        have HAB := hide (Ja HAF).bel
        have HN4' : Hid (w.heap.size + 1 < W4.heap.size) := HN4
        have HKW : Hid (Kp W0 w W5) := ((Ja H4).kp w ((Ja HK).trans (Ja HK2)) (by omega)).trans (Kp.of_below (Ja HAB))
        clear hW5 hc3 hf3 hc4 hf4 hs3 hen2
        cases hpay : payP fuel (f2 t a2 a) p c2 with
        | inl er =>
          obtain ⟨ee, pp⟩ := er
          rw [hpay] at HPay HEV
          clear hpay
          go_wp2_with fail
          go_region_with (first | (go_at_call 48; refine (Ja HPay).mono ?_; rintro e w6 ⟨hk6, rfl, hne6, c6, hw6⟩; have hk6' : Kp W0 W5 w6 := (Kp.refl W0 W5).drew.trans hk6; obtain ⟨⟨e0, e1, e2, e3⟩, g0, g1, g2, g3⟩ := Z9 hlt (Ja HN4) (Ja HAB) hk6' (Ja H4).e (Ja H4).g; have HK6 := hide hk6'; have HW6 := hide hw6; clear hk6 hk6' hw6; unfold zArr))
          all_goals
            go_wp2_with fail
            refine bodyPost_ret (v := .tuple #[zArr, .agg #[.int .i64 ee, .int .i64 pp]]) (by simp [results, Tryz.results35, go_sem, zArr, e0, e1, e2, e3]) rfl ?_
            rw [Ja HEV]
            exact Gm (((Ja HKW).trans (Ja HK6)).four (Nat.le_refl _) _ _ _ _) ((Ja HW6).four hlt _ _ _ _) hne6
        | inr z =>
          obtain ⟨a6, c6⟩ := z
          rw [hpay] at HPay HEV
          clear hpay
          go_wp2_with fail
          go_region_with (first | (go_at_call 48; refine (Ja HPay).mono ?_; rintro e w6 ⟨hk6, v6, rfl, ha6, hw6, hf6⟩; have hk6' : Kp W0 W5 w6 := (Kp.refl W0 W5).drew.trans hk6; obtain ⟨⟨e0, e1, e2, e3⟩, g0, g1, g2, g3⟩ := Z9 hlt (Ja HN4) (Ja HAB) hk6' (Ja H4).e (Ja H4).g; have HK6 := hide hk6'; have HW6 := hide hw6; have HA6 := hide ha6; obtain ⟨so6, sn6, sc6, co6, cn6, cc6, rfl, _, _⟩ := ha6; clear hk6 hk6' hw6))
          all_goals
            go_wp2_with fail
            refine bodyPost_ret (v := .tuple #[.agg #[.slice so6 sn6 sc6, .slice co6 cn6 cc6], .agg #[.int .i64 0, .int .i64 0]]) (by simp [results, Tryz.results35, go_sem, e0, e1, e2, e3]) rfl ?_
            rw [Ja HEV]
            exact Jey (((Ja HKW).trans (Ja HK6)).four (Nat.le_refl _) _ _ _ _) ((Ja HW6).four hlt _ _ _ _) (Jb9 (Ja HA6) _ _ _ _) hf6
end Go.Proofs.YtjobgpahajhbnabGreatDoor
namespace Go.Proofs.YtjobgpahajhbnabGreatDoor
open Go.RowKit Go.Proofs
theorem Jc7 (env : ByteArray → Option Arr) (fuel : Int) (f1 : ByteArray → Arr → Arr × Int) (f2 : ByteArray → Arr → Arr → Arr × Int) (B : Nat) (W0 : World) (mv : Value) (hfl : fuel ≤ 1000) (he : ∀ t a, env t = some a → a.ok) : ∀ x : Ex, Good f1 f2 x → ExC env fuel f1 f2 B W0 mv x
  | .num ws, _ => Jn9 env fuel f1 f2 B W0 mv ws
  | .name t p, h => Jmy env fuel f1 f2 B W0 mv t h p
  | .one t p r, h => Jn8 env fuel f1 f2 B W0 mv t p r hfl he h.1 h.2 (Jc7 env fuel f1 f2 B W0 mv hfl he r h.2)
  | .two t p l r, h => Jn7 env fuel f1 f2 B W0 mv t p l r hfl he h.1 h.2.1 h.2.2 (Jc7 env fuel f1 f2 B W0 mv hfl he l h.2.1) (Jc7 env fuel f1 f2 B W0 mv hfl he r h.2.2)
def Jpd (P : Nat → Prop) (w : World) (r : Sum (Int × Nat) (Arr × Nat)) (e : Ending) (w' : World) : Prop :=
  Below w.heap.size w w' ∧ match r with
  | .inl x => e = .returned (.tuple #[zArr, .int .i64 0, .agg #[.int .i64 x.1, .int .i64 x.2]]) ∧ x.1 ≠ 0
  | .inr x => ∃ so sn sc co cn cc, e = .returned (.tuple #[.agg #[.slice so sn sc, .slice co cn cc], .int .i64 x.2, .agg #[.int .i64 0, .int .i64 0]]) ∧ IsArr P w' (.agg #[.slice so sn sc, .slice co cn cc]) x.1
theorem Look.later {P Q : Nat → Prop} {W W0 : World} {mv : Value} {env : ByteArray → Option Arr} (h : Look P W mv env) (hb : Below W.heap.size W W0) (hq : ∀ b, P b → b < W.heap.size → Q b) : Look Q W0 mv env := by
  intro t ht
  obtain ⟨v, h1, h2⟩ := h t ht
  refine ⟨v, fun w hw => h1 w (hb.trans (hw.mono hb.size)), ?_⟩
  cases he : env t with
  | none => rw [he] at h2; exact h2
  | some a => rw [he] at h2; exact (IsArr.imp h2 hq).below hb
theorem Jip (W0 : World) (mv : Value) (fuel : Int) : Wk W0 mv fuel 0 (W0.alloc (.cells #[mv, .int .i64 fuel, .int .i64 0] 86)) :=
  ⟨(Below.refl _ _).alloc (Nat.le_refl _) _, by simp, by simp, by simp, by simp, by simp⟩
set_option maxHeartbeats 1000000 in
theorem F1 (env : ByteArray → Option Arr) (fuel : Int) (f1 : ByteArray → Arr → Arr × Int) (f2 : ByteArray → Arr → Arr → Arr × Int) (B : Nat) (W : World) (mv : Value) (hmv : ∃ r, mv = .map r) (h0 : 0 ≤ fuel) (hfl : fuel ≤ 1000) (he : ∀ t a, env t = some a → a.ok) (x : Ex) (hg : Good f1 f2 x) (q : Option Addr) (hx : IsEx B W q x) (P : Nat → Prop) (hP : ∀ b, W.heap.size ≤ b → P b) (hL : Look P W mv env) :
    Calls Tryz.prog 25 #[.pointer q, mv, .int .i64 fuel] W (Jpd P W (Jt env fuel f1 f2 x 0)) := by
  obtain ⟨mr, rfl⟩ := hmv
  have hbb : Below W.heap.size W ((W.alloc (.cells #[.slice none 0 0, .slice none 0 0] 57)).alloc (.cells #[.int .i64 0, .int .i64 0] 67)) := ((Below.refl _ _).alloc (Nat.le_refl _) _).alloc (by simp) _
  have hcall := Jc7 env fuel f1 f2 B ((W.alloc (.cells #[.slice none 0 0, .slice none 0 0] 57)).alloc (.cells #[.int .i64 0, .int .i64 0] 67)) (.map mr) hfl he x hg (fun b => But P W.heap.size b ∧ b ≠ W.heap.size + 2) _ 0 q (Jip _ _ _) h0 (fun b h => by simp at h; exact ⟨⟨hP b (by omega), by omega, by omega⟩, by omega⟩) (fun h => h.2 (by simp)) (hL.later hbb (fun b hb hl => ⟨⟨hb, by omega, by omega⟩, by omega⟩)) (hx.keep (Behind.of_below hbb))
  simp only [World.size_alloc] at hcall
  have HC := hide hcall
  clear hcall hL hx hP hg he
  go_enter Tryz.func25, Tryz.ntmps25
  go_wp2_with fail
  refine (Ja HC).mono ?_
  intro e w1 hl
  have hkb : ∀ w1, Kp ((W.alloc (.cells #[.slice none 0 0, .slice none 0 0] 57)).alloc (.cells #[.int .i64 0, .int .i64 0] 67)) (((W.alloc (.cells #[.slice none 0 0, .slice none 0 0] 57)).alloc (.cells #[.int .i64 0, .int .i64 0] 67)).alloc (.cells #[.map mr, .int .i64 fuel, .int .i64 0] 86)) w1 → Below (W.heap.size + 2) (((W.alloc (.cells #[.slice none 0 0, .slice none 0 0] 57)).alloc (.cells #[.int .i64 0, .int .i64 0] 67))) w1 := by
    intro w1 hk
    refine ⟨hk.os, hk.tape, hk.output, ?_, fun k hk' => ?_⟩
    · have := hk.size; simp at this ⊢; omega
    · rw [hk.block k (by simp; omega) (fun e => by have := Option.some.inj e; simp at this; omega)]
      exact RowKit.Below.heap_alloc _ _ _ (by simp; omega)
  cases hev : Jt env fuel f1 f2 x 0 with
  | inl er =>
    rw [hev] at hl
    obtain ⟨ee, pp⟩ := er
    obtain ⟨hk, rfl, hne, c', hw'⟩ := hl
    have hb1 := hkb w1 hk
    have hne' : (ee != 0) = true := by simpa using hne
    have e0 := hb1.cell (p := ⟨W.heap.size, 0, none⟩) (by show W.heap.size < W.heap.size + 2; omega)
    have e1 := hb1.cell (p := ⟨W.heap.size, 1, none⟩) (by show W.heap.size < W.heap.size + 2; omega)
    have e2 := hb1.cell (p := ⟨W.heap.size + 1, 0, none⟩) (by show W.heap.size + 1 < W.heap.size + 2; omega)
    have e3 := hb1.cell (p := ⟨W.heap.size + 1, 1, none⟩) (by show W.heap.size + 1 < W.heap.size + 2; omega)
    have g0 := hb1.frozen (p := ⟨W.heap.size, 0, none⟩) (by show W.heap.size < W.heap.size + 2; omega)
    have g1 := hb1.frozen (p := ⟨W.heap.size, 1, none⟩) (by show W.heap.size < W.heap.size + 2; omega)
    have g2 := hb1.frozen (p := ⟨W.heap.size + 1, 0, none⟩) (by show W.heap.size + 1 < W.heap.size + 2; omega)
    have g3 := hb1.frozen (p := ⟨W.heap.size + 1, 1, none⟩) (by show W.heap.size + 1 < W.heap.size + 2; omega)
    simp at e0 e1 e2 e3 g0 g1 g2 g3
    have hs1 : W.heap.size + 1 < w1.heap.size := by have := hb1.size; simp at this; omega
    have hs2 : W.heap.size < w1.heap.size := by omega
    have HB : Hid (Below W.heap.size W w1) := (((Below.refl W.heap.size W).alloc (Nat.le_refl _) _).alloc (by simp) _).trans (hb1.mono (by omega))
    have HEV := hide hev
    clear hk hw' hb1 hkb hev
    unfold zArr
    go_wp2_with fail
    go_region
    all_goals
      go_wp2_with fail
      refine bodyPost_ret (v := .tuple #[zArr, .int .i64 0, .agg #[.int .i64 ee, .int .i64 pp]]) (by simp [results, Tryz.results25, go_sem, zArr, e0, e1, e2, e3, hs1, hs2]) rfl ?_
      rw [Ja HEV]
      refine ⟨?_, rfl, hne⟩
      exact (((((((Ja HB).setCell (p := ⟨W.heap.size, 0, none⟩) (Nat.le_refl _) _).setCell (p := ⟨W.heap.size, 1, none⟩) (Nat.le_refl _) _).setCell (p := ⟨W.heap.size + 1, 0, none⟩) (Nat.le_succ _) _).setCell (p := ⟨W.heap.size + 1, 1, none⟩) (Nat.le_succ _) _).alloc (by simp; omega) _).alloc (by simp; omega) _).drew
  | inr y =>
    rw [hev] at hl
    obtain ⟨a, c2⟩ := y
    obtain ⟨hk, v, rfl, ha, hw', hcf⟩ := hl
    have cst := hw'.cost
    have hs3 := hw'.lt
    simp at cst hs3
    have hs4 : W.heap.size + 1 + 1 < w1.heap.size + 1 := by omega
    have HA := hide ha
    obtain ⟨so, sn, sc, co, cn, cc, rfl, _, _⟩ := ha
    have hb1 := hkb w1 hk
    have e0 := hb1.cell (p := ⟨W.heap.size, 0, none⟩) (by show W.heap.size < W.heap.size + 2; omega)
    have e1 := hb1.cell (p := ⟨W.heap.size, 1, none⟩) (by show W.heap.size < W.heap.size + 2; omega)
    have e2 := hb1.cell (p := ⟨W.heap.size + 1, 0, none⟩) (by show W.heap.size + 1 < W.heap.size + 2; omega)
    have e3 := hb1.cell (p := ⟨W.heap.size + 1, 1, none⟩) (by show W.heap.size + 1 < W.heap.size + 2; omega)
    have g0 := hb1.frozen (p := ⟨W.heap.size, 0, none⟩) (by show W.heap.size < W.heap.size + 2; omega)
    have g1 := hb1.frozen (p := ⟨W.heap.size, 1, none⟩) (by show W.heap.size < W.heap.size + 2; omega)
    have g2 := hb1.frozen (p := ⟨W.heap.size + 1, 0, none⟩) (by show W.heap.size + 1 < W.heap.size + 2; omega)
    have g3 := hb1.frozen (p := ⟨W.heap.size + 1, 1, none⟩) (by show W.heap.size + 1 < W.heap.size + 2; omega)
    simp at e0 e1 e2 e3 g0 g1 g2 g3
    have hs1 : W.heap.size + 1 < w1.heap.size := by have := hb1.size; simp at this; omega
    have hs2 : W.heap.size < w1.heap.size := by omega
    have HB : Hid (Below W.heap.size W w1) := (((Below.refl W.heap.size W).alloc (Nat.le_refl _) _).alloc (by simp) _).trans (hb1.mono (by omega))
    have HEV := hide hev
    clear hk hw' hb1 hkb hev
    go_wp2_with fail
    go_region
    all_goals
      go_wp2_with fail
      refine bodyPost_ret (v := .tuple #[.agg #[.slice so sn sc, .slice co cn cc], .int .i64 c2, .agg #[.int .i64 0, .int .i64 0]]) (by simp [results, Tryz.results25, go_sem, e0, e1, e2, e3, hs1, hs2]) rfl ?_
      rw [Ja HEV]
      refine ⟨?_, _, _, _, _, _, _, rfl, ?_⟩
      rotate_left
      · exact (((((((Ja HA).imp (fun _ h _ => h.1)).set (fun h => h.2.1 rfl) 0 _).set (fun h => h.2.1 rfl) 1 _).set (fun h => h.2.2 rfl) 0 _).set (fun h => h.2.2 rfl) 1 _).imp (fun _ h _ => h.1)).below ((((Below.refl _ _).alloc (Nat.le_refl _) _).alloc (by simp) _).drew)
      exact (((((((Ja HB).setCell (p := ⟨W.heap.size, 0, none⟩) (Nat.le_refl _) _).setCell (p := ⟨W.heap.size, 1, none⟩) (Nat.le_refl _) _).setCell (p := ⟨W.heap.size + 1, 0, none⟩) (Nat.le_succ _) _).setCell (p := ⟨W.heap.size + 1, 1, none⟩) (Nat.le_succ _) _).alloc (by simp; omega) _).alloc (by simp; omega) _).drew
end Go.Proofs.YtjobgpahajhbnabGreatDoor
namespace Go.Proofs.YtjobgpahajhbnabGreatDoor
open Go.RowKit Go.Proofs Go.Maps
attribute [local go_sem ↓] Go.wp_at_zero Go.wp_at_succ
theorem Tryz.zero57 (w : World) : (zeroValue 57).run Tryz.prog w = .ok zArr w := by kernel_rfl
theorem Jg5 (P : Nat → Prop) (W : World) : Look P W (.map none) (fun _ => none) := by
  intro t ht
  refine ⟨zArr, fun w _ => ?_, rfl⟩
  exact Maps.look_nil true Tryz.law9 Tryz.underlying55 (Tryz.zero57 w) (Go.WideMaps.keyOf_string_mk Tryz.underlying9 (by unfold maxLen; omega))
end Go.Proofs.YtjobgpahajhbnabGreatDoor
