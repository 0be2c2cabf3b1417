import Derived.Test.YtjobgpahajhbnabGreatDoorEf
import Derived.Test.YtjobgpahajhbnabGreatDoorVb
import Derived.StringKeys
namespace Go.Proofs.YtjobgpahajhbnabGreatDoor
open Go.RowKit Go.Proofs
theorem Jdd (env : ByteArray → Option Arr) (fuel : Int) (f1 : ByteArray → Arr → Arr × Int) (f2 : ByteArray → Arr → Arr → Arr × Int) (B : Nat) (W0 : World) (mv : Value) (hfl : fuel ≤ 1000) (he : ∀ t a, env t = some a → a.ok) : ∀ x : Ex, Good f1 f2 x → ExC env fuel f1 f2 B W0 mv x
  | .num ws, _ => Jo5 env fuel f1 f2 B W0 mv ws
  | .name t p, h => Jnp env fuel f1 f2 B W0 mv t h p
  | .one t p r, h => Jo4 env fuel f1 f2 B W0 mv t p r hfl he h.1 h.2 (Jdd env fuel f1 f2 B W0 mv hfl he r h.2)
  | .two t p l r, h => Jo3 env fuel f1 f2 B W0 mv t p l r hfl he h.1 h.2.1 h.2.2 (Jdd env fuel f1 f2 B W0 mv hfl he l h.2.1) (Jdd env fuel f1 f2 B W0 mv hfl he r h.2.2)
def Jqc (P : Nat → Prop) (w : World) (r : Sum (Int × Nat) (Arr × Nat)) (e : Ending) (w' : World) : Prop :=
  Below w.heap.size w w' ∧ match r with
  | .inl x => e = .returned (.tuple #[zArr, .int .i64 0, .agg #[.int .i64 x.1, .int .i64 x.2]]) ∧ x.1 ≠ 0
  | .inr x => ∃ so sn sc co cn cc, e = .returned (.tuple #[.agg #[.slice so sn sc, .slice co cn cc], .int .i64 x.2, .agg #[.int .i64 0, .int .i64 0]]) ∧ IsArr P w' (.agg #[.slice so sn sc, .slice co cn cc]) x.1
theorem Look.later {P Q : Nat → Prop} {W W0 : World} {mv : Value} {env : ByteArray → Option Arr} (h : Look P W mv env) (hb : Below W.heap.size W W0) (hq : ∀ b, P b → b < W.heap.size → Q b) : Look Q W0 mv env := by
  intro t ht; obtain ⟨v, h1, h2⟩ := h t ht; refine ⟨v, fun w hw => h1 w (hb.trans (hw.mono hb.size)), ?_⟩; cases he : env t with
  | none => rw [he] at h2; exact h2
  | some a => rw [he] at h2; exact (IsArr.imp h2 hq).below hb
theorem Ji1 (W0 : World) (mv : Value) (fuel : Int) : Wk W0 mv fuel 0 (W0.alloc (.cells #[mv, .int .i64 fuel, .int .i64 0] 86)) :=
  ⟨(Below.refl _ _).alloc (Nat.le_refl _) _, by simp, by simp, by simp, by simp, by simp⟩
set_option maxHeartbeats 1000000 in
theorem Q8 (env : ByteArray → Option Arr) (fuel : Int) (f1 : ByteArray → Arr → Arr × Int) (f2 : ByteArray → Arr → Arr → Arr × Int) (B : Nat) (W : World) (mv : Value) (hmv : ∃ r, mv = .map r) (h0 : 0 ≤ fuel) (hfl : fuel ≤ 1000) (he : ∀ t a, env t = some a → a.ok) (x : Ex) (hg : Good f1 f2 x) (q : Option Addr) (hx : IsEx B W q x) (P : Nat → Prop) (hP : ∀ b, W.heap.size ≤ b → P b) (hL : Look P W mv env) :
    Calls Tryz.prog 25 #[.pointer q, mv, .int .i64 fuel] W (Jqc P W (Js env fuel f1 f2 x 0)) := by
  obtain ⟨mr, rfl⟩ := hmv; have hbb : Below W.heap.size W ((W.alloc (.cells #[.slice none 0 0, .slice none 0 0] 57)).alloc (.cells #[.int .i64 0, .int .i64 0] 67)) := ((Below.refl _ _).alloc (Nat.le_refl _) _).alloc (by simp) _; have hcall := Jdd env fuel f1 f2 B ((W.alloc (.cells #[.slice none 0 0, .slice none 0 0] 57)).alloc (.cells #[.int .i64 0, .int .i64 0] 67)) (.map mr) hfl he x hg (fun b => But P W.heap.size b ∧ b ≠ W.heap.size + 2) _ 0 q (Ji1 _ _ _) h0 (fun b h => by simp at h; exact ⟨⟨hP b (by omega), by omega, by omega⟩, by omega⟩) (fun h => h.2 (by simp)) (hL.later hbb (fun b hb hl => ⟨⟨hb, by omega, by omega⟩, by omega⟩)) (hx.keep (Behind.of_below hbb)); simp only [World.size_alloc] at hcall; have HC := hide hcall; clear hcall hL hx hP hg he; go_enter Tryz.func25, Tryz.ntmps25; go_wp2_with fail; refine (Ja HC).mono ?_; intro e w1 hl; have hkb : ∀ w1, Kp ((W.alloc (.cells #[.slice none 0 0, .slice none 0 0] 57)).alloc (.cells #[.int .i64 0, .int .i64 0] 67)) (((W.alloc (.cells #[.slice none 0 0, .slice none 0 0] 57)).alloc (.cells #[.int .i64 0, .int .i64 0] 67)).alloc (.cells #[.map mr, .int .i64 fuel, .int .i64 0] 86)) w1 → Below (W.heap.size + 2) (((W.alloc (.cells #[.slice none 0 0, .slice none 0 0] 57)).alloc (.cells #[.int .i64 0, .int .i64 0] 67))) w1 := by
    intro w1 hk; refine ⟨hk.os, hk.tape, hk.output, ?_, fun k hk' => ?_⟩
    · have := hk.size; simp at this ⊢; omega
    · rw [hk.block k (by simp; omega) (fun e => by have := Option.some.inj e; simp at this; omega)]; exact RowKit.Below.heap_alloc _ _ _ (by simp; omega)
  cases hev : Js env fuel f1 f2 x 0 with
  | inl er =>
    rw [hev] at hl; obtain ⟨ee, pp⟩ := er; obtain ⟨hk, rfl, hne, c', hw'⟩ := hl; have hb1 := hkb w1 hk; have hne' : (ee != 0) = true := by simpa using hne
    have e0 := hb1.cell (p := ⟨W.heap.size, 0, none⟩) (by show W.heap.size < W.heap.size + 2; omega); have e1 := hb1.cell (p := ⟨W.heap.size, 1, none⟩) (by show W.heap.size < W.heap.size + 2; omega); have e2 := hb1.cell (p := ⟨W.heap.size + 1, 0, none⟩) (by show W.heap.size + 1 < W.heap.size + 2; omega); have e3 := hb1.cell (p := ⟨W.heap.size + 1, 1, none⟩) (by show W.heap.size + 1 < W.heap.size + 2; omega); have g0 := hb1.frozen (p := ⟨W.heap.size, 0, none⟩) (by show W.heap.size < W.heap.size + 2; omega); have g1 := hb1.frozen (p := ⟨W.heap.size, 1, none⟩) (by show W.heap.size < W.heap.size + 2; omega); have g2 := hb1.frozen (p := ⟨W.heap.size + 1, 0, none⟩) (by show W.heap.size + 1 < W.heap.size + 2; omega); have g3 := hb1.frozen (p := ⟨W.heap.size + 1, 1, none⟩) (by show W.heap.size + 1 < W.heap.size + 2; omega); simp at e0 e1 e2 e3 g0 g1 g2 g3; have hs1 : W.heap.size + 1 < w1.heap.size := by have := hb1.size; simp at this; omega
    have hs2 : W.heap.size < w1.heap.size := by omega
    have HB : Hid (Below W.heap.size W w1) := (((Below.refl W.heap.size W).alloc (Nat.le_refl _) _).alloc (by simp) _).trans (hb1.mono (by omega)); have HEV := hide hev; clear hk hw' hb1 hkb hev; unfold zArr; go_wp2_with fail; go_region
    all_goals
      go_wp2_with fail; refine bodyPost_ret (v := .tuple #[zArr, .int .i64 0, .agg #[.int .i64 ee, .int .i64 pp]]) (by simp [results, Tryz.results25, go_sem, zArr, e0, e1, e2, e3, hs1, hs2]) rfl ?_; rw [Ja HEV]; refine ⟨?_, rfl, hne⟩; exact (((((((Ja HB).setCell (p := ⟨W.heap.size, 0, none⟩) (Nat.le_refl _) _).setCell (p := ⟨W.heap.size, 1, none⟩) (Nat.le_refl _) _).setCell (p := ⟨W.heap.size + 1, 0, none⟩) (Nat.le_succ _) _).setCell (p := ⟨W.heap.size + 1, 1, none⟩) (Nat.le_succ _) _).alloc (by simp; omega) _).alloc (by simp; omega) _).drew
  | inr y =>
    rw [hev] at hl; obtain ⟨a, c2⟩ := y; obtain ⟨hk, v, rfl, ha, hw', hcf⟩ := hl; have cst := hw'.cost; have hs3 := hw'.lt; simp at cst hs3; have hs4 : W.heap.size + 1 + 1 < w1.heap.size + 1 := by omega
    have HA := hide ha; obtain ⟨so, sn, sc, co, cn, cc, rfl, _, _⟩ := ha; have hb1 := hkb w1 hk; have e0 := hb1.cell (p := ⟨W.heap.size, 0, none⟩) (by show W.heap.size < W.heap.size + 2; omega); have e1 := hb1.cell (p := ⟨W.heap.size, 1, none⟩) (by show W.heap.size < W.heap.size + 2; omega); have e2 := hb1.cell (p := ⟨W.heap.size + 1, 0, none⟩) (by show W.heap.size + 1 < W.heap.size + 2; omega); have e3 := hb1.cell (p := ⟨W.heap.size + 1, 1, none⟩) (by show W.heap.size + 1 < W.heap.size + 2; omega); have g0 := hb1.frozen (p := ⟨W.heap.size, 0, none⟩) (by show W.heap.size < W.heap.size + 2; omega); have g1 := hb1.frozen (p := ⟨W.heap.size, 1, none⟩) (by show W.heap.size < W.heap.size + 2; omega); have g2 := hb1.frozen (p := ⟨W.heap.size + 1, 0, none⟩) (by show W.heap.size + 1 < W.heap.size + 2; omega); have g3 := hb1.frozen (p := ⟨W.heap.size + 1, 1, none⟩) (by show W.heap.size + 1 < W.heap.size + 2; omega); simp at e0 e1 e2 e3 g0 g1 g2 g3; have hs1 : W.heap.size + 1 < w1.heap.size := by have := hb1.size; simp at this; omega
    have hs2 : W.heap.size < w1.heap.size := by omega
    have HB : Hid (Below W.heap.size W w1) := (((Below.refl W.heap.size W).alloc (Nat.le_refl _) _).alloc (by simp) _).trans (hb1.mono (by omega)); have HEV := hide hev; clear hk hw' hb1 hkb hev; go_wp2_with fail; go_region
    all_goals
      go_wp2_with fail; refine bodyPost_ret (v := .tuple #[.agg #[.slice so sn sc, .slice co cn cc], .int .i64 c2, .agg #[.int .i64 0, .int .i64 0]]) (by simp [results, Tryz.results25, go_sem, e0, e1, e2, e3, hs1, hs2]) rfl ?_; rw [Ja HEV]; refine ⟨?_, _, _, _, _, _, _, rfl, ?_⟩; rotate_left
      · exact (((((((Ja HA).imp (fun _ h _ => h.1)).set (fun h => h.2.1 rfl) 0 _).set (fun h => h.2.1 rfl) 1 _).set (fun h => h.2.2 rfl) 0 _).set (fun h => h.2.2 rfl) 1 _).imp (fun _ h _ => h.1)).below ((((Below.refl _ _).alloc (Nat.le_refl _) _).alloc (by simp) _).drew)
      exact (((((((Ja HB).setCell (p := ⟨W.heap.size, 0, none⟩) (Nat.le_refl _) _).setCell (p := ⟨W.heap.size, 1, none⟩) (Nat.le_refl _) _).setCell (p := ⟨W.heap.size + 1, 0, none⟩) (Nat.le_succ _) _).setCell (p := ⟨W.heap.size + 1, 1, none⟩) (Nat.le_succ _) _).alloc (by simp; omega) _).alloc (by simp; omega) _).drew
end Go.Proofs.YtjobgpahajhbnabGreatDoor
namespace Go.Proofs.YtjobgpahajhbnabGreatDoor
open Go.RowKit Go.Proofs Go.Maps
attribute [local go_sem ↓] Go.wp_at_zero Go.wp_at_succ
theorem Tryz.zero57 (w : World) : (zeroValue 57).run Tryz.prog w = .ok zArr w := by kernel_rfl
theorem Jhf (P : Nat → Prop) (W : World) : Look P W (.map none) (fun _ => none) := by
  intro t ht; refine ⟨zArr, fun w _ => ?_, rfl⟩; exact Maps.look_nil true Tryz.law9 Tryz.underlying55 (Tryz.zero57 w) (Go.WideMaps.keyOf_string_mk Tryz.underlying9 (by unfold maxLen; omega))
set_option maxHeartbeats 400000 in
theorem Nl (P : Nat → Prop) (w : World) (hP : ∀ b, w.heap.size ≤ b → P b) {Q : Nat → Prop} (so : Option Addr) (sn sc : Nat) (co : Option Addr) (cn cc : Nat) (xs : List Int) (h : Nums Q w (.slice so sn sc) xs) (hx : xs.length ≤ 200) :
    Calls Tryz.prog 27 #[.agg #[.slice so sn sc, .slice co cn cc]] w fun e w' => ∃ so sn sc, e = .returned (.slice so sn sc) ∧ Nums P w' (.slice so sn sc) xs ∧ Below w.heap.size w w' := by
  have hw0 : Below w.heap.size w (w.alloc (.cells #[.slice so sn sc, .slice co cn cc] 57)) := (Below.refl _ _).alloc (Nat.le_refl _) _; have HC := hide (Jio P _ (fun b hb => hP b (by simp at hb; omega)) _ xs (h.below hw0) hx); have HB0 := hide hw0; clear h hP hw0; go_enter Tryz.func27, Tryz.ntmps27; go_wp2_with (go_at_call 37; refine (Ja HC).mono ?_; rintro e w1 ⟨a1, a2, a3, rfl, hn, hb1⟩; have HB1 := hide hb1; have HN1 := hide hn; clear hb1 hn); exact bodyPost_ret (v := .slice a1 a2 a3) (by simp [results, Tryz.results27, go_sem]) rfl ⟨_, _, _, rfl, Ja HN1, (Ja HB0).trans ((Ja HB1).mono (Ja HB0).size)⟩
set_option maxHeartbeats 400000 in
theorem Jay (P : Nat → Prop) (w : World) (hP : ∀ b, w.heap.size ≤ b → P b) {Q : Nat → Prop} (so : Option Addr) (sn sc : Nat) (co : Option Addr) (cn cc : Nat) (xs : List Int) (h : Nums Q w (.slice co cn cc) xs) (hx : xs.length ≤ 200) :
    Calls Tryz.prog 28 #[.agg #[.slice so sn sc, .slice co cn cc]] w fun e w' => ∃ so sn sc, e = .returned (.slice so sn sc) ∧ Nums P w' (.slice so sn sc) xs ∧ Below w.heap.size w w' := by
  have hw0 : Below w.heap.size w (w.alloc (.cells #[.slice so sn sc, .slice co cn cc] 57)) := (Below.refl _ _).alloc (Nat.le_refl _) _; have HC := hide (Jb5 P _ (fun b hb => hP b (by simp at hb; omega)) _ xs (h.below hw0) hx); have HB0 := hide hw0; clear h hP hw0; go_enter Tryz.func28, Tryz.ntmps28; go_wp2_with (go_at_call 38; refine (Ja HC).mono ?_; rintro e w1 ⟨a1, a2, a3, rfl, hn, hb1⟩; have HB1 := hide hb1; have HN1 := hide hn; clear hb1 hn); exact bodyPost_ret (v := .slice a1 a2 a3) (by simp [results, Tryz.results28, go_sem]) rfl ⟨_, _, _, rfl, Ja HN1, (Ja HB0).trans ((Ja HB1).mono (Ja HB0).size)⟩
end Go.Proofs.YtjobgpahajhbnabGreatDoor
