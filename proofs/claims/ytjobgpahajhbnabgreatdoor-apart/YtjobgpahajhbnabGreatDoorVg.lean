import Derived.Test.YtjobgpahajhbnabGreatDoorEh
import Derived.Deep.RegionHeld3
import Derived.Deep.CutRange
namespace Go.Proofs.YtjobgpahajhbnabGreatDoor
open Go.RowKit Go.Proofs Go.Maps
attribute [local go_sem ↓] Go.wp_at_zero Go.wp_at_succ
def Not2 (p q b : Nat) : Prop := b ≠ p ∧ b ≠ q
structure AftX (W3 wx : World) (p q : Nat) (s0 s1 : Value) (e0 e1 : Int) : Prop where
  bel : Below W3.heap.size W3 wx
  lp : W3.heap.size ≤ p
  lq : W3.heap.size ≤ q
  hp : p < wx.heap.size
  hq : q < wx.heap.size
  a0 : wx.cell? ⟨p, 0, none⟩ = some s0
  a1 : wx.cell? ⟨p, 1, none⟩ = some s1
  f0 : wx.cell? ⟨q, 0, none⟩ = some (.int .i64 e0)
  f1 : wx.cell? ⟨q, 1, none⟩ = some (.int .i64 e1)
structure Dsk (db : Nat) (fuel : Int) (mr : Option Nat) (w : World) : Prop where
  lt : db < w.heap.size
  evs : Evs w
  c0 : w.cell? ⟨db, 0, none⟩ = some (.int .i64 fuel)
  c1 : w.cell? ⟨db, 1, none⟩ = some (.map mr)
theorem Dsk.keep {db : Nat} {fuel : Int} {mr : Option Nat} {w w' : World} (h : Dsk db fuel mr w) (hb : Below w.heap.size w w') : Dsk db fuel mr w' :=
  ⟨Nat.lt_of_lt_of_le h.lt hb.size, h.evs.below hb h.evs.1, (hb.cell (p := ⟨db, 0, none⟩) h.lt).trans h.c0, (hb.cell (p := ⟨db, 1, none⟩) h.lt).trans h.c1⟩
theorem J9 {W : World} {b : Nat} {u v0 v1 : Value} (h : W.cell? ⟨b, 0, none⟩ = some u) : ((W.setCell ⟨b, 0, none⟩ v0).setCell ⟨b, 1, none⟩ v1).cell? ⟨b, 0, none⟩ = some v0 := by
  rw [World.cell?_setCell_other _ _ _ _ (by simp)]; exact World.cell?_setCell_same _ _ _ h
theorem J8 {W : World} {b : Nat} {u v0 v1 : Value} (h : W.cell? ⟨b, 1, none⟩ = some u) : ((W.setCell ⟨b, 0, none⟩ v0).setCell ⟨b, 1, none⟩ v1).cell? ⟨b, 1, none⟩ = some v1 :=
  World.cell?_setCell_same _ _ _ ((World.cell?_setCell_other _ _ _ _ (by simp)).trans h)
theorem Qd {P : Nat → Prop} {w : World} {so : Option Addr} {sn sc : Nat} {co : Option Addr} {cn cc : Nat} {a : Arr} (h : IsArr P w (.agg #[.slice so sn sc, .slice co cn cc]) a) : Nums P w (.slice so sn sc) (a.shape.map Int.ofNat) ∧ Nums P w (.slice co cn cc) a.cells := by
  obtain ⟨so1, sn1, sc1, co1, cn1, cc1, hv, h1, h2⟩ := h; simp at hv; obtain ⟨⟨rfl, rfl, rfl⟩, rfl, rfl, rfl⟩ := hv; exact ⟨h1, h2⟩
section
variable {W3 w5 : World} {s0 s1 : Value} {a : Arr} {P : Nat → Prop}
theorem Jpn (hb : Below W3.heap.size W3 w5) (hA : IsArr P w5 (.agg #[s0, s1]) a) :
    AftX W3 ((w5.alloc (.cells #[s0, s1] 57)).alloc (.cells #[.int .i64 0, .int .i64 0] 67)) w5.heap.size (w5.heap.size + 1) s0 s1 0 0 ∧ IsArr (Not2 w5.heap.size (w5.heap.size + 1)) ((w5.alloc (.cells #[s0, s1] 57)).alloc (.cells #[.int .i64 0, .int .i64 0] 67)) (.agg #[s0, s1]) a := by
  have h := hb.size; exact ⟨⟨(hb.alloc hb.size _).alloc (by simp; omega) _, h, by omega, by simp; omega, by simp, by simp, by simp, by simp, by simp⟩, (hA.imp (fun b _ hl => ⟨by omega, by omega⟩)).below (((Below.refl _ _).alloc (Nat.le_refl _) _).alloc (by simp) _)⟩
theorem Jpm (hb : Below W3.heap.size W3 w5) (hA : IsArr P w5 (.agg #[s0, s1]) a) :
    AftX W3 ((w5.alloc (.cells #[.int .i64 0, .int .i64 0] 67)).alloc (.cells #[s0, s1] 57)) (w5.heap.size + 1) w5.heap.size s0 s1 0 0 ∧ IsArr (Not2 (w5.heap.size + 1) w5.heap.size) ((w5.alloc (.cells #[.int .i64 0, .int .i64 0] 67)).alloc (.cells #[s0, s1] 57)) (.agg #[s0, s1]) a := by
  have h := hb.size; exact ⟨⟨(hb.alloc hb.size _).alloc (by simp; omega) _, by omega, h, by simp, by simp; omega, by simp, by simp, by simp, by simp⟩, (hA.imp (fun b _ hl => ⟨by omega, by omega⟩)).below (((Below.refl _ _).alloc (Nat.le_refl _) _).alloc (by simp) _)⟩
theorem Jpl {k : Nat} {u0 u1 : Value} (hb : Below W3.heap.size W3 w5) (hA : IsArr (fun b => b < W3.heap.size ∨ k ≤ b) w5 (.agg #[s0, s1]) a) (hk : W3.heap.size < k) (hl : W3.heap.size < w5.heap.size) (c0 : w5.cell? ⟨W3.heap.size, 0, none⟩ = some u0) (c1 : w5.cell? ⟨W3.heap.size, 1, none⟩ = some u1) :
    AftX W3 (((w5.setCell ⟨W3.heap.size, 0, none⟩ s0).setCell ⟨W3.heap.size, 1, none⟩ s1).alloc (.cells #[.int .i64 0, .int .i64 0] 67)) W3.heap.size w5.heap.size s0 s1 0 0 ∧ IsArr (Not2 W3.heap.size w5.heap.size) (((w5.setCell ⟨W3.heap.size, 0, none⟩ s0).setCell ⟨W3.heap.size, 1, none⟩ s1).alloc (.cells #[.int .i64 0, .int .i64 0] 67)) (.agg #[s0, s1]) a := by
  have h := hb.size; have hno : ¬ (fun b => b < W3.heap.size ∨ k ≤ b) W3.heap.size := by intro h; rcases h with h | h <;> omega
  have hn : ((w5.setCell ⟨W3.heap.size, 0, none⟩ s0).setCell ⟨W3.heap.size, 1, none⟩ s1).heap.size = w5.heap.size := by simp
  refine ⟨⟨((hb.setCell (Nat.le_refl _) _).setCell (Nat.le_refl _) _).alloc (by rw [hn]; exact h) _, Nat.le_refl _, h, by simp; omega, by simp, ?_, ?_, ?_, ?_⟩, ?_⟩
  · rw [World.cell?_alloc_past _ _ _ (by simp; omega)]; exact J9 c0
  · rw [World.cell?_alloc_past _ _ _ (by simp; omega)]; exact J8 c1
  · exact (World.cell?_alloc_at _ _ _ _ hn.symm).trans rfl
  · exact (World.cell?_alloc_at _ _ _ _ hn.symm).trans rfl
  · refine IsArr.below ?_ ((Below.refl _ _).alloc (Nat.le_refl _) _); refine IsArr.imp ((hA.set hno 0 _).set hno 1 _) (fun b hb hl => ?_); rw [hn] at hl; exact ⟨by rcases hb with h | h <;> omega, by omega⟩
theorem Jpk {k : Nat} {u0 u1 : Value} (hb : Below W3.heap.size W3 w5) (hA : IsArr (fun b => b < W3.heap.size ∨ k ≤ b) w5 (.agg #[s0, s1]) a) (hk : W3.heap.size < k) (hl : W3.heap.size < w5.heap.size) (c0 : w5.cell? ⟨W3.heap.size, 0, none⟩ = some u0) (c1 : w5.cell? ⟨W3.heap.size, 1, none⟩ = some u1) :
    AftX W3 (((w5.setCell ⟨W3.heap.size, 0, none⟩ (.int .i64 0)).setCell ⟨W3.heap.size, 1, none⟩ (.int .i64 0)).alloc (.cells #[s0, s1] 57)) w5.heap.size W3.heap.size s0 s1 0 0 ∧ IsArr (Not2 w5.heap.size W3.heap.size) (((w5.setCell ⟨W3.heap.size, 0, none⟩ (.int .i64 0)).setCell ⟨W3.heap.size, 1, none⟩ (.int .i64 0)).alloc (.cells #[s0, s1] 57)) (.agg #[s0, s1]) a := by
  have h := hb.size; have hno : ¬ (fun b => b < W3.heap.size ∨ k ≤ b) W3.heap.size := by intro h; rcases h with h | h <;> omega
  have hn : ((w5.setCell ⟨W3.heap.size, 0, none⟩ (.int .i64 0)).setCell ⟨W3.heap.size, 1, none⟩ (.int .i64 0)).heap.size = w5.heap.size := by simp
  refine ⟨⟨((hb.setCell (Nat.le_refl _) _).setCell (Nat.le_refl _) _).alloc (by rw [hn]; exact h) _, h, Nat.le_refl _, by simp, by simp; omega, ?_, ?_, ?_, ?_⟩, ?_⟩
  · exact (World.cell?_alloc_at _ _ _ _ hn.symm).trans rfl
  · exact (World.cell?_alloc_at _ _ _ _ hn.symm).trans rfl
  · rw [World.cell?_alloc_past _ _ _ (by simp; omega)]; exact J9 c0
  · rw [World.cell?_alloc_past _ _ _ (by simp; omega)]; exact J8 c1
  · refine IsArr.below ?_ ((Below.refl _ _).alloc (Nat.le_refl _) _); refine IsArr.imp ((hA.set hno 0 _).set hno 1 _) (fun b hb hl => ?_); rw [hn] at hl; exact ⟨by omega, by rcases hb with h | h <;> omega⟩
theorem Jlq {k p q : Nat} {u0 u1 u2 u3 : Value} (hb : Below W3.heap.size W3 w5) (hA : IsArr (fun b => b < W3.heap.size ∨ k ≤ b) w5 (.agg #[s0, s1]) a) (hp : W3.heap.size ≤ p ∧ p < k ∧ p < w5.heap.size) (hq : W3.heap.size ≤ q ∧ q < k ∧ q < w5.heap.size) (hpq : p ≠ q) (c0 : w5.cell? ⟨p, 0, none⟩ = some u0) (c1 : w5.cell? ⟨p, 1, none⟩ = some u1) (c2 : w5.cell? ⟨q, 0, none⟩ = some u2) (c3 : w5.cell? ⟨q, 1, none⟩ = some u3) :
    AftX W3 ((((w5.setCell ⟨p, 0, none⟩ s0).setCell ⟨p, 1, none⟩ s1).setCell ⟨q, 0, none⟩ (.int .i64 0)).setCell ⟨q, 1, none⟩ (.int .i64 0)) p q s0 s1 0 0 ∧ IsArr (Not2 p q) ((((w5.setCell ⟨p, 0, none⟩ s0).setCell ⟨p, 1, none⟩ s1).setCell ⟨q, 0, none⟩ (.int .i64 0)).setCell ⟨q, 1, none⟩ (.int .i64 0)) (.agg #[s0, s1]) a := by
  have np : ¬ (fun b => b < W3.heap.size ∨ k ≤ b) p := by intro h; rcases h with h | h <;> omega
  have nq : ¬ (fun b => b < W3.heap.size ∨ k ≤ b) q := by intro h; rcases h with h | h <;> omega
  refine ⟨⟨(((hb.setCell hp.1 _).setCell hp.1 _).setCell hq.1 _).setCell hq.1 _, hp.1, hq.1, by simp; omega, by simp; omega, ?_, ?_, ?_, ?_⟩, ?_⟩
  · rw [J0 hpq]; exact J9 c0
  · rw [J0 hpq]; exact J8 c1
  · exact J9 (u := u2) (by rw [J0 (Ne.symm hpq)]; exact c2)
  · exact J8 (u := u3) (by rw [J0 (Ne.symm hpq)]; exact c3)
  · exact IsArr.imp ((((hA.set np 0 _).set np 1 _).set nq 0 _).set nq 1 _) (fun b hb hl => ⟨by rcases hb with h | h <;> omega, by rcases hb with h | h <;> omega⟩)
end
def RepL (w : World) (er at_ : Int) (sh cs : List Int) (cost : Int) (e : Ending) (w' : World) : Prop :=
  ∃ so sn sc co cn cc, e = .returned (.agg #[.int .i64 er, .int .i64 at_, .slice so sn sc, .slice co cn cc, .int .i64 cost]) ∧ Nums (fun b => w.heap.size ≤ b) w' (.slice so sn sc) sh ∧ Nums (fun b => w.heap.size ≤ b) w' (.slice co cn cc) cs ∧ Below w.heap.size w w'
set_option maxHeartbeats 2000000 in
set_option maxRecDepth 20000 in
theorem Jjy (env : ByteArray → Option Arr) (fuel : Int) (f1 : ByteArray → Arr → Arr × Int) (f2 : ByteArray → Arr → Arr → Arr × Int) (db : Nat) (w : World) (mr : Option Nat) (s : ByteArray) (hs : s.size ≤ 9223372036854775807) (hD : Dsk db fuel mr w) (h0 : 0 ≤ fuel) (hfl : fuel ≤ 1000) (he : ∀ t a, env t = some a → a.ok) (hL : Look (fun _ => True) w (.map mr) env)
    (hp : (Ju s).1 = 0) (hp2 : (Ju s).2 = 0) (hn : Yp s = ⟨#[]⟩) (hg : ∀ x, Jw s x → Good f1 f2 x) (a : Arr) (c : Nat) (hev : ∀ x, Jw s x → Js env fuel f1 f2 x 0 = .inr (a, c)) (hl1 : a.shape.length ≤ 200) (hl2 : a.cells.length ≤ 200) :
    Calls Tryz.prog 20 #[.pointer (some ⟨db, 0, none⟩), .string s] w (RepL w 0 0 (a.shape.map Int.ofNat) a.cells c) := by
  have hw1 : Below w.heap.size w (w.alloc (.cells #[.int .i64 0, .int .i64 0, .slice none 0 0, .slice none 0 0, .int .i64 0] 34)) := (Below.refl _ _).alloc (Nat.le_refl _) _; have HRead := hide (Kc s _ (hD.keep hw1).evs hs); have HEx := hide (fun x (hx : Jw s x) B W q hi P hP hl => Q8 env fuel f1 f2 B W (.map mr) ⟨_, rfl⟩ h0 hfl he x (hg x hx) q hi P hP hl); have HEv := hide hev; obtain ⟨C, hC⟩ : ∃ C : Int, (c : Int) = C := ⟨_, rfl⟩; rw [hC]; have HC := hide hC; have HDk := hide hD; have HW1 := hide hw1; have HL := hide hL; have HP1 := hide hp; have HP2 := hide hp2; have HN := hide hn; have hdb := hD.lt; clear hp hp2 hn hC hD hw1 hL h0 hfl he hg hev hs; go_enter Tryz.func20, Tryz.ntmps20; go_wp2_with (go_at_call 24; refine (Ja HRead).mono ?_; rintro e w2 ⟨q, rfl, hb2, hx⟩; obtain ⟨x, ht, hx⟩ := hx (Ja HP1); rw [Ja HP1, Ja HP2, Ja HN]; have HB2 : Hid (Below w.heap.size w w2) := hide ((Ja HW1).trans (hb2.mono (Ja HW1).size)); have HT := hide ht; have HX := hide hx; have hb2' := hide hb2; clear hb2 ht hx); have HB3 : Hid (Below w2.heap.size w2 (w2.alloc (.cells #[.string ⟨#[]⟩, .pointer q] 63))) := hide ((Below.refl _ _).alloc (Nat.le_refl _) _); have z1 : (w2.alloc (.cells #[.string ⟨#[]⟩, .pointer q] 63)).cell? ⟨w2.heap.size, 1, none⟩ = some (.pointer q) := (World.cell?_alloc_at _ _ _ _ rfl).trans rfl; have z0 : (w2.alloc (.cells #[.string ⟨#[]⟩, .pointer q] 63)).cell? ⟨w2.heap.size, 0, none⟩ = some (.string ⟨#[]⟩) := (World.cell?_alloc_at _ _ _ _ rfl).trans rfl; have zs : w2.heap.size < (w2.alloc (.cells #[.string ⟨#[]⟩, .pointer q] 63)).heap.size := by simp
  obtain ⟨W3, hW3⟩ : ∃ W3, w2.alloc (.cells #[.string ⟨#[]⟩, .pointer q] 63) = W3 := ⟨_, rfl⟩; rw [hW3] at HB3 z1 z0 zs ⊢; have HBW3 : Hid (Below w.heap.size w W3) := hide ((Ja HB2).trans ((Ja HB3).mono (Ja HB2).size)); have HDk3 := hide ((Ja HDk).keep (Ja HBW3)); have HZ1 := hide z1; have HZ0 := hide z0; clear hW3 z1 z0; have HEx3 : Hid (∀ w', Below W3.heap.size W3 w' → Calls Tryz.prog 25 #[.pointer q, .map mr, .int .i64 fuel] w' fun e w'' => Below w'.heap.size w' w'' ∧ Below W3.heap.size W3 w'' ∧ ∃ so sn sc co cn cc, e = .returned (.tuple #[.agg #[.slice so sn sc, .slice co cn cc], .int .i64 C, .agg #[.int .i64 0, .int .i64 0]]) ∧ IsArr (fun b => b < W3.heap.size ∨ w'.heap.size ≤ b) w'' (.agg #[.slice so sn sc, .slice co cn cc]) a) := hide (fun w' hb => by
    have hb3 := (Ja HB3).trans (hb.mono (Ja HB3).size); have hbw := (Ja HBW3).trans (hb.mono (Ja HBW3).size); refine (Ja HEx x (Ja HT) _ w' q ((Ja HX).keep (Behind.of_below hb3)) (fun b => b < W3.heap.size ∨ w'.heap.size ≤ b) (fun b h => .inr h) ((Ja HL).later hbw (fun b _ hl => .inl (Nat.lt_of_lt_of_le hl (Ja HBW3).size)))).mono ?_; rintro e w'' ⟨h1, h2⟩; rw [Ja HEv x (Ja HT)] at h2; simp only [Ja HC] at h2; exact ⟨h1, hb.trans (h1.mono hb.size), h2⟩)
  have HS : Hid (∀ w', Below W3.heap.size W3 w' → w'.cell? ⟨w2.heap.size, 1, none⟩ = some (.pointer q) ∧ w'.cell? ⟨db, 1, none⟩ = some (.map mr) ∧ w'.cell? ⟨db, 0, none⟩ = some (.int .i64 fuel)) := by
    intro w' hb; have h := (Ja HDk3).keep hb; exact ⟨(hb.cell (p := ⟨w2.heap.size, 1, none⟩) zs).trans (Ja HZ1), h.c1, h.c0⟩
  clear HEx HRead HL HEv; go_upto_region 4 with fail; go_cut [8, 9, 10] from 22 to 36 (fun v8 v9 v10 wx => v9 = .int .i64 C ∧ ∃ p q so sn sc co cn cc, v8 = .pointer (some ⟨p, 0, none⟩) ∧ v10 = .pointer (some ⟨q, 0, none⟩) ∧ AftX W3 wx p q (.slice so sn sc) (.slice co cn cc) 0 0 ∧ IsArr (Not2 p q) wx (.agg #[.slice so sn sc, .slice co cn cc]) a)
  case first =>
    go_region_held3 (fun w' => w'.cell? ⟨w2.heap.size, 1, none⟩ = some (.pointer q) ∧ w'.cell? ⟨db, 1, none⟩ = some (.map mr) ∧ w'.cell? ⟨db, 0, none⟩ = some (.int .i64 fuel))
      (exact Ja HS _ (by repeat' (first | exact Below.refl _ _ | refine Below.drew ?_ | refine Below.alloc ?_ ?_ _ | refine Below.setCell ?_ ?_ _ | (show _ ≤ _; first | omega | (simp; done) | (simp; omega)) | exact Ja HB5)
                         done))
      ((go_at_call 25; refine (Ja HEx3 _ ?_).mono ?_; (first | exact (Below.refl _ _).drew | exact ((Below.refl _ _).alloc (Nat.le_refl _) _).drew | exact (((Below.refl _ _).alloc (Nat.le_refl _) _).alloc (by simp) _).drew); rintro e w5 ⟨hb5, hb6, so, sn, sc, co, cn, cc, rfl, ha5⟩; have HB5 := hide hb6; have hs5 := hb6.size; have hs6 := hb5.size; (try simp at hs6); (try have hs7 : W3.heap.size < w5.heap.size := by omega); (try have hs8 : W3.heap.size + 1 < w5.heap.size := by omega); (try have hs9 : W3.heap.size ≠ w5.heap.size := by omega); (try have hs10 : W3.heap.size + 1 ≠ w5.heap.size := by omega); have HA5 := hide ha5; obtain ⟨hc5, hf5⟩ := Jq hb5; clear hb5 hb6 ha5))
    all_goals go_wp2_with fail
    all_goals go_meet
    case rel => exact ⟨rfl, _, _, so, sn, sc, co, cn, cc, rfl, rfl, Jpn (Ja HB5) (Ja HA5)⟩
    case rel => exact ⟨rfl, _, _, so, sn, sc, co, cn, cc, rfl, rfl, Jpm (Ja HB5) (Ja HA5)⟩
    case rel => exact ⟨rfl, _, _, so, sn, sc, co, cn, cc, rfl, rfl, Jpl (u0 := .slice none 0 0) (u1 := .slice none 0 0) (Ja HB5) (Ja HA5) (by simp) hs7 ((hc5 _ 0 (by simp)).trans (by simp)) ((hc5 _ 1 (by simp)).trans (by simp))⟩
    case rel => exact ⟨rfl, _, _, so, sn, sc, co, cn, cc, rfl, rfl, Jlq (u0 := .slice none 0 0) (u1 := .slice none 0 0) (u2 := .int .i64 0) (u3 := .int .i64 0) (Ja HB5) (Ja HA5) ⟨by omega, (by simp <;> omega), by omega⟩ ⟨by omega, (by simp <;> omega), by omega⟩ (by omega) ((hc5 _ 0 (by simp <;> omega)).trans (by simp)) ((hc5 _ 1 (by simp <;> omega)).trans (by simp)) ((hc5 _ 0 (by simp <;> omega)).trans (by simp)) ((hc5 _ 1 (by simp <;> omega)).trans (by simp))⟩
    case rel => exact ⟨rfl, _, _, so, sn, sc, co, cn, cc, rfl, rfl, Jpk (u0 := .int .i64 0) (u1 := .int .i64 0) (Ja HB5) (Ja HA5) (by simp) hs7 ((hc5 _ 0 (by simp)).trans (by simp)) ((hc5 _ 1 (by simp)).trans (by simp))⟩
    case rel => exact ⟨rfl, _, _, so, sn, sc, co, cn, cc, rfl, rfl, Jlq (u0 := .slice none 0 0) (u1 := .slice none 0 0) (u2 := .int .i64 0) (u3 := .int .i64 0) (Ja HB5) (Ja HA5) ⟨by omega, (by simp <;> omega), by omega⟩ ⟨by omega, (by simp <;> omega), by omega⟩ (by omega) ((hc5 _ 0 (by simp <;> omega)).trans (by simp)) ((hc5 _ 1 (by simp <;> omega)).trans (by simp)) ((hc5 _ 0 (by simp <;> omega)).trans (by simp)) ((hc5 _ 1 (by simp <;> omega)).trans (by simp))⟩
  case rest =>
    obtain ⟨rfl, p, qf, so, sn, sc, co, cn, cc, rfl, rfl, hX, hA⟩ := hcut; have bel := hX.bel; have yf := hX.f0; have yn : wc.cell? ⟨w2.heap.size, 0, none⟩ = some (.string ⟨#[]⟩) := (bel.cell (p := ⟨w2.heap.size, 0, none⟩) zs).trans (Ja HZ0); have ya0 := hX.a0; have ya1 := hX.a1; have hpl := hX.hp; have hql := hX.hq; have hbc : Below (w.heap.size + 1) (w.alloc (.cells #[.int .i64 0, .int .i64 0, .slice none 0 0, .slice none 0 0, .int .i64 0] 34)) wc := by
      have h1 := Ja hb2'; simp only [World.size_alloc] at h1; have h2 := (Ja HB3).size; have h3 := h1.size; simp at h3; exact (h1.trans ((Ja HB3).mono (by omega))).trans (bel.mono (by omega))
    have hwc : w.heap.size + 1 ≤ wc.heap.size := by have := hbc.size; simp at this; omega
    have hpr : p ≠ w.heap.size := by
      have h1 := (Ja HBW3).size; have h2 := hX.lp; have h3 := (Ja hb2').size; have h4 := (Ja HB3).size; simp at h3; omega
    obtain ⟨n1, n2⟩ := Qd hA; have HR : Hid (∀ w', Below wc.heap.size wc w' → (∀ i, w'.cell? ⟨w.heap.size, i, none⟩ = (w.alloc (.cells #[.int .i64 0, .int .i64 0, .slice none 0 0, .slice none 0 0, .int .i64 0] 34)).cell? ⟨w.heap.size, i, none⟩) ∧ (∀ i, w'.frozen? ⟨w.heap.size, i, none⟩ = false)) := hide (fun w' hb => by
      have h := hbc.trans (hb.mono hwc); refine ⟨fun i => h.cell (p := ⟨w.heap.size, i, none⟩) (by show w.heap.size < w.heap.size + 1; omega), fun i => ?_⟩; rw [h.frozen (p := ⟨w.heap.size, i, none⟩) (by show w.heap.size < w.heap.size + 1; omega)]; exact World.frozen?_alloc_at _ _ _ _ rfl)
    have HSh : Hid (∀ w', Below wc.heap.size wc w' → Calls Tryz.prog 27 #[.agg #[.slice so sn sc, .slice co cn cc]] w' fun e w'' => ∃ so sn sc, e = .returned (.slice so sn sc) ∧ Nums (fun b => wc.heap.size ≤ b) w'' (.slice so sn sc) (a.shape.map Int.ofNat) ∧ Below w'.heap.size w' w'' ∧ Below wc.heap.size wc w'') := hide (fun w' hb => (Nl (fun b => wc.heap.size ≤ b) w' (fun b h => Nat.le_trans hb.size h) so sn sc co cn cc _ (n1.below hb) (by simpa using hl1)).mono (fun e w'' ⟨x1, x2, x3, h1, h2, h3⟩ => ⟨x1, x2, x3, h1, h2, h3, hb.trans (h3.mono hb.size)⟩)); have HCe : Hid (∀ w', Below wc.heap.size wc w' → Calls Tryz.prog 28 #[.agg #[.slice so sn sc, .slice co cn cc]] w' fun e w'' => ∃ so sn sc, e = .returned (.slice so sn sc) ∧ Nums (fun b => wc.heap.size ≤ b) w'' (.slice so sn sc) a.cells ∧ Below w'.heap.size w' w'' ∧ Below wc.heap.size wc w'') := hide (fun w' hb => (Jay (fun b => wc.heap.size ≤ b) w' (fun b h => Nat.le_trans hb.size h) so sn sc co cn cc _ (n2.below hb) hl2).mono (fun e w'' ⟨x1, x2, x3, h1, h2, h3⟩ => ⟨x1, x2, x3, h1, h2, h3, hb.trans (h3.mono hb.size)⟩)); have HS9 : Hid (∀ w', Below wc.heap.size wc w' → w'.cell? ⟨p, 0, none⟩ = some (.slice so sn sc) ∧ w'.cell? ⟨p, 1, none⟩ = some (.slice co cn cc)) := hide (fun w' hb => ⟨(hb.cell (p := ⟨p, 0, none⟩) hX.hp).trans hX.a0, (hb.cell (p := ⟨p, 1, none⟩) hX.hp).trans hX.a1⟩); have HBc : Hid (Below w.heap.size w wc) := hide ((Ja HBW3).trans (bel.mono (Ja HBW3).size)); clear hX hA bel hbc n1 n2 hl1 hl2 HEx3 HS; go_wp2_with fail; go_region_held3 (fun w' => w'.cell? ⟨p, 0, none⟩ = some (.slice so sn sc) ∧ w'.cell? ⟨p, 1, none⟩ = some (.slice co cn cc))
      (first
        | exact Ja HS9 _ (Below.refl _ _).drew
        | exact Ja HS9 _ (Ja HB6)
        | exact Ja HS9 _ (Ja HB7)
        | (refine ⟨?_, ?_⟩ <;> rw [World.cell?_setCell_other _ _ _ _ (by intro e; injection e; omega), World.cell?_setCell_other _ _ _ _ (by intro e; injection e; omega), World.cell?_setCell_other _ _ _ _ (by intro e; injection e; omega), World.cell?_setCell_other _ _ _ _ (by intro e; injection e; omega), World.cell?_setCell_other _ _ _ _ (by intro e; injection e; omega)]; exact (Ja HS9 _ (Ja HB7)).1; exact (Ja HS9 _ (Ja HB7)).2)
        | (trace_state; fail))
      (first
        | (go_at_call 27; refine (Ja HSh _ ?_).mono ?_; (first | exact (Below.refl _ _).drew | exact Ja HB7 | exact Below.refl _ _); rintro e w6 ⟨so1, sn1, sc1, rfl, hn6, hb6, hc6⟩; have HN6 := hide hn6; have HB6 := hide hc6; have HL6 := hide hb6; obtain ⟨d6, f6⟩ := Ja HR _ hc6; clear hn6 hb6 hc6)
        | (go_at_call 28; refine (Ja HCe _ ?_).mono ?_; (first | exact (Below.refl _ _).drew | exact Ja HB6 | exact Below.refl _ _); rintro e w7 ⟨co1, cn1, cc1, rfl, hn7, hb7, hc7⟩; have HN7 := hide hn7; have HB7 := hide hc7; have HL7 := hide hb7; obtain ⟨d7, f7⟩ := Ja HR _ hc7; clear hn7 hb7 hc7))
    have e0 := (d7 0).trans ((World.cell?_alloc_at _ _ _ _ rfl).trans rfl); have e1 := (d7 1).trans ((World.cell?_alloc_at _ _ _ _ rfl).trans rfl); have e2 := (d7 2).trans ((World.cell?_alloc_at _ _ _ _ rfl).trans rfl); have e3 := (d7 3).trans ((World.cell?_alloc_at _ _ _ _ rfl).trans rfl); have e4 := (d7 4).trans ((World.cell?_alloc_at _ _ _ _ rfl).trans rfl); have hno : ¬ (fun b => wc.heap.size ≤ b) w.heap.size := by show ¬ wc.heap.size ≤ w.heap.size; omega
    have M1 := hide ((((((Ja HN6).below (Ja HL7)).set hno 0 (.int .i64 0)).set hno 1 (.int .i64 0)).set hno 2 (.slice so1 sn1 sc1)).set hno 3 (.slice co1 cn1 cc1) |>.set hno 4 (.int .i64 C)); have M2 := hide ((((((Ja HN7)).set hno 0 (.int .i64 0)).set hno 1 (.int .i64 0)).set hno 2 (.slice so1 sn1 sc1)).set hno 3 (.slice co1 cn1 cc1) |>.set hno 4 (.int .i64 C)); have M3 : Hid (Below w.heap.size w w7) := hide ((Ja HBc).trans ((Ja HB7).mono (Ja HBc).size)); have hwl : w.heap.size ≤ wc.heap.size := by omega
    clear d6 d7 HR HSh HCe HS9 HDk HDk3; go_wp2_with fail; refine bodyPost_ret (v := .agg #[.int .i64 0, .int .i64 0, .slice so1 sn1 sc1, .slice co1 cn1 cc1, .int .i64 C]) (by simp [results, Tryz.results20, go_sem, e0, e1, e2, e3, e4]) rfl ⟨so1, sn1, sc1, co1, cn1, cc1, rfl, (Ja M1).imp (fun b h _ => Nat.le_trans hwl h), (Ja M2).imp (fun b h _ => Nat.le_trans hwl h), ?_⟩; exact (((((Ja M3).setCell (p := ⟨w.heap.size, 0, none⟩) (Nat.le_refl _) _).setCell (p := ⟨w.heap.size, 1, none⟩) (Nat.le_refl _) _).setCell (p := ⟨w.heap.size, 2, none⟩) (Nat.le_refl _) _).setCell (p := ⟨w.heap.size, 3, none⟩) (Nat.le_refl _) _).setCell (p := ⟨w.heap.size, 4, none⟩) (Nat.le_refl _) _
end Go.Proofs.YtjobgpahajhbnabGreatDoor
