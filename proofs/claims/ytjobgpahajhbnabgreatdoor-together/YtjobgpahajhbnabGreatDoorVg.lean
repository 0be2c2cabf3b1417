import Derived.Test.YtjobgpahajhbnabGreatDoorEg
import Derived.Deep.RegionHeld3
import Derived.Deep.CutRange
namespace Go.Proofs.YtjobgpahajhbnabGreatDoor
open Go.RowKit Go.Proofs Go.Maps
attribute [local go_sem ↓] Go.wp_at_zero Go.wp_at_succ
def Not2 (p q b : Nat) : Prop := b ≠ p ∧ b ≠ q
structure AftX (W3 wx : World) (p q : Nat) (s0 s1 : Value) (e0 e1 : Int) : Prop where
  bel : Below W3.heap.size W3 wx
  lp : W3.heap.size ≤ p
  lq : W3.heap.size ≤ q
  hp : p < wx.heap.size
  hq : q < wx.heap.size
  a0 : wx.cell? ⟨p, 0, none⟩ = some s0
  a1 : wx.cell? ⟨p, 1, none⟩ = some s1
  f0 : wx.cell? ⟨q, 0, none⟩ = some (.int .i64 e0)
  f1 : wx.cell? ⟨q, 1, none⟩ = some (.int .i64 e1)
structure Dsk (db : Nat) (fuel : Int) (mr : Option Nat) (w : World) : Prop where
  lt : db < w.heap.size
  evs : Evs w
  c0 : w.cell? ⟨db, 0, none⟩ = some (.int .i64 fuel)
  c1 : w.cell? ⟨db, 1, none⟩ = some (.map mr)
theorem Dsk.keep {db : Nat} {fuel : Int} {mr : Option Nat} {w w' : World} (h : Dsk db fuel mr w) (hb : Below w.heap.size w w') : Dsk db fuel mr w' :=
  ⟨Nat.lt_of_lt_of_le h.lt hb.size, h.evs.below hb h.evs.1, (hb.cell (p := ⟨db, 0, none⟩) h.lt).trans h.c0, (hb.cell (p := ⟨db, 1, none⟩) h.lt).trans h.c1⟩
theorem J7 {W : World} {b : Nat} {u v0 v1 : Value} (h : W.cell? ⟨b, 0, none⟩ = some u) : ((W.setCell ⟨b, 0, none⟩ v0).setCell ⟨b, 1, none⟩ v1).cell? ⟨b, 0, none⟩ = some v0 := by
  rw [World.cell?_setCell_other _ _ _ _ (by simp)]
  exact World.cell?_setCell_same _ _ _ h
theorem J6 {W : World} {b : Nat} {u v0 v1 : Value} (h : W.cell? ⟨b, 1, none⟩ = some u) : ((W.setCell ⟨b, 0, none⟩ v0).setCell ⟨b, 1, none⟩ v1).cell? ⟨b, 1, none⟩ = some v1 :=
  World.cell?_setCell_same _ _ _ ((World.cell?_setCell_other _ _ _ _ (by simp)).trans h)
theorem G2 {P : Nat → Prop} {w : World} {so : Option Addr} {sn sc : Nat} {co : Option Addr} {cn cc : Nat} {a : Arr} (h : IsArr P w (.agg #[.slice so sn sc, .slice co cn cc]) a) : Nums P w (.slice so sn sc) (a.shape.map Int.ofNat) ∧ Nums P w (.slice co cn cc) a.cells := by
  obtain ⟨so1, sn1, sc1, co1, cn1, cc1, hv, h1, h2⟩ := h
  simp at hv
  obtain ⟨⟨rfl, rfl, rfl⟩, rfl, rfl, rfl⟩ := hv
  exact ⟨h1, h2⟩
section
variable {W3 w5 : World} {s0 s1 : Value} {a : Arr} {P : Nat → Prop}
theorem Jo5 (hb : Below W3.heap.size W3 w5) (hA : IsArr P w5 (.agg #[s0, s1]) a) :
    AftX W3 ((w5.alloc (.cells #[s0, s1] 57)).alloc (.cells #[.int .i64 0, .int .i64 0] 67)) w5.heap.size (w5.heap.size + 1) s0 s1 0 0 ∧ IsArr (Not2 w5.heap.size (w5.heap.size + 1)) ((w5.alloc (.cells #[s0, s1] 57)).alloc (.cells #[.int .i64 0, .int .i64 0] 67)) (.agg #[s0, s1]) a := by
  have h := hb.size
  exact ⟨⟨(hb.alloc hb.size _).alloc (by simp; omega) _, h, by omega, by simp; omega, by simp, by simp, by simp, by simp, by simp⟩, (hA.imp (fun b _ hl => ⟨by omega, by omega⟩)).below (((Below.refl _ _).alloc (Nat.le_refl _) _).alloc (by simp) _)⟩
theorem Jo4 (hb : Below W3.heap.size W3 w5) (hA : IsArr P w5 (.agg #[s0, s1]) a) :
    AftX W3 ((w5.alloc (.cells #[.int .i64 0, .int .i64 0] 67)).alloc (.cells #[s0, s1] 57)) (w5.heap.size + 1) w5.heap.size s0 s1 0 0 ∧ IsArr (Not2 (w5.heap.size + 1) w5.heap.size) ((w5.alloc (.cells #[.int .i64 0, .int .i64 0] 67)).alloc (.cells #[s0, s1] 57)) (.agg #[s0, s1]) a := by
  have h := hb.size
  exact ⟨⟨(hb.alloc hb.size _).alloc (by simp; omega) _, by omega, h, by simp, by simp; omega, by simp, by simp, by simp, by simp⟩, (hA.imp (fun b _ hl => ⟨by omega, by omega⟩)).below (((Below.refl _ _).alloc (Nat.le_refl _) _).alloc (by simp) _)⟩
theorem Jo3 {k : Nat} {u0 u1 : Value} (hb : Below W3.heap.size W3 w5) (hA : IsArr (fun b => b < W3.heap.size ∨ k ≤ b) w5 (.agg #[s0, s1]) a) (hk : W3.heap.size < k) (hl : W3.heap.size < w5.heap.size) (c0 : w5.cell? ⟨W3.heap.size, 0, none⟩ = some u0) (c1 : w5.cell? ⟨W3.heap.size, 1, none⟩ = some u1) :
    AftX W3 (((w5.setCell ⟨W3.heap.size, 0, none⟩ s0).setCell ⟨W3.heap.size, 1, none⟩ s1).alloc (.cells #[.int .i64 0, .int .i64 0] 67)) W3.heap.size w5.heap.size s0 s1 0 0 ∧ IsArr (Not2 W3.heap.size w5.heap.size) (((w5.setCell ⟨W3.heap.size, 0, none⟩ s0).setCell ⟨W3.heap.size, 1, none⟩ s1).alloc (.cells #[.int .i64 0, .int .i64 0] 67)) (.agg #[s0, s1]) a := by
  have h := hb.size
  have hno : ¬ (fun b => b < W3.heap.size ∨ k ≤ b) W3.heap.size := by intro h; rcases h with h | h <;> omega
  have hn : ((w5.setCell ⟨W3.heap.size, 0, none⟩ s0).setCell ⟨W3.heap.size, 1, none⟩ s1).heap.size = w5.heap.size := by simp
  refine ⟨⟨((hb.setCell (Nat.le_refl _) _).setCell (Nat.le_refl _) _).alloc (by rw [hn]; exact h) _, Nat.le_refl _, h, by simp; omega, by simp, ?_, ?_, ?_, ?_⟩, ?_⟩
  · rw [World.cell?_alloc_past _ _ _ (by simp; omega)]; exact J7 c0
  · rw [World.cell?_alloc_past _ _ _ (by simp; omega)]; exact J6 c1
  · exact (World.cell?_alloc_at _ _ _ _ hn.symm).trans rfl
  · exact (World.cell?_alloc_at _ _ _ _ hn.symm).trans rfl
  · refine IsArr.below ?_ ((Below.refl _ _).alloc (Nat.le_refl _) _)
    refine IsArr.imp ((hA.set hno 0 _).set hno 1 _) (fun b hb hl => ?_)
    rw [hn] at hl
    exact ⟨by rcases hb with h | h <;> omega, by omega⟩
theorem Jo2 {k : Nat} {u0 u1 : Value} (hb : Below W3.heap.size W3 w5) (hA : IsArr (fun b => b < W3.heap.size ∨ k ≤ b) w5 (.agg #[s0, s1]) a) (hk : W3.heap.size < k) (hl : W3.heap.size < w5.heap.size) (c0 : w5.cell? ⟨W3.heap.size, 0, none⟩ = some u0) (c1 : w5.cell? ⟨W3.heap.size, 1, none⟩ = some u1) :
    AftX W3 (((w5.setCell ⟨W3.heap.size, 0, none⟩ (.int .i64 0)).setCell ⟨W3.heap.size, 1, none⟩ (.int .i64 0)).alloc (.cells #[s0, s1] 57)) w5.heap.size W3.heap.size s0 s1 0 0 ∧ IsArr (Not2 w5.heap.size W3.heap.size) (((w5.setCell ⟨W3.heap.size, 0, none⟩ (.int .i64 0)).setCell ⟨W3.heap.size, 1, none⟩ (.int .i64 0)).alloc (.cells #[s0, s1] 57)) (.agg #[s0, s1]) a := by
  have h := hb.size
  have hno : ¬ (fun b => b < W3.heap.size ∨ k ≤ b) W3.heap.size := by intro h; rcases h with h | h <;> omega
  have hn : ((w5.setCell ⟨W3.heap.size, 0, none⟩ (.int .i64 0)).setCell ⟨W3.heap.size, 1, none⟩ (.int .i64 0)).heap.size = w5.heap.size := by simp
  refine ⟨⟨((hb.setCell (Nat.le_refl _) _).setCell (Nat.le_refl _) _).alloc (by rw [hn]; exact h) _, h, Nat.le_refl _, by simp, by simp; omega, ?_, ?_, ?_, ?_⟩, ?_⟩
  · exact (World.cell?_alloc_at _ _ _ _ hn.symm).trans rfl
  · exact (World.cell?_alloc_at _ _ _ _ hn.symm).trans rfl
  · rw [World.cell?_alloc_past _ _ _ (by simp; omega)]; exact J7 c0
  · rw [World.cell?_alloc_past _ _ _ (by simp; omega)]; exact J6 c1
  · refine IsArr.below ?_ ((Below.refl _ _).alloc (Nat.le_refl _) _)
    refine IsArr.imp ((hA.set hno 0 _).set hno 1 _) (fun b hb hl => ?_)
    rw [hn] at hl
    exact ⟨by omega, by rcases hb with h | h <;> omega⟩
theorem Joj {k p q : Nat} {u0 u1 u2 u3 : Value} (hb : Below W3.heap.size W3 w5) (hA : IsArr (fun b => b < W3.heap.size ∨ k ≤ b) w5 (.agg #[s0, s1]) a) (hp : W3.heap.size ≤ p ∧ p < k ∧ p < w5.heap.size) (hq : W3.heap.size ≤ q ∧ q < k ∧ q < w5.heap.size) (hpq : p ≠ q) (c0 : w5.cell? ⟨p, 0, none⟩ = some u0) (c1 : w5.cell? ⟨p, 1, none⟩ = some u1) (c2 : w5.cell? ⟨q, 0, none⟩ = some u2) (c3 : w5.cell? ⟨q, 1, none⟩ = some u3) :
    AftX W3 ((((w5.setCell ⟨p, 0, none⟩ s0).setCell ⟨p, 1, none⟩ s1).setCell ⟨q, 0, none⟩ (.int .i64 0)).setCell ⟨q, 1, none⟩ (.int .i64 0)) p q s0 s1 0 0 ∧ IsArr (Not2 p q) ((((w5.setCell ⟨p, 0, none⟩ s0).setCell ⟨p, 1, none⟩ s1).setCell ⟨q, 0, none⟩ (.int .i64 0)).setCell ⟨q, 1, none⟩ (.int .i64 0)) (.agg #[s0, s1]) a := by
  have np : ¬ (fun b => b < W3.heap.size ∨ k ≤ b) p := by intro h; rcases h with h | h <;> omega
  have nq : ¬ (fun b => b < W3.heap.size ∨ k ≤ b) q := by intro h; rcases h with h | h <;> omega
  refine ⟨⟨(((hb.setCell hp.1 _).setCell hp.1 _).setCell hq.1 _).setCell hq.1 _, hp.1, hq.1, by simp; omega, by simp; omega, ?_, ?_, ?_, ?_⟩, ?_⟩
  · rw [Jz hpq]; exact J7 c0
  · rw [Jz hpq]; exact J6 c1
  · exact J7 (u := u2) (by rw [Jz (Ne.symm hpq)]; exact c2)
  · exact J6 (u := u3) (by rw [Jz (Ne.symm hpq)]; exact c3)
  · exact IsArr.imp ((((hA.set np 0 _).set np 1 _).set nq 0 _).set nq 1 _) (fun b hb hl => ⟨by rcases hb with h | h <;> omega, by rcases hb with h | h <;> omega⟩)
end
def RepL (w : World) (er at_ : Int) (sh cs : List Int) (cost : Int) (e : Ending) (w' : World) : Prop :=
  ∃ so sn sc co cn cc, e = .returned (.agg #[.int .i64 er, .int .i64 at_, .slice so sn sc, .slice co cn cc, .int .i64 cost]) ∧ Nums (fun b => w.heap.size ≤ b) w' (.slice so sn sc) sh ∧ Nums (fun b => w.heap.size ≤ b) w' (.slice co cn cc) cs ∧ Below w.heap.size w w'
end Go.Proofs.YtjobgpahajhbnabGreatDoor
