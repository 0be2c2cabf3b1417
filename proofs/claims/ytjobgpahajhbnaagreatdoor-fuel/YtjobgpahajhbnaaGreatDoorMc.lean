import Derived.Test.YtjobgpahajhbnaaGreatDoorVh
namespace Go.Proofs.YtjobgpahajhbnaaGreatDoor
open Go.RowKit Go.Proofs Go.Maps
attribute [local go_sem ↓] Go.wp_at_zero Go.wp_at_succ

section
variable {W3 w5 : World} {s0 s1 : Value} {a : Arr} {X : Nat → Prop} {e0 e1 : Int}
theorem afx_1 (hb : Below W3.heap.size W3 w5) (hA : IsArr X w5 (.agg #[s0, s1]) a) :
    AftX W3 ((w5.alloc (.cells #[s0, s1] 89)).alloc (.cells #[.int .i64 e0, .int .i64 e1] 117)) w5.heap.size (w5.heap.size + 1) s0 s1 e0 e1 ∧ IsArr (fun b => Not2 w5.heap.size (w5.heap.size + 1) b ∧ X b) ((w5.alloc (.cells #[s0, s1] 89)).alloc (.cells #[.int .i64 e0, .int .i64 e1] 117)) (.agg #[s0, s1]) a := by
  have h := hb.size
  exact ⟨⟨(hb.alloc hb.size _).alloc (by simp; omega) _, h, by omega, by simp; omega, by simp, by simp, by simp, by simp, by simp⟩, (hA.imp (fun b hb hl => ⟨⟨by omega, by omega⟩, hb⟩)).below (((Below.refl _ _).alloc (Nat.le_refl _) _).alloc (by simp) _)⟩
theorem afx_2 (hb : Below W3.heap.size W3 w5) (hA : IsArr X w5 (.agg #[s0, s1]) a) :
    AftX W3 ((w5.alloc (.cells #[.int .i64 e0, .int .i64 e1] 117)).alloc (.cells #[s0, s1] 89)) (w5.heap.size + 1) w5.heap.size s0 s1 e0 e1 ∧ IsArr (fun b => Not2 (w5.heap.size + 1) w5.heap.size b ∧ X b) ((w5.alloc (.cells #[.int .i64 e0, .int .i64 e1] 117)).alloc (.cells #[s0, s1] 89)) (.agg #[s0, s1]) a := by
  have h := hb.size
  exact ⟨⟨(hb.alloc hb.size _).alloc (by simp; omega) _, by omega, h, by simp, by simp; omega, by simp, by simp, by simp, by simp⟩, (hA.imp (fun b hb hl => ⟨⟨by omega, by omega⟩, hb⟩)).below (((Below.refl _ _).alloc (Nat.le_refl _) _).alloc (by simp) _)⟩
theorem afx_3 {k : Nat} {u0 u1 : Value} (hb : Below W3.heap.size W3 w5) (hA : IsArr (fun b => (b < W3.heap.size ∨ k ≤ b) ∧ X b) w5 (.agg #[s0, s1]) a) (hk : W3.heap.size < k) (hl : W3.heap.size < w5.heap.size) (c0 : w5.cell? ⟨W3.heap.size, 0, none⟩ = some u0) (c1 : w5.cell? ⟨W3.heap.size, 1, none⟩ = some u1) :
    AftX W3 (((w5.setCell ⟨W3.heap.size, 0, none⟩ s0).setCell ⟨W3.heap.size, 1, none⟩ s1).alloc (.cells #[.int .i64 e0, .int .i64 e1] 117)) W3.heap.size w5.heap.size s0 s1 e0 e1 ∧ IsArr (fun b => Not2 W3.heap.size w5.heap.size b ∧ X b) (((w5.setCell ⟨W3.heap.size, 0, none⟩ s0).setCell ⟨W3.heap.size, 1, none⟩ s1).alloc (.cells #[.int .i64 e0, .int .i64 e1] 117)) (.agg #[s0, s1]) a := by
  have h := hb.size
  have hno : ¬ (fun b => (b < W3.heap.size ∨ k ≤ b) ∧ X b) W3.heap.size := by rintro ⟨h | h, _⟩ <;> omega
  have hn : ((w5.setCell ⟨W3.heap.size, 0, none⟩ s0).setCell ⟨W3.heap.size, 1, none⟩ s1).heap.size = w5.heap.size := by simp
  refine ⟨⟨((hb.setCell (Nat.le_refl _) _).setCell (Nat.le_refl _) _).alloc (by rw [hn]; exact h) _, Nat.le_refl _, h, by simp; omega, by simp, ?_, ?_, ?_, ?_⟩, ?_⟩
  · rw [World.cell?_alloc_past _ _ _ (by simp; omega)]; exact set2_same0 c0
  · rw [World.cell?_alloc_past _ _ _ (by simp; omega)]; exact set2_same1 c1
  · exact (World.cell?_alloc_at _ _ _ _ hn.symm).trans rfl
  · exact (World.cell?_alloc_at _ _ _ _ hn.symm).trans rfl
  · refine IsArr.below ?_ ((Below.refl _ _).alloc (Nat.le_refl _) _)
    refine IsArr.imp ((hA.set hno 0 _).set hno 1 _) (fun b hb hl => ?_)
    rw [hn] at hl
    exact ⟨⟨by rcases hb.1 with h | h <;> omega, by omega⟩, hb.2⟩
theorem afx_5 {k : Nat} {u0 u1 : Value} (hb : Below W3.heap.size W3 w5) (hA : IsArr (fun b => (b < W3.heap.size ∨ k ≤ b) ∧ X b) w5 (.agg #[s0, s1]) a) (hk : W3.heap.size < k) (hl : W3.heap.size < w5.heap.size) (c0 : w5.cell? ⟨W3.heap.size, 0, none⟩ = some u0) (c1 : w5.cell? ⟨W3.heap.size, 1, none⟩ = some u1) :
    AftX W3 (((w5.setCell ⟨W3.heap.size, 0, none⟩ (.int .i64 e0)).setCell ⟨W3.heap.size, 1, none⟩ (.int .i64 e1)).alloc (.cells #[s0, s1] 89)) w5.heap.size W3.heap.size s0 s1 e0 e1 ∧ IsArr (fun b => Not2 w5.heap.size W3.heap.size b ∧ X b) (((w5.setCell ⟨W3.heap.size, 0, none⟩ (.int .i64 e0)).setCell ⟨W3.heap.size, 1, none⟩ (.int .i64 e1)).alloc (.cells #[s0, s1] 89)) (.agg #[s0, s1]) a := by
  have h := hb.size
  have hno : ¬ (fun b => (b < W3.heap.size ∨ k ≤ b) ∧ X b) W3.heap.size := by rintro ⟨h | h, _⟩ <;> omega
  have hn : ((w5.setCell ⟨W3.heap.size, 0, none⟩ (.int .i64 e0)).setCell ⟨W3.heap.size, 1, none⟩ (.int .i64 e1)).heap.size = w5.heap.size := by simp
  refine ⟨⟨((hb.setCell (Nat.le_refl _) _).setCell (Nat.le_refl _) _).alloc (by rw [hn]; exact h) _, h, Nat.le_refl _, by simp, by simp; omega, ?_, ?_, ?_, ?_⟩, ?_⟩
  · exact (World.cell?_alloc_at _ _ _ _ hn.symm).trans rfl
  · exact (World.cell?_alloc_at _ _ _ _ hn.symm).trans rfl
  · rw [World.cell?_alloc_past _ _ _ (by simp; omega)]; exact set2_same0 c0
  · rw [World.cell?_alloc_past _ _ _ (by simp; omega)]; exact set2_same1 c1
  · refine IsArr.below ?_ ((Below.refl _ _).alloc (Nat.le_refl _) _)
    refine IsArr.imp ((hA.set hno 0 _).set hno 1 _) (fun b hb hl => ?_)
    rw [hn] at hl
    exact ⟨⟨by omega, by rcases hb.1 with h | h <;> omega⟩, hb.2⟩
theorem afx_4 {k p q : Nat} {u0 u1 u2 u3 : Value} (hb : Below W3.heap.size W3 w5) (hA : IsArr (fun b => (b < W3.heap.size ∨ k ≤ b) ∧ X b) w5 (.agg #[s0, s1]) a) (hp : W3.heap.size ≤ p ∧ p < k ∧ p < w5.heap.size) (hq : W3.heap.size ≤ q ∧ q < k ∧ q < w5.heap.size) (hpq : p ≠ q) (c0 : w5.cell? ⟨p, 0, none⟩ = some u0) (c1 : w5.cell? ⟨p, 1, none⟩ = some u1) (c2 : w5.cell? ⟨q, 0, none⟩ = some u2) (c3 : w5.cell? ⟨q, 1, none⟩ = some u3) :
    AftX W3 ((((w5.setCell ⟨p, 0, none⟩ s0).setCell ⟨p, 1, none⟩ s1).setCell ⟨q, 0, none⟩ (.int .i64 e0)).setCell ⟨q, 1, none⟩ (.int .i64 e1)) p q s0 s1 e0 e1 ∧ IsArr (fun b => Not2 p q b ∧ X b) ((((w5.setCell ⟨p, 0, none⟩ s0).setCell ⟨p, 1, none⟩ s1).setCell ⟨q, 0, none⟩ (.int .i64 e0)).setCell ⟨q, 1, none⟩ (.int .i64 e1)) (.agg #[s0, s1]) a := by
  have np : ¬ (fun b => (b < W3.heap.size ∨ k ≤ b) ∧ X b) p := by rintro ⟨h | h, _⟩ <;> omega
  have nq : ¬ (fun b => (b < W3.heap.size ∨ k ≤ b) ∧ X b) q := by rintro ⟨h | h, _⟩ <;> omega
  refine ⟨⟨(((hb.setCell hp.1 _).setCell hp.1 _).setCell hq.1 _).setCell hq.1 _, hp.1, hq.1, by simp; omega, by simp; omega, ?_, ?_, ?_, ?_⟩, ?_⟩
  · rw [set2_other hpq]; exact set2_same0 c0
  · rw [set2_other hpq]; exact set2_same1 c1
  · exact set2_same0 (u := u2) (by rw [set2_other (Ne.symm hpq)]; exact c2)
  · exact set2_same1 (u := u3) (by rw [set2_other (Ne.symm hpq)]; exact c3)
  · exact IsArr.imp ((((hA.set np 0 _).set np 1 _).set nq 0 _).set nq 1 _) (fun b hb hl => ⟨⟨by rcases hb.1 with h | h <;> omega, by rcases hb.1 with h | h <;> omega⟩, hb.2⟩)
end
/-- a desk with names; their arrays lie in blocks of which X holds -/
structure DskN (X : Nat → Prop) (db : Nat) (fuel : Int) (env : ByteArray → Option Arr) (N : Nat) (mo : Option Nat) (w : World) : Prop where
  lt : db < w.heap.size
  low : 6 ≤ db
  evs : Evs w
  c0 : w.cell? ⟨db, 0, none⟩ = some (.int .i64 fuel)
  c1 : w.cell? ⟨db, 1, none⟩ = some (.map mo)
  fr : w.frozen? ⟨db, 1, none⟩ = false
  out : ¬ X db
  map : match mo with
    | none => env = fun _ => none
    | some mb => mb ≠ db ∧ 6 ≤ mb ∧ ¬ X mb ∧ ∃ D, w.ownsMap Tryz.prog 9 selfE mb N D ∧ Holds D X w env
theorem Holds.later {D : DataW Value} {P P' : Nat → Prop} {W W' : World} {env : ByteArray → Option Arr} (h : Holds D P W env) (hk : ∀ u b, IsArr P W u b → IsArr P' W' u b) : Holds D P' W' env := by
  refine ⟨h.1, fun t => ?_⟩
  have := h.2 t
  cases he : env t with
  | none => rw [he] at this; exact this
  | some a =>
    rw [he] at this
    obtain ⟨v, h1, h2, h3⟩ := this
    exact ⟨v, h1, h2, hk _ _ h3⟩
theorem DskN.below {X : Nat → Prop} {db : Nat} {fuel : Int} {env : ByteArray → Option Arr} {N : Nat} {mo : Option Nat} {w w' : World} (h : DskN X db fuel env N mo w) (hb : Below w.heap.size w w') : DskN X db fuel env N mo w' := by
  refine ⟨Nat.lt_of_lt_of_le h.lt hb.size, h.low, h.evs.below hb h.evs.1, (hb.cell (p := ⟨db, 0, none⟩) h.lt).trans h.c0, (hb.cell (p := ⟨db, 1, none⟩) h.lt).trans h.c1, (hb.frozen (p := ⟨db, 1, none⟩) h.lt).trans h.fr, h.out, ?_⟩
  have hm := h.map
  cases mo with
  | none => exact hm
  | some mb =>
    obtain ⟨h1, h2, h3, D, h4, h5⟩ := hm
    exact ⟨h1, h2, h3, D, owns_later h4 hb, h5.later (fun _ _ h => h.below hb)⟩
/-- a block that is none of the desk's is written -/
theorem DskN.set {X : Nat → Prop} {db : Nat} {fuel : Int} {env : ByteArray → Option Arr} {N : Nat} {mo : Option Nat} {w : World} (h : DskN X db fuel env N mo w) {r : Nat} (hr : ¬ X r) (h6 : 6 ≤ r) (hd : r ≠ db) (hm : mo ≠ some r) (i : Nat) (u : Value) : DskN X db fuel env N mo (w.setCell ⟨r, i, none⟩ u) := by
  have hbl : ∀ k, k ≠ r → (w.setCell ⟨r, i, none⟩ u).heap[k]? = w.heap[k]? := fun k hk => RowKit.Below.heap_setCell _ _ _ _ (fun e => hk e)
  refine ⟨by simpa using h.lt, h.low, ?_, ?_, ?_, ?_, h.out, ?_⟩
  · exact h.evs.below (B := 6) ⟨rfl, rfl, rfl, by simp, fun k hk => hbl k (by omega)⟩ (Nat.le_refl _)
  · exact (World.cell?_of_block (a := ⟨db, 0, none⟩) (hbl db (Ne.symm hd))).trans h.c0
  · exact (World.cell?_of_block (a := ⟨db, 1, none⟩) (hbl db (Ne.symm hd))).trans h.c1
  · exact (World.frozen?_of_block (a := ⟨db, 1, none⟩) (hbl db (Ne.symm hd))).trans h.fr
  · have hmm := h.map
    cases mo with
    | none => exact hmm
    | some mb =>
      obtain ⟨h1, h2, h3, D, ⟨es, clock, g1, g2⟩, h5⟩ := hmm
      exact ⟨h1, h2, h3, D, ⟨es, clock, (hbl mb (fun e => hm (by rw [e]))).trans g1, g2⟩, h5.later (fun _ _ h => h.set hr i u)⟩
theorem DskN.imp {X X' : Nat → Prop} {db : Nat} {fuel : Int} {env : ByteArray → Option Arr} {N : Nat} {mo : Option Nat} {w : World} (h : DskN X db fuel env N mo w) (hx : ∀ b, X b → b < w.heap.size → X' b) (hd : ¬ X' db) (hm : ∀ mb, mo = some mb → ¬ X' mb) : DskN X' db fuel env N mo w := by
  refine ⟨h.lt, h.low, h.evs, h.c0, h.c1, h.fr, hd, ?_⟩
  have hmm := h.map
  cases mo with
  | none => exact hmm
  | some mb =>
    obtain ⟨h1, h2, h3, D, h4, h5⟩ := hmm
    exact ⟨h1, h2, hm mb rfl, D, h4, h5.later (fun _ _ h => h.imp hx)⟩
theorem DskN.look {X : Nat → Prop} {db : Nat} {fuel : Int} {env : ByteArray → Option Arr} {N : Nat} {mo : Option Nat} {w : World} (h : DskN X db fuel env N mo w) : Look X w (.map mo) env := by
  have hm := h.map
  cases mo with
  | none =>
    have hm : env = fun _ => none := hm
    subst hm
    exact look_none X w
  | some mb =>
    obtain ⟨_, _, _, D, h4, h5⟩ := hm
    exact look_of h4 h5
/-- the desk's own blocks -/
def Own (db : Nat) (mo : Option Nat) (b : Nat) : Prop := b = db ∨ mo = some b
theorem keep_any (X : Nat → Prop) (db : Nat) (fuel : Int) (env : ByteArray → Option Arr) (N : Nat) (mo : Option Nat) (w : World) (h : DskN X db fuel env N mo w) (hN : N < 1000) (nm : ByteArray) (hnm : nm.size ≤ 200) (so : Option Addr) (sn sc : Nat) (co : Option Addr) (cn cc : Nat) (a : Arr) (hA : IsArr X w (.agg #[.slice so sn sc, .slice co cn cc]) a) (hx : ¬ X (w.heap.size + 1)) :
    Calls Tryz.prog 61 #[.pointer (some ⟨db, 0, none⟩), .string nm, .agg #[.slice so sn sc, .slice co cn cc]] w fun e w' => e = .returned (.tuple #[]) ∧ (∃ mo', DskN X db fuel (upd env nm a) (N + 1) mo' w' ∧ ∀ b, b < w.heap.size → mo' = some b → mo = some b) ∧ Bs (Own db mo) w w' := by
  have hkl : WideAt.IsKeyLit (keyT nm) := trivial
  have hm := h.map
  cases mo with
  | none =>
    have hm : env = fun _ => none := hm
    subst hm
    refine (keep_new db w nm hnm so sn sc co cn cc h.lt h.c1 h.fr).mono ?_
    rintro e w' ⟨rfl, g1, g2, g5, g3, g4⟩
    have hsz := g4.size
    have hmb : w.heap.size + 1 < w'.heap.size := by
      obtain ⟨es, clock, q, _⟩ := g3
      exact (Array.getElem?_eq_some_iff.1 q).1
    have hkk : ∀ u b, IsArr X w u b → IsArr X w' u b := fun u b hu => hu.keep hsz (fun k hk hl => g4.block k hl (fun e => h.out (by rw [← e]; exact hk)))
    have hE0 : Holds (DataW.map []) X w (fun _ => none) := ⟨isMap_empty, fun t => rfl⟩
    refine ⟨rfl, ⟨some (w.heap.size + 1), ⟨Nat.lt_of_lt_of_le h.lt hsz, h.low, ?_, g2.trans h.c0, g1, ?_, h.out, ?_⟩, fun b hb e => absurd (Option.some.inj e) (by omega)⟩, ⟨g4.os, g4.tape, g4.output, hsz, fun k hk hn => g4.block k hk (fun e => hn (Or.inl e))⟩⟩
    · exact h.evs.below (B := 6) ⟨g4.os, g4.tape, g4.output, hsz, fun k hk => g4.block k (by have := h.lt; have := h.low; omega) (by have := h.low; omega)⟩ (Nat.le_refl _)
    · exact g5
    · refine ⟨by have := h.lt; omega, by have := h.lt; have := h.low; omega, hx, _, ?_, hE0.put nm hkl (hkk _ _ hA) hkk⟩
      obtain ⟨es, clock, q, r1, r2, r3⟩ := g3
      exact ⟨es, clock, q, r1, by omega, r3⟩
  | some mb =>
    obtain ⟨h1, h2, h3, D, h4, h5⟩ := hm
    refine (keep_old db w mb N D nm hnm so sn sc co cn cc h.lt h.c1 h4 (by omega) (Ne.symm h1)).mono ?_
    rintro e w' ⟨rfl, g3, g4⟩
    have hsz := g4.size
    have hkk : ∀ u b, IsArr X w u b → IsArr X w' u b := fun u b hu => hu.keep hsz (fun k hk hl => g4.block k hl (fun e => h3 (by rw [← e]; exact hk)))
    have hdb : w'.heap[db]? = w.heap[db]? := g4.block db h.lt (fun e => h1 e.symm)
    refine ⟨rfl, ⟨some mb, ⟨Nat.lt_of_lt_of_le h.lt hsz, h.low, ?_, (World.cell?_of_block (a := ⟨db, 0, none⟩) hdb).trans h.c0, (World.cell?_of_block (a := ⟨db, 1, none⟩) hdb).trans h.c1, (World.frozen?_of_block (a := ⟨db, 1, none⟩) hdb).trans h.fr, h.out, ?_⟩, fun b _ e => e⟩, ⟨g4.os, g4.tape, g4.output, hsz, fun k hk hn => g4.block k hk (fun e => hn (Or.inr (by rw [e])))⟩⟩
    · exact h.evs.below (B := 6) ⟨g4.os, g4.tape, g4.output, hsz, fun k hk => g4.block k (by have := h.lt; have := h.low; omega) (by omega)⟩ (Nat.le_refl _)
    · exact ⟨h1, h2, h3, _, g3, h5.put nm hkl (hkk _ _ hA) hkk⟩
end Go.Proofs.YtjobgpahajhbnaaGreatDoor
