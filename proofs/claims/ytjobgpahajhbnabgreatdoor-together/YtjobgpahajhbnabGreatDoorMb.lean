import Derived.Test.YtjobgpahajhbnabGreatDoorVh
namespace Go.Proofs.YtjobgpahajhbnabGreatDoor
open Go.RowKit Go.Proofs Go.Maps
attribute [local go_sem ↓] Go.wp_at_zero Go.wp_at_succ
theorem Tryz.map_some (b : Nat) (w : World) : (binOp .eql 55 (.map (some b)) (.map none)).run Tryz.prog w = .ok (.bool false) w := by kernel_rfl
theorem Tryz.map_none (w : World) : (binOp .eql 55 (.map none) (.map none)).run Tryz.prog w = .ok (.bool true) w := by kernel_rfl
set_option maxHeartbeats 2000000 in
set_option maxRecDepth 20000 in
theorem Jke (db : Nat) (w : World) (mb n : Nat) (D : DataW Value) (nm : ByteArray) (hnm : nm.size ≤ 200) (so : Option Addr) (sn sc : Nat) (co : Option Addr) (cn cc : Nat) (hdb : db < w.heap.size) (c1 : w.cell? ⟨db, 1, none⟩ = some (.map (some mb))) (hO : w.ownsMap Tryz.prog 9 Jm mb n D) (hn : n < 1000000) (hdm : db ≠ mb) :
    Calls Tryz.prog 26 #[.pointer (some ⟨db, 0, none⟩), .string nm, .agg #[.slice so sn sc, .slice co cn cc]] w fun e w' => e = .returned (.tuple #[]) ∧ w'.ownsMap Tryz.prog 9 Jm mb (n + 1) (D.put (keyT nm) (.held (.agg #[.slice so sn sc, .slice co cn cc]))) ∧ Bs (fun b => b = mb) w w' := by
  have hmb : mb < w.heap.size := by
    obtain ⟨es, clock, h1, _⟩ := hO
    exact (Array.getElem?_eq_some_iff.1 h1).1
  have hb0 : Below w.heap.size w (w.alloc (.cells #[.slice so sn sc, .slice co cn cc] 57)) := (Below.refl _ _).alloc (Nat.le_refl _) _
  obtain ⟨W0, hW0⟩ : ∃ W0, w.alloc (.cells #[.slice so sn sc, .slice co cn cc] 57) = W0 := ⟨_, rfl⟩
  have z0 : W0.cell? ⟨w.heap.size, 0, none⟩ = some (.slice so sn sc) := by rw [← hW0]; exact (World.cell?_alloc_at _ _ _ _ rfl).trans rfl
  have z1 : W0.cell? ⟨w.heap.size, 1, none⟩ = some (.slice co cn cc) := by rw [← hW0]; exact (World.cell?_alloc_at _ _ _ _ rfl).trans rfl
  have zs : w.heap.size < W0.heap.size := by rw [← hW0]; simp
  rw [hW0] at hb0
  have HS : Hid (∀ w', Below W0.heap.size W0 w' → w'.cell? ⟨db, 1, none⟩ = some (.map (some mb)) ∧ w'.cell? ⟨w.heap.size, 0, none⟩ = some (.slice so sn sc) ∧ w'.cell? ⟨w.heap.size, 1, none⟩ = some (.slice co cn cc)) := hide (fun w' hb => ⟨((hb0.trans (hb.mono hb0.size)).cell (p := ⟨db, 1, none⟩) hdb).trans c1, (hb.cell (p := ⟨w.heap.size, 0, none⟩) zs).trans z0, (hb.cell (p := ⟨w.heap.size, 1, none⟩) zs).trans z1⟩)
  have HU : Hid (∀ w', Below W0.heap.size W0 w' → ∃ w'', (Instr.mapUpdate 55 (.map (some mb)) (.string nm) (.agg #[.slice so sn sc, .slice co cn cc])).run Tryz.prog w' = .ok () w'' ∧ w''.ownsMap Tryz.prog 9 Jm mb (n + 1) (D.put (keyT nm) (.held (.agg #[.slice so sn sc, .slice co cn cc]))) ∧ w'.grownBy w'' (some mb)) := hide (fun w' hb => (Kc hO (hb0.trans (hb.mono hb0.size))).update Tryz.law9 Tryz.underlying55 (by unfold maxLen; omega) (Jc0 hnm) (show Jm (.agg #[.slice so sn sc, .slice co cn cc]) = some (.held (.agg #[.slice so sn sc, .slice co cn cc]), []) from rfl))
  have HC := hide (fun w' => Jau nm w' hnm)
  have HB0 := hide hb0
  have hdb1 : db < W0.heap.size := by omega
  have c1' := (Ja HS W0 (Below.refl _ _)).1
  have hwm : w.heap.size ≠ mb := by omega
  clear hO c1 hn hnm z0 z1 hb0
  have hms := Tryz.map_some mb
  go_enter Tryz.func26, Tryz.ntmps26
  go_wp2_with fail
  try rw [hW0]
  clear hW0
  go_region_held3 (fun w' => w'.cell? ⟨db, 1, none⟩ = some (.map (some mb)) ∧ w'.cell? ⟨w.heap.size, 0, none⟩ = some (.slice so sn sc) ∧ w'.cell? ⟨w.heap.size, 1, none⟩ = some (.slice co cn cc))
    (first
      | exact Ja HS _ (Below.refl _ _).drew
      | exact Ja HS _ (Ja HB1)
      | exact Ja HS2
      | (trace_state; fail))
    ((go_at_call 36; refine (Ja HC _).mono ?_; rintro e w1 ⟨rfl, hb1⟩; have HB1 : Hid (Below W0.heap.size W0 w1) := hide ((Below.refl _ _).drew.trans hb1); obtain ⟨w2, hrun, ho2, hg2⟩ := Ja HU w1 (Ja HB1); have HO2 := hide ho2; have HG2 := hide hg2; have HS2 : Hid (w2.cell? ⟨db, 1, none⟩ = some (.map (some mb)) ∧ w2.cell? ⟨w.heap.size, 0, none⟩ = some (.slice so sn sc) ∧ w2.cell? ⟨w.heap.size, 1, none⟩ = some (.slice co cn cc)) := hide (by have h := Ja HS w1 (Ja HB1); have hsz := (Ja HB1).size; rw [World.cell?_of_block (a := ⟨db, 1, none⟩) (hg2.block db (by omega) (fun e => hdm (Option.some.inj e))), World.cell?_of_block (a := ⟨w.heap.size, 0, none⟩) (hg2.block w.heap.size (by omega) (fun e => hwm (Option.some.inj e))), World.cell?_of_block (a := ⟨w.heap.size, 1, none⟩) (hg2.block w.heap.size (by omega) (fun e => hwm (Option.some.inj e)))]; exact h); clear hb1 ho2 hg2))
  have hfin : Bs (fun b => b = mb) w w2 := by
    have h1 := (Ja HB0).trans ((Ja HB1).mono (Ja HB0).size)
    have h2 := Ja HG2
    exact (Bs.of h1).trans ⟨h2.os, h2.tape, h2.output, h2.size, fun k hk hn => h2.block k hk (fun e => hn (Option.some.inj e))⟩ (fun k _ h => h)
  have HFin := hide hfin
  clear hfin
  go_wp2_with fail
  exact bodyPost_end (v := .tuple #[]) (by simp [results, Tryz.results26, go_sem]) rfl ⟨rfl, Ja HO2, Ja HFin⟩
set_option maxHeartbeats 2000000 in
set_option maxRecDepth 20000 in
theorem Jkf (db : Nat) (w : World) (nm : ByteArray) (hnm : nm.size ≤ 200) (so : Option Addr) (sn sc : Nat) (co : Option Addr) (cn cc : Nat) (hdb : db < w.heap.size) (c1 : w.cell? ⟨db, 1, none⟩ = some (.map none)) (f1 : w.frozen? ⟨db, 1, none⟩ = false) :
    Calls Tryz.prog 26 #[.pointer (some ⟨db, 0, none⟩), .string nm, .agg #[.slice so sn sc, .slice co cn cc]] w fun e w' => e = .returned (.tuple #[]) ∧ w'.cell? ⟨db, 1, none⟩ = some (.map (some (w.heap.size + 1))) ∧ w'.cell? ⟨db, 0, none⟩ = w.cell? ⟨db, 0, none⟩ ∧ w'.frozen? ⟨db, 1, none⟩ = false ∧ w'.ownsMap Tryz.prog 9 Jm (w.heap.size + 1) 1 ((DataW.map []).put (keyT nm) (.held (.agg #[.slice so sn sc, .slice co cn cc]))) ∧ Bs (fun b => b = db) w w' := by
  obtain ⟨W0, hW0⟩ : ∃ W0, ((w.alloc (.cells #[.slice so sn sc, .slice co cn cc] 57)).alloc (.map #[] 0)).setCell ⟨db, 1, none⟩ (.map (some (w.heap.size + 1))) = W0 := ⟨_, rfl⟩
  have hsz : W0.heap.size = w.heap.size + 1 + 1 := by rw [← hW0]; simp
  have hbl : ∀ k, k < w.heap.size → k ≠ db → W0.heap[k]? = w.heap[k]? := fun k hk hn => by
    rw [← hW0, RowKit.Below.heap_setCell _ _ _ _ (fun e => hn e), RowKit.Below.heap_alloc _ _ _ (by simp; omega), RowKit.Below.heap_alloc _ _ _ (by simpa using hk)]
  have z0 : W0.cell? ⟨w.heap.size, 0, none⟩ = some (.slice so sn sc) := by
    rw [← hW0, World.cell?_setCell_other _ _ _ _ (by intro e; injection e; omega), World.cell?_alloc_past _ _ _ (by simp)]
    exact (World.cell?_alloc_at _ _ _ _ rfl).trans rfl
  have z1 : W0.cell? ⟨w.heap.size, 1, none⟩ = some (.slice co cn cc) := by
    rw [← hW0, World.cell?_setCell_other _ _ _ _ (by intro e; injection e; omega), World.cell?_alloc_past _ _ _ (by simp)]
    exact (World.cell?_alloc_at _ _ _ _ rfl).trans rfl
  have z2 : W0.cell? ⟨db, 1, none⟩ = some (.map (some (w.heap.size + 1))) := by
    rw [← hW0]
    exact World.cell?_setCell_same _ _ _ (u := .map none) (by rw [World.cell?_alloc_past _ _ _ (by simp; omega), World.cell?_alloc_past _ _ _ (by simpa using hdb)]; exact c1)
  have z3 : W0.cell? ⟨db, 0, none⟩ = w.cell? ⟨db, 0, none⟩ := by
    rw [← hW0, World.cell?_setCell_other _ _ _ _ (by simp), World.cell?_alloc_past _ _ _ (by simp; omega), World.cell?_alloc_past _ _ _ (by simpa using hdb)]
  have z4 : W0.frozen? ⟨db, 1, none⟩ = false := by
    rw [← hW0, World.frozen?_setCell, World.frozen?_of_block (a := ⟨db, 1, none⟩) (RowKit.Below.heap_alloc _ _ _ (by simp; omega)), World.frozen?_of_block (a := ⟨db, 1, none⟩) (RowKit.Below.heap_alloc _ _ _ (by simpa using hdb))]
    exact f1
  have hO : W0.ownsMap Tryz.prog 9 Jm (w.heap.size + 1) 0 (.map []) := by
    have h := World.ownsMap_made (w.alloc (.cells #[.slice so sn sc, .slice co cn cc] 57)) Tryz.prog 9 Jm
    obtain ⟨es, clock, h1, r⟩ := h
    refine ⟨es, clock, ?_, r⟩
    rw [← hW0, RowKit.Below.heap_setCell _ _ _ _ (by simp; omega)]
    simpa using h1
  have hbs0 : Bs (fun b => b = db) w W0 := by
    refine ⟨?_, ?_, ?_, by omega, fun k hk hn => hbl k hk hn⟩ <;> (rw [← hW0]; rfl)
  have HS : Hid (∀ w', Below W0.heap.size W0 w' → w'.cell? ⟨db, 1, none⟩ = some (.map (some (w.heap.size + 1))) ∧ w'.cell? ⟨w.heap.size, 0, none⟩ = some (.slice so sn sc) ∧ w'.cell? ⟨w.heap.size, 1, none⟩ = some (.slice co cn cc)) := hide (fun w' hb => ⟨(hb.cell (p := ⟨db, 1, none⟩) (by show db < W0.heap.size; omega)).trans z2, (hb.cell (p := ⟨w.heap.size, 0, none⟩) (by show w.heap.size < W0.heap.size; omega)).trans z0, (hb.cell (p := ⟨w.heap.size, 1, none⟩) (by show w.heap.size < W0.heap.size; omega)).trans z1⟩)
  have HU : Hid (∀ w', Below W0.heap.size W0 w' → ∃ w'', (Instr.mapUpdate 55 (.map (some (w.heap.size + 1))) (.string nm) (.agg #[.slice so sn sc, .slice co cn cc])).run Tryz.prog w' = .ok () w'' ∧ w''.ownsMap Tryz.prog 9 Jm (w.heap.size + 1) (0 + 1) ((DataW.map []).put (keyT nm) (.held (.agg #[.slice so sn sc, .slice co cn cc]))) ∧ w'.grownBy w'' (some (w.heap.size + 1))) := hide (fun w' hb => (Kc hO hb).update Tryz.law9 Tryz.underlying55 (by unfold maxLen; omega) (Jc0 hnm) (show Jm (.agg #[.slice so sn sc, .slice co cn cc]) = some (.held (.agg #[.slice so sn sc, .slice co cn cc]), []) from rfl))
  have HC := hide (fun w' => Jau nm w' hnm)
  have HBs0 := hide hbs0
  have HZ3 := hide z3
  have HZ5 := hide z4
  have hms := Tryz.map_none
  have hmm := @run_makeMap Tryz.prog
  have hdm : db ≠ w.heap.size + 1 := by omega
  have hdb1 : db < w.heap.size + 1 := by omega
  have hdb2 : db < w.heap.size + 1 + 1 := by omega
  clear hO hnm z0 z1 z2 z3 z4 hbs0 hbl
  go_enter Tryz.func26, Tryz.ntmps26
  go_wp2_with fail
  try rw [hW0]
  clear hW0
  go_region_held3 (fun w' => w'.cell? ⟨db, 1, none⟩ = some (.map (some (w.heap.size + 1))) ∧ w'.cell? ⟨w.heap.size, 0, none⟩ = some (.slice so sn sc) ∧ w'.cell? ⟨w.heap.size, 1, none⟩ = some (.slice co cn cc))
    (first
      | exact Ja HS _ (Below.refl _ _).drew
      | exact Ja HS _ (Ja HB1)
      | exact Ja HS2
      | (trace_state; fail))
    ((go_at_call 36; refine (Ja HC _).mono ?_; rintro e w1 ⟨rfl, hb1⟩; have HB1 : Hid (Below W0.heap.size W0 w1) := hide ((Below.refl _ _).drew.trans hb1); obtain ⟨w2, hrun, ho2, hg2⟩ := Ja HU w1 (Ja HB1); have HO2 := hide ho2; have HG2 := hide hg2; have HS2 : Hid (w2.cell? ⟨db, 1, none⟩ = some (.map (some (w.heap.size + 1))) ∧ w2.cell? ⟨w.heap.size, 0, none⟩ = some (.slice so sn sc) ∧ w2.cell? ⟨w.heap.size, 1, none⟩ = some (.slice co cn cc)) := hide (by have h := Ja HS w1 (Ja HB1); have hsz1 := (Ja HB1).size; rw [World.cell?_of_block (a := ⟨db, 1, none⟩) (hg2.block db (by omega) (fun e => hdm (Option.some.inj e))), World.cell?_of_block (a := ⟨w.heap.size, 0, none⟩) (hg2.block w.heap.size (by omega) (fun e => absurd (Option.some.inj e) (by omega))), World.cell?_of_block (a := ⟨w.heap.size, 1, none⟩) (hg2.block w.heap.size (by omega) (fun e => absurd (Option.some.inj e) (by omega)))]; exact h); have HZ4 : Hid (w2.cell? ⟨db, 0, none⟩ = w.cell? ⟨db, 0, none⟩) := hide (by have hsz1 := (Ja HB1).size; rw [World.cell?_of_block (a := ⟨db, 0, none⟩) (hg2.block db (by omega) (fun e => hdm (Option.some.inj e))), (Ja HB1).cell (p := ⟨db, 0, none⟩) (by show db < W0.heap.size; omega)]; exact Ja HZ3); have HZ6 : Hid (w2.frozen? ⟨db, 1, none⟩ = false) := hide (by have hsz1 := (Ja HB1).size; rw [World.frozen?_of_block (a := ⟨db, 1, none⟩) (hg2.block db (by omega) (fun e => hdm (Option.some.inj e))), (Ja HB1).frozen (p := ⟨db, 1, none⟩) (by show db < W0.heap.size; omega)]; exact Ja HZ5); clear hb1 ho2 hg2))
  have hfin : Bs (fun b => b = db) w w2 := by
    have h1 := (Ja HBs0).trans (Bs.of (S := fun _ => False) (Ja HB1)) (fun _ _ h => absurd h id)
    have h2 := Ja HG2
    exact h1.trans (S' := fun b => b = w.heap.size + 1) ⟨h2.os, h2.tape, h2.output, h2.size, fun k hk hn => h2.block k hk (fun e => hn (Option.some.inj e))⟩ (fun k hk h => absurd h (by omega))
  have HFin := hide hfin
  clear hfin
  go_wp2_with fail
  exact bodyPost_end (v := .tuple #[]) (by simp [results, Tryz.results26, go_sem]) rfl ⟨rfl, (Ja HS2).1, Ja HZ4, Ja HZ6, Ja HO2, Ja HFin⟩
end Go.Proofs.YtjobgpahajhbnabGreatDoor
namespace Go.Proofs.YtjobgpahajhbnabGreatDoor
open Go.RowKit Go.Proofs Go.Maps
attribute [local go_sem ↓] Go.wp_at_zero Go.wp_at_succ
section
variable {W3 w5 : World} {s0 s1 : Value} {a : Arr} {X : Nat → Prop} {e0 e1 : Int}
theorem Jo1 (hb : Below W3.heap.size W3 w5) (hA : IsArr X w5 (.agg #[s0, s1]) a) :
    AftX W3 ((w5.alloc (.cells #[s0, s1] 57)).alloc (.cells #[.int .i64 e0, .int .i64 e1] 67)) w5.heap.size (w5.heap.size + 1) s0 s1 e0 e1 ∧ IsArr (fun b => Not2 w5.heap.size (w5.heap.size + 1) b ∧ X b) ((w5.alloc (.cells #[s0, s1] 57)).alloc (.cells #[.int .i64 e0, .int .i64 e1] 67)) (.agg #[s0, s1]) a := by
  have h := hb.size
  exact ⟨⟨(hb.alloc hb.size _).alloc (by simp; omega) _, h, by omega, by simp; omega, by simp, by simp, by simp, by simp, by simp⟩, (hA.imp (fun b hb hl => ⟨⟨by omega, by omega⟩, hb⟩)).below (((Below.refl _ _).alloc (Nat.le_refl _) _).alloc (by simp) _)⟩
theorem Jo0 (hb : Below W3.heap.size W3 w5) (hA : IsArr X w5 (.agg #[s0, s1]) a) :
    AftX W3 ((w5.alloc (.cells #[.int .i64 e0, .int .i64 e1] 67)).alloc (.cells #[s0, s1] 57)) (w5.heap.size + 1) w5.heap.size s0 s1 e0 e1 ∧ IsArr (fun b => Not2 (w5.heap.size + 1) w5.heap.size b ∧ X b) ((w5.alloc (.cells #[.int .i64 e0, .int .i64 e1] 67)).alloc (.cells #[s0, s1] 57)) (.agg #[s0, s1]) a := by
  have h := hb.size
  exact ⟨⟨(hb.alloc hb.size _).alloc (by simp; omega) _, by omega, h, by simp, by simp; omega, by simp, by simp, by simp, by simp⟩, (hA.imp (fun b hb hl => ⟨⟨by omega, by omega⟩, hb⟩)).below (((Below.refl _ _).alloc (Nat.le_refl _) _).alloc (by simp) _)⟩
theorem Joz {k : Nat} {u0 u1 : Value} (hb : Below W3.heap.size W3 w5) (hA : IsArr (fun b => (b < W3.heap.size ∨ k ≤ b) ∧ X b) w5 (.agg #[s0, s1]) a) (hk : W3.heap.size < k) (hl : W3.heap.size < w5.heap.size) (c0 : w5.cell? ⟨W3.heap.size, 0, none⟩ = some u0) (c1 : w5.cell? ⟨W3.heap.size, 1, none⟩ = some u1) :
    AftX W3 (((w5.setCell ⟨W3.heap.size, 0, none⟩ s0).setCell ⟨W3.heap.size, 1, none⟩ s1).alloc (.cells #[.int .i64 e0, .int .i64 e1] 67)) W3.heap.size w5.heap.size s0 s1 e0 e1 ∧ IsArr (fun b => Not2 W3.heap.size w5.heap.size b ∧ X b) (((w5.setCell ⟨W3.heap.size, 0, none⟩ s0).setCell ⟨W3.heap.size, 1, none⟩ s1).alloc (.cells #[.int .i64 e0, .int .i64 e1] 67)) (.agg #[s0, s1]) a := by
  have h := hb.size
  have hno : ¬ (fun b => (b < W3.heap.size ∨ k ≤ b) ∧ X b) W3.heap.size := by rintro ⟨h | h, _⟩ <;> omega
  have hn : ((w5.setCell ⟨W3.heap.size, 0, none⟩ s0).setCell ⟨W3.heap.size, 1, none⟩ s1).heap.size = w5.heap.size := by simp
  refine ⟨⟨((hb.setCell (Nat.le_refl _) _).setCell (Nat.le_refl _) _).alloc (by rw [hn]; exact h) _, Nat.le_refl _, h, by simp; omega, by simp, ?_, ?_, ?_, ?_⟩, ?_⟩
  · rw [World.cell?_alloc_past _ _ _ (by simp; omega)]; exact J7 c0
  · rw [World.cell?_alloc_past _ _ _ (by simp; omega)]; exact J6 c1
  · exact (World.cell?_alloc_at _ _ _ _ hn.symm).trans rfl
  · exact (World.cell?_alloc_at _ _ _ _ hn.symm).trans rfl
  · refine IsArr.below ?_ ((Below.refl _ _).alloc (Nat.le_refl _) _)
    refine IsArr.imp ((hA.set hno 0 _).set hno 1 _) (fun b hb hl => ?_)
    rw [hn] at hl
    exact ⟨⟨by rcases hb.1 with h | h <;> omega, by omega⟩, hb.2⟩
theorem Joy {k : Nat} {u0 u1 : Value} (hb : Below W3.heap.size W3 w5) (hA : IsArr (fun b => (b < W3.heap.size ∨ k ≤ b) ∧ X b) w5 (.agg #[s0, s1]) a) (hk : W3.heap.size < k) (hl : W3.heap.size < w5.heap.size) (c0 : w5.cell? ⟨W3.heap.size, 0, none⟩ = some u0) (c1 : w5.cell? ⟨W3.heap.size, 1, none⟩ = some u1) :
    AftX W3 (((w5.setCell ⟨W3.heap.size, 0, none⟩ (.int .i64 e0)).setCell ⟨W3.heap.size, 1, none⟩ (.int .i64 e1)).alloc (.cells #[s0, s1] 57)) w5.heap.size W3.heap.size s0 s1 e0 e1 ∧ IsArr (fun b => Not2 w5.heap.size W3.heap.size b ∧ X b) (((w5.setCell ⟨W3.heap.size, 0, none⟩ (.int .i64 e0)).setCell ⟨W3.heap.size, 1, none⟩ (.int .i64 e1)).alloc (.cells #[s0, s1] 57)) (.agg #[s0, s1]) a := by
  have h := hb.size
  have hno : ¬ (fun b => (b < W3.heap.size ∨ k ≤ b) ∧ X b) W3.heap.size := by rintro ⟨h | h, _⟩ <;> omega
  have hn : ((w5.setCell ⟨W3.heap.size, 0, none⟩ (.int .i64 e0)).setCell ⟨W3.heap.size, 1, none⟩ (.int .i64 e1)).heap.size = w5.heap.size := by simp
  refine ⟨⟨((hb.setCell (Nat.le_refl _) _).setCell (Nat.le_refl _) _).alloc (by rw [hn]; exact h) _, h, Nat.le_refl _, by simp, by simp; omega, ?_, ?_, ?_, ?_⟩, ?_⟩
  · exact (World.cell?_alloc_at _ _ _ _ hn.symm).trans rfl
  · exact (World.cell?_alloc_at _ _ _ _ hn.symm).trans rfl
  · rw [World.cell?_alloc_past _ _ _ (by simp; omega)]; exact J7 c0
  · rw [World.cell?_alloc_past _ _ _ (by simp; omega)]; exact J6 c1
  · refine IsArr.below ?_ ((Below.refl _ _).alloc (Nat.le_refl _) _)
    refine IsArr.imp ((hA.set hno 0 _).set hno 1 _) (fun b hb hl => ?_)
    rw [hn] at hl
    exact ⟨⟨by omega, by rcases hb.1 with h | h <;> omega⟩, hb.2⟩
theorem Joi {k p q : Nat} {u0 u1 u2 u3 : Value} (hb : Below W3.heap.size W3 w5) (hA : IsArr (fun b => (b < W3.heap.size ∨ k ≤ b) ∧ X b) w5 (.agg #[s0, s1]) a) (hp : W3.heap.size ≤ p ∧ p < k ∧ p < w5.heap.size) (hq : W3.heap.size ≤ q ∧ q < k ∧ q < w5.heap.size) (hpq : p ≠ q) (c0 : w5.cell? ⟨p, 0, none⟩ = some u0) (c1 : w5.cell? ⟨p, 1, none⟩ = some u1) (c2 : w5.cell? ⟨q, 0, none⟩ = some u2) (c3 : w5.cell? ⟨q, 1, none⟩ = some u3) :
    AftX W3 ((((w5.setCell ⟨p, 0, none⟩ s0).setCell ⟨p, 1, none⟩ s1).setCell ⟨q, 0, none⟩ (.int .i64 e0)).setCell ⟨q, 1, none⟩ (.int .i64 e1)) p q s0 s1 e0 e1 ∧ IsArr (fun b => Not2 p q b ∧ X b) ((((w5.setCell ⟨p, 0, none⟩ s0).setCell ⟨p, 1, none⟩ s1).setCell ⟨q, 0, none⟩ (.int .i64 e0)).setCell ⟨q, 1, none⟩ (.int .i64 e1)) (.agg #[s0, s1]) a := by
  have np : ¬ (fun b => (b < W3.heap.size ∨ k ≤ b) ∧ X b) p := by rintro ⟨h | h, _⟩ <;> omega
  have nq : ¬ (fun b => (b < W3.heap.size ∨ k ≤ b) ∧ X b) q := by rintro ⟨h | h, _⟩ <;> omega
  refine ⟨⟨(((hb.setCell hp.1 _).setCell hp.1 _).setCell hq.1 _).setCell hq.1 _, hp.1, hq.1, by simp; omega, by simp; omega, ?_, ?_, ?_, ?_⟩, ?_⟩
  · rw [Jz hpq]; exact J7 c0
  · rw [Jz hpq]; exact J6 c1
  · exact J7 (u := u2) (by rw [Jz (Ne.symm hpq)]; exact c2)
  · exact J6 (u := u3) (by rw [Jz (Ne.symm hpq)]; exact c3)
  · exact IsArr.imp ((((hA.set np 0 _).set np 1 _).set nq 0 _).set nq 1 _) (fun b hb hl => ⟨⟨by rcases hb.1 with h | h <;> omega, by rcases hb.1 with h | h <;> omega⟩, hb.2⟩)
end
structure DskN (X : Nat → Prop) (db : Nat) (fuel : Int) (env : ByteArray → Option Arr) (N : Nat) (mo : Option Nat) (w : World) : Prop where
  lt : db < w.heap.size
  low : 6 ≤ db
  evs : Evs w
  c0 : w.cell? ⟨db, 0, none⟩ = some (.int .i64 fuel)
  c1 : w.cell? ⟨db, 1, none⟩ = some (.map mo)
  fr : w.frozen? ⟨db, 1, none⟩ = false
  out : ¬ X db
  map : match mo with
    | none => env = fun _ => none
    | some mb => mb ≠ db ∧ 6 ≤ mb ∧ ¬ X mb ∧ ∃ D, w.ownsMap Tryz.prog 9 Jm mb N D ∧ Holds D X w env
theorem Holds.later {D : DataW Value} {P P' : Nat → Prop} {W W' : World} {env : ByteArray → Option Arr} (h : Holds D P W env) (hk : ∀ u b, IsArr P W u b → IsArr P' W' u b) : Holds D P' W' env := by
  refine ⟨h.1, fun t => ?_⟩
  have := h.2 t
  cases he : env t with
  | none => rw [he] at this; exact this
  | some a =>
    rw [he] at this
    obtain ⟨v, h1, h2, h3⟩ := this
    exact ⟨v, h1, h2, hk _ _ h3⟩
theorem DskN.below {X : Nat → Prop} {db : Nat} {fuel : Int} {env : ByteArray → Option Arr} {N : Nat} {mo : Option Nat} {w w' : World} (h : DskN X db fuel env N mo w) (hb : Below w.heap.size w w') : DskN X db fuel env N mo w' := by
  refine ⟨Nat.lt_of_lt_of_le h.lt hb.size, h.low, h.evs.below hb h.evs.1, (hb.cell (p := ⟨db, 0, none⟩) h.lt).trans h.c0, (hb.cell (p := ⟨db, 1, none⟩) h.lt).trans h.c1, (hb.frozen (p := ⟨db, 1, none⟩) h.lt).trans h.fr, h.out, ?_⟩
  have hm := h.map
  cases mo with
  | none => exact hm
  | some mb =>
    obtain ⟨h1, h2, h3, D, h4, h5⟩ := hm
    exact ⟨h1, h2, h3, D, Kc h4 hb, h5.later (fun _ _ h => h.below hb)⟩
theorem DskN.set {X : Nat → Prop} {db : Nat} {fuel : Int} {env : ByteArray → Option Arr} {N : Nat} {mo : Option Nat} {w : World} (h : DskN X db fuel env N mo w) {r : Nat} (hr : ¬ X r) (h6 : 6 ≤ r) (hd : r ≠ db) (hm : mo ≠ some r) (i : Nat) (u : Value) : DskN X db fuel env N mo (w.setCell ⟨r, i, none⟩ u) := by
  have hbl : ∀ k, k ≠ r → (w.setCell ⟨r, i, none⟩ u).heap[k]? = w.heap[k]? := fun k hk => RowKit.Below.heap_setCell _ _ _ _ (fun e => hk e)
  refine ⟨by simpa using h.lt, h.low, ?_, ?_, ?_, ?_, h.out, ?_⟩
  · exact h.evs.below (B := 6) ⟨rfl, rfl, rfl, by simp, fun k hk => hbl k (by omega)⟩ (Nat.le_refl _)
  · exact (World.cell?_of_block (a := ⟨db, 0, none⟩) (hbl db (Ne.symm hd))).trans h.c0
  · exact (World.cell?_of_block (a := ⟨db, 1, none⟩) (hbl db (Ne.symm hd))).trans h.c1
  · exact (World.frozen?_of_block (a := ⟨db, 1, none⟩) (hbl db (Ne.symm hd))).trans h.fr
  · have hmm := h.map
    cases mo with
    | none => exact hmm
    | some mb =>
      obtain ⟨h1, h2, h3, D, ⟨es, clock, g1, g2⟩, h5⟩ := hmm
      exact ⟨h1, h2, h3, D, ⟨es, clock, (hbl mb (fun e => hm (by rw [e]))).trans g1, g2⟩, h5.later (fun _ _ h => h.set hr i u)⟩
theorem DskN.imp {X X' : Nat → Prop} {db : Nat} {fuel : Int} {env : ByteArray → Option Arr} {N : Nat} {mo : Option Nat} {w : World} (h : DskN X db fuel env N mo w) (hx : ∀ b, X b → b < w.heap.size → X' b) (hd : ¬ X' db) (hm : ∀ mb, mo = some mb → ¬ X' mb) : DskN X' db fuel env N mo w := by
  refine ⟨h.lt, h.low, h.evs, h.c0, h.c1, h.fr, hd, ?_⟩
  have hmm := h.map
  cases mo with
  | none => exact hmm
  | some mb =>
    obtain ⟨h1, h2, h3, D, h4, h5⟩ := hmm
    exact ⟨h1, h2, hm mb rfl, D, h4, h5.later (fun _ _ h => h.imp hx)⟩
theorem DskN.look {X : Nat → Prop} {db : Nat} {fuel : Int} {env : ByteArray → Option Arr} {N : Nat} {mo : Option Nat} {w : World} (h : DskN X db fuel env N mo w) : Look X w (.map mo) env := by
  have hm := h.map
  cases mo with
  | none =>
    have hm : env = fun _ => none := hm
    subst hm
    exact Jg5 X w
  | some mb =>
    obtain ⟨_, _, _, D, h4, h5⟩ := hm
    exact Jmg h4 h5
def Own (db : Nat) (mo : Option Nat) (b : Nat) : Prop := b = db ∨ mo = some b
theorem Jkg (X : Nat → Prop) (db : Nat) (fuel : Int) (env : ByteArray → Option Arr) (N : Nat) (mo : Option Nat) (w : World) (h : DskN X db fuel env N mo w) (hN : N < 1000) (nm : ByteArray) (hnm : nm.size ≤ 200) (so : Option Addr) (sn sc : Nat) (co : Option Addr) (cn cc : Nat) (a : Arr) (hA : IsArr X w (.agg #[.slice so sn sc, .slice co cn cc]) a) (hx : ¬ X (w.heap.size + 1)) :
    Calls Tryz.prog 26 #[.pointer (some ⟨db, 0, none⟩), .string nm, .agg #[.slice so sn sc, .slice co cn cc]] w fun e w' => e = .returned (.tuple #[]) ∧ (∃ mo', DskN X db fuel (upd env nm a) (N + 1) mo' w' ∧ ∀ b, b < w.heap.size → mo' = some b → mo = some b) ∧ Bs (Own db mo) w w' := by
  have hkl : WideAt.IsKeyLit (keyT nm) := trivial
  have hm := h.map
  cases mo with
  | none =>
    have hm : env = fun _ => none := hm
    subst hm
    refine (Jkf db w nm hnm so sn sc co cn cc h.lt h.c1 h.fr).mono ?_
    rintro e w' ⟨rfl, g1, g2, g5, g3, g4⟩
    have hsz := g4.size
    have hmb : w.heap.size + 1 < w'.heap.size := by
      obtain ⟨es, clock, q, _⟩ := g3
      exact (Array.getElem?_eq_some_iff.1 q).1
    have hkk : ∀ u b, IsArr X w u b → IsArr X w' u b := fun u b hu => hu.keep hsz (fun k hk hl => g4.block k hl (fun e => h.out (by rw [← e]; exact hk)))
    have hE0 : Holds (DataW.map []) X w (fun _ => none) := ⟨isMap_empty, fun t => rfl⟩
    refine ⟨rfl, ⟨some (w.heap.size + 1), ⟨Nat.lt_of_lt_of_le h.lt hsz, h.low, ?_, g2.trans h.c0, g1, ?_, h.out, ?_⟩, fun b hb e => absurd (Option.some.inj e) (by omega)⟩, ⟨g4.os, g4.tape, g4.output, hsz, fun k hk hn => g4.block k hk (fun e => hn (Or.inl e))⟩⟩
    · exact h.evs.below (B := 6) ⟨g4.os, g4.tape, g4.output, hsz, fun k hk => g4.block k (by have := h.lt; have := h.low; omega) (by have := h.low; omega)⟩ (Nat.le_refl _)
    · exact g5
    · refine ⟨by have := h.lt; omega, by have := h.lt; have := h.low; omega, hx, _, ?_, hE0.put nm hkl (hkk _ _ hA) hkk⟩
      obtain ⟨es, clock, q, r1, r2, r3⟩ := g3
      exact ⟨es, clock, q, r1, by omega, r3⟩
  | some mb =>
    obtain ⟨h1, h2, h3, D, h4, h5⟩ := hm
    refine (Jke db w mb N D nm hnm so sn sc co cn cc h.lt h.c1 h4 (by omega) (Ne.symm h1)).mono ?_
    rintro e w' ⟨rfl, g3, g4⟩
    have hsz := g4.size
    have hkk : ∀ u b, IsArr X w u b → IsArr X w' u b := fun u b hu => hu.keep hsz (fun k hk hl => g4.block k hl (fun e => h3 (by rw [← e]; exact hk)))
    have hdb : w'.heap[db]? = w.heap[db]? := g4.block db h.lt (fun e => h1 e.symm)
    refine ⟨rfl, ⟨some mb, ⟨Nat.lt_of_lt_of_le h.lt hsz, h.low, ?_, (World.cell?_of_block (a := ⟨db, 0, none⟩) hdb).trans h.c0, (World.cell?_of_block (a := ⟨db, 1, none⟩) hdb).trans h.c1, (World.frozen?_of_block (a := ⟨db, 1, none⟩) hdb).trans h.fr, h.out, ?_⟩, fun b _ e => e⟩, ⟨g4.os, g4.tape, g4.output, hsz, fun k hk hn => g4.block k hk (fun e => hn (Or.inr (by rw [e])))⟩⟩
    · exact h.evs.below (B := 6) ⟨g4.os, g4.tape, g4.output, hsz, fun k hk => g4.block k (by have := h.lt; have := h.low; omega) (by omega)⟩ (Nat.le_refl _)
    · exact ⟨h1, h2, h3, _, g3, h5.put nm hkl (hkk _ _ hA) hkk⟩
end Go.Proofs.YtjobgpahajhbnabGreatDoor
