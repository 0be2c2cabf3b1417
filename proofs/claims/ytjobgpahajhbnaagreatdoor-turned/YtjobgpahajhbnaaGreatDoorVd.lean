import Derived.Test.YtjobgpahajhbnaaGreatDoorVb
namespace Go.Proofs.YtjobgpahajhbnaaGreatDoor
open Go.RowKit Go.Proofs
attribute [local go_sem ↓] Go.wp_at_zero Go.wp_at_succ

set_option maxHeartbeats 400000 in
theorem new_ok (fuel : Int) (h : 0 ≤ fuel ∧ fuel ≤ 1000) (w : World) : Calls Tryz.prog 32 #[.int .i64 fuel] w fun e w' => e = .returned (.tuple #[.pointer (some ⟨w.heap.size, 0, none⟩), .int .i64 0]) ∧ w' = w.alloc (.cells #[.int .i64 fuel, .map none] 91) := by
  have h1 : ¬ fuel < 0 := by omega
  have h2 : ¬ 1000 < fuel := by omega
  go_enter Tryz.func32, Tryz.ntmps32
  go_wp2
  exact bodyPost_ret (v := .tuple #[.pointer (some ⟨w.heap.size, 0, none⟩), .int .i64 0]) (by simp [results, Tryz.results32, go_sem]) rfl ⟨rfl, rfl⟩
set_option maxHeartbeats 400000 in
theorem desk_any (w : World) : Calls Tryz.prog 15 #[] w fun e w' => e = .returned (.tuple #[.pointer (some ⟨w.heap.size, 0, none⟩), .bool true]) ∧ w' = w.alloc (.cells #[.int .i64 1000, .map none] 91) := by
  go_enter Tryz.func15, Tryz.ntmps15
  go_wp2_with (go_at_call 32; refine (new_ok 1000 (by decide) _).mono ?_; rintro e w' ⟨rfl, rfl⟩)
  exact bodyPost_ret (v := .tuple #[.pointer (some ⟨w.heap.size, 0, none⟩), .bool true]) (by simp [results, Tryz.results15, go_sem]) rfl ⟨rfl, rfl⟩
/-- what Run of one line leaves where the line makes a scalar -/
def RunT (D : Nat → World → Prop) : Prop := ∀ (db : Nat) (w : World) (g : Gr) (t : List UInt8) (lb : Nat), D db w → Tx false g t → g.fine → g.mt → g.deep ≤ 8 → t.length ≤ 200 → w.cell? ⟨lb, 0, none⟩ = some (.string ⟨List.toArray t⟩) → lb < w.heap.size →
  Calls Tryz.prog 33 #[.pointer (some ⟨db, 0, none⟩), .slice (some ⟨lb, 0, none⟩) 1 1] w fun e w' => ∃ rb rc so sc cb cf cc, e = .returned (.slice (some ⟨rb, 0, none⟩) 1 rc) ∧ w'.cell? ⟨rb, 0, none⟩ = some (.int .i64 0) ∧ w'.cell? ⟨rb, 1, none⟩ = some (.int .i64 0) ∧ w'.cell? ⟨rb, 2, none⟩ = some (.slice so 0 sc) ∧ w'.cell? ⟨rb, 3, none⟩ = some (.slice (some ⟨cb, cf, none⟩) 1 cc) ∧ w'.cell? ⟨rb, 4, none⟩ = some (.int .i64 g.cost) ∧ w'.cell? ⟨cb, cf, none⟩ = some (.int .i64 g.val) ∧ w.heap.size ≤ rb ∧ rb < w'.heap.size ∧ w.heap.size ≤ cb ∧ cb < w'.heap.size ∧ D db w' ∧ Below w.heap.size w w'
set_option maxHeartbeats 1000000 in
set_option maxRecDepth 20000 in
theorem one_any (D : Nat → World → Prop) (hkeep : ∀ db w w', D db w → Below w.heap.size w w' → D db w') (hrun : RunT D) (db : Nat) (w : World) (g : Gr) (t : List UInt8) (hD : D db w) (ht : Tx false g t) (hf : g.fine) (hm : g.mt) (hd : g.deep ≤ 8) (hl : t.length ≤ 200) :
    Calls Tryz.prog 29 #[.pointer (some ⟨db, 0, none⟩), .string ⟨t.toArray⟩] w fun e w' => ∃ so sc cb cf cc, e = .returned (.tuple #[.agg #[.int .i64 0, .int .i64 0, .slice so 0 sc, .slice (some ⟨cb, cf, none⟩) 1 cc, .int .i64 g.cost], .bool true]) ∧ w'.cell? ⟨cb, cf, none⟩ = some (.int .i64 g.val) ∧ cb < w'.heap.size ∧ Below w.heap.size w w' := by
  have hw0 : Below w.heap.size w ((w.alloc (.cells #[.int .i64 0, .int .i64 0, .slice none 0 0, .slice none 0 0, .int .i64 0] 47)).alloc (.cells #[.string ⟨t.toArray⟩] 9)) := ((Below.refl _ _).alloc (Nat.le_refl _) _).alloc (by simp) _
  have HC := hide (hrun db _ g t (w.heap.size + 1) (hkeep db w _ hD hw0) ht hf hm hd hl (by simp) (by simp))
  obtain ⟨G, hG⟩ : ∃ G, (g.cost : Int) = G := ⟨_, rfl⟩
  obtain ⟨V, hV⟩ : ∃ V, g.val = V := ⟨_, rfl⟩
  rw [hG, hV] at HC
  rw [hG, hV]
  obtain ⟨s, hs⟩ : ∃ s : ByteArray, (⟨t.toArray⟩ : ByteArray) = s := ⟨_, rfl⟩
  rw [hs] at HC hw0 ⊢
  clear hrun hD ht hf hm hs hkeep hG hV
  go_enter Tryz.func29, Tryz.ntmps29
  go_wp2_with fail
  refine (unhide HC).mono ?_
  rintro e w1 ⟨rb, rc, so, sc, cb, cf, cc, rfl, q0, q1, q2, q3, q4, qv, h1, h2, h3, h4, hD1, hb1⟩
  simp at h1 h3
  obtain ⟨hc, hfz⟩ := bcell hb1
  have d : ∀ i, w1.cell? ⟨w.heap.size, i, none⟩ = (w.alloc (.cells #[.int .i64 0, .int .i64 0, .slice none 0 0, .slice none 0 0, .int .i64 0] 47)).cell? ⟨w.heap.size, i, none⟩ := fun i => by rw [hc w.heap.size i (by simp; omega), World.cell?_alloc_past _ _ _ (by simp)]
  have d0 := (d 0).trans ((World.cell?_alloc_at _ _ _ _ rfl).trans rfl)
  have d1 := (d 1).trans ((World.cell?_alloc_at _ _ _ _ rfl).trans rfl)
  have d2 := (d 2).trans ((World.cell?_alloc_at _ _ _ _ rfl).trans rfl)
  have d3 := (d 3).trans ((World.cell?_alloc_at _ _ _ _ rfl).trans rfl)
  have d4 := (d 4).trans ((World.cell?_alloc_at _ _ _ _ rfl).trans rfl)
  have f : ∀ i, w1.frozen? ⟨w.heap.size, i, none⟩ = false := fun i => by
    rw [hfz w.heap.size i (by simp; omega), World.frozen?_of_block (a := ⟨w.heap.size, i, none⟩) (RowKit.Below.heap_alloc _ _ _ (by simp))]
    exact World.frozen?_alloc_at _ _ _ _ rfl
  have g0 := f 0
  have g1 := f 1
  have g2 := f 2
  have g3 := f 3
  have g4 := f 4
  have HBe : Hid (Below w.heap.size w w1) := hide (hw0.trans (hb1.mono (by simp; omega)))
  have n1 : rb ≠ w.heap.size := by omega
  have n2 : cb ≠ w.heap.size := by omega
  have hDd := hide hD1
  clear d f hc hfz hb1 hw0 hD1 HC
  go_wp2_with fail
  go_region
  go_wp2_with fail
  refine bodyPost_ret (v := .tuple #[.agg #[.int .i64 0, .int .i64 0, .slice so 0 sc, .slice (some ⟨cb, cf, none⟩) 1 cc, .int .i64 G], .bool true]) (by simp [results, Tryz.results29, go_sem, d0, d1, d2, d3, d4]) rfl ⟨so, sc, cb, cf, cc, rfl, ?_, ?_, ?_⟩
  · show World.cell? (World.setCell _ _ _) _ = _
    rw [World.cell?_setCell_other _ _ _ _ (by intro e; injection e; omega), World.cell?_setCell_other _ _ _ _ (by intro e; injection e; omega), World.cell?_setCell_other _ _ _ _ (by intro e; injection e; omega), World.cell?_setCell_other _ _ _ _ (by intro e; injection e; omega), World.cell?_setCell_other _ _ _ _ (by intro e; injection e; omega)]
    exact qv
  · simpa using h4
  · exact ((((((unhide HBe).setCell (p := ⟨w.heap.size, 0, none⟩) (Nat.le_refl _) _).setCell (p := ⟨w.heap.size, 1, none⟩) (Nat.le_refl _) _).setCell (p := ⟨w.heap.size, 2, none⟩) (Nat.le_refl _) _).setCell (p := ⟨w.heap.size, 3, none⟩) (Nat.le_refl _) _).setCell (p := ⟨w.heap.size, 4, none⟩) (Nat.le_refl _) _).drew
end Go.Proofs.YtjobgpahajhbnaaGreatDoor
namespace Go.Proofs.YtjobgpahajhbnaaGreatDoor
open Go.RowKit Go.Proofs
attribute [local go_sem ↓] Go.wp_at_zero Go.wp_at_succ
set_option maxHeartbeats 1000000 in
set_option maxRecDepth 20000 in
theorem is_any (D : Nat → World → Prop) (hkeep : ∀ db w w', D db w → Below w.heap.size w w' → D db w') (hrun : RunT D) (db : Nat) (w : World) (g : Gr) (t : List UInt8) (hD : D db w) (ht : Tx false g t) (hf : g.fine) (hm : g.mt) (hd : g.deep ≤ 8) (hl : t.length ≤ 200) (kb : Nat) (hkb : kb < w.heap.size) (hkc : w.cell? ⟨kb, 0, none⟩ = some (.int .i64 g.val)) :
    Calls Tryz.prog 28 #[.pointer (some ⟨db, 0, none⟩), .string ⟨t.toArray⟩, .slice none 0 0, .slice (some ⟨kb, 0, none⟩) 1 1] w fun e w' => e = .returned (.bool true) ∧ Below w.heap.size w w' := by
  have HC := hide (one_any D hkeep hrun db w g t hD ht hf hm hd hl)
  obtain ⟨G, hG⟩ : ∃ G, (g.cost : Int) = G := ⟨_, rfl⟩
  obtain ⟨V, hV⟩ : ∃ V, g.val = V := ⟨_, rfl⟩
  rw [hG, hV] at HC
  rw [hV] at hkc
  obtain ⟨s, hs⟩ : ∃ s : ByteArray, (⟨t.toArray⟩ : ByteArray) = s := ⟨_, rfl⟩
  rw [hs] at HC ⊢
  clear hrun hD ht hf hm hs hkeep hG hV
  go_enter Tryz.func28, Tryz.ntmps28
  go_wp2_with fail
  refine (unhide HC).mono ?_
  rintro e w1 ⟨so, sc, cb, cf, cc, rfl, qv, h1, hb1⟩
  have k1 := (hb1.cell (p := ⟨kb, 0, none⟩) hkb).trans hkc
  have hkb1 : kb < w1.heap.size := Nat.lt_of_lt_of_le hkb hb1.size
  have HB1 := hide hb1
  clear hb1 hkc HC hkb
  go_wp2_with fail
  obtain ⟨W2, hW2⟩ : ∃ W2, w1.alloc (.cells #[.int .i64 0, .int .i64 0, .slice so 0 sc, .slice (some ⟨cb, cf, none⟩) 1 cc, .int .i64 G] 47) = W2 := ⟨_, rfl⟩
  have hbW : Below w1.heap.size w1 W2 := by rw [← hW2]; exact (Below.refl _ _).alloc (Nat.le_refl _) _
  have z3 : W2.cell? ⟨w1.heap.size, 3, none⟩ = some (.slice (some ⟨cb, cf, none⟩) 1 cc) := by rw [← hW2]; exact (World.cell?_alloc_at _ _ _ _ rfl).trans rfl
  have zs : w1.heap.size < W2.heap.size := by rw [← hW2]; simp
  have zv := (hbW.cell (p := ⟨cb, cf, none⟩) h1).trans qv
  have zk := (hbW.cell (p := ⟨kb, 0, none⟩) hkb1).trans k1
  have zc : cb < W2.heap.size := by omega
  have zkb : kb < W2.heap.size := by omega
  have HBW : Hid (Below w.heap.size w W2) := hide ((unhide HB1).trans (hbW.mono (unhide HB1).size))
  rw [hW2]
  clear hW2 hbW qv k1 h1 hkb1 HB1
  go_loop [11] (fun i => i = .int .i64 0) (fun _ => 0)
  case atStart => rfl
  case round =>
    subst hrel
    go_wp2_with fail
    go_loopw [12] (fun v wr => ∃ k : Nat, v = .int .i64 k ∧ k ≤ 1 ∧ Below W2.heap.size W2 wr) (fun v _ => 1 - (intOf v).toNat)
    case atStart => exact ⟨0, rfl, by omega, Below.refl _ _⟩
    case round =>
      obtain ⟨k, rfl, hk, hbe⟩ := hrel
      have y3 := (hbe.cell (p := ⟨w1.heap.size, 3, none⟩) zs).trans z3
      have yv := (hbe.cell (p := ⟨cb, cf, none⟩) zc).trans zv
      have yk := (hbe.cell (p := ⟨kb, 0, none⟩) zkb).trans zk
      have HBe := hide hbe
      clear hbe
      by_cases h0 : k = 0
      · subst h0
        go_wp2_with fail
        go_region
        go_wp2_with fail
        go_roundw
        case rel => exact ⟨1, by simp, by omega, (unhide HBe).drew⟩
        case measure => simp [intOf]
      · have h1 : k = 1 := by omega
        subst h1
        go_wp2_with fail
        exact bodyPost_ret (v := .bool true) (by simp [results, Tryz.results28, go_sem]) rfl ⟨rfl, (unhide HBW).trans ((unhide HBe).mono (unhide HBW).size)⟩
set_option maxHeartbeats 1000000 in
theorem isOne_any (D : Nat → World → Prop) (hkeep : ∀ db w w', D db w → Below w.heap.size w w' → D db w') (hrun : RunT D) (db : Nat) (w : World) (g : Gr) (t : List UInt8) (hD : D db w) (ht : Tx false g t) (hf : g.fine) (hm : g.mt) (hd : g.deep ≤ 8) (hl : t.length ≤ 200) :
    Calls Tryz.prog 17 #[.pointer (some ⟨db, 0, none⟩), .string ⟨t.toArray⟩, .int .i64 g.val] w fun e w' => e = .returned (.bool true) ∧ Below w.heap.size w w' := by
  have hw0 : Below w.heap.size w (w.alloc (.cells #[.int .i64 g.val] 2)) := (Below.refl _ _).alloc (Nat.le_refl _) _
  have HC := hide (is_any D hkeep hrun db _ g t (hkeep db w _ hD hw0) ht hf hm hd hl w.heap.size (by simp) (by simp))
  have HB0 := hide hw0
  clear hrun hD ht hf hm hkeep hw0
  go_enter Tryz.func17, Tryz.ntmps17
  go_wp2_with (go_at_call 28; refine (unhide HC).mono ?_; rintro e w1 ⟨rfl, hb1⟩; have HB1 := hide hb1; clear hb1)
  exact bodyPost_ret (v := .bool true) (by simp [results, Tryz.results17, go_sem]) rfl ⟨rfl, (unhide HB0).trans ((unhide HB1).mono (unhide HB0).size)⟩
/-- a desk with no names, on which a line may cost 1000 -/
def Desk0 (db : Nat) (w : World) : Prop := db < w.heap.size ∧ 6 ≤ db ∧ w.cell? ⟨db, 0, none⟩ = some (.int .i64 1000) ∧ w.cell? ⟨db, 1, none⟩ = some (.map none) ∧ Evs w
theorem Desk0.keep {db : Nat} {w w' : World} (h : Desk0 db w) (hb : Below w.heap.size w w') : Desk0 db w' :=
  ⟨Nat.lt_of_lt_of_le h.1 hb.size, h.2.1, (hb.cell (p := ⟨db, 0, none⟩) h.1).trans h.2.2.1, (hb.cell (p := ⟨db, 1, none⟩) h.1).trans h.2.2.2.1, h.2.2.2.2.below hb h.2.2.2.2.1⟩
theorem rightC (hrun : RunT Desk0) : RightC Evs Desk0 where
  keep := fun _ _ _ h hb => h.keep hb
  desk := fun w hS => (desk_any w).mono (by
    rintro e w' ⟨rfl, rfl⟩
    exact ⟨w.heap.size, rfl, ⟨by simp, hS.1, by simp, by simp, hS.alloc _⟩, (Below.refl _ _).alloc (Nat.le_refl _) _⟩)
  one := fun db w g t hD ht hf hm hd hl => (one_any Desk0 (fun _ _ _ h hb => h.keep hb) hrun db w g t hD ht hf hm hd hl).mono (by
    rintro e w' ⟨so, sc, cb, cf, cc, rfl, _, _, hb⟩
    exact ⟨_, _, _, _, _, _, rfl, hD.keep hb, hb⟩)
  isOne := fun db w g t hD ht hf hm hd hl => (isOne_any Desk0 (fun _ _ _ h hb => h.keep hb) hrun db w g t hD ht hf hm hd hl).mono (by
    rintro e w' ⟨rfl, hb⟩
    exact ⟨rfl, hD.keep hb, hb⟩)
end Go.Proofs.YtjobgpahajhbnaaGreatDoor
