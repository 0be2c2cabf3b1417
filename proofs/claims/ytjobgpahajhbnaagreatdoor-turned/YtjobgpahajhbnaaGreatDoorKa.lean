import Derived.Test.YtjobgpahajhbnaaGreatDoorTk
import Derived.Test.YtjobgpahajhbnaaGreatDoorKd
import Derived.Test.YtjobgpahajhbnaaGreatDoorVg
namespace Go.Proofs.YtjobgpahajhbnaaGreatDoor
open Go.RowKit Go.Proofs Go.Maps
attribute [local go_sem ↓] Go.wp_at_zero Go.wp_at_succ

/-- a scalar counts as a row of one -/
def rowed (a : Arr) : Arr := if a.shape.length = 0 then ravelP a else a
theorem rowed_ok {a : Arr} (h : a.ok) : (rowed a).ok := by
  unfold rowed
  split
  · exact ⟨by simp [ravelP], by simp [ravelP]; exact h.few, by simp [ravelP, prodL], h.few, h.fits⟩
  · exact h
theorem rowed_cells (a : Arr) : (rowed a).cells = a.cells := by
  unfold rowed
  split <;> rfl
/-- blocks of which P holds, but the three of a function's own -/
def Off3 (n : Nat) (P : Nat → Prop) (b : Nat) : Prop := P b ∧ (b < n ∨ n + 1 + 1 < b)
/-- where a function of two arrays stands: their two boxes and what it will answer -/
structure St (W : World) (P : Nat → Prop) (w : World) (so : Option Addr) (sn sc : Nat) (co : Option Addr) (cn cc : Nat) (so2 : Option Addr) (sn2 sc2 : Nat) (co2 : Option Addr) (cn2 cc2 : Nat) (a b : Arr) : Prop where
  below : Below W.heap.size W w
  lt : W.heap.size + 1 + 1 < w.heap.size
  a0 : w.cell? ⟨W.heap.size, 0, none⟩ = some (.slice so sn sc)
  a1 : w.cell? ⟨W.heap.size, 1, none⟩ = some (.slice co cn cc)
  b0 : w.cell? ⟨W.heap.size + 1, 0, none⟩ = some (.slice so2 sn2 sc2)
  b1 : w.cell? ⟨W.heap.size + 1, 1, none⟩ = some (.slice co2 cn2 cc2)
  r0 : w.cell? ⟨W.heap.size + 1 + 1, 0, none⟩ = some (.slice none 0 0)
  r1 : w.cell? ⟨W.heap.size + 1 + 1, 1, none⟩ = some (.slice none 0 0)
  fr : ∀ b i, W.heap.size ≤ b → b ≤ W.heap.size + 1 + 1 → w.frozen? ⟨b, i, none⟩ = false
  isA : IsArr (Off3 W.heap.size P) w (.agg #[.slice so sn sc, .slice co cn cc]) a
  isB : IsArr (Off3 W.heap.size P) w (.agg #[.slice so2 sn2 sc2, .slice co2 cn2 cc2]) b
theorem St.keep {W w w' : World} {P : Nat → Prop} {so : Option Addr} {sn sc : Nat} {co : Option Addr} {cn cc : Nat} {so2 : Option Addr} {sn2 sc2 : Nat} {co2 : Option Addr} {cn2 cc2 : Nat} {a b : Arr} (h : St W P w so sn sc co cn cc so2 sn2 sc2 co2 cn2 cc2 a b) (hb : Below w.heap.size w w') : St W P w' so sn sc co cn cc so2 sn2 sc2 co2 cn2 cc2 a b := by
  have l := h.lt
  have hz := hb.size
  refine ⟨h.below.trans (hb.mono h.below.size), by omega, ?_, ?_, ?_, ?_, ?_, ?_, ?_, h.isA.below hb, h.isB.below hb⟩
  · exact (hb.cell (p := ⟨W.heap.size, 0, none⟩) (by show W.heap.size < w.heap.size; omega)).trans h.a0
  · exact (hb.cell (p := ⟨W.heap.size, 1, none⟩) (by show W.heap.size < w.heap.size; omega)).trans h.a1
  · exact (hb.cell (p := ⟨W.heap.size + 1, 0, none⟩) (by show W.heap.size + 1 < w.heap.size; omega)).trans h.b0
  · exact (hb.cell (p := ⟨W.heap.size + 1, 1, none⟩) (by show W.heap.size + 1 < w.heap.size; omega)).trans h.b1
  · exact (hb.cell (p := ⟨W.heap.size + 1 + 1, 0, none⟩) (by show W.heap.size + 1 + 1 < w.heap.size; omega)).trans h.r0
  · exact (hb.cell (p := ⟨W.heap.size + 1 + 1, 1, none⟩) (by show W.heap.size + 1 + 1 < w.heap.size; omega)).trans h.r1
  · intro b i h1 h2
    exact (hb.frozen (p := ⟨b, i, none⟩) (by show b < w.heap.size; omega)).trans (h.fr b i h1 h2)
theorem St.start {W : World} {P : Nat → Prop} {so : Option Addr} {sn sc : Nat} {co : Option Addr} {cn cc : Nat} {so2 : Option Addr} {sn2 sc2 : Nat} {co2 : Option Addr} {cn2 cc2 : Nat} {a b : Arr} (ha : IsArr P W (.agg #[.slice so sn sc, .slice co cn cc]) a) (hb : IsArr P W (.agg #[.slice so2 sn2 sc2, .slice co2 cn2 cc2]) b) :
    St W P (((W.alloc (.cells #[.slice so sn sc, .slice co cn cc] 89)).alloc (.cells #[.slice so2 sn2 sc2, .slice co2 cn2 cc2] 89)).alloc (.cells #[.slice none 0 0, .slice none 0 0] 89)) so sn sc co cn cc so2 sn2 sc2 co2 cn2 cc2 a b := by
  have hbW : Below W.heap.size W (((W.alloc (.cells #[.slice so sn sc, .slice co cn cc] 89)).alloc (.cells #[.slice so2 sn2 sc2, .slice co2 cn2 cc2] 89)).alloc (.cells #[.slice none 0 0, .slice none 0 0] 89)) := (((Below.refl _ _).alloc (Nat.le_refl _) _).alloc (by simp) _).alloc (by simp; omega) _
  have hs : (((W.alloc (.cells #[.slice so sn sc, .slice co cn cc] 89)).alloc (.cells #[.slice so2 sn2 sc2, .slice co2 cn2 cc2] 89)).alloc (.cells #[.slice none 0 0, .slice none 0 0] 89)).heap.size = W.heap.size + 1 + 1 + 1 := by simp
  refine ⟨hbW, by omega, ?_, ?_, ?_, ?_, ?_, ?_, ?_, (ha.imp (fun b hp hl => ⟨hp, .inl hl⟩)).below hbW, (hb.imp (fun b hp hl => ⟨hp, .inl hl⟩)).below hbW⟩
  · rw [World.cell?_of_block (a := ⟨W.heap.size, 0, none⟩) (RowKit.Below.heap_alloc _ _ _ (by simp; omega)), World.cell?_of_block (a := ⟨W.heap.size, 0, none⟩) (RowKit.Below.heap_alloc _ _ _ (by simp))]
    exact (World.cell?_alloc_at _ _ _ _ rfl).trans rfl
  · rw [World.cell?_of_block (a := ⟨W.heap.size, 1, none⟩) (RowKit.Below.heap_alloc _ _ _ (by simp; omega)), World.cell?_of_block (a := ⟨W.heap.size, 1, none⟩) (RowKit.Below.heap_alloc _ _ _ (by simp))]
    exact (World.cell?_alloc_at _ _ _ _ rfl).trans rfl
  · rw [World.cell?_of_block (a := ⟨W.heap.size + 1, 0, none⟩) (RowKit.Below.heap_alloc _ _ _ (by simp))]
    exact (World.cell?_alloc_at _ _ _ _ (by simp)).trans rfl
  · rw [World.cell?_of_block (a := ⟨W.heap.size + 1, 1, none⟩) (RowKit.Below.heap_alloc _ _ _ (by simp))]
    exact (World.cell?_alloc_at _ _ _ _ (by simp)).trans rfl
  · exact (World.cell?_alloc_at _ _ _ _ (by simp)).trans rfl
  · exact (World.cell?_alloc_at _ _ _ _ (by simp)).trans rfl
  · intro b i h1 h2
    by_cases e : b = W.heap.size + 1 + 1
    · subst e; exact World.frozen?_alloc_at _ _ _ _ (by simp)
    · by_cases e2 : b = W.heap.size + 1
      · subst e2
        rw [World.frozen?_of_block (a := ⟨W.heap.size + 1, i, none⟩) (RowKit.Below.heap_alloc _ _ _ (by simp))]
        exact World.frozen?_alloc_at _ _ _ _ (by simp)
      · have e3 : b = W.heap.size := by omega
        subst e3
        rw [World.frozen?_of_block (a := ⟨W.heap.size, i, none⟩) (RowKit.Below.heap_alloc _ _ _ (by simp; omega)), World.frozen?_of_block (a := ⟨W.heap.size, i, none⟩) (RowKit.Below.heap_alloc _ _ _ (by simp))]
        exact World.frozen?_alloc_at _ _ _ _ rfl
/-- b's box is written anew -/
theorem St.setB {W w : World} {P : Nat → Prop} {so : Option Addr} {sn sc : Nat} {co : Option Addr} {cn cc : Nat} {so2 : Option Addr} {sn2 sc2 : Nat} {co2 : Option Addr} {cn2 cc2 : Nat} {a b : Arr} (h : St W P w so sn sc co cn cc so2 sn2 sc2 co2 cn2 cc2 a b) {s1 : Option Addr} {s2 s3 : Nat} {c1 : Option Addr} {c2 c3 : Nat} {b' : Arr} (hb : IsArr (Off3 W.heap.size P) w (.agg #[.slice s1 s2 s3, .slice c1 c2 c3]) b') : St W P ((w.setCell ⟨W.heap.size + 1, 0, none⟩ (.slice s1 s2 s3)).setCell ⟨W.heap.size + 1, 1, none⟩ (.slice c1 c2 c3)) so sn sc co cn cc s1 s2 s3 c1 c2 c3 a b' := by
  have hbl : ∀ b, b ≠ W.heap.size + 1 → ((w.setCell ⟨W.heap.size + 1, 0, none⟩ (.slice s1 s2 s3)).setCell ⟨W.heap.size + 1, 1, none⟩ (.slice c1 c2 c3)).heap[b]? = w.heap[b]? := fun b hne => (RowKit.Below.heap_setCell _ _ _ _ (fun e => hne e)).trans (RowKit.Below.heap_setCell _ _ _ _ (fun e => hne e))
  have hno : ¬ Off3 W.heap.size P (W.heap.size + 1) := by
    rintro ⟨_, h | h⟩ <;> omega
  refine ⟨(h.below.setCell (p := ⟨W.heap.size + 1, 0, none⟩) (by show W.heap.size ≤ W.heap.size + 1; omega) _).setCell (p := ⟨W.heap.size + 1, 1, none⟩) (by show W.heap.size ≤ W.heap.size + 1; omega) _, by simpa using h.lt, ?_, ?_, ?_, ?_, ?_, ?_, ?_, (h.isA.set hno 0 _).set hno 1 _, (hb.set hno 0 _).set hno 1 _⟩
  · rw [World.cell?_of_block (a := ⟨W.heap.size, 0, none⟩) (hbl _ (by show W.heap.size ≠ W.heap.size + 1; omega))]; exact h.a0
  · rw [World.cell?_of_block (a := ⟨W.heap.size, 1, none⟩) (hbl _ (by show W.heap.size ≠ W.heap.size + 1; omega))]; exact h.a1
  · rw [World.cell?_setCell_other _ _ _ _ (by simp)]; exact World.cell?_setCell_same _ _ _ h.b0
  · exact World.cell?_setCell_same _ _ _ (u := .slice co2 cn2 cc2) ((World.cell?_setCell_other _ _ _ _ (by simp)).trans h.b1)
  · rw [World.cell?_of_block (a := ⟨W.heap.size + 1 + 1, 0, none⟩) (hbl _ (by show W.heap.size + 1 + 1 ≠ W.heap.size + 1; omega))]; exact h.r0
  · rw [World.cell?_of_block (a := ⟨W.heap.size + 1 + 1, 1, none⟩) (hbl _ (by show W.heap.size + 1 + 1 ≠ W.heap.size + 1; omega))]; exact h.r1
  · intro b i h1 h2
    rw [World.frozen?_setCell, World.frozen?_setCell]
    exact h.fr b i h1 h2
/-- a's box is written anew -/
theorem St.setA {W w : World} {P : Nat → Prop} {so : Option Addr} {sn sc : Nat} {co : Option Addr} {cn cc : Nat} {so2 : Option Addr} {sn2 sc2 : Nat} {co2 : Option Addr} {cn2 cc2 : Nat} {a b : Arr} (h : St W P w so sn sc co cn cc so2 sn2 sc2 co2 cn2 cc2 a b) {s1 : Option Addr} {s2 s3 : Nat} {c1 : Option Addr} {c2 c3 : Nat} {b' : Arr} (hb : IsArr (Off3 W.heap.size P) w (.agg #[.slice s1 s2 s3, .slice c1 c2 c3]) b') : St W P ((w.setCell ⟨W.heap.size, 0, none⟩ (.slice s1 s2 s3)).setCell ⟨W.heap.size, 1, none⟩ (.slice c1 c2 c3)) s1 s2 s3 c1 c2 c3 so2 sn2 sc2 co2 cn2 cc2 b' b := by
  have hbl : ∀ b, b ≠ W.heap.size → ((w.setCell ⟨W.heap.size, 0, none⟩ (.slice s1 s2 s3)).setCell ⟨W.heap.size, 1, none⟩ (.slice c1 c2 c3)).heap[b]? = w.heap[b]? := fun b hne => (RowKit.Below.heap_setCell _ _ _ _ (fun e => hne e)).trans (RowKit.Below.heap_setCell _ _ _ _ (fun e => hne e))
  have hno : ¬ Off3 W.heap.size P W.heap.size := by
    rintro ⟨_, h | h⟩ <;> omega
  refine ⟨(h.below.setCell (p := ⟨W.heap.size, 0, none⟩) (by show W.heap.size ≤ W.heap.size; omega) _).setCell (p := ⟨W.heap.size, 1, none⟩) (by show W.heap.size ≤ W.heap.size; omega) _, by simpa using h.lt, ?_, ?_, ?_, ?_, ?_, ?_, ?_, (hb.set hno 0 _).set hno 1 _, (h.isB.set hno 0 _).set hno 1 _⟩
  · rw [World.cell?_setCell_other _ _ _ _ (by simp)]; exact World.cell?_setCell_same _ _ _ h.a0
  · exact World.cell?_setCell_same _ _ _ (u := .slice co cn cc) ((World.cell?_setCell_other _ _ _ _ (by simp)).trans h.a1)
  · rw [World.cell?_of_block (a := ⟨W.heap.size + 1, 0, none⟩) (hbl _ (by show W.heap.size + 1 ≠ W.heap.size; omega))]; exact h.b0
  · rw [World.cell?_of_block (a := ⟨W.heap.size + 1, 1, none⟩) (hbl _ (by show W.heap.size + 1 ≠ W.heap.size; omega))]; exact h.b1
  · rw [World.cell?_of_block (a := ⟨W.heap.size + 1 + 1, 0, none⟩) (hbl _ (by show W.heap.size + 1 + 1 ≠ W.heap.size; omega))]; exact h.r0
  · rw [World.cell?_of_block (a := ⟨W.heap.size + 1 + 1, 1, none⟩) (hbl _ (by show W.heap.size + 1 + 1 ≠ W.heap.size; omega))]; exact h.r1
  · intro b i h1 h2
    rw [World.frozen?_setCell, World.frozen?_setCell]
    exact h.fr b i h1 h2
theorem nums_drop {P : Nat → Prop} {w : World} {b off cap : Nat} {xs : List Int} (h : Nums P w (.slice (some ⟨b, off, none⟩) xs.length cap) xs) {k : Nat} (hk : k ≤ xs.length) : Nums P w (.slice (some ⟨b, off + k, none⟩) (xs.length - k) (cap - k)) (xs.drop k) := by
  obtain ⟨ao, cap', hv, hcap, h1, _⟩ := h
  injection hv with e1 e2 e3
  subst e3
  refine ⟨some ⟨b, off + k, none⟩, cap - k, by simp, by simp; omega, fun h0 => ?_, fun a h => by cases h; rfl⟩
  have h0' : 0 < xs.length := by simp at h0; omega
  obtain ⟨b', off', ha, hp, hl, hc⟩ := h1 h0'
  rw [← e1] at ha
  injection ha with ha
  injection ha with e4 e5
  subst e4
  subst e5
  refine ⟨b, off + k, rfl, hp, hl, fun i hi => ?_⟩
  simp at hi
  rw [Nat.add_assoc, hc (k + i) (by omega)]
  simp
theorem nums_take {P : Nat → Prop} {w : World} {b off cap : Nat} {xs : List Int} (h : Nums P w (.slice (some ⟨b, off, none⟩) xs.length cap) xs) {k : Nat} (hk : k ≤ xs.length) : Nums P w (.slice (some ⟨b, off, none⟩) k cap) (xs.take k) := by
  obtain ⟨ao, cap', hv, hcap, h1, _⟩ := h
  injection hv with e1 e2 e3
  subst e3
  refine ⟨some ⟨b, off, none⟩, cap, by simp [Nat.min_eq_left hk], by simp; omega, fun h0 => ?_, fun a h => by cases h; rfl⟩
  have h0' : 0 < xs.length := by simp at h0; omega
  obtain ⟨b', off', ha, hp, hl, hc⟩ := h1 h0'
  rw [← e1] at ha
  injection ha with ha
  injection ha with e4 e5
  subst e4
  subst e5
  refine ⟨b, off, rfl, hp, hl, fun i hi => ?_⟩
  simp at hi
  rw [hc i (by omega)]
  simp
set_option maxHeartbeats 1000000 in
theorem least_any (P : Nat → Prop) (W : World) (hP : ∀ b, W.heap.size ≤ b → P b) (so : Option Addr) (sn sc : Nat) (co : Option Addr) (cn cc : Nat) (a : Arr) (ha : IsArr P W (.agg #[.slice so sn sc, .slice co cn cc]) a) :
    Calls Tryz.prog 254 #[.agg #[.slice so sn sc, .slice co cn cc]] W fun e w' => ∃ s1 s2 s3 c1 c2 c3, e = .returned (.agg #[.slice s1 s2 s3, .slice c1 c2 c3]) ∧ IsArr P w' (.agg #[.slice s1 s2 s3, .slice c1 c2 c3]) (rowed a) ∧ Below W.heap.size W w' := by
  have hsn := (isArr_len ha).2
  have HS := hide (fun W' => isScalar_any W' so sn sc co cn cc)
  have HC := hide (fun W' (h : Below W.heap.size W W') (hs : W.heap.size + 1 < W'.heap.size) => row_any (fun b => P b ∧ b ≠ W.heap.size + 1) W' (fun b h' => ⟨hP b (by omega), by omega⟩) (.slice co cn cc) a.cells (((isArr_cells ha).imp (fun b hp hl => ⟨hp, by omega⟩)).below h))
  have HA := hide (ha.imp (Q := fun b => P b ∧ b ≠ W.heap.size + 1) (fun b hp hl => ⟨hp, by omega⟩))
  obtain ⟨r, hr⟩ : ∃ r : Arr, rowed a = r := ⟨_, rfl⟩
  simp only [hr]
  by_cases h0 : sn = 0
  · have hr' : (⟨[a.cells.length], a.cells⟩ : Arr) = r := by rw [← hr]; unfold rowed; rw [if_pos (by omega)]; rfl
    simp only [hr'] at HC
    subst h0
    clear hr hr' ha hP hsn HA
    go_enter Tryz.func254, Tryz.ntmps254
    go_wp2_with (go_at_call 220; refine (unhide HS _).mono ?_; rintro e w' ⟨rfl, rfl⟩)
    have HBW : Hid (Below W.heap.size W ((((W.alloc (.cells #[.slice so 0 sc, .slice co cn cc] 89)).alloc (.cells #[.slice none 0 0, .slice none 0 0] 89)).alloc (.cells #[.slice so 0 sc, .slice co cn cc] 89)).alloc (.cells #[.slice so 0 sc, .slice co cn cc] 89))) := hide ((((((Below.refl W.heap.size W).alloc (Nat.le_refl _) _).alloc (by simp) _).alloc (by simp; omega) _).alloc (by simp; omega) _))
    refine (unhide HC _ (unhide HBW) (by simp)).mono ?_
    rintro e w1 ⟨s1, s2, s3, c1, c2, c3, rfl, h1, hb1⟩
    have HA := hide h1
    have HB : Hid (Below W.heap.size W w1) := hide ((unhide HBW).trans (hb1.mono (unhide HBW).size))
    obtain ⟨hc, hf⟩ := bcell hb1
    have hs1 := hb1.size
    simp only [World.size_alloc] at hc hf hs1
    have d0 : w1.cell? ⟨W.heap.size + 1, 0, none⟩ = some (.slice none 0 0) := (hc (W.heap.size + 1) 0 (by omega)).trans ((cell_res W _ _ _ _ 0).trans rfl)
    have d1 : w1.cell? ⟨W.heap.size + 1, 1, none⟩ = some (.slice none 0 0) := (hc (W.heap.size + 1) 1 (by omega)).trans ((cell_res W _ _ _ _ 1).trans rfl)
    have g0 := (hf (W.heap.size + 1) 0 (by omega)).trans (frozen_res W _ _ _ _ 0)
    have g1 := (hf (W.heap.size + 1) 1 (by omega)).trans (frozen_res W _ _ _ _ 1)
    have hw1 : W.heap.size + 1 < w1.heap.size := by omega
    clear h1 hb1 hc hf HBW HC HS
    go_wp2_with fail
    refine bodyPost_ret (v := .agg #[.slice s1 s2 s3, .slice c1 c2 c3]) (by simp [results, Tryz.results254, go_sem, d0, d1]) rfl ⟨_, _, _, _, _, _, rfl, ?_, ?_⟩
    · exact (((unhide HA).set (fun h => h.2 rfl) 0 _).set (fun h => h.2 rfl) 1 _).imp (fun b h _ => h.1)
    · exact ((unhide HB).setCell (p := ⟨W.heap.size + 1, 0, none⟩) (Nat.le_succ _) _).setCell (p := ⟨W.heap.size + 1, 1, none⟩) (Nat.le_succ _) _
  · have hr' : a = r := by rw [← hr]; unfold rowed; rw [if_neg (by omega)]
    subst hr'
    have h0' : ((sn : Int) == 0) = false := by rw [beq_eq_false_iff_ne]; omega
    clear hr ha hP hsn HC h0
    go_enter Tryz.func254, Tryz.ntmps254
    go_wp2_with (go_at_call 220; refine (unhide HS _).mono ?_; rintro e w' ⟨rfl, rfl⟩)
    refine bodyPost_ret (v := .agg #[.slice so sn sc, .slice co cn cc]) (by simp [results, Tryz.results254, go_sem]) rfl ⟨_, _, _, _, _, _, rfl, ?_, ?_⟩
    · exact ((unhide HA).below (((((Below.refl W.heap.size W).alloc (Nat.le_refl _) _).alloc (by simp) _).alloc (by simp; omega) _).alloc (by simp; omega) _)).imp (fun b h _ => h.1)
    · exact ((((Below.refl W.heap.size W).alloc (Nat.le_refl _) _).alloc (by simp) _).alloc (by simp; omega) _).alloc (by simp; omega) _
end Go.Proofs.YtjobgpahajhbnaaGreatDoor
namespace Go.Proofs.YtjobgpahajhbnaaGreatDoor
open Go.RowKit Go.Proofs Go.Maps
attribute [local go_sem ↓] Go.wp_at_zero Go.wp_at_succ

theorem Tryz.enters203 : Enters Tryz.prog 203 := Go.Proofs.enters_of Tryz.func203 (by decide) rfl
def dropL (x : Int) (xs : List Int) : List Int := if 0 ≤ x then xs.drop x.toNat else xs.take (xs.length - (-x).toNat)
def dropP (a b : Arr) : Arr × Int := if a.shape.length ≠ 0 ∨ (rowed b).shape.length ≠ 1 then (eArr, 5) else (⟨[(dropL (a.cells.headD 0) b.cells).length], dropL (a.cells.headD 0) b.cells⟩, 0)
theorem fin_ok {W w : World} {P : Nat → Prop} {v u0 u1 : Value} {q : Arr} (hb : Below W.heap.size W w) (hA : IsArr (Off3 W.heap.size P) w v q) : IsArr P ((w.setCell ⟨W.heap.size + 1 + 1, 0, none⟩ u0).setCell ⟨W.heap.size + 1 + 1, 1, none⟩ u1) v q ∧ Below W.heap.size W ((w.setCell ⟨W.heap.size + 1 + 1, 0, none⟩ u0).setCell ⟨W.heap.size + 1 + 1, 1, none⟩ u1) := by
  have hno : ¬ Off3 W.heap.size P (W.heap.size + 1 + 1) := by
    rintro ⟨_, h | h⟩ <;> omega
  exact ⟨((hA.set hno 0 _).set hno 1 _).imp (fun b h _ => h.1), (hb.setCell (p := ⟨W.heap.size + 1 + 1, 0, none⟩) (by show W.heap.size ≤ W.heap.size + 1 + 1; omega) _).setCell (p := ⟨W.heap.size + 1 + 1, 1, none⟩) (by show W.heap.size ≤ W.heap.size + 1 + 1; omega) _⟩
theorem nums_drop_at {P : Nat → Prop} {w : World} {b off cap n : Nat} {xs : List Int} (h : Nums P w (.slice (some ⟨b, off, none⟩) n cap) xs) {k : Nat} (hk : k ≤ n) : Nums P w (.slice (if cap = k then some ⟨b, off, none⟩ else some ⟨b, off + k, none⟩) (n - k) (cap - k)) (xs.drop k) := by
  have hn := nums_len h
  subst hn
  by_cases e : cap = k
  · rw [if_pos e]
    have hcap : xs.length ≤ cap := by
      obtain ⟨ao, cap', hv, hcap, _⟩ := h
      injection hv with e1 e2 e3
      omega
    have hz : xs.length - k = 0 := by omega
    have hd : xs.drop k = [] := List.drop_of_length_le (by omega)
    rw [hz, hd]
    exact ⟨_, _, rfl, by simp, fun h => absurd h (by simp), fun a h => by cases h; rfl⟩
  · rw [if_neg e]
    exact nums_drop h hk
theorem dropL_pos {x : Int} {xs : List Int} {n : Nat} (hn : n = xs.length) (h : 0 ≤ x) : ∃ k : Nat, k ≤ n ∧ min x (n : Int) = (k : Int) ∧ dropL x xs = xs.drop k := by
  subst hn
  unfold dropL
  rw [if_pos h]
  by_cases hx : (xs.length : Int) < x
  · exact ⟨xs.length, Nat.le_refl _, by omega, by rw [List.drop_of_length_le (by omega), List.drop_of_length_le (Nat.le_refl _)]⟩
  · exact ⟨x.toNat, by omega, by omega, rfl⟩
theorem dropL_neg {x : Int} {xs : List Int} {n : Nat} (hn : n = xs.length) (h : ¬ 0 ≤ x) : ∃ k : Nat, k ≤ n ∧ max x (-(n : Int)) = (k : Int) - (n : Int) ∧ dropL x xs = xs.take k := by
  subst hn
  unfold dropL
  rw [if_neg h]
  by_cases hx : -(xs.length : Int) > x
  · exact ⟨0, by omega, by omega, by rw [show xs.length - (-x).toNat = 0 by omega]⟩
  · exact ⟨xs.length - (-x).toNat, by omega, by omega, rfl⟩
theorem wrap_neg {n : Nat} (h : n ≤ 1000) : IntKind.i64.wrap (-(n : Int)) = -(n : Int) := by
  show (if (true && decide (-(n : Int) % (18446744073709551616 : Int) ≥ 9223372036854775808)) = true then -(n : Int) % (18446744073709551616 : Int) - 18446744073709551616 else -(n : Int) % (18446744073709551616 : Int)) = -(n : Int)
  by_cases h0 : n = 0
  · subst h0; decide
  · have e : -(n : Int) % (18446744073709551616 : Int) = 18446744073709551616 - n := by omega
    rw [e, if_pos (by simp; omega)]
    omega
set_option maxHeartbeats 2000000 in
set_option maxRecDepth 20000 in
theorem drop_fn (w : World) : FnTwo 203 #[] w dropP := by
  intro W P u v a b _ hP ha hb hoa hob
  obtain ⟨so, sn, sc, co, cn, cc, rfl, ha1, ha2⟩ := ha
  obtain ⟨so2, sn2, sc2, co2, cn2, cc2, rfl, hb1, hb2⟩ := hb
  have hsn := nums_len ha1
  simp at hsn
  have HSN := hide hsn
  have hS0 := St.start (P := P) (W := W) (a := a) (b := b) ⟨so, sn, sc, co, cn, cc, rfl, ha1, ha2⟩ ⟨so2, sn2, sc2, co2, cn2, cc2, rfl, hb1, hb2⟩
  obtain ⟨W1, hW1⟩ : ∃ W1, ((W.alloc (.cells #[.slice so sn sc, .slice co cn cc] 89)).alloc (.cells #[.slice so2 sn2 sc2, .slice co2 cn2 cc2] 89)).alloc (.cells #[.slice none 0 0, .slice none 0 0] 89) = W1 := ⟨_, rfl⟩
  rw [hW1] at hS0
  have HS0 := hide hS0
  have HOff : Hid (∀ w' : World, W.heap.size + 1 + 1 < w'.heap.size → ∀ b, w'.heap.size ≤ b → Off3 W.heap.size P b) := hide (fun w' h b hb => ⟨hP b (by omega), .inr (by omega)⟩)
  have HL := hide (least_any (Off3 W.heap.size P) W1 (unhide HOff W1 hS0.lt) so2 sn2 sc2 co2 cn2 cc2 b hS0.isB)
  have HScal := hide (fun w' => (isScalar_any w' so sn sc co cn cc).mono (fun e w'' h => (⟨h.1, by rw [h.2]; exact ((Below.refl _ _).alloc (Nat.le_refl _) _).alloc (by simp) _⟩ : e = .returned (.bool ((sn : Int) == 0)) ∧ Below w'.heap.size w' w'')))
  have HP : Hid (∀ b, W.heap.size ≤ b → P b) := hP
  have HOA := hide hoa
  have HOB := hide (rowed_ok hob)
  have HBC := hide (rowed_cells b)
  obtain ⟨r, hr⟩ : ∃ r, dropP a b = r := ⟨_, rfl⟩
  simp only [hr]
  have HR := hide hr
  have b0' := hS0.b0
  have b1' := hS0.b1
  clear hP hoa hob ha1 ha2 hb1 hb2 hr hsn hS0
  go_enter Tryz.func203, Tryz.ntmps203
  go_wp2_with fail
  try rw [hW1]
  clear hW1 b0' b1'
  refine (unhide HL).mono ?_
  rintro e w2 ⟨s1, s2, s3, c1, c2, c3, rfl, hB2, hb2⟩
  have hS2 := (unhide HS0).keep hb2
  have hS3 := hS2.setB hB2
  have HS3 := hide hS3
  have HS2L := hide (isArr_len hB2)
  have x0 := hS2.a0
  have x1 := hS2.a1
  have x2 := hS2.b0
  have x3 := hS2.b1
  have y2 := hS2.fr (W.heap.size + 1) 0 (by omega) (by omega)
  have y3 := hS2.fr (W.heap.size + 1) 1 (by omega) (by omega)
  have n3 := hS2.lt
  have n1 : W.heap.size < w2.heap.size := by omega
  have n2 : W.heap.size + 1 < w2.heap.size := by omega
  clear hS2 hS3 hB2 hb2 HL HS0
  go_wp2_with fail
  obtain ⟨w3, hw3⟩ : ∃ w3, (w2.setCell ⟨W.heap.size + 1, 0, none⟩ (.slice s1 s2 s3)).setCell ⟨W.heap.size + 1, 1, none⟩ (.slice c1 c2 c3) = w3 := ⟨_, rfl⟩
  rw [hw3] at HS3 ⊢
  clear hw3 x0 x1 x2 x3 y2 y3 n1 n2 n3
  refine (unhide HScal _).mono ?_
  rintro e w4 ⟨rfl, hb4⟩
  have hS4 := (unhide HS3).keep hb4
  have HS4 := hide hS4
  have x0 := hS4.a0
  have x1 := hS4.a1
  have x2 := hS4.b0
  have x3 := hS4.b1
  have x4 := hS4.r0
  have x5 := hS4.r1
  have y4 := hS4.fr (W.heap.size + 1 + 1) 0 (by omega) (by omega)
  have y5 := hS4.fr (W.heap.size + 1 + 1) 1 (by omega) (by omega)
  have n3 := hS4.lt
  have n1 : W.heap.size < w4.heap.size := by omega
  have n2 : W.heap.size + 1 < w4.heap.size := by omega
  have HBz := hide hS4.below
  clear hS4 hb4 HS3 HScal
  by_cases hsc : sn = 0
  · have hsc' : ((sn : Int) == 0) = true := by rw [hsc]; rfl
    have HSC := hide hsc
    clear hsc
    go_wp2_with fail
    refine (isRow_any _ s1 s2 s3 c1 c2 c3).mono ?_
    rintro e w5 ⟨rfl, hw5⟩
    have hb5 : Below w4.heap.size w4 w5 := by rw [hw5]; exact ((Below.refl _ _).alloc (Nat.le_refl _) _).alloc (by simp) _
    clear hw5
    have hS5 := (unhide HS4).keep hb5
    have HS5 := hide hS5
    clear x0 x1 x2 x3 x4 x5 y4 y5 n1 n2 n3
    have x0 := hS5.a0
    have x1 := hS5.a1
    have x2 := hS5.b0
    have x3 := hS5.b1
    have x4 := hS5.r0
    have x5 := hS5.r1
    have y4 := hS5.fr (W.heap.size + 1 + 1) 0 (by omega) (by omega)
    have y5 := hS5.fr (W.heap.size + 1 + 1) 1 (by omega) (by omega)
    have n3 := hS5.lt
    have n1 : W.heap.size < w5.heap.size := by omega
    have n2 : W.heap.size + 1 < w5.heap.size := by omega
    have HBz := hide hS5.below
    clear hb5 HS4
    by_cases hrow : s2 = 1
    · have hrow' : ((s2 : Int) == 1) = true := by rw [hrow]; rfl
      have hash : a.shape = [] := List.eq_nil_of_length_eq_zero (by rw [← unhide HSN]; exact unhide HSC)
      obtain ⟨x, ab, ao, hax, hcn1, hco, _, hal, hac, hacc⟩ := scalar_cell (isArr_cells hS5.isA) (unhide HOA) hash
      subst hco
      have hBc := isArr_cells hS5.isB
      rw [unhide HBC] at hBc
      have hc2 := nums_len hBc
      obtain ⟨xs, hxs⟩ : ∃ xs, b.cells = xs := ⟨_, rfl⟩
      rw [hxs] at hBc hc2
      have hfew : xs.length ≤ 200 := by rw [← hxs, ← rowed_cells b]; exact (unhide HOB).few
      have hr' : r = (⟨[(dropL x xs).length], dropL x xs⟩, 0) := by
        rw [← unhide HR]
        unfold dropP
        rw [if_neg (by rw [hash, ← (unhide HS2L).2, hrow]; simp), hax, hxs]
        rfl
      obtain ⟨ys, hys⟩ : ∃ ys, dropL x xs = ys := ⟨_, rfl⟩
      rw [hys] at hr'
      subst hr'
      have HYS := hide hys
      clear hys
      have hx64 := (unhide HOA).fits x (by rw [hax]; simp)
      subst hcn1
      have HBC2 := hide hBc
      have hcc3 : c2 ≤ c3 := by
        obtain ⟨ao', cap', hv, hcap, _, _⟩ := hBc
        injection hv with e1 e2 e3
        omega
      clear hS5 hash hax hxs HBC HOB HOA HR HSC HS2L HSN hBc hrow
      have HC2 := hide hc2
      clear hc2
      go_wp2_with fail
      refine (size_any _ s1 s2 s3 c1 c2 c3).mono ?_
      rintro e w6 ⟨rfl, hw6⟩
      have hb6 : Below w5.heap.size w5 w6 := by rw [hw6]; exact (Below.refl _ _).alloc (Nat.le_refl _) _
      clear hw6
      have hS6 := (unhide HS5).keep hb6
      have hac6 := (hb6.cell (p := ⟨ab, ao, none⟩) hal).trans hac
      have HN6 := hide ((unhide HBC2).below hb6)
      clear x0 x1 x2 x3 x4 x5 y4 y5 n1 n2 n3 HBz HBC2 HS5 hb6 hac
      have x1 := hS6.a1
      have x2 := hS6.b0
      have x3 := hS6.b1
      have x4 := hS6.r0
      have x5 := hS6.r1
      have y4 := hS6.fr (W.heap.size + 1 + 1) 0 (by omega) (by omega)
      have y5 := hS6.fr (W.heap.size + 1 + 1) 1 (by omega) (by omega)
      have n3 := hS6.lt
      have n1 : W.heap.size < w6.heap.size := by omega
      have n2 : W.heap.size + 1 < w6.heap.size := by omega
      have HB6 := hide hS6.below
      clear hS6
      have HRW := hide (fun (w' : World) (hb : W.heap.size + 1 + 1 < w'.heap.size) v ys (h : Nums (Off3 W.heap.size P) w' v ys) => row_any (Off3 W.heap.size P) w' (unhide HOff w' hb) v ys h)
      have hx1 := hx64.1
      have hx2 := hx64.2
      clear hx64
      by_cases hx0 : 0 ≤ x
      · obtain ⟨k, hkc, hmin, hdl⟩ := dropL_pos (unhide HC2) hx0
        rw [unhide HYS] at hdl
        have hk0 : (0 : Int) ≤ (k : Int) := by omega
        have hk1 : (k : Int) ≤ (c2 : Int) := by omega
        have HDL := hide hdl
        clear hdl
        rcases c1 with _ | ⟨cb, coff, spot⟩
        · have hN := unhide HN6
          obtain ⟨ao', cap', hv, hcap, h1, _⟩ := hN
          have hz : xs.length = 0 := by
            by_cases h : 0 < xs.length
            · obtain ⟨b', off', e1, _⟩ := h1 h
              injection hv with e2
              rw [e1] at e2
              cases e2
            · omega
          have hc0 : c2 = 0 := by rw [unhide HC2]; exact hz
          subst hc0
          have hk : k = 0 := by omega
          subst hk
          have hy0 : ys = [] := by rw [unhide HDL, List.eq_nil_of_length_eq_zero hz]; rfl
          subst hy0
          have hmin0 : min x 0 = 0 := by omega
          clear hv hcap h1 hz hmin
          have HND : Hid (Nums (Off3 W.heap.size P) w6.drew (.slice none 0 c3) []) := hide ⟨_, _, rfl, by simp, fun h => absurd h (by simp), fun a h => by cases h⟩
          go_wp2_with fail
          go_region_with (go_at_call 151; refine (unhide HRW _ (by simpa using n3) _ _ (unhide HND)).mono ?_; rintro e w7 ⟨t1, t2, t3, u1, u2, u3, rfl, hA7, hb7⟩; have q4 := (hb7.cell (p := ⟨W.heap.size + 1 + 1, 0, none⟩) n3).trans x4; have q5 := (hb7.cell (p := ⟨W.heap.size + 1 + 1, 1, none⟩) n3).trans x5; have z4 := (hb7.frozen (p := ⟨W.heap.size + 1 + 1, 0, none⟩) n3).trans y4; have z5 := (hb7.frozen (p := ⟨W.heap.size + 1 + 1, 1, none⟩) n3).trans y5; have HA7 := hide hA7; have HB7 : Hid (Below W.heap.size W w7) := hide ((unhide HB6).trans ((below_drew hb7).mono (unhide HB6).size)); have n7 := hb7.size; clear hA7 hb7)
          all_goals
            go_wp2_with fail
            exact bodyPost_ret (v := .tuple #[.agg #[.slice t1 t2 t3, .slice u1 u2 u3], .int .i64 0]) (by simp [results, Tryz.results203, go_sem, q4, q5]) rfl ⟨_, _, _, _, _, _, rfl, (fin_ok (unhide HB7) (unhide HA7)).1, (fin_ok (unhide HB7) (unhide HA7)).2⟩
        · have hsp : spot = none := by
            obtain ⟨ao', cap', hv, hcap, h1, h2⟩ := unhide HN6
            injection hv with e2
            exact h2 _ e2.symm
          subst hsp
          obtain ⟨ad, had⟩ : ∃ ad : Option Addr, (if c3 = k then some ⟨cb, coff, none⟩ else some ⟨cb, coff + k, none⟩) = ad := ⟨_, rfl⟩
          have HND : Hid (Nums (Off3 W.heap.size P) w6.drew (.slice ad (c2 - k) (c3 - k)) ys) := hide (by
            rw [← had, unhide HDL]
            exact (nums_drop_at (unhide HN6) hkc).below (Below.refl _ _).drew)
          go_wp2_with fail
          go_region_with (go_at_call 151; refine (unhide HRW _ (by simpa using n3) _ _ (unhide HND)).mono ?_; rintro e w7 ⟨t1, t2, t3, u1, u2, u3, rfl, hA7, hb7⟩; have q4 := (hb7.cell (p := ⟨W.heap.size + 1 + 1, 0, none⟩) n3).trans x4; have q5 := (hb7.cell (p := ⟨W.heap.size + 1 + 1, 1, none⟩) n3).trans x5; have z4 := (hb7.frozen (p := ⟨W.heap.size + 1 + 1, 0, none⟩) n3).trans y4; have z5 := (hb7.frozen (p := ⟨W.heap.size + 1 + 1, 1, none⟩) n3).trans y5; have HA7 := hide hA7; have HB7 : Hid (Below W.heap.size W w7) := hide ((unhide HB6).trans ((below_drew hb7).mono (unhide HB6).size)); have n7 := hb7.size; clear hA7 hb7)
          all_goals
            go_wp2_with fail
            exact bodyPost_ret (v := .tuple #[.agg #[.slice t1 t2 t3, .slice u1 u2 u3], .int .i64 0]) (by simp [results, Tryz.results203, go_sem, q4, q5]) rfl ⟨_, _, _, _, _, _, rfl, (fin_ok (unhide HB7) (unhide HA7)).1, (fin_ok (unhide HB7) (unhide HA7)).2⟩
      · obtain ⟨k, hkc, hmax, hdl⟩ := dropL_neg (unhide HC2) hx0
        rw [unhide HYS] at hdl
        have hk0 : (0 : Int) ≤ (k : Int) := by omega
        have hk1 : (k : Int) ≤ (c2 : Int) := by omega
        have hk2 : k ≤ c3 := by omega
        have HDL := hide hdl
        have hc2l : c2 ≤ 200 := by rw [unhide HC2]; exact hfew
        have hng : IntKind.i64.wrap (-(c2 : Int)) = -(c2 : Int) := wrap_neg (by omega)
        have hadd : IntKind.i64.wrap ((c2 : Int) + ((k : Int) - (c2 : Int))) = (k : Int) := by
          have e : (c2 : Int) + ((k : Int) - (c2 : Int)) = (k : Int) := by omega
          rw [e]
          exact wrap_pos (by omega) (by omega)
        clear hdl
        rcases c1 with _ | ⟨cb, coff, spot⟩
        · have hN := unhide HN6
          obtain ⟨ao', cap', hv, hcap, h1, _⟩ := hN
          have hz : xs.length = 0 := by
            by_cases h : 0 < xs.length
            · obtain ⟨b', off', e1, _⟩ := h1 h
              injection hv with e2
              rw [e1] at e2
              cases e2
            · omega
          have hc0 : c2 = 0 := by rw [unhide HC2]; exact hz
          have hk : k = 0 := by omega
          have hy0 : ys = [] := by rw [unhide HDL, List.eq_nil_of_length_eq_zero hz]; simp
          have hx0' : x < 0 := by omega
          have HND : Hid (Nums (Off3 W.heap.size P) w6.drew (.slice none k c3) ys) := hide (by
            rw [hk, hy0]
            exact ⟨_, _, rfl, by simp, fun h => absurd h (by simp), fun a h => by cases h⟩)
          clear hv hcap h1 hz hc0 hk hy0
          go_wp2_with fail
          go_region_with (go_at_call 151; refine (unhide HRW _ (by simpa using n3) _ _ (unhide HND)).mono ?_; rintro e w7 ⟨t1, t2, t3, u1, u2, u3, rfl, hA7, hb7⟩; have q4 := (hb7.cell (p := ⟨W.heap.size + 1 + 1, 0, none⟩) n3).trans x4; have q5 := (hb7.cell (p := ⟨W.heap.size + 1 + 1, 1, none⟩) n3).trans x5; have z4 := (hb7.frozen (p := ⟨W.heap.size + 1 + 1, 0, none⟩) n3).trans y4; have z5 := (hb7.frozen (p := ⟨W.heap.size + 1 + 1, 1, none⟩) n3).trans y5; have HA7 := hide hA7; have HB7 : Hid (Below W.heap.size W w7) := hide ((unhide HB6).trans ((below_drew hb7).mono (unhide HB6).size)); have n7 := hb7.size; clear hA7 hb7)
          all_goals
            go_wp2_with fail
            exact bodyPost_ret (v := .tuple #[.agg #[.slice t1 t2 t3, .slice u1 u2 u3], .int .i64 0]) (by simp [results, Tryz.results203, go_sem, q4, q5]) rfl ⟨_, _, _, _, _, _, rfl, (fin_ok (unhide HB7) (unhide HA7)).1, (fin_ok (unhide HB7) (unhide HA7)).2⟩
        · have hsp : spot = none := by
            obtain ⟨ao', cap', hv, hcap, h1, h2⟩ := unhide HN6
            injection hv with e2
            exact h2 _ e2.symm
          subst hsp
          have hx0' : x < 0 := by omega
          have HND : Hid (Nums (Off3 W.heap.size P) w6.drew (.slice (some ⟨cb, coff, none⟩) k c3) ys) := hide (by
            rw [unhide HDL]
            have hN := unhide HN6
            have hl := nums_len hN
            rw [hl] at hN hkc
            exact (nums_take hN hkc).below (Below.refl _ _).drew)
          go_wp2_with fail
          go_region_with (go_at_call 151; refine (unhide HRW _ (by simpa using n3) _ _ (unhide HND)).mono ?_; rintro e w7 ⟨t1, t2, t3, u1, u2, u3, rfl, hA7, hb7⟩; have q4 := (hb7.cell (p := ⟨W.heap.size + 1 + 1, 0, none⟩) n3).trans x4; have q5 := (hb7.cell (p := ⟨W.heap.size + 1 + 1, 1, none⟩) n3).trans x5; have z4 := (hb7.frozen (p := ⟨W.heap.size + 1 + 1, 0, none⟩) n3).trans y4; have z5 := (hb7.frozen (p := ⟨W.heap.size + 1 + 1, 1, none⟩) n3).trans y5; have HA7 := hide hA7; have HB7 : Hid (Below W.heap.size W w7) := hide ((unhide HB6).trans ((below_drew hb7).mono (unhide HB6).size)); have n7 := hb7.size; clear hA7 hb7)
          all_goals
            go_wp2_with fail
            exact bodyPost_ret (v := .tuple #[.agg #[.slice t1 t2 t3, .slice u1 u2 u3], .int .i64 0]) (by simp [results, Tryz.results203, go_sem, q4, q5]) rfl ⟨_, _, _, _, _, _, rfl, (fin_ok (unhide HB7) (unhide HA7)).1, (fin_ok (unhide HB7) (unhide HA7)).2⟩
    · have hrow' : ((s2 : Int) == 1) = false := by rw [beq_eq_false_iff_ne]; omega
      have hr' : r = (eArr, 5) := by
        rw [← unhide HR]
        unfold dropP
        rw [if_pos (Or.inr (by rw [← (unhide HS2L).2]; exact hrow))]
      subst hr'
      clear hS5 hrow
      go_wp2_with fail
      exact bodyPost_ret (v := .tuple #[.agg #[.slice none 0 0, .slice none 0 0], .int .i64 5]) (by simp [results, Tryz.results203, go_sem, x4, x5]) rfl ⟨_, _, _, _, _, _, rfl, e_arr _ _, (fin_ok (P := P) (unhide HBz) (e_arr _ _)).2⟩
  · have hsc' : ((sn : Int) == 0) = false := by rw [beq_eq_false_iff_ne]; omega
    have hr' : r = (eArr, 5) := by
      rw [← unhide HR]
      unfold dropP
      rw [if_pos (Or.inl (by rw [← unhide HSN]; exact hsc))]
    subst hr'
    clear hsc
    go_wp2_with fail
    exact bodyPost_ret (v := .tuple #[.agg #[.slice none 0 0, .slice none 0 0], .int .i64 5]) (by simp [results, Tryz.results203, go_sem, x4, x5]) rfl ⟨_, _, _, _, _, _, rfl, e_arr _ _, (fin_ok (P := P) (unhide HBz) (e_arr _ _)).2⟩
theorem dropL_len (x : Int) (xs : List Int) : (dropL x xs).length ≤ xs.length := by
  unfold dropL
  split <;> simp
theorem dropL_mem {x : Int} {xs : List Int} {c : Int} (h : c ∈ dropL x xs) : c ∈ xs := by
  unfold dropL at h
  split at h
  · exact List.mem_of_mem_drop h
  · exact List.mem_of_mem_take h
theorem drop_two : TwoC ⟨#[100, 114, 111, 112]⟩ dropP := ⟨fun w => (find_two (t := ⟨#[100, 114, 111, 112]⟩) (k1 := .string [114, 111, 112]) (k2 := .string [100, 114, 111, 112]) (f := 203) (by decide) (by kernel_rfl) (by kernel_rfl) (by kernel_rfl) (by kernel_rfl) (by kernel_rfl) w).mono (by rintro e w' ⟨rfl, hb⟩; exact ⟨203, #[], rfl, Tryz.enters203, hb, drop_fn w'⟩), fun a b ha hb => by
  unfold dropP
  split
  · exact ⟨by simp [eArr], fun h => absurd h (by decide)⟩
  · have hl := dropL_len (a.cells.headD 0) b.cells
    have hf := hb.few
    exact ⟨by show (dropL _ _).length ≤ 200; omega, fun _ => ⟨by simp, fun n hn => by rw [List.mem_singleton.1 hn]; omega, by simp [prodL], by show (dropL _ _).length ≤ 200; omega, fun c hc => hb.fits c (dropL_mem hc)⟩⟩⟩
end Go.Proofs.YtjobgpahajhbnaaGreatDoor
namespace Go.Proofs.YtjobgpahajhbnaaGreatDoor
open Go.RowKit Go.Proofs Go.Maps
attribute [local go_sem ↓] Go.wp_at_zero Go.wp_at_succ

set_option maxHeartbeats 1000000 in
set_option maxRecDepth 20000 in
theorem last_any {P : Nat → Prop} (w : World) (so : Option Addr) (sn sc : Nat) (co : Option Addr) (cn cc : Nat) (a : Arr) (ha : IsArr P w (.agg #[.slice so sn sc, .slice co cn cc]) a) (sh : List Nat) (len : Nat) (hs : a.shape = sh ++ [len]) (h3 : sh.length ≤ 3) :
    Calls Tryz.prog 234 #[.agg #[.slice so sn sc, .slice co cn cc]] w fun e w' => e = .returned (.int .i64 len) ∧ Below w.heap.size w w' := by
  have hsn := (isArr_len ha).2
  rw [hs] at hsn
  simp at hsn
  obtain ⟨so', sn', sc', co', cn', cc', hv, h1, h2⟩ := ha
  injection hv with hv
  simp at hv
  obtain ⟨⟨rfl, rfl, rfl⟩, rfl, rfl, rfl⟩ := hv
  rw [hs] at h1
  obtain ⟨b, off, rfl, hb, hc, -⟩ := h1.at (k := sh.length) (by simp)
  simp at hc
  have hc2 : (w.alloc (.cells #[.slice (some ⟨b, off, none⟩) sn sc, .slice co cn cc] 89)).cell? ⟨b, off + sh.length, none⟩ = some (.int .i64 len) := by rw [World.cell?_alloc_lt _ _ _ hb]; exact hc
  have hc3 : ((w.alloc (.cells #[.slice (some ⟨b, off, none⟩) sn sc, .slice co cn cc] 89)).alloc (.cells #[.slice (some ⟨b, off, none⟩) sn sc, .slice co cn cc] 89)).cell? ⟨b, off + sh.length, none⟩ = some (.int .i64 len) := by rw [World.cell?_alloc_lt _ _ _ (by simp; omega)]; exact hc2
  obtain ⟨k, hk⟩ : ∃ k, sh.length = k := ⟨_, rfl⟩
  rw [hk] at hsn hc2 hc3 h3
  have HR := hide (fun w' => rank_any w' (some ⟨b, off, none⟩) sn sc co cn cc)
  have hk0 : (0 : Int) ≤ (k : Int) := by omega
  have hk1 : (k : Int) < (sn : Int) := by omega
  have hw1 : IntKind.i64.wrap ((sn : Int) - 1) = (k : Int) := by
    have e : ((sn : Int) - 1) = (k : Int) := by omega
    rw [e]
    exact wrap_pos (by omega) (by omega)
  clear hsn
  clear h1 h2 hs hk hc
  go_enter Tryz.func234, Tryz.ntmps234
  go_wp2_with fail
  go_region_with (first | (go_at_call 221; refine (unhide HR _).mono ?_; rintro e w' ⟨rfl, rfl⟩))
  all_goals
    go_wp2_with fail
    refine bodyPost_ret (v := .int .i64 len) (by simp [results, Tryz.results234, go_sem]) rfl ⟨rfl, ?_⟩
    first
    | exact ((Below.refl _ _).alloc (Nat.le_refl _) _).drew.alloc (by simp) _
    | trace_state
theorem nums_take_any {P : Nat → Prop} {w : World} {ao : Option Addr} {n cap : Nat} {xs : List Int} (h : Nums P w (.slice ao n cap) xs) {k : Nat} (hk : k ≤ n) : Nums P w (.slice ao k cap) (xs.take k) := by
  have hn := nums_len h
  obtain ⟨ao', cap', hv, hcap, h1, h2⟩ := h
  injection hv with e1 e2 e3
  subst e1 e3
  have hkl : k ≤ xs.length := by omega
  refine ⟨ao, cap, by simp [Nat.min_eq_left hkl], by simp; omega, fun h0 => ?_, h2⟩
  have h0' : 0 < xs.length := by simp at h0; omega
  obtain ⟨b, off, ha, hp, hl, hc⟩ := h1 h0'
  refine ⟨b, off, ha, hp, hl, fun i hi => ?_⟩
  simp at hi
  rw [hc i (by omega)]
  simp
theorem nums_cap {P : Nat → Prop} {w : World} {ao : Option Addr} {n cap : Nat} {xs : List Int} (h : Nums P w (.slice ao n cap) xs) : n ≤ cap := by
  obtain ⟨ao', cap', hv, hcap, _⟩ := h
  injection hv with e1 e2 e3
  omega
theorem nums_none {P : Nat → Prop} {w : World} {n cap : Nat} {xs : List Int} (h : Nums P w (.slice none n cap) xs) : n = 0 := by
  obtain ⟨ao', cap', hv, hcap, h1, _⟩ := h
  injection hv with e1 e2 e3
  by_cases h0 : 0 < xs.length
  · obtain ⟨b, off, ha, _⟩ := h1 h0
    rw [ha] at e1
    cases e1
  · omega
theorem nums_spot {P : Nat → Prop} {w : World} {b off : Nat} {spot : Option Nat} {n cap : Nat} {xs : List Int} (h : Nums P w (.slice (some ⟨b, off, spot⟩) n cap) xs) : spot = none := by
  obtain ⟨ao', cap', hv, hcap, h1, h2⟩ := h
  injection hv with e1 e2 e3
  exact h2 _ e1.symm
def lineL (xs : List Int) (len i : Nat) : List Int := (xs.drop (i * len)).take len
set_option maxHeartbeats 1000000 in
set_option maxRecDepth 20000 in
theorem aline_any {P : Nat → Prop} (w : World) (so : Option Addr) (sn sc : Nat) (co : Option Addr) (cn cc : Nat) (a : Arr) (ha : IsArr P w (.agg #[.slice so sn sc, .slice co cn cc]) a) (sh : List Nat) (len : Nat) (hs : a.shape = sh ++ [len]) (h3 : sh.length ≤ 3) (i : Nat) (hi : (i + 1) * len ≤ a.cells.length) (hil : i ≤ 100000000) (hll : len ≤ 1000) (hfew : a.cells.length ≤ 1000) :
    Calls Tryz.prog 257 #[.agg #[.slice so sn sc, .slice co cn cc], .int .i64 i] w fun e w' => ∃ o n c, e = .returned (.slice o n c) ∧ Nums P w' (.slice o n c) (lineL a.cells len i) ∧ Below w.heap.size w w' := by
  have HL := hide (fun w' (hb : Below w.heap.size w w') => last_any w' so sn sc co cn cc a (ha.below hb) sh len hs h3)
  have hN := isArr_cells ha
  have hcn := nums_len hN
  have hcap := nums_cap hN
  obtain ⟨lo, hlo⟩ : ∃ lo, i * len = lo := ⟨_, rfl⟩
  obtain ⟨i1, hi1⟩ : ∃ k, i + 1 = k := ⟨_, rfl⟩
  obtain ⟨up, hup⟩ : ∃ h, i1 * len = h := ⟨_, rfl⟩
  have hsum : up = lo + len := by rw [← hup, ← hlo, ← hi1, Nat.add_mul, Nat.one_mul]
  rw [hi1, hup] at hi
  have hl0 : (0 : Int) ≤ (lo : Int) := by omega
  have hl1 : (lo : Int) ≤ (up : Int) := by omega
  have hl2 : (up : Int) ≤ (cc : Int) := by omega
  have hl3 : lo ≤ up := by omega
  have hl4 : up ≤ cc := by omega
  have hl5 : up - lo = len := by omega
  have hw0 : IntKind.i64.wrap ((i : Int) + 1) = (i1 : Int) := by
    have e : (i : Int) + 1 = (i1 : Int) := by omega
    rw [e]
    exact wrap_pos (by omega) (by omega)
  have hw1 : IntKind.i64.wrap ((i : Int) * (len : Int)) = (lo : Int) := by
    rw [← Int.natCast_mul, hlo]
    exact wrap_pos hl0 (by omega)
  have hw2 : IntKind.i64.wrap ((i1 : Int) * (len : Int)) = (up : Int) := by
    rw [← Int.natCast_mul, hup]
    exact wrap_pos (by omega) (by omega)
  have HN := hide hN
  have HLO := hide hlo
  have H5 := hide hl5
  obtain ⟨ys, hys⟩ : ∃ ys, lineL a.cells len i = ys := ⟨_, rfl⟩
  rw [hys]
  have HYS := hide hys
  have hcn2 : up ≤ cn := by omega
  clear ha hN hlo hup hsum hi1 hys hl5 hs hcn hil hll hi
  rcases co with _ | ⟨cb, coff, spot⟩
  · have hz := nums_none (unhide HN)
    subst hz
    have hu : up = 0 := by omega
    subst hu
    have hlz : lo = 0 := by omega
    subst hlz
    have hlen : len = 0 := by have := unhide H5; omega
    have HR : Hid (ys = []) := hide (by rw [← unhide HYS]; unfold lineL; rw [hlen]; simp)
    clear hlen
    go_enter Tryz.func257, Tryz.ntmps257
    go_wp2_with (go_at_call 234; refine (unhide HL _ ((Below.refl _ _).alloc (Nat.le_refl _) _)).mono ?_; rintro e w1 ⟨rfl, hb1⟩; have HB := hide hb1; obtain ⟨hc, -⟩ := bcell hb1; have d1 := hc w.heap.size 1 (by simp); (try simp at d1); have hs1 := hb1.size; (try simp at hs1); clear hb1 hc)
    refine bodyPost_ret (v := .slice none 0 cc) (by simp [results, Tryz.results257, go_sem]) rfl ⟨_, _, _, rfl, ?_, ((Below.refl _ _).alloc (Nat.le_refl _) _).trans ((unhide HB).mono (by simp))⟩
    rw [unhide HR]
    exact ⟨_, _, rfl, by simp, fun h => absurd h (by simp), fun a h => by cases h⟩
  · have hsp := nums_spot (unhide HN)
    subst hsp
    obtain ⟨ad, had⟩ : ∃ ad : Option Addr, (if cc = lo then some ⟨cb, coff, none⟩ else some ⟨cb, coff + lo, none⟩) = ad := ⟨_, rfl⟩
    have HR : Hid (Nums P w (.slice ad (up - lo) (cc - lo)) ys) := hide (by
      have h1 := nums_drop_at (unhide HN) (k := lo) (by omega)
      rw [had] at h1
      have h2 := nums_take_any h1 (k := up - lo) (by omega)
      rw [← unhide HYS]
      unfold lineL
      rw [unhide HLO]
      rw [unhide H5] at h2 ⊢
      exact h2)
    go_enter Tryz.func257, Tryz.ntmps257
    go_wp2_with (go_at_call 234; refine (unhide HL _ ((Below.refl _ _).alloc (Nat.le_refl _) _)).mono ?_; rintro e w1 ⟨rfl, hb1⟩; have HB := hide hb1; obtain ⟨hc, -⟩ := bcell hb1; have d1 := hc w.heap.size 1 (by simp); (try simp at d1); have hs1 := hb1.size; (try simp at hs1); clear hb1 hc)
    exact bodyPost_ret (v := .slice ad (up - lo) (cc - lo)) (by simp [results, Tryz.results257, go_sem]) rfl ⟨_, _, _, rfl, (unhide HR).below (((Below.refl _ _).alloc (Nat.le_refl _) _).trans ((unhide HB).mono (by simp))), ((Below.refl _ _).alloc (Nat.le_refl _) _).trans ((unhide HB).mono (by simp))⟩
theorem clone_own {Q : Nat → Prop} (w : World) (ao : Option Addr) (n cap : Nat) (xs : List Int) (h : Nums Q w (.slice ao n cap) xs) (hx : xs.length ≤ 200) (h0 : 0 < n) :
    Calls Tryz.prog 79 #[.slice ao n cap] w fun e w' => ∃ g c, e = .returned (.slice (some ⟨g, 0, none⟩) n c) ∧ w'.ownsRow w.heap.size 3 1 (.slice (some ⟨g, 0, none⟩) n c) n (xs.map (Value.int .i64)) ∧ Below w.heap.size w w' := by
  have hn := nums_len h
  obtain ⟨ao', cap', hv, _, hcell, hspot⟩ := h
  injection hv with e1 e2 e3
  subst e1 e3
  obtain ⟨b, off, rfl, _, _, hc⟩ := hcell (by omega)
  obtain ⟨i0, hi, hz0, hz1, hz2⟩ := info_parts Tryz.info3
  refine (Tryz.slices_Clone_f79 i0 (.int .i64 0) 1 8 hi hz0 hz1 hz2 rfl (by decide) (fun w => by kernel_rfl) b off n cap (xs.map (Value.int .i64)) w (by simp [hn]) (by unfold maxLen; omega) (by omega) ?_ ?_).mono ?_
  · intro j u hu
    obtain ⟨hj, rfl⟩ := maps_get hu
    exact hc j hj
  · intro u hu
    obtain ⟨y, _, rfl⟩ := List.mem_map.1 hu
    rfl
  · rintro e w' ⟨v', rfl, hown, _, hb⟩
    obtain ⟨hl, ⟨rfl, hz⟩ | ⟨g, c, cur, rfl, r⟩⟩ := hown
    · omega
    · exact ⟨g, c, rfl, ⟨hl, .inr ⟨g, c, cur, rfl, r⟩⟩, hb⟩
theorem eq_any {Q Q' : Nat → Prop} (w : World) (o1 : Option Addr) (n c : Nat) (o2 : Option Addr) (d : Nat) (l r : List Nat) (h1 : Nums Q w (.slice o1 n c) (l.map Int.ofNat)) (h2 : Nums Q' w (.slice o2 n d) (r.map Int.ofNat)) (hn : n ≤ 200) :
    Calls Tryz.prog 256 #[.slice o1 n c, .slice o2 n d] w fun e w' => e = .returned (.bool (l == r)) ∧ Below w.heap.size w w' := by
  have l1 := nums_len h1
  have l2 := nums_len h2
  simp at l1 l2
  by_cases h0 : n = 0
  · subst h0
    have e1 : l = [] := List.eq_nil_of_length_eq_zero l1.symm
    have e2 : r = [] := List.eq_nil_of_length_eq_zero l2.symm
    subst e1 e2
    refine (Tryz.slices_Equal_int_empty o1 o2 c 0 d w (by omega)).mono ?_
    rintro e w' ⟨rfl, rfl⟩
    exact ⟨rfl, Below.refl _ _⟩
  · have p1 : 0 < (l.map Int.ofNat).length := by simp; omega
    have p2 : 0 < (r.map Int.ofNat).length := by simp; omega
    have p3 : n ≤ (l.map Int.ofNat).length := by simp; omega
    have p4 : n ≤ (r.map Int.ofNat).length := by simp; omega
    have p5 : (l.map Int.ofNat).length ≤ n := by simp; omega
    have p6 : (r.map Int.ofNat).length ≤ n := by simp; omega
    have p7 : n ≤ 9223372036854775807 := by omega
    obtain ⟨ao, cap, hv, _, hc, _⟩ := h1
    obtain ⟨b, off, rfl, _, _, hcell⟩ := hc p1
    injection hv with e1 e2 e3
    subst e1
    obtain ⟨ao2, cap2, hv2, _, hc2, _⟩ := h2
    obtain ⟨b2, off2, rfl, _, _, hcell2⟩ := hc2 p2
    injection hv2 with e1 e2 e3
    subst e1
    refine (Tryz.slices_Equal_int b off n c b2 off2 n d (l.map Int.ofNat) (r.map Int.ofNat) w p3 p4 p7 p7 (fun j hj => by rw [hcell j hj, List.getD_eq_getElem?_getD, List.getElem?_eq_getElem hj]; rfl) (fun j hj => by rw [hcell2 j hj, List.getD_eq_getElem?_getD, List.getElem?_eq_getElem hj]; rfl)).mono ?_
    rintro e w' ⟨rfl, q, rfl⟩
    refine ⟨?_, ⟨rfl, rfl, rfl, Nat.le_refl _, fun _ _ => rfl⟩⟩
    rw [List.take_of_length_le p5, List.take_of_length_le p6]
    congr 2
    rw [Bool.eq_iff_iff]
    simp only [beq_iff_eq]
    constructor
    · intro h
      exact List.map_inj_right (fun _ _ h => Int.ofNat.inj h) |>.1 h
    · rintro rfl
      rfl
end Go.Proofs.YtjobgpahajhbnaaGreatDoor
namespace Go.Proofs.YtjobgpahajhbnaaGreatDoor
open Go.RowKit Go.Proofs Go.Maps
attribute [local go_sem ↓] Go.wp_at_zero Go.wp_at_succ

theorem Tryz.enters202 : Enters Tryz.prog 202 := Go.Proofs.enters_of Tryz.func202 (by decide) rfl
def takeL (x : Int) (xs : List Int) : List Int := if 0 ≤ x then xs.take x.toNat ++ List.replicate (x.toNat - xs.length) 0 else List.replicate ((-x).toNat - xs.length) 0 ++ xs.drop (xs.length - (-x).toNat)
def takeP (a b : Arr) : Arr × Int := if a.shape.length ≠ 0 ∨ (rowed b).shape.length ≠ 1 then (eArr, 5) else if 64 < a.cells.headD 0 ∨ a.cells.headD 0 < -64 then (eArr, 9) else (⟨[(takeL (a.cells.headD 0) b.cells).length], takeL (a.cells.headD 0) b.cells⟩, 0)
theorem owns_all {w : World} {B g n : Nat} {e : TypeId} {xs : List Value} (h : w.ownsRow B e 1 (.slice (some ⟨g, 0, none⟩) n n) n xs) : w.heap[g]? = some (.cells xs.toArray e (0, 0)) ∧ xs.length = n := by
  obtain ⟨hl, ⟨h, _⟩ | ⟨g', cap, cur, hv, hg, hc, hn, hm, hz, ht⟩⟩ := h
  · cases h
  · injection hv with h1 h2 h3
    injection h1 with h1
    injection h1 with h1
    subst h1 h3
    have : cur = xs.toArray := by
      rw [← ht, List.take_of_length_le (by simp [hz])]
    subst this
    exact ⟨hc, by omega⟩
theorem nums_block {P : Nat → Prop} {w : World} {g n : Nat} {e : TypeId} {L : List Int} (h : w.heap[g]? = some (.cells (L.map (Value.int .i64)).toArray e (0, 0))) (hn : n = L.length) (hP : P g) : Nums P w (.slice (some ⟨g, 0, none⟩) n n) L := by
  subst hn
  refine ⟨some ⟨g, 0, none⟩, L.length, rfl, Nat.le_refl _, fun _ => ⟨g, 0, rfl, hP, (Array.getElem?_eq_some_iff.1 h).1, fun i hi => ?_⟩, fun a h => by cases h; rfl⟩
  rw [Nat.zero_add]
  exact row_cell h (by simp [hi])
theorem copy_any {Q : Nat → Prop} {w w1 : World} {g off dLen dCap : Nat} {co : Option Addr} {cn cc m : Nat} {xs : List Int} {cur : List Value} (hg : w1.heap[g]? = some (.cells cur.toArray 2 (0, 0))) (hs : Nums Q w1 (.slice co cn cc) xs) (hm : Nat.min cn dLen = m) (hfit : off + m ≤ cur.length) (hb : Below w.heap.size w w1) (hBg : w.heap.size ≤ g) :
    ∃ w2, (Builtin.copy_ #[32, 32] 3 #[.slice (some ⟨g, off, none⟩) dLen dCap, .slice co cn cc]).run Tryz.prog w1 = .ok (.int .i64 (m : Int)) w2 ∧ w2.heap[g]? = some (.cells (splice cur off ((xs.take m).map (Value.int .i64))).toArray 2 (0, 0)) ∧ Below w.heap.size w w2 := by
  have hl := nums_len hs
  by_cases h0 : m = 0
  · subst h0
    refine ⟨w1, run_copy_none (P := Tryz.prog) w1 32 32 3 2 _ _ dLen dCap cn cc Tryz.underlying32 Tryz.size2 hm, ?_, hb⟩
    rw [hg]
    simp [splice]
  · have hle : m ≤ cn := by rw [← hm]; exact Nat.min_le_left _ _
    obtain ⟨ao, cap, hv, hcap, h1, _⟩ := hs
    obtain ⟨b, o, rfl, _, hbl, hc⟩ := h1 (by omega)
    injection hv with e1 e2 e3
    subst e1
    have hcl : ((xs.take m).map (Value.int .i64)).length = m := by simp; omega
    have := copy_run (w := w) (w1 := w1) (g := g) (off := off) (dLen := dLen) (dCap := dCap) (ad := ⟨b, o, none⟩) (sLen := cn) (sCap := cc) (cur := cur) (cs := (xs.take m).map (Value.int .i64)) hg (by rw [hcl, hm]) (by
      intro j v hv
      obtain ⟨hj, rfl⟩ := maps_get hv
      simp at hj
      have e : (⟨b, o, none⟩ : Addr).add j = ⟨b, o + j, none⟩ := by cases j <;> simp [Addr.add]
      rw [e, hc j (by omega)]
      simp) (by rw [hcl]; exact hfit) ints_one hb hBg
    rw [hcl] at this
    exact this
theorem splice_take {n m : Nat} {xs : List Int} (hm : Nat.min xs.length n = m) : splice (List.replicate n (Value.int .i64 0)) 0 ((xs.take m).map (Value.int .i64)) = (takeL (n : Int) xs).map (Value.int .i64) := by
  have hm' : m = min xs.length n := hm.symm
  unfold splice takeL
  rw [if_pos (by omega)]
  have e : xs.take m = xs.take n := by
    rw [hm']
    by_cases h : xs.length ≤ n
    · rw [Nat.min_eq_left h, List.take_of_length_le (Nat.le_refl _), List.take_of_length_le h]
    · rw [Nat.min_eq_right (by omega)]
  rw [e]
  simp only [List.take_zero, List.nil_append, List.map_append, List.map_replicate, Int.toNat_natCast, List.drop_replicate, List.length_map, List.length_take]
  congr 2
  omega
theorem splice_last {n m off : Nat} {xs : List Int} (hm : Nat.min n xs.length = m) (ho : m ≠ 0 → off = n - m) (hon : off ≤ n) (hx : 0 < n) : splice (List.replicate n (Value.int .i64 0)) off (((xs.drop (xs.length - m)).take m).map (Value.int .i64)) = (takeL (-(n : Int)) xs).map (Value.int .i64) := by
  have hm' : m = min n xs.length := hm.symm
  have hml : m ≤ xs.length := by omega
  unfold takeL
  rw [if_neg (by omega), Int.neg_neg, Int.toNat_natCast]
  have e : (xs.drop (xs.length - m)).take m = xs.drop (xs.length - n) := by
    have e1 : xs.length - m = xs.length - n := by omega
    rw [e1, List.take_of_length_le (by simp; omega)]
  rw [e]
  by_cases h0 : m = 0
  · have hxe : xs = [] := List.eq_nil_of_length_eq_zero (by omega)
    subst hxe
    simp [splice]
    omega
  · rw [ho h0]
    unfold splice
    have e2 : n - m = n - xs.length := by omega
    simp only [List.take_replicate, List.map_append, List.map_replicate, List.drop_replicate, List.length_map, List.length_drop]
    rw [show min (n - m) n = n - xs.length by omega, show n - (n - m + (xs.length - (xs.length - n))) = 0 by omega]
    simp
set_option maxHeartbeats 2000000 in
set_option maxRecDepth 20000 in
theorem take_fn (w : World) : FnTwo 202 #[] w takeP := by
  intro W P u v a b _ hP ha hb hoa hob
  obtain ⟨so, sn, sc, co, cn, cc, rfl, ha1, ha2⟩ := ha
  obtain ⟨so2, sn2, sc2, co2, cn2, cc2, rfl, hb1, hb2⟩ := hb
  have hsn := nums_len ha1
  simp at hsn
  have HSN := hide hsn
  have hS0 := St.start (P := P) (W := W) (a := a) (b := b) ⟨so, sn, sc, co, cn, cc, rfl, ha1, ha2⟩ ⟨so2, sn2, sc2, co2, cn2, cc2, rfl, hb1, hb2⟩
  obtain ⟨W1, hW1⟩ : ∃ W1, ((W.alloc (.cells #[.slice so sn sc, .slice co cn cc] 89)).alloc (.cells #[.slice so2 sn2 sc2, .slice co2 cn2 cc2] 89)).alloc (.cells #[.slice none 0 0, .slice none 0 0] 89) = W1 := ⟨_, rfl⟩
  rw [hW1] at hS0
  have HS0 := hide hS0
  have HOff : Hid (∀ w' : World, W.heap.size + 1 + 1 < w'.heap.size → ∀ b, w'.heap.size ≤ b → Off3 W.heap.size P b) := hide (fun w' h b hb => ⟨hP b (by omega), .inr (by omega)⟩)
  have HL := hide (least_any (Off3 W.heap.size P) W1 (unhide HOff W1 hS0.lt) so2 sn2 sc2 co2 cn2 cc2 b hS0.isB)
  have HScal := hide (fun w' => (isScalar_any w' so sn sc co cn cc).mono (fun e w'' h => (⟨h.1, by rw [h.2]; exact ((Below.refl _ _).alloc (Nat.le_refl _) _).alloc (by simp) _⟩ : e = .returned (.bool ((sn : Int) == 0)) ∧ Below w'.heap.size w' w'')))
  have HP : Hid (∀ b, W.heap.size ≤ b → P b) := hP
  have HOA := hide hoa
  have HOB := hide (rowed_ok hob)
  have HBC := hide (rowed_cells b)
  obtain ⟨r, hr⟩ : ∃ r, takeP a b = r := ⟨_, rfl⟩
  simp only [hr]
  have HR := hide hr
  have b0' := hS0.b0
  have b1' := hS0.b1
  clear hP hoa hob ha1 ha2 hb1 hb2 hr hsn hS0
  go_enter Tryz.func202, Tryz.ntmps202
  go_wp2_with fail
  try rw [hW1]
  clear hW1 b0' b1'
  refine (unhide HL).mono ?_
  rintro e w2 ⟨s1, s2, s3, c1, c2, c3, rfl, hB2, hb2⟩
  have hS2 := (unhide HS0).keep hb2
  have hS3 := hS2.setB hB2
  have HS3 := hide hS3
  have HS2L := hide (isArr_len hB2)
  have x0 := hS2.a0
  have x1 := hS2.a1
  have x2 := hS2.b0
  have x3 := hS2.b1
  have y2 := hS2.fr (W.heap.size + 1) 0 (by omega) (by omega)
  have y3 := hS2.fr (W.heap.size + 1) 1 (by omega) (by omega)
  have n3 := hS2.lt
  have n1 : W.heap.size < w2.heap.size := by omega
  have n2 : W.heap.size + 1 < w2.heap.size := by omega
  clear hS2 hS3 hB2 hb2 HL HS0
  go_wp2_with fail
  obtain ⟨w3, hw3⟩ : ∃ w3, (w2.setCell ⟨W.heap.size + 1, 0, none⟩ (.slice s1 s2 s3)).setCell ⟨W.heap.size + 1, 1, none⟩ (.slice c1 c2 c3) = w3 := ⟨_, rfl⟩
  rw [hw3] at HS3 ⊢
  clear hw3 x0 x1 x2 x3 y2 y3 n1 n2 n3
  refine (unhide HScal _).mono ?_
  rintro e w4 ⟨rfl, hb4⟩
  have hS4 := (unhide HS3).keep hb4
  have HS4 := hide hS4
  have x0 := hS4.a0
  have x1 := hS4.a1
  have x2 := hS4.b0
  have x3 := hS4.b1
  have x4 := hS4.r0
  have x5 := hS4.r1
  have y4 := hS4.fr (W.heap.size + 1 + 1) 0 (by omega) (by omega)
  have y5 := hS4.fr (W.heap.size + 1 + 1) 1 (by omega) (by omega)
  have n3 := hS4.lt
  have n1 : W.heap.size < w4.heap.size := by omega
  have n2 : W.heap.size + 1 < w4.heap.size := by omega
  have HBz := hide hS4.below
  clear hS4 hb4 HS3 HScal
  by_cases hsc : sn = 0
  · have hsc' : ((sn : Int) == 0) = true := by rw [hsc]; rfl
    have HSC := hide hsc
    clear hsc
    go_wp2_with fail
    refine (isRow_any _ s1 s2 s3 c1 c2 c3).mono ?_
    rintro e w5 ⟨rfl, hw5⟩
    have hb5 : Below w4.heap.size w4 w5 := by rw [hw5]; exact ((Below.refl _ _).alloc (Nat.le_refl _) _).alloc (by simp) _
    clear hw5
    have hS5 := (unhide HS4).keep hb5
    have HS5 := hide hS5
    clear x0 x1 x2 x3 x4 x5 y4 y5 n1 n2 n3
    have x0 := hS5.a0
    have x1 := hS5.a1
    have x2 := hS5.b0
    have x3 := hS5.b1
    have x4 := hS5.r0
    have x5 := hS5.r1
    have y4 := hS5.fr (W.heap.size + 1 + 1) 0 (by omega) (by omega)
    have y5 := hS5.fr (W.heap.size + 1 + 1) 1 (by omega) (by omega)
    have n3 := hS5.lt
    have n1 : W.heap.size < w5.heap.size := by omega
    have n2 : W.heap.size + 1 < w5.heap.size := by omega
    have HBz := hide hS5.below
    clear hb5 HS4
    by_cases hrow : s2 = 1
    · have hrow' : ((s2 : Int) == 1) = true := by rw [hrow]; rfl
      have hash : a.shape = [] := List.eq_nil_of_length_eq_zero (by rw [← unhide HSN]; exact unhide HSC)
      obtain ⟨x, ab, ao, hax, hcn1, hco, _, hal, hac, hacc⟩ := scalar_cell (isArr_cells hS5.isA) (unhide HOA) hash
      subst hco
      have hBc := isArr_cells hS5.isB
      rw [unhide HBC] at hBc
      have hc2 := nums_len hBc
      obtain ⟨xs, hxs⟩ : ∃ xs, b.cells = xs := ⟨_, rfl⟩
      rw [hxs] at hBc hc2
      have hfew : xs.length ≤ 200 := by rw [← hxs, ← rowed_cells b]; exact (unhide HOB).few
      have hr' : r = if 64 < x ∨ x < -64 then (eArr, 9) else (⟨[(takeL x xs).length], takeL x xs⟩, 0) := by
        rw [← unhide HR]
        unfold takeP
        rw [if_neg (by rw [hash, ← (unhide HS2L).2, hrow]; simp), hax, hxs]
        rfl
      have hx64 := (unhide HOA).fits x (by rw [hax]; simp)
      subst hcn1
      have HBC2 := hide hBc
      have hcc3 : c2 ≤ c3 := by
        obtain ⟨ao', cap', hv, hcap, _, _⟩ := hBc
        injection hv with e1 e2 e3
        omega
      clear hS5 hash hax hxs HBC HOB HOA HR HSC HS2L HSN hBc hrow
      have HC2 := hide hc2
      clear hc2
      have hx1 := hx64.1
      have hx2 := hx64.2
      obtain ⟨i0, hi, hz0, hz1, hz2⟩ := info_parts Tryz.info2
      have HI := hide hi
      have HZ0 := hide hz0
      have HZ1 := hide hz1
      have HZ2 := hide hz2
      clear hx64 hi hz0 hz1 hz2
      by_cases hb1 : 64 < x
      · rw [if_pos (Or.inl hb1)] at hr'
        subst hr'
        go_wp2_with fail
        exact bodyPost_ret (v := .tuple #[.agg #[.slice none 0 0, .slice none 0 0], .int .i64 9]) (by simp [results, Tryz.results202, go_sem, x4, x5]) rfl ⟨_, _, _, _, _, _, rfl, e_arr _ _, (fin_ok (P := P) (unhide HBz) (e_arr _ _)).2⟩
      · by_cases hb2 : x < -64
        · rw [if_pos (Or.inr hb2)] at hr'
          subst hr'
          go_wp2_with fail
          exact bodyPost_ret (v := .tuple #[.agg #[.slice none 0 0, .slice none 0 0], .int .i64 9]) (by simp [results, Tryz.results202, go_sem, x4, x5]) rfl ⟨_, _, _, _, _, _, rfl, e_arr _ _, (fin_ok (P := P) (unhide HBz) (e_arr _ _)).2⟩
        · rw [if_neg (by omega)] at hr'
          obtain ⟨ys, hys⟩ : ∃ ys, takeL x xs = ys := ⟨_, rfl⟩
          rw [hys] at hr'
          subst hr'
          have HYS := hide hys
          clear hys
          by_cases hx0 : 0 ≤ x
          · obtain ⟨n, rfl⟩ : ∃ n : Nat, x = n := ⟨x.toNat, by omega⟩
            have hn64 : n ≤ 64 := by omega
            go_wp2_with (at_make; refine wpList_make_full _ rfl _ _ 32 rfl w5.heap.size 2 i0 (.int .i64 0) 1 Tryz.underlying32 (unhide HI) (unhide HZ0) (unhide HZ1) .i64 .i64 n n n rfl rfl rfl rfl ?c1 ?c2 (Nat.le_refl _) ?_)
            case c1 => rw [unhide HZ2]; omega
            case c2 => unfold maxLen; omega
            intro w6 hown hgr
            have hzl := toList_madeCells_one (.int .i64 0) (n * 1)
            rw [Nat.mul_one] at hzl
            have hown' : w6.ownsRow w5.heap.size 2 1 (.slice (some ⟨w5.heap.size, 0, none⟩) n n) n (List.replicate n (.int .i64 0)) := by
              rw [← hzl]
              simpa using hown
            obtain ⟨hg6, -⟩ := owns_all hown'
            have hb6 : Below w5.heap.size w5 w6 := (Below.refl _ _).grown hgr (Nat.le_refl _) (fun _ h => by cases h)
            obtain ⟨m, hm⟩ : ∃ m, Nat.min c2 n = m := ⟨_, rfl⟩
            obtain ⟨w7, hrun, hg7, hb7⟩ := copy_any (w := w5) (w1 := w6) (g := w5.heap.size) (off := 0) (dLen := n) (dCap := n) (m := m) hg6 ((unhide HBC2).below hb6) hm (by have : Nat.min c2 n ≤ n := Nat.min_le_right _ _; simp; omega) hb6 (Nat.le_refl _)
            have hS6 := (unhide HS5).keep hb6
            have hS7 := (unhide HS5).keep hb7
            rw [splice_take (by rw [← unhide HC2]; exact hm), unhide HYS] at hg7
            have hyl : n = ys.length := by
              rw [← unhide HYS]
              unfold takeL
              rw [if_pos hx0]
              simp
              omega
            have HN7 : Hid (Nums (Off3 W.heap.size P) w7 (.slice (some ⟨w5.heap.size, 0, none⟩) n n) ys) := hide (nums_block hg7 hyl (unhide HOff w5 n3 _ (Nat.le_refl _)))
            have n7 := hb7.size
            have HRW := hide (row_any (Off3 W.heap.size P) w7 (unhide HOff w7 (by omega)) _ ys (unhide HN7))
            have HS7 := hide hS7
            clear x0 x1 x2 x3 x4 x5 y4 y5
            have x2 := hS6.b0
            have x3 := hS6.b1
            have n6 := hS6.lt
            have n61 : W.heap.size + 1 < w6.heap.size := by omega
            clear hzl hown hown' hg6 hb6 hS6 hS7 hg7 hb7 hm hgr hyl HYS HN7 HBC2 HS5 hac
            go_wp2_with fail
            refine (unhide HRW).mono ?_
            rintro e w8 ⟨t1, t2, t3, u1, u2, u3, rfl, hA8, hb8⟩
            have hS8 := (unhide HS7).keep hb8
            have HA8 := hide hA8
            have q4 := hS8.r0
            have q5 := hS8.r1
            have z4 := hS8.fr (W.heap.size + 1 + 1) 0 (by omega) (by omega)
            have z5 := hS8.fr (W.heap.size + 1 + 1) 1 (by omega) (by omega)
            have n8 := hS8.lt
            have HB8 := hide hS8.below
            clear hS8 hA8 hb8 HRW HS7 x2 x3
            go_wp2_with fail
            exact bodyPost_ret (v := .tuple #[.agg #[.slice t1 t2 t3, .slice u1 u2 u3], .int .i64 0]) (by simp [results, Tryz.results202, go_sem, q4, q5]) rfl ⟨_, _, _, _, _, _, rfl, (fin_ok (unhide HB8) (unhide HA8)).1, (fin_ok (unhide HB8) (unhide HA8)).2⟩
          · obtain ⟨n, hxn⟩ : ∃ n : Nat, -x = n := ⟨(-x).toNat, by omega⟩
            have hn64 : n ≤ 64 := by omega
            have hn0 : 0 < n := by omega
            have hx0' : x < 0 := by omega
            have hxe : x = -(n : Int) := by omega
            have HXE := hide hxe
            have hni : (0 : Int) ≤ (n : Int) := by omega
            have hng : IntKind.i64.wrap (-x) = (n : Int) := by
              rw [hxn]
              exact wrap_pos (by omega) (by omega)
            clear hxe hxn
            go_wp2_with (at_make; refine wpList_make_full _ rfl _ _ 32 rfl w5.heap.size 2 i0 (.int .i64 0) 1 Tryz.underlying32 (unhide HI) (unhide HZ0) (unhide HZ1) .i64 .i64 n n n rfl rfl rfl rfl ?c1 ?c2 (Nat.le_refl _) ?_)
            case c1 => rw [unhide HZ2]; omega
            case c2 => unfold maxLen; omega
            intro w6 hown hgr
            have hzl := toList_madeCells_one (.int .i64 0) (n * 1)
            rw [Nat.mul_one] at hzl
            have hown' : w6.ownsRow w5.heap.size 2 1 (.slice (some ⟨w5.heap.size, 0, none⟩) n n) n (List.replicate n (.int .i64 0)) := by
              rw [← hzl]
              simpa using hown
            obtain ⟨hg6, -⟩ := owns_all hown'
            have hb6 : Below w5.heap.size w5 w6 := (Below.refl _ _).grown hgr (Nat.le_refl _) (fun _ h => by cases h)
            have hS6 := (unhide HS5).keep hb6
            have HS6 := hide hS6
            have HG6 := hide hg6
            have HB6 := hide hb6
            clear x0 x1 x2 x3 x4 x5 y4 y5
            have x2 := hS6.b0
            have x3 := hS6.b1
            have n6 := hS6.lt
            have n61 : W.heap.size + 1 < w6.heap.size := by omega
            obtain ⟨th, hth⟩ : ∃ th, Nat.min n c2 = th := ⟨_, rfl⟩
            have hth' : min n c2 = th := hth
            have hmin : min (n : Int) (c2 : Int) = (th : Int) := by omega
            have htn : th ≤ n := by omega
            have htc : th ≤ c2 := by omega
            have HTH := hide hth
            clear hzl hown hown' hg6 hb6 hS6 hgr hac hth hth'
            go_wp2_with (go_at_call 156; refine (size_any _ s1 s2 s3 c1 c2 c3).mono ?_; rintro e w7 ⟨rfl, hw7⟩; have hb7 : Below w6.heap.size w6 w7 := (by rw [hw7]; exact (Below.refl _ _).alloc (Nat.le_refl _) _); clear hw7; have hS7 := (unhide HS6).keep hb7; have X2 := hS7.b0; have X3 := hS7.b1; have N7 := hS7.lt)
            have HB7 : Hid (Below w5.heap.size w5 w7) := hide ((unhide HB6).trans (hb7.mono (unhide HB6).size))
            have n56 := (unhide HB6).size
            have HG7 : Hid (w7.heap[w5.heap.size]? = some (.cells (List.replicate n (Value.int .i64 0)).toArray 2 (0, 0))) := hide ((hb7.block _ (Array.getElem?_eq_some_iff.1 (unhide HG6)).1).trans (unhide HG6))
            have hg7l : w5.heap.size < w7.heap.size := (Array.getElem?_eq_some_iff.1 (unhide HG7)).1
            have HN7 := hide ((unhide HBC2).below (unhide HB7))
            have N71 : W.heap.size + 1 < w7.heap.size := by omega
            obtain ⟨p, hp⟩ : ∃ p, n - th = p := ⟨_, rfl⟩
            obtain ⟨q, hq⟩ : ∃ q, c2 - th = q := ⟨_, rfl⟩
            have hc2l : c2 ≤ 200 := by rw [unhide HC2]; exact hfew
            have hp0 : (0 : Int) ≤ (p : Int) := by omega
            have hp1 : (p : Int) ≤ (n : Int) := by omega
            have hq0 : (0 : Int) ≤ (q : Int) := by omega
            have hq1 : (q : Int) ≤ (c2 : Int) := by omega
            have hpn : p ≤ n := by omega
            have hqn : q ≤ c2 := by omega
            obtain ⟨off, hoff, hoff1, hoff2⟩ : ∃ off : Nat, (if n = p then some (⟨w5.heap.size, 0, none⟩ : Addr) else some ⟨w5.heap.size, p, none⟩) = some ⟨w5.heap.size, off, none⟩ ∧ off + th ≤ n ∧ (th ≠ 0 → off = n - th) := by
              by_cases e : n = p
              · exact ⟨0, if_pos e, by omega, fun h => by omega⟩
              · exact ⟨p, if_neg e, by omega, fun h => hp.symm⟩
            have HPQ := hide (And.intro hp hq)
            have HOF := hide (And.intro hoff1 hoff2)
            have hyl : n = ys.length := by
              rw [← unhide HYS, unhide HXE]
              unfold takeL
              rw [if_neg (by omega)]
              simp
              omega
            have HYL := hide hyl
            have hw1 : IntKind.i64.wrap ((n : Int) - (th : Int)) = (p : Int) := by
              have e : (n : Int) - (th : Int) = (p : Int) := by omega
              rw [e]
              exact wrap_pos hp0 (by omega)
            have hw2 : IntKind.i64.wrap ((c2 : Int) - (th : Int)) = (q : Int) := by
              have e : (c2 : Int) - (th : Int) = (q : Int) := by omega
              rw [e]
              exact wrap_pos hq0 (by omega)
            have HHH := hide hS7
            clear hp hq hoff1 hoff2 hyl hb7 HB6 HG6 HBC2 HS6 x2 x3 n6 n61 hS7 hng hmin hx0' hx1 hx2 hfew
            have hcop : Hid (Nat.min (c2 - q) (n - p) = th) := hide (by
              have := unhide HPQ
              have h2 : Nat.min n c2 = th := unhide HTH
              have h3 : min n c2 = th := h2
              show min (c2 - q) (n - p) = th
              omega)
            rcases c1 with _ | ⟨cb, coff, spot⟩
            · obtain ⟨ao', cap', hv, hcap, h1, _⟩ := unhide HN7
              have hz : xs.length = 0 := by
                by_cases h : 0 < xs.length
                · obtain ⟨b', off', e1, _⟩ := h1 h
                  injection hv with e2
                  rw [e1] at e2
                  cases e2
                · omega
              have hc0 : c2 = 0 := by rw [unhide HC2]; exact hz
              subst hc0
              have ht0 : th = 0 := by omega
              subst ht0
              have hq0' : q = 0 := by omega
              subst hq0'
              have hpe : n = p := by have := (unhide HPQ).1; omega
              subst hpe
              have hw3 : IntKind.i64.wrap (n : Int) = (n : Int) := wrap_pos hp0 (by omega)
              have HNS : Hid (Nums (Off3 W.heap.size P) w7 (.slice none 0 c3) []) := hide ⟨_, _, rfl, by simp, fun h => absurd h (by simp), fun a h => by cases h⟩
              have hfin : Hid (splice (List.replicate n (Value.int .i64 0)) 0 ((([] : List Int).take 0).map (Value.int .i64)) = ys.map (Value.int .i64)) := hide (by
                rw [← unhide HYS, unhide HXE, List.eq_nil_of_length_eq_zero hz]
                have := splice_last (n := n) (m := 0) (off := 0) (xs := []) (by simp) (by simp) (by omega) hn0
                simpa using this)
              clear hv hcap h1 hz hw1 hw2 hoff
              go_region_with (go_at_call 156; refine (size_any _ s1 s2 s3 none 0 c3).mono ?_; rintro e w8 ⟨rfl, hw8⟩; have hb8 : Below w7.heap.size w7 w8 := (by rw [hw8]; exact (Below.refl _ _).drew.alloc (by simp) _); clear hw8; have hb58 := (unhide HB7).trans (hb8.mono (unhide HB7).size); obtain ⟨w9, hrun, hg9, hb9⟩ := copy_any (w := w5) (w1 := w8) (g := w5.heap.size) (off := 0) (dLen := 0) (dCap := 0) (m := 0) ((hb8.block w5.heap.size hg7l).trans (unhide HG7)) ((unhide HNS).below hb8) rfl (by simp) hb58 (Nat.le_refl _); have HG9 := hide hg9; have HB9 := hide hb9; clear hg9 hb9 hb58; have n8 := hb8.size; have X2' := (hb8.cell (p := ⟨W.heap.size + 1, 0, none⟩) N71).trans X2; have X3' := (hb8.cell (p := ⟨W.heap.size + 1, 1, none⟩) N71).trans X3; clear hb8)
              all_goals
                have hS9 := (unhide HS5).keep (unhide HB9)
                have HN9 : Hid (Nums (Off3 W.heap.size P) w9 (.slice (some ⟨w5.heap.size, 0, none⟩) n n) ys) := hide (nums_block (by rw [← unhide hfin]; exact unhide HG9) (unhide HYL) (unhide HOff w5 n3 _ (Nat.le_refl _)))
                have n9 := (unhide HB9).size
                have HRW := hide (row_any (Off3 W.heap.size P) w9 (unhide HOff w9 (by omega)) _ ys (unhide HN9))
                have HS9 := hide hS9
                clear hS9 HN9 HG9 HB9 hfin HNS X2 X3 X2' X3' hrun
                go_wp2_with fail
                refine (unhide HRW).mono ?_
                rintro e wz ⟨t1, t2, t3, u1, u2, u3, rfl, hA8, hb8⟩
                have hS8 := (unhide HS9).keep hb8
                have HA8 := hide hA8
                have q4 := hS8.r0
                have q5 := hS8.r1
                have z4 := hS8.fr (W.heap.size + 1 + 1) 0 (by omega) (by omega)
                have z5 := hS8.fr (W.heap.size + 1 + 1) 1 (by omega) (by omega)
                have nz := hS8.lt
                have HB8 := hide hS8.below
                clear hS8 hA8 hb8 HRW HS9
                go_wp2_with fail
                exact bodyPost_ret (v := .tuple #[.agg #[.slice t1 t2 t3, .slice u1 u2 u3], .int .i64 0]) (by simp [results, Tryz.results202, go_sem, q4, q5]) rfl ⟨_, _, _, _, _, _, rfl, (fin_ok (unhide HB8) (unhide HA8)).1, (fin_ok (unhide HB8) (unhide HA8)).2⟩
            · have hsp : spot = none := by
                obtain ⟨ao', cap', hv, hcap, h1, h2⟩ := unhide HN7
                injection hv with e2
                exact h2 _ e2.symm
              subst hsp
              obtain ⟨ad, had⟩ : ∃ ad : Option Addr, (if c3 = q then some ⟨cb, coff, none⟩ else some ⟨cb, coff + q, none⟩) = ad := ⟨_, rfl⟩
              have HNS : Hid (Nums (Off3 W.heap.size P) w7 (.slice ad (c2 - q) (c3 - q)) (xs.drop q)) := hide (by
                rw [← had]
                exact nums_drop_at (unhide HN7) hqn)
              have hfin : Hid (splice (List.replicate n (Value.int .i64 0)) off (((xs.drop q).take th).map (Value.int .i64)) = ys.map (Value.int .i64)) := hide (by
                rw [← unhide HYS, unhide HXE]
                have e : q = xs.length - th := by rw [← unhide HC2]; exact (unhide HPQ).2.symm
                rw [e]
                exact splice_last (by rw [← unhide HC2]; exact unhide HTH) (unhide HOF).2 (by have := (unhide HOF).1; omega) hn0)
              go_region_with (go_at_call 156; refine (size_any _ s1 s2 s3 (some ⟨cb, coff, none⟩) c2 c3).mono ?_; rintro e w8 ⟨rfl, hw8⟩; have hb8 : Below w7.heap.size w7 w8 := (by rw [hw8]; exact (Below.refl _ _).drew.alloc (by simp) _); clear hw8; have hb58 := (unhide HB7).trans (hb8.mono (unhide HB7).size); obtain ⟨w9, hrun, hg9, hb9⟩ := copy_any (w := w5) (w1 := w8) (g := w5.heap.size) (off := off) (dLen := n - p) (dCap := n - p) (m := th) ((hb8.block w5.heap.size hg7l).trans (unhide HG7)) ((unhide HNS).below hb8) (unhide hcop) (by simpa using (unhide HOF).1) hb58 (Nat.le_refl _); have HG9 := hide hg9; have HB9 := hide hb9; clear hg9 hb9 hb58; have n8 := hb8.size; have X2' := (hb8.cell (p := ⟨W.heap.size + 1, 0, none⟩) N71).trans X2; have X3' := (hb8.cell (p := ⟨W.heap.size + 1, 1, none⟩) N71).trans X3; clear hb8)
              all_goals
                have hS9 := (unhide HS5).keep (unhide HB9)
                have HN9 : Hid (Nums (Off3 W.heap.size P) w9 (.slice (some ⟨w5.heap.size, 0, none⟩) n n) ys) := hide (nums_block (by rw [← unhide hfin]; exact unhide HG9) (unhide HYL) (unhide HOff w5 n3 _ (Nat.le_refl _)))
                have n9 := (unhide HB9).size
                have HRW := hide (row_any (Off3 W.heap.size P) w9 (unhide HOff w9 (by omega)) _ ys (unhide HN9))
                have HS9 := hide hS9
                clear hS9 HN9 HG9 HB9 hfin HNS X2 X3 X2' X3' hrun
                go_wp2_with fail
                refine (unhide HRW).mono ?_
                rintro e wz ⟨t1, t2, t3, u1, u2, u3, rfl, hA8, hb8⟩
                have hS8 := (unhide HS9).keep hb8
                have HA8 := hide hA8
                have q4 := hS8.r0
                have q5 := hS8.r1
                have z4 := hS8.fr (W.heap.size + 1 + 1) 0 (by omega) (by omega)
                have z5 := hS8.fr (W.heap.size + 1 + 1) 1 (by omega) (by omega)
                have nz := hS8.lt
                have HB8 := hide hS8.below
                clear hS8 hA8 hb8 HRW HS9
                go_wp2_with fail
                exact bodyPost_ret (v := .tuple #[.agg #[.slice t1 t2 t3, .slice u1 u2 u3], .int .i64 0]) (by simp [results, Tryz.results202, go_sem, q4, q5]) rfl ⟨_, _, _, _, _, _, rfl, (fin_ok (unhide HB8) (unhide HA8)).1, (fin_ok (unhide HB8) (unhide HA8)).2⟩
    · have hrow' : ((s2 : Int) == 1) = false := by rw [beq_eq_false_iff_ne]; omega
      have hr' : r = (eArr, 5) := by
        rw [← unhide HR]
        unfold takeP
        rw [if_pos (Or.inr (by rw [← (unhide HS2L).2]; exact hrow))]
      subst hr'
      clear hS5 hrow
      go_wp2_with fail
      exact bodyPost_ret (v := .tuple #[.agg #[.slice none 0 0, .slice none 0 0], .int .i64 5]) (by simp [results, Tryz.results202, go_sem, x4, x5]) rfl ⟨_, _, _, _, _, _, rfl, e_arr _ _, (fin_ok (P := P) (unhide HBz) (e_arr _ _)).2⟩
  · have hsc' : ((sn : Int) == 0) = false := by rw [beq_eq_false_iff_ne]; omega
    have hr' : r = (eArr, 5) := by
      rw [← unhide HR]
      unfold takeP
      rw [if_pos (Or.inl (by rw [← unhide HSN]; exact hsc))]
    subst hr'
    clear hsc
    go_wp2_with fail
    exact bodyPost_ret (v := .tuple #[.agg #[.slice none 0 0, .slice none 0 0], .int .i64 5]) (by simp [results, Tryz.results202, go_sem, x4, x5]) rfl ⟨_, _, _, _, _, _, rfl, e_arr _ _, (fin_ok (P := P) (unhide HBz) (e_arr _ _)).2⟩
theorem takeL_len {x : Int} (h : ¬ (64 < x ∨ x < -64)) (xs : List Int) : (takeL x xs).length ≤ 64 := by
  unfold takeL
  split
  · simp; omega
  · simp; omega
theorem takeL_mem {x : Int} {xs : List Int} (hf : ∀ c ∈ xs, fit64 c) : ∀ c ∈ takeL x xs, fit64 c := by
  intro c h
  unfold takeL at h
  split at h
  · rcases List.mem_append.1 h with h | h
    · exact hf c (List.mem_of_mem_take h)
    · rw [(List.mem_replicate.1 h).2]; unfold fit64; omega
  · rcases List.mem_append.1 h with h | h
    · rw [(List.mem_replicate.1 h).2]; unfold fit64; omega
    · exact hf c (List.mem_of_mem_drop h)
theorem take_two : TwoC ⟨#[116, 97, 107, 101]⟩ takeP := ⟨fun w => (find_two (t := ⟨#[116, 97, 107, 101]⟩) (k1 := .string [97, 107, 101]) (k2 := .string [116, 97, 107, 101]) (f := 202) (by decide) (by kernel_rfl) (by kernel_rfl) (by kernel_rfl) (by kernel_rfl) (by kernel_rfl) w).mono (by rintro e w' ⟨rfl, hb⟩; exact ⟨202, #[], rfl, Tryz.enters202, hb, take_fn w'⟩), fun a b ha hb => by
  unfold takeP
  split
  · exact ⟨by simp [eArr], fun h => absurd h (by decide)⟩
  · split
    · exact ⟨by simp [eArr], fun h => absurd h (by decide)⟩
    · rename_i h1 h2
      have hl := takeL_len h2 b.cells
      exact ⟨by show (takeL _ _).length ≤ 200; omega, fun _ => ⟨by simp, fun n hn => by rw [List.mem_singleton.1 hn]; omega, by simp [prodL], by show (takeL _ _).length ≤ 200; omega, takeL_mem hb.fits⟩⟩⟩
end Go.Proofs.YtjobgpahajhbnaaGreatDoor
namespace Go.Proofs.YtjobgpahajhbnaaGreatDoor
open Go.RowKit Go.Proofs Go.Maps
attribute [local go_sem ↓] Go.wp_at_zero Go.wp_at_succ

theorem Tryz.enters204 : Enters Tryz.prog 204 := Go.Proofs.enters_of Tryz.func204 (by decide) rfl
def lastN : List Nat → Nat
  | [] => 0
  | [x] => x
  | _ :: y :: l => lastN (y :: l)
theorem last_split : ∀ {l : List Nat}, l.length ≠ 0 → l = l.dropLast ++ [lastN l]
  | [], h => absurd rfl h
  | [x], _ => rfl
  | x :: y :: l, _ => by
    have := last_split (l := y :: l) (by simp)
    show x :: y :: l = x :: ((y :: l).dropLast ++ [lastN (y :: l)])
    rw [← this]
/-- the cells of two arrays, line by line -/
def catC (xs ys : List Int) (la lb n : Nat) : List Int := ((List.range n).map (fun i => lineL xs la i ++ lineL ys lb i)).flatten
def catSh (A B : Arr) : List Nat := A.shape.dropLast ++ [lastN A.shape + lastN B.shape]
def catR (A B : Arr) : Arr × Int := if A.shape.length ≠ B.shape.length then (eArr, 5) else if A.shape.dropLast ≠ B.shape.dropLast then (eArr, 6) else if fitsB (catSh A B) = false then (eArr, 9) else (⟨catSh A B, catC A.cells B.cells (lastN A.shape) (lastN B.shape) (prodL A.shape.dropLast)⟩, 0)
def catP (a b : Arr) : Arr × Int := catR (rowed a) (rowed b)
theorem rowed_rank (a : Arr) : (rowed a).shape.length ≠ 0 := by
  unfold rowed
  split
  · simp [ravelP]
  · assumption
theorem catC_succ (xs ys : List Int) (la lb n : Nat) : catC xs ys la lb (n + 1) = catC xs ys la lb n ++ (lineL xs la n ++ lineL ys lb n) := by
  unfold catC
  rw [List.range_succ, List.map_append, List.flatten_append]
  simp
theorem lineL_len {xs : List Int} {la i : Nat} (h : (i + 1) * la ≤ xs.length) : (lineL xs la i).length = la := by
  unfold lineL
  rw [Nat.add_mul, Nat.one_mul] at h
  simp
  omega
theorem catC_len {xs ys : List Int} {la lb : Nat} : ∀ {n : Nat}, n * la ≤ xs.length → n * lb ≤ ys.length → (catC xs ys la lb n).length = n * (la + lb)
  | 0, _, _ => by simp [catC]
  | n + 1, h1, h2 => by
    have a1 : n * la ≤ xs.length := Nat.le_trans (Nat.mul_le_mul_right _ (Nat.le_succ _)) h1
    have a2 : n * lb ≤ ys.length := Nat.le_trans (Nat.mul_le_mul_right _ (Nat.le_succ _)) h2
    rw [catC_succ, List.length_append, List.length_append, catC_len a1 a2, lineL_len h1, lineL_len h2, Nat.add_mul n 1, Nat.one_mul]
theorem St.setAB {W w : World} {P : Nat → Prop} {so : Option Addr} {sn sc : Nat} {co : Option Addr} {cn cc : Nat} {so2 : Option Addr} {sn2 sc2 : Nat} {co2 : Option Addr} {cn2 cc2 : Nat} {a b : Arr} (h : St W P w so sn sc co cn cc so2 sn2 sc2 co2 cn2 cc2 a b) {s1 : Option Addr} {s2 s3 : Nat} {c1 : Option Addr} {c2 c3 : Nat} {t1 : Option Addr} {t2 t3 : Nat} {d1 : Option Addr} {d2 d3 : Nat} {A B : Arr} (hA : IsArr (Off3 W.heap.size P) w (.agg #[.slice s1 s2 s3, .slice c1 c2 c3]) A) (hB : IsArr (Off3 W.heap.size P) w (.agg #[.slice t1 t2 t3, .slice d1 d2 d3]) B) : St W P ((((w.setCell ⟨W.heap.size, 0, none⟩ (.slice s1 s2 s3)).setCell ⟨W.heap.size, 1, none⟩ (.slice c1 c2 c3)).setCell ⟨W.heap.size + 1, 0, none⟩ (.slice t1 t2 t3)).setCell ⟨W.heap.size + 1, 1, none⟩ (.slice d1 d2 d3)) s1 s2 s3 c1 c2 c3 t1 t2 t3 d1 d2 d3 A B := by
  have hno : ¬ Off3 W.heap.size P W.heap.size := by
    rintro ⟨_, h | h⟩ <;> omega
  exact (h.setA hA).setB ((hB.set hno 0 _).set hno 1 _)
theorem isArr_shape {P : Nat → Prop} {w : World} {so : Option Addr} {sn sc : Nat} {co : Option Addr} {cn cc : Nat} {a : Arr} (h : IsArr P w (.agg #[.slice so sn sc, .slice co cn cc]) a) : Nums P w (.slice so sn sc) (a.shape.map Int.ofNat) := by
  obtain ⟨so', sn', sc', co', cn', cc', hv, h1, h2⟩ := h
  injection hv with hv
  simp at hv
  obtain ⟨⟨rfl, rfl, rfl⟩, rfl, rfl, rfl⟩ := hv
  exact h1
theorem shape_some {P : Nat → Prop} {w : World} {so : Option Addr} {sn sc : Nat} {xs : List Int} (h : Nums P w (.slice so sn sc) xs) (h0 : sn ≠ 0) : ∃ b off, so = some ⟨b, off, none⟩ := by
  have hl := nums_len h
  obtain ⟨ao, cap, hv, _, h1, _⟩ := h
  obtain ⟨b, off, ha, _⟩ := h1 (by omega)
  injection hv with e1 e2 e3
  exact ⟨b, off, e1.trans ha⟩
theorem set_last (l : List Nat) (x y : Nat) : ((l ++ [x]).map Int.ofNat).set l.length (y : Int) = (l ++ [y]).map Int.ofNat := by
  rw [List.map_append, List.map_append, List.set_append_right _ _ (by simp)]
  simp
theorem lists3 {Q : Nat → Prop} {w : World} {o0 o1 o2 : Option Addr} {n0 c0 n1 c1 n2 c2 : Nat} {x0 x1 x2 : List Int} {e : TypeId} (h0 : Nums Q w (.slice o0 n0 c0) x0) (h1 : Nums Q w (.slice o1 n1 c1) x1) (h2 : Nums Q w (.slice o2 n2 c2) x2) : Lists Q (w.alloc (.cells #[.slice o0 n0 c0, .slice o1 n1 c1, .slice o2 n2 c2] e)) w.heap.size [x0, x1, x2] := by
  have hb : Below w.heap.size w (w.alloc (.cells #[.slice o0 n0 c0, .slice o1 n1 c1, .slice o2 n2 c2] e)) := (Below.refl _ _).alloc (Nat.le_refl _) _
  intro i hi
  match i, hi with
  | 0, _ => exact ⟨o0, n0, c0, (World.cell?_alloc_at _ _ _ _ rfl).trans rfl, h0.below hb⟩
  | 1, _ => exact ⟨o1, n1, c1, (World.cell?_alloc_at _ _ _ _ rfl).trans rfl, h1.below hb⟩
  | 2, _ => exact ⟨o2, n2, c2, (World.cell?_alloc_at _ _ _ _ rfl).trans rfl, h2.below hb⟩
  | i + 3, hi => exact absurd hi (by simp)
theorem fits_size {d : List Nat} {l : Nat} (h : fitsB (d ++ [l]) = true) : prodL d * l ≤ 64 := by
  unfold fitsB at h
  rw [Bool.and_eq_true] at h
  have := h.2
  rw [prodL_append, prodL_one] at this
  simpa using this
set_option maxHeartbeats 4000000 in
set_option maxRecDepth 20000 in
theorem cat_fn (w : World) : FnTwo 204 #[] w catP := by
  intro W P u v a b _ hP ha hb hoa hob
  obtain ⟨so, sn, sc, co, cn, cc, rfl, ha1, ha2⟩ := ha
  obtain ⟨so2, sn2, sc2, co2, cn2, cc2, rfl, hb1, hb2⟩ := hb
  have hS0 := St.start (P := P) (W := W) (a := a) (b := b) ⟨so, sn, sc, co, cn, cc, rfl, ha1, ha2⟩ ⟨so2, sn2, sc2, co2, cn2, cc2, rfl, hb1, hb2⟩
  obtain ⟨W1, hW1⟩ : ∃ W1, ((W.alloc (.cells #[.slice so sn sc, .slice co cn cc] 89)).alloc (.cells #[.slice so2 sn2 sc2, .slice co2 cn2 cc2] 89)).alloc (.cells #[.slice none 0 0, .slice none 0 0] 89) = W1 := ⟨_, rfl⟩
  rw [hW1] at hS0
  have HS0 := hide hS0
  have HOff : Hid (∀ w' : World, W.heap.size + 1 + 1 < w'.heap.size → ∀ b, w'.heap.size ≤ b → Off3 W.heap.size P b) := hide (fun w' h b hb => ⟨hP b (by omega), .inr (by omega)⟩)
  have HLA := hide (least_any (Off3 W.heap.size P) W1.drew (unhide HOff W1.drew (hS0.keep (Below.refl _ _).drew).lt) so sn sc co cn cc a (hS0.keep (Below.refl _ _).drew).isA)
  have HLB := hide (fun w' (hb : Below W1.heap.size W1 w') => least_any (Off3 W.heap.size P) w' (unhide HOff w' (hS0.keep hb).lt) so2 sn2 sc2 co2 cn2 cc2 b (hS0.keep hb).isB)
  have HP : Hid (∀ b, W.heap.size ≤ b → P b) := hP
  have HOA := hide (rowed_ok hoa)
  have HOB := hide (rowed_ok hob)
  have HKA := hide (rowed_rank a)
  have HKB := hide (rowed_rank b)
  unfold catP
  obtain ⟨A, hA⟩ : ∃ A, rowed a = A := ⟨_, rfl⟩
  obtain ⟨B, hB⟩ : ∃ B, rowed b = B := ⟨_, rfl⟩
  simp only [hA] at HLA HOA HKA ⊢
  simp only [hB] at HLB HOB HKB ⊢
  obtain ⟨r, hr⟩ : ∃ r, catR A B = r := ⟨_, rfl⟩
  simp only [hr]
  have HR := hide hr
  have x0 := hS0.a0
  have x1 := hS0.a1
  have x2 := hS0.b0
  have x3 := hS0.b1
  have y0 := hS0.fr W.heap.size 0 (by omega) (by omega)
  have y1 := hS0.fr W.heap.size 1 (by omega) (by omega)
  have y2 := hS0.fr (W.heap.size + 1) 0 (by omega) (by omega)
  have y3 := hS0.fr (W.heap.size + 1) 1 (by omega) (by omega)
  have n3 := hS0.lt
  have n1 : W.heap.size < W1.heap.size := by omega
  have n2 : W.heap.size + 1 < W1.heap.size := by omega
  clear hP hoa hob ha1 ha2 hb1 hb2 hr hS0 hA hB
  go_enter Tryz.func204, Tryz.ntmps204
  go_upto_region 1 with fail
  try rw [hW1]
  clear hW1
  go_cut [5] from 10 to 13 (fun v5 wx => v5 = .int .i64 0 ∧ ∃ s1 s2 s3 c1 c2 c3 t1 t2 t3 d1 d2 d3, St W P wx s1 s2 s3 c1 c2 c3 t1 t2 t3 d1 d2 d3 A B)
  case first =>
    go_region_with (first | (go_at_call 254; with_reducible refine (unhide HLA).mono ?_; rintro e wA ⟨s1, s2, s3, c1, c2, c3, rfl, hAA, hbA⟩; have hbWA : Below W1.heap.size W1 wA := (below_drew hbA); have hSA := (unhide HS0).keep hbWA; have pA0 := hSA.a0; have pA1 := hSA.a1; have pA2 := hSA.b0; have pA3 := hSA.b1; have zA0 := hSA.fr W.heap.size 0 (by omega) (by omega); have zA1 := hSA.fr W.heap.size 1 (by omega) (by omega); have zA2 := hSA.fr (W.heap.size + 1) 0 (by omega) (by omega); have zA3 := hSA.fr (W.heap.size + 1) 1 (by omega) (by omega); have mA3 := hSA.lt; have mA1 : W.heap.size < wA.heap.size := (by omega); have mA2 : W.heap.size + 1 < wA.heap.size := (by omega); have HSA := hide hSA; have HBA := hide hbWA; have HRA := hide hbA; have HIA := hide hAA; clear hSA hbWA hbA hAA) | (go_at_call 254; with_reducible refine (unhide HLB _ (unhide HBA)).mono ?_; rintro e wB ⟨t1, t2, t3, d1, d2, d3, rfl, hBB, hbB⟩; have hbWB : Below W1.heap.size W1 wB := ((unhide HBA).trans (hbB.mono (unhide HBA).size)); have hSB := (unhide HS0).keep hbWB; have pB0 := hSB.a0; have pB1 := hSB.a1; have pB2 := hSB.b0; have pB3 := hSB.b1; have zB0 := hSB.fr W.heap.size 0 (by omega) (by omega); have zB1 := hSB.fr W.heap.size 1 (by omega) (by omega); have zB2 := hSB.fr (W.heap.size + 1) 0 (by omega) (by omega); have zB3 := hSB.fr (W.heap.size + 1) 1 (by omega) (by omega); have mB3 := hSB.lt; have mB1 : W.heap.size < wB.heap.size := (by omega); have mB2 : W.heap.size + 1 < wB.heap.size := (by omega); have HSB := hide hSB; have HBB := hide hbWB; have HRB := hide hbB; have HIB := hide hBB; clear hSB hbWB hbB hBB))
    all_goals go_wp2_with fail
    all_goals go_meet
    all_goals
      refine ⟨rfl, s1, s2, s3, c1, c2, c3, t1, t2, t3, d1, d2, d3, ?_⟩
      exact (unhide HSB).setAB ((unhide HIA).below (unhide HRB)) (unhide HIB)
  case rest =>
    obtain ⟨rfl, s1, s2, s3, c1, c2, c3, t1, t2, t3, d1, d2, d3, hS⟩ := hcut
    clear x0 x1 x2 x3 y0 y1 y2 y3 n1 n2 n3 HLA HLB HS0
    have hsA := (isArr_len hS.isA).2
    have hsB := (isArr_len hS.isB).2
    have hrkA : s2 ≤ 3 := by rw [hsA]; exact (unhide HOA).rank
    have hrkB : t2 ≤ 3 := by rw [hsB]; exact (unhide HOB).rank
    have hsA0 : s2 ≠ 0 := by rw [hsA]; exact unhide HKA
    have hsB0 : t2 ≠ 0 := by rw [hsB]; exact unhide HKB
    have HSA := hide hsA
    have HSB := hide hsB
    have HS := hide hS
    have x0 := hS.a0
    have x1 := hS.a1
    have n3 := hS.lt
    have n1 : W.heap.size < wc.heap.size := by omega
    have n2 : W.heap.size + 1 < wc.heap.size := by omega
    obtain ⟨k, hk⟩ : ∃ k, s2 - 1 = k := ⟨_, rfl⟩
    have hk3 : k ≤ 2 := by omega
    have hw1 : IntKind.i64.wrap ((s2 : Int) - 1) = (k : Int) := by
      have e : (s2 : Int) - 1 = (k : Int) := by omega
      rw [e]
      exact wrap_pos (by omega) (by omega)
    have HRk : Hid (∀ w', Calls Tryz.prog 221 #[.agg #[.slice s1 s2 s3, .slice c1 c2 c3]] w' fun e w'' => e = .returned (.int .i64 s2) ∧ Below w'.heap.size w' w'') := hide (fun w' => (rank_any w' s1 s2 s3 c1 c2 c3).mono (fun e w'' h => ⟨h.1, by rw [h.2]; exact (Below.refl _ _).alloc (Nat.le_refl _) _⟩))
    have HRk2 : Hid (∀ w', Calls Tryz.prog 221 #[.agg #[.slice t1 t2 t3, .slice d1 d2 d3]] w' fun e w'' => e = .returned (.int .i64 t2) ∧ Below w'.heap.size w' w'') := hide (fun w' => (rank_any w' t1 t2 t3 d1 d2 d3).mono (fun e w'' h => ⟨h.1, by rw [h.2]; exact (Below.refl _ _).alloc (Nat.le_refl _) _⟩))
    have HK := hide hk
    clear hS hsA hsB hk
    go_wp2_with fail
    refine (unhide HRk _).mono ?_
    rintro e w2 ⟨rfl, hb2⟩
    have hS := (unhide HS).keep hb2
    clear x0 x1 n1 n2 n3
    have x0 := hS.a0
    have x1 := hS.a1
    have x2 := hS.b0
    have x3 := hS.b1
    have n3 := hS.lt
    have n1 : W.heap.size < w2.heap.size := by omega
    have n2 : W.heap.size + 1 < w2.heap.size := by omega
    have HS2 := hide hS
    clear hS hb2 HS
    go_upto_region 3 with fail
    go_cut [21] from 17 to 20 (fun v21 wx => v21 = .bool ((s2 : Int) != (t2 : Int)) ∧ Below w2.heap.size w2 wx)
    case first =>
      go_region_with (first | (go_at_call 221; with_reducible refine (unhide HRk _).mono ?_; rintro e wA ⟨rfl, hbA⟩; have hA2 : Below w2.heap.size w2 wA := (below_drew hbA); have HA2 := hide hA2; have pA0 := (hA2.cell (p := ⟨W.heap.size, 0, none⟩) n1).trans x0; have pA1 := (hA2.cell (p := ⟨W.heap.size, 1, none⟩) n1).trans x1; have pA2 := (hA2.cell (p := ⟨W.heap.size + 1, 0, none⟩) n2).trans x2; have pA3 := (hA2.cell (p := ⟨W.heap.size + 1, 1, none⟩) n2).trans x3; clear hbA hA2) | (go_at_call 221; with_reducible refine (unhide HRk2 _).mono ?_; rintro e wB ⟨rfl, hbB⟩; have hB2 : Below w2.heap.size w2 wB := ((unhide HA2).trans (hbB.mono (unhide HA2).size)); have HB2 := hide hB2; have pB0 := (hB2.cell (p := ⟨W.heap.size, 0, none⟩) n1).trans x0; have pB1 := (hB2.cell (p := ⟨W.heap.size, 1, none⟩) n1).trans x1; have pB2 := (hB2.cell (p := ⟨W.heap.size + 1, 0, none⟩) n2).trans x2; have pB3 := (hB2.cell (p := ⟨W.heap.size + 1, 1, none⟩) n2).trans x3; clear hbB hB2))
      all_goals go_wp2_with fail
      all_goals go_meet
      all_goals first | exact ⟨rfl, unhide HB2⟩ | exact ⟨rfl, unhide HA2⟩ | trace_state
    case rest =>
      obtain ⟨rfl, hb3⟩ := hcut
      have hS := (unhide HS2).keep hb3
      clear x0 x1 x2 x3 n1 n2 n3 HRk HRk2
      have x0 := hS.a0
      have x1 := hS.a1
      have x2 := hS.b0
      have x3 := hS.b1
      have x4 := hS.r0
      have x5 := hS.r1
      have y4 := hS.fr (W.heap.size + 1 + 1) 0 (by omega) (by omega)
      have y5 := hS.fr (W.heap.size + 1 + 1) 1 (by omega) (by omega)
      have n3 := hS.lt
      rename World => w3
      have HS3 := hide hS
      have HBz := hide hS.below
      by_cases hst : s2 = t2
      · subst hst
        have hne : ((s2 : Int) != (s2 : Int)) = false := by simp
        have n1 : W.heap.size < w3.heap.size := by omega
        have n2 : W.heap.size + 1 < w3.heap.size := by omega
        have hshA := isArr_shape hS.isA
        have hshB := isArr_shape hS.isB
        obtain ⟨sb, sf, hse⟩ := shape_some hshA hsA0
        subst hse
        obtain ⟨tb, tf, hte⟩ := shape_some hshB hsA0
        subst hte
        have hcapA := nums_cap hshA
        have hcapB := nums_cap hshB
        have hdA := last_split (l := A.shape) (unhide HKA)
        have hdB := last_split (l := B.shape) (unhide HKB)
        obtain ⟨dA, hdA1⟩ : ∃ d, A.shape.dropLast = d := ⟨_, rfl⟩
        obtain ⟨la, hla⟩ : ∃ d, lastN A.shape = d := ⟨_, rfl⟩
        obtain ⟨dB, hdB1⟩ : ∃ d, B.shape.dropLast = d := ⟨_, rfl⟩
        obtain ⟨lb, hlb⟩ : ∃ d, lastN B.shape = d := ⟨_, rfl⟩
        rw [hdA1, hla] at hdA
        rw [hdB1, hlb] at hdB
        have hkA : k = dA.length := by have h1 := unhide HK; have h2 := unhide HSA; rw [hdA] at h2; simp at h2; omega
        have hkB : k = dB.length := by have h1 := unhide HK; have h2 := unhide HSB; rw [hdB] at h2; simp at h2; omega
        have hks2 : k + 1 = s2 := by have h1 := unhide HK; omega
        have hk0 : (0 : Int) ≤ (k : Int) := by omega
        have hk1 : (k : Int) ≤ (s3 : Int) := by omega
        have hk2 : (k : Int) ≤ (t3 : Int) := by omega
        have hk4 : k ≤ s3 := by omega
        have hk5 : k ≤ t3 := by omega
        have HEq : Hid (∀ w', Below w3.heap.size w3 w' → Calls Tryz.prog 256 #[.slice (some ⟨sb, sf, none⟩) k s3, .slice (some ⟨tb, tf, none⟩) k t3] w' fun e w'' => e = .returned (.bool (dA == dB)) ∧ Below w'.heap.size w' w'') := hide (fun w' hb => by
          refine eq_any (Q := Off3 W.heap.size P) (Q' := Off3 W.heap.size P) w' _ k s3 _ t3 dA dB ?_ ?_ (by omega)
          · have := nums_take_any (hshA.below hb) (k := k) (by omega)
            rw [hdA, List.map_append, List.take_append_of_le_length (by simp; omega), List.take_of_length_le (by simp; omega)] at this
            exact this
          · have := nums_take_any (hshB.below hb) (k := k) (by omega)
            rw [hdB, List.map_append, List.take_append_of_le_length (by simp; omega), List.take_of_length_le (by simp; omega)] at this
            exact this)
        have HDA := hide (And.intro hdA (And.intro hdA1 hla))
        have HDB := hide (And.intro hdB (And.intro hdB1 hlb))
        have HKL := hide (And.intro hkA hkB)
        have HShA := hide hshA
        clear hdA hdB hdA1 hdB1 hla hlb hkA hkB hshA hshB hS
        obtain ⟨D, hD⟩ : ∃ D, (!(dA == dB)) = D := ⟨_, rfl⟩
        have HD := hide hD
        clear hD
        go_upto_region 5 with fail
        go_cut [32] from 21 to 31 (fun v32 wx => v32 = .bool D ∧ Below w3.heap.size w3 wx)
        case first =>
          go_region_with (go_at_call 256; refine (unhide HEq _ (Below.refl _ _).drew).mono ?_; rintro e wE ⟨rfl, hbE⟩; have HBE := hide (below_drew hbE); clear hbE)
          all_goals go_wp2_with fail
          all_goals go_meet
          all_goals exact ⟨by rw [← unhide HD], unhide HBE⟩
        case rest =>
          obtain ⟨rfl, hb4⟩ := hcut
          have hS := (unhide HS3).keep hb4
          clear x0 x1 x2 x3 x4 x5 y4 y5 n1 n2 n3 HEq HBz HS3
          have x0 := hS.a0
          have x1 := hS.a1
          have x2 := hS.b0
          have x3 := hS.b1
          have x4 := hS.r0
          have x5 := hS.r1
          have y4 := hS.fr (W.heap.size + 1 + 1) 0 (by omega) (by omega)
          have y5 := hS.fr (W.heap.size + 1 + 1) 1 (by omega) (by omega)
          have n3 := hS.lt
          rename World => w4
          have n1 : W.heap.size < w4.heap.size := by omega
          have n2 : W.heap.size + 1 < w4.heap.size := by omega
          have HS4 := hide hS
          have HBz := hide hS.below
          have hN4 := isArr_shape hS.isA
          clear hS hb4
          cases D
          · have hdd : dA = dB := by simpa using unhide HD
            have HDD := hide hdd
            have hA200 : (A.shape.map Int.ofNat).length ≤ 200 := by have := (unhide HOA).rank; simp; omega
            have HCl := hide (clone_own w4 (some ⟨sb, sf, none⟩) s2 s3 (A.shape.map Int.ofNat) hN4 hA200 (by omega))
            clear hdd hN4 hA200
            go_wp2_with fail
            refine (unhide HCl).mono ?_
            rintro e w5 ⟨g, cg, rfl, hown, hb5⟩
            have hS := (unhide HS4).keep hb5
            clear x0 x1 x2 x3 x4 x5 y4 y5 n1 n2 n3 HCl
            have hll : k < s2 := by omega
            have hge : w4.heap.size ≤ g := (hown.lt g rfl).1
            have hgl : g < w5.heap.size := (hown.lt g rfl).2
            have hc0 : w5.cell? ⟨g, k, none⟩ = some (.int .i64 la) := by
              rw [hown.cellAt k (by omega), (unhide HDA).1, (unhide HKL).1]
              simp
            have hf0 := hown.frozenAt k
            have hst := (fun (w' : World) (h : w'.ownsRow w4.heap.size 3 1 (.slice (some ⟨g, 0, none⟩) s2 cg) s2 ((A.shape.map Int.ofNat).map (Value.int .i64))) => (h.stored k (.int .i64 ((la + lb : Nat) : Int))).1)
            have HLast : Hid (∀ w', Below w5.heap.size w5 w' → Calls Tryz.prog 234 #[.agg #[.slice (some ⟨tb, tf, none⟩) s2 t3, .slice d1 d2 d3]] w' fun e w'' => e = .returned (.int .i64 lb) ∧ Below w'.heap.size w' w'') := hide (fun w' hb => last_any w' _ s2 t3 d1 d2 d3 B (hS.isB.below hb) dB lb (unhide HDB).1 (by have := (unhide HKL).2; omega))
            have hla200 : la ≤ 200 := (unhide HOA).lens la (by rw [(unhide HDA).1]; simp)
            have hlb200 : lb ≤ 200 := (unhide HOB).lens lb (by rw [(unhide HDB).1]; simp)
            have hi0 : (0 : Int) ≤ (k : Int) := by omega
            have hi1 : (k : Int) < (s2 : Int) := by omega
            obtain ⟨ll, hl2⟩ : ∃ ll, la + lb = ll := ⟨_, rfl⟩
            rw [hl2] at hst
            have hwl : IntKind.i64.wrap ((la : Int) + (lb : Int)) = (ll : Int) := by
              have e : (la : Int) + (lb : Int) = (ll : Int) := by omega
              rw [e]
              exact wrap_pos (by omega) (by omega)
            have x2 := hS.b0
            have x3 := hS.b1
            have n3 := hS.lt
            have n2 : W.heap.size + 1 < w5.heap.size := by omega
            have HS5 := hide hS
            have HO5 := hide hown
            have HST := hide hst
            have HB5 := hide hb5
            have HLL := hide hl2
            have hgS : Hid (w4.heap.size ≤ g) := hide hge
            clear hS hown hst hb5 hl2 hge
            go_upto_region 8 with fail
            go_cut [5] from 37 to 44 (fun v5 wx => v5 = .int .i64 0 ∧ wx.ownsRow w4.heap.size 3 1 (.slice (some ⟨g, 0, none⟩) s2 cg) s2 (((A.shape.map Int.ofNat).map (Value.int .i64)).set k (.int .i64 (ll : Int))) ∧ Below w4.heap.size w4 wx)
            case first =>
              go_region_with (go_at_call 234; refine (unhide HLast _ (Below.refl _ _).drew).mono ?_; rintro e w6 ⟨rfl, hb6⟩; have hb6' := below_drew hb6; have HB6 := hide hb6'; have hc6 := (hb6'.cell (p := ⟨g, k, none⟩) hgl).trans hc0; have hf6 := (hb6'.frozen (p := ⟨g, k, none⟩) hgl).trans hf0; have hs6 := hb6'.size; clear hb6 hb6')
              all_goals go_wp2_with fail
              all_goals go_meet
              all_goals exact ⟨rfl, unhide HST _ (owns_below (unhide HO5) (unhide HB6)), ((unhide HB5).trans ((unhide HB6).mono (unhide HB5).size)).setCell (p := ⟨g, k, none⟩) (unhide hgS) _⟩
            case rest =>
              obtain ⟨rfl, hown, hb6⟩ := hcut
              rename World => w6
              have hS := (unhide HS4).keep hb6
              clear x2 x3 n2 n3 hf0 hc0 hgl HST HB5 HS5 HO5 HLast
              have hnew : ((A.shape.map Int.ofNat).map (Value.int .i64)).set k (.int .i64 (ll : Int)) = ((dA ++ [ll]).map Int.ofNat).map (Value.int .i64) := by
                rw [(unhide HDA).1, (unhide HKL).1, ← set_last dA la ll, List.map_set]
              rw [hnew] at hown
              have n3 := hS.lt
              have n43 := (unhide HS4).lt
              have hshN := nums_owns (P := Off3 W.heap.size P) hown (unhide HOff w4 n43)
              have hLens : Lens (dA ++ [ll]) := ⟨by have h1 := (unhide HKL).1; simp; omega, fun n hn => by
                rcases List.mem_append.1 hn with h | h
                · have := (unhide HOA).lens n (by rw [(unhide HDA).1]; exact List.mem_append_left _ h); omega
                · have h1 := unhide HLL; simp at h; omega⟩
              have hLensD : Lens dA := ⟨by have h1 := (unhide HKL).1; omega, fun n hn => hLens.lens n (List.mem_append_left _ hn)⟩
              have HFit := hide (fits_any w6 _ s2 cg (dA ++ [ll]) hshN hLens)
              have hcapg := nums_cap hshN
              have hk6 : (k : Int) ≤ (cg : Int) := by omega
              have hk7 : k ≤ cg := by omega
              have HCnt : Hid (Calls Tryz.prog 225 #[.slice (some ⟨g, 0, none⟩) k cg] w6 fun e w' => e = .returned (.int .i64 (prodL dA)) ∧ w' = w6) := hide (by
                refine count_any (Q := Off3 W.heap.size P) w6 _ k cg dA ?_ hLensD
                have := nums_take_any hshN (k := k) (by omega)
                rw [List.map_append, List.take_append_of_le_length (by simp; have := (unhide HKL).1; omega), List.take_of_length_le (by simp; have := (unhide HKL).1; omega)] at this
                exact this)
              have hNle := hLensD.prod
              have hcA : A.cells.length = prodL dA * la := by rw [(unhide HOA).size, (unhide HDA).1, prodL_append, prodL_one]
              have hcB : B.cells.length = prodL dA * lb := by rw [(unhide HOB).size, (unhide HDB).1, prodL_append, prodL_one, unhide HDD]
              obtain ⟨F, hF⟩ : ∃ F, fitsB (dA ++ [ll]) = F := ⟨_, rfl⟩
              rw [hF] at HFit
              obtain ⟨N, hN⟩ : ∃ N, prodL dA = N := ⟨_, rfl⟩
              have hrr : r = if F = false then (eArr, 9) else (⟨dA ++ [ll], catC A.cells B.cells la lb N⟩, 0) := by
                rw [← unhide HR]
                unfold catR catSh
                rw [if_neg (by rw [← unhide HSA, ← unhide HSB]; simp), (unhide HDA).2.1, (unhide HDB).2.1, if_neg (by simpa using unhide HDD), (unhide HDA).2.2, (unhide HDB).2.2, unhide HLL, hF, hN]
              have hsz : F = true → N * ll ≤ 64 := fun h => by rw [← hN]; exact fits_size (hF.trans h)
              rw [hN] at HCnt hNle hcA hcB
              have x4 := hS.r0
              have x5 := hS.r1
              have y4 := hS.fr (W.heap.size + 1 + 1) 0 (by omega) (by omega)
              have y5 := hS.fr (W.heap.size + 1 + 1) 1 (by omega) (by omega)
              have HBz := hide hS.below
              have HS6 := hide hS
              have HSN := hide hshN
              have HSZ := hide hsz
              have HCA := hide hcA
              have HCB := hide hcB
              clear hown hnew hshN hLens hLensD hF hN hsz hcA hcB hS HS4 hb6 HR
              cases F
              · rw [if_pos rfl] at hrr
                subst hrr
                go_wp2_with (go_at_call 222; refine (unhide HFit).mono ?_; rintro e w' ⟨rfl, hw'⟩; have hw2 := hw'.symm; subst hw2; clear hw')
                exact bodyPost_ret (v := .tuple #[.agg #[.slice none 0 0, .slice none 0 0], .int .i64 9]) (by simp [results, Tryz.results204, go_sem, x4, x5]) rfl ⟨_, _, _, _, _, _, rfl, e_arr _ _, (fin_ok (P := P) (unhide HBz) (e_arr _ _)).2⟩
              · rw [if_neg (by decide)] at hrr
                subst hrr
                have hNl : N * ll ≤ 64 := unhide HSZ rfl
                have HNL := hide hNl
                clear hNl HSZ
                go_wp2_with (first | (go_at_call 222; refine (unhide HFit).mono ?_; rintro e w' ⟨rfl, hw'⟩; have hw2 := hw'.symm; subst hw2; clear hw') | (go_at_call 225; refine (unhide HCnt).mono ?_; rintro e w' ⟨rfl, hw'⟩; have hw2 := hw'.symm; subst hw2; clear hw'))
                go_loopw [8, 53] (fun v8 v53 wr => ∃ (j : Nat) (o : Option Addr) (n c : Nat), v53 = .int .i64 j ∧ j ≤ N ∧ v8 = .slice o n c ∧ Nums (Off3 W.heap.size P) wr (.slice o n c) (catC A.cells B.cells la lb j) ∧ Below w6.heap.size w6 wr) (fun _ v53 _ => N - (intOf v53).toNat)
                case atStart => exact ⟨0, none, 0, 0, rfl, by omega, rfl, nums_nil _ _, Below.refl _ _⟩
                case round =>
                  obtain ⟨j, o, n, c, rfl, hj, rfl, hcs, hbr⟩ := hrel
                  have hS := (unhide HS6).keep hbr
                  by_cases hlt : j < N
                  · have hmA : (j + 1) * la ≤ A.cells.length := by rw [unhide HCA]; exact Nat.mul_le_mul_right _ hlt
                    have hmB : (j + 1) * lb ≤ B.cells.length := by rw [unhide HCB]; exact Nat.mul_le_mul_right _ hlt
                    have hfl := catC_len (xs := A.cells) (ys := B.cells) (la := la) (lb := lb) (n := j + 1) hmA hmB
                    have hle : (j + 1) * (la + lb) ≤ N * ll := by rw [unhide HLL]; exact Nat.mul_le_mul_right _ hlt
                    have hN64 := unhide HNL
                    have hdA2 : dA.length ≤ 3 := by have := (unhide HKL).1; omega
                    have hdB2 : dB.length ≤ 3 := by have := (unhide HKL).2; omega
                    have hfA := (unhide HOA).few
                    have hfB := (unhide HOB).few
                    have HLA : Hid (Calls Tryz.prog 257 #[.agg #[.slice (some ⟨sb, sf, none⟩) s2 s3, .slice c1 c2 c3], .int .i64 j] wr.drew fun e w'' => ∃ o n c, e = .returned (.slice o n c) ∧ Nums (Off3 W.heap.size P) w'' (.slice o n c) (lineL A.cells la j) ∧ Below wr.drew.heap.size wr.drew w'') := hide (aline_any wr.drew _ s2 s3 c1 c2 c3 A (hS.isA.below (Below.refl _ _).drew) dA la (unhide HDA).1 hdA2 j hmA (by omega) (by omega) (by omega))
                    have HLB : Hid (∀ w', Below wr.heap.size wr w' → Calls Tryz.prog 257 #[.agg #[.slice (some ⟨tb, tf, none⟩) s2 t3, .slice d1 d2 d3], .int .i64 j] w' fun e w'' => ∃ o n c, e = .returned (.slice o n c) ∧ Nums (Off3 W.heap.size P) w'' (.slice o n c) (lineL B.cells lb j) ∧ Below w'.heap.size w' w'') := hide (fun w' hb => aline_any w' _ s2 t3 d1 d2 d3 B (hS.isB.below hb) dB lb (unhide HDB).1 hdB2 j hmB (by omega) (by omega) (by omega))
                    obtain ⟨xa, hxa⟩ : ∃ x, lineL A.cells la j = x := ⟨_, rfl⟩
                    obtain ⟨xb, hxb⟩ : ∃ x, lineL B.cells lb j = x := ⟨_, rfl⟩
                    obtain ⟨xc, hxc⟩ : ∃ x, catC A.cells B.cells la lb j = x := ⟨_, rfl⟩
                    have hsuc := catC_succ A.cells B.cells la lb j
                    rw [hxa, hxb, hxc] at hsuc
                    rw [hxc] at hcs
                    rw [hxa] at HLA
                    rw [hxb] at HLB
                    have HSU := hide hsuc
                    have hflat : [xc, xa, xb].flatten = catC A.cells B.cells la lb (j + 1) := by rw [hsuc]; simp
                    have HFL := hide hflat
                    have HFW : Hid ([xc, xa, xb].flatten.length ≤ 1000) := hide (by rw [hflat, hfl]; omega)
                    have x0 := hS.a0
                    have x1 := hS.a1
                    have x2 := hS.b0
                    have x3 := hS.b1
                    have n3' := hS.lt
                    have n1' : W.heap.size < wr.heap.size := by omega
                    have n2' : W.heap.size + 1 < wr.heap.size := by omega
                    have HCS := hide hcs
                    have HBR := hide hbr
                    have hj0 : (0 : Int) ≤ (j : Int) := by omega
                    have hj1 : (j : Int) < (N : Int) := by omega
                    clear hmA hmB hfl hle hN64 hxa hxb hxc hsuc hflat hS hcs hbr hdA2 hdB2 hfA hfB
                    go_wp2_with fail
                    go_region_with (first | (go_at_call 257; with_reducible refine (unhide HLA).mono ?_; rintro e wA ⟨oa, na, ca, rfl, hNA, hbA⟩; have hA2 := below_drew hbA; have HA2 := hide hA2; have HNA := hide hNA; have pA2 := (hA2.cell (p := ⟨W.heap.size + 1, 0, none⟩) n2').trans x2; have pA3 := (hA2.cell (p := ⟨W.heap.size + 1, 1, none⟩) n2').trans x3; clear hbA hA2 hNA) | (go_at_call 257; with_reducible refine (unhide HLB _ (unhide HA2)).mono ?_; rintro e wB ⟨ob, nb, cb2, rfl, hNB, hbB⟩; have HB2 := hide hbB; have HNB := hide hNB; clear hbB hNB) | (go_at_call 253; refine (concat_any (Off3 W.heap.size P) (Q := Off3 W.heap.size P) _ (unhide HOff _ (by have h1 := (unhide HB2).size; have h2 := (unhide HA2).size; simp; omega)) wB.heap.size 3 3 [xc, xa, xb] rfl (by decide) (by simp) (lists3 (((unhide HCS).below (unhide HA2)).below (unhide HB2)) ((unhide HNA).below (unhide HB2)) (unhide HNB)) (unhide HFW)).mono ?_; rintro e wC ⟨oo, nn, kk, rfl, hNC, hbC⟩; have HNC := hide hNC; have HBC : Hid (Below w6.heap.size w6 wC) := hide (below2' (below2' (below2' (unhide HBR) (unhide HA2)) (unhide HB2)) (below2' ((Below.refl _ _).alloc (Nat.le_refl _) _) hbC)); clear hNC hbC))
                    all_goals
                      go_wp2_with fail
                      go_roundw
                      case rel => exact ⟨j + 1, oo, nn, kk, by go_num, by omega, rfl, by rw [← unhide HFL]; exact unhide HNC, unhide HBC⟩
                      case measure => simp [intOf]; omega
                  · have hje : j = N := by omega
                    subst hje
                    have hsh := (unhide HSN).below hbr
                    have HA : Hid (IsArr (Off3 W.heap.size P) wr (.agg #[.slice (some ⟨g, 0, none⟩) s2 cg, .slice o n c]) ⟨dA ++ [ll], catC A.cells B.cells la lb j⟩) := hide ⟨_, _, _, _, _, _, rfl, hsh, hcs⟩
                    have x4' := hS.r0
                    have x5' := hS.r1
                    have y4' := hS.fr (W.heap.size + 1 + 1) 0 (by omega) (by omega)
                    have y5' := hS.fr (W.heap.size + 1 + 1) 1 (by omega) (by omega)
                    have n3' := hS.lt
                    have HBr := hide hS.below
                    clear hS hsh hcs hbr
                    go_wp2_with fail
                    exact bodyPost_ret (v := .tuple #[.agg #[.slice (some ⟨g, 0, none⟩) s2 cg, .slice o n c], .int .i64 0]) (by simp [results, Tryz.results204, go_sem, x4', x5']) rfl ⟨_, _, _, _, _, _, rfl, (fin_ok (unhide HBr) (unhide HA)).1, (fin_ok (unhide HBr) (unhide HA)).2⟩
          · have hdd : ¬ dA = dB := by simpa using unhide HD
            have hr' : r = (eArr, 6) := by
              rw [← unhide HR]
              unfold catR
              rw [if_neg (by rw [← unhide HSA, ← unhide HSB]; simp), if_pos (by rw [(unhide HDA).2.1, (unhide HDB).2.1]; exact hdd)]
            subst hr'
            clear hdd hN4
            go_wp2_with fail
            exact bodyPost_ret (v := .tuple #[.agg #[.slice none 0 0, .slice none 0 0], .int .i64 6]) (by simp [results, Tryz.results204, go_sem, x4, x5]) rfl ⟨_, _, _, _, _, _, rfl, e_arr _ _, (fin_ok (P := P) (unhide HBz) (e_arr _ _)).2⟩
      · have hne : ((s2 : Int) != (t2 : Int)) = true := by simp; omega
        have hr' : r = (eArr, 5) := by
          rw [← unhide HR]
          unfold catR
          rw [if_pos (by rw [← unhide HSA, ← unhide HSB]; exact hst)]
        subst hr'
        clear hst hS
        go_wp2_with fail
        exact bodyPost_ret (v := .tuple #[.agg #[.slice none 0 0, .slice none 0 0], .int .i64 5]) (by simp [results, Tryz.results204, go_sem, x4, x5]) rfl ⟨_, _, _, _, _, _, rfl, e_arr _ _, (fin_ok (P := P) (unhide HBz) (e_arr _ _)).2⟩
theorem cat_two : TwoC ⟨#[99, 97, 116]⟩ catP := ⟨fun w => (find_two (t := ⟨#[99, 97, 116]⟩) (k1 := .string [97, 116]) (k2 := .string [99, 97, 116]) (f := 204) (by decide) (by kernel_rfl) (by kernel_rfl) (by kernel_rfl) (by kernel_rfl) (by kernel_rfl) w).mono (by rintro e w' ⟨rfl, hb⟩; exact ⟨204, #[], rfl, Tryz.enters204, hb, cat_fn w'⟩), fun a b ha hb => by
  have hA := rowed_ok ha
  have hB := rowed_ok hb
  have kA := rowed_rank a
  have kB := rowed_rank b
  unfold catP
  generalize rowed a = A at hA kA ⊢
  generalize rowed b = B at hB kB ⊢
  unfold catR
  split
  · exact ⟨by simp [eArr], fun h => absurd h (by decide)⟩
  · split
    · exact ⟨by simp [eArr], fun h => absurd h (by decide)⟩
    · split
      · exact ⟨by simp [eArr], fun h => absurd h (by decide)⟩
      · rename_i h1 h2 h3
        have h3' : fitsB (catSh A B) = true := by simpa using h3
        have h2' : A.shape.dropLast = B.shape.dropLast := by simpa using h2
        have hsz : prodL A.shape.dropLast * (lastN A.shape + lastN B.shape) ≤ 64 := fits_size h3'
        have hcA : A.cells.length = prodL A.shape.dropLast * lastN A.shape := by
          rw [hA.size]
          have := congrArg prodL (last_split kA)
          rw [prodL_append, prodL_one] at this
          exact this
        have hcB : B.cells.length = prodL A.shape.dropLast * lastN B.shape := by
          rw [hB.size, h2']
          have := congrArg prodL (last_split kB)
          rw [prodL_append, prodL_one] at this
          exact this
        have hl := catC_len (xs := A.cells) (ys := B.cells) (la := lastN A.shape) (lb := lastN B.shape) (n := prodL A.shape.dropLast) (by omega) (by omega)
        refine ⟨by show (catC _ _ _ _ _).length ≤ 200; omega, fun _ => ⟨?_, ?_, ?_, by show (catC _ _ _ _ _).length ≤ 200; omega, ?_⟩⟩
        · have := hA.rank
          simp [catSh]
          omega
        · intro n hn
          unfold fitsB at h3'
          rw [Bool.and_eq_true] at h3'
          have := List.all_eq_true.1 h3'.1 n hn
          have : n ≤ 64 := by simpa using this
          omega
        · show (catC _ _ _ _ _).length = prodL (catSh A B)
          rw [hl]
          unfold catSh
          rw [prodL_append, prodL_one]
        · intro c hc
          unfold catC at hc
          obtain ⟨l, hl1, hl2⟩ := List.mem_flatten.1 hc
          obtain ⟨i, _, rfl⟩ := List.mem_map.1 hl1
          rcases List.mem_append.1 hl2 with h | h
          · exact hA.fits c (List.mem_of_mem_drop (List.mem_of_mem_take h))
          · exact hB.fits c (List.mem_of_mem_drop (List.mem_of_mem_take h))⟩
end Go.Proofs.YtjobgpahajhbnaaGreatDoor
