import Derived.Test.YtjobgpahajhbnabGreatDoorTr
namespace Go.Proofs.YtjobgpahajhbnabGreatDoor
open Go.RowKit Go.Proofs Go.Maps
attribute [local go_sem ↓] Go.wp_at_zero Go.wp_at_succ
def Kq (a : Arr) : Arr := if a.shape.length = 0 then Kn a else a
theorem K7 {a : Arr} (h : a.ok) : (Kq a).ok := by
  unfold Kq
  split
  · exact ⟨by simp [Kn], by simp [Kn]; exact h.few, by simp [Kn, Jj], h.few, h.fits⟩
  · exact h
theorem Kj (a : Arr) : (Kq a).cells = a.cells := by
  unfold Kq
  split <;> rfl
def Off3 (n : Nat) (P : Nat → Prop) (b : Nat) : Prop := P b ∧ (b < n ∨ n + 1 + 1 < b)
structure St (W : World) (P : Nat → Prop) (w : World) (so : Option Addr) (sn sc : Nat) (co : Option Addr) (cn cc : Nat) (so2 : Option Addr) (sn2 sc2 : Nat) (co2 : Option Addr) (cn2 cc2 : Nat) (a b : Arr) : Prop where
  below : Below W.heap.size W w
  lt : W.heap.size + 1 + 1 < w.heap.size
  a0 : w.cell? ⟨W.heap.size, 0, none⟩ = some (.slice so sn sc)
  a1 : w.cell? ⟨W.heap.size, 1, none⟩ = some (.slice co cn cc)
  b0 : w.cell? ⟨W.heap.size + 1, 0, none⟩ = some (.slice so2 sn2 sc2)
  b1 : w.cell? ⟨W.heap.size + 1, 1, none⟩ = some (.slice co2 cn2 cc2)
  r0 : w.cell? ⟨W.heap.size + 1 + 1, 0, none⟩ = some (.slice none 0 0)
  r1 : w.cell? ⟨W.heap.size + 1 + 1, 1, none⟩ = some (.slice none 0 0)
  fr : ∀ b i, W.heap.size ≤ b → b ≤ W.heap.size + 1 + 1 → w.frozen? ⟨b, i, none⟩ = false
  isA : IsArr (Off3 W.heap.size P) w (.agg #[.slice so sn sc, .slice co cn cc]) a
  isB : IsArr (Off3 W.heap.size P) w (.agg #[.slice so2 sn2 sc2, .slice co2 cn2 cc2]) b
theorem St.keep {W w w' : World} {P : Nat → Prop} {so : Option Addr} {sn sc : Nat} {co : Option Addr} {cn cc : Nat} {so2 : Option Addr} {sn2 sc2 : Nat} {co2 : Option Addr} {cn2 cc2 : Nat} {a b : Arr} (h : St W P w so sn sc co cn cc so2 sn2 sc2 co2 cn2 cc2 a b) (hb : Below w.heap.size w w') : St W P w' so sn sc co cn cc so2 sn2 sc2 co2 cn2 cc2 a b := by
  have l := h.lt
  have hz := hb.size
  refine ⟨h.below.trans (hb.mono h.below.size), by omega, ?_, ?_, ?_, ?_, ?_, ?_, ?_, h.isA.below hb, h.isB.below hb⟩
  · exact (hb.cell (p := ⟨W.heap.size, 0, none⟩) (by show W.heap.size < w.heap.size; omega)).trans h.a0
  · exact (hb.cell (p := ⟨W.heap.size, 1, none⟩) (by show W.heap.size < w.heap.size; omega)).trans h.a1
  · exact (hb.cell (p := ⟨W.heap.size + 1, 0, none⟩) (by show W.heap.size + 1 < w.heap.size; omega)).trans h.b0
  · exact (hb.cell (p := ⟨W.heap.size + 1, 1, none⟩) (by show W.heap.size + 1 < w.heap.size; omega)).trans h.b1
  · exact (hb.cell (p := ⟨W.heap.size + 1 + 1, 0, none⟩) (by show W.heap.size + 1 + 1 < w.heap.size; omega)).trans h.r0
  · exact (hb.cell (p := ⟨W.heap.size + 1 + 1, 1, none⟩) (by show W.heap.size + 1 + 1 < w.heap.size; omega)).trans h.r1
  · intro b i h1 h2
    exact (hb.frozen (p := ⟨b, i, none⟩) (by show b < w.heap.size; omega)).trans (h.fr b i h1 h2)
theorem St.start {W : World} {P : Nat → Prop} {so : Option Addr} {sn sc : Nat} {co : Option Addr} {cn cc : Nat} {so2 : Option Addr} {sn2 sc2 : Nat} {co2 : Option Addr} {cn2 cc2 : Nat} {a b : Arr} (ha : IsArr P W (.agg #[.slice so sn sc, .slice co cn cc]) a) (hb : IsArr P W (.agg #[.slice so2 sn2 sc2, .slice co2 cn2 cc2]) b) :
    St W P (((W.alloc (.cells #[.slice so sn sc, .slice co cn cc] 57)).alloc (.cells #[.slice so2 sn2 sc2, .slice co2 cn2 cc2] 57)).alloc (.cells #[.slice none 0 0, .slice none 0 0] 57)) so sn sc co cn cc so2 sn2 sc2 co2 cn2 cc2 a b := by
  have hbW : Below W.heap.size W (((W.alloc (.cells #[.slice so sn sc, .slice co cn cc] 57)).alloc (.cells #[.slice so2 sn2 sc2, .slice co2 cn2 cc2] 57)).alloc (.cells #[.slice none 0 0, .slice none 0 0] 57)) := (((Below.refl _ _).alloc (Nat.le_refl _) _).alloc (by simp) _).alloc (by simp; omega) _
  have hs : (((W.alloc (.cells #[.slice so sn sc, .slice co cn cc] 57)).alloc (.cells #[.slice so2 sn2 sc2, .slice co2 cn2 cc2] 57)).alloc (.cells #[.slice none 0 0, .slice none 0 0] 57)).heap.size = W.heap.size + 1 + 1 + 1 := by simp
  refine ⟨hbW, by omega, ?_, ?_, ?_, ?_, ?_, ?_, ?_, (ha.imp (fun b hp hl => ⟨hp, .inl hl⟩)).below hbW, (hb.imp (fun b hp hl => ⟨hp, .inl hl⟩)).below hbW⟩
  · rw [World.cell?_of_block (a := ⟨W.heap.size, 0, none⟩) (RowKit.Below.heap_alloc _ _ _ (by simp; omega)), World.cell?_of_block (a := ⟨W.heap.size, 0, none⟩) (RowKit.Below.heap_alloc _ _ _ (by simp))]
    exact (World.cell?_alloc_at _ _ _ _ rfl).trans rfl
  · rw [World.cell?_of_block (a := ⟨W.heap.size, 1, none⟩) (RowKit.Below.heap_alloc _ _ _ (by simp; omega)), World.cell?_of_block (a := ⟨W.heap.size, 1, none⟩) (RowKit.Below.heap_alloc _ _ _ (by simp))]
    exact (World.cell?_alloc_at _ _ _ _ rfl).trans rfl
  · rw [World.cell?_of_block (a := ⟨W.heap.size + 1, 0, none⟩) (RowKit.Below.heap_alloc _ _ _ (by simp))]
    exact (World.cell?_alloc_at _ _ _ _ (by simp)).trans rfl
  · rw [World.cell?_of_block (a := ⟨W.heap.size + 1, 1, none⟩) (RowKit.Below.heap_alloc _ _ _ (by simp))]
    exact (World.cell?_alloc_at _ _ _ _ (by simp)).trans rfl
  · exact (World.cell?_alloc_at _ _ _ _ (by simp)).trans rfl
  · exact (World.cell?_alloc_at _ _ _ _ (by simp)).trans rfl
  · intro b i h1 h2
    by_cases e : b = W.heap.size + 1 + 1
    · subst e; exact World.frozen?_alloc_at _ _ _ _ (by simp)
    · by_cases e2 : b = W.heap.size + 1
      · subst e2
        rw [World.frozen?_of_block (a := ⟨W.heap.size + 1, i, none⟩) (RowKit.Below.heap_alloc _ _ _ (by simp))]
        exact World.frozen?_alloc_at _ _ _ _ (by simp)
      · have e3 : b = W.heap.size := by omega
        subst e3
        rw [World.frozen?_of_block (a := ⟨W.heap.size, i, none⟩) (RowKit.Below.heap_alloc _ _ _ (by simp; omega)), World.frozen?_of_block (a := ⟨W.heap.size, i, none⟩) (RowKit.Below.heap_alloc _ _ _ (by simp))]
        exact World.frozen?_alloc_at _ _ _ _ rfl
theorem St.setB {W w : World} {P : Nat → Prop} {so : Option Addr} {sn sc : Nat} {co : Option Addr} {cn cc : Nat} {so2 : Option Addr} {sn2 sc2 : Nat} {co2 : Option Addr} {cn2 cc2 : Nat} {a b : Arr} (h : St W P w so sn sc co cn cc so2 sn2 sc2 co2 cn2 cc2 a b) {s1 : Option Addr} {s2 s3 : Nat} {c1 : Option Addr} {c2 c3 : Nat} {b' : Arr} (hb : IsArr (Off3 W.heap.size P) w (.agg #[.slice s1 s2 s3, .slice c1 c2 c3]) b') : St W P ((w.setCell ⟨W.heap.size + 1, 0, none⟩ (.slice s1 s2 s3)).setCell ⟨W.heap.size + 1, 1, none⟩ (.slice c1 c2 c3)) so sn sc co cn cc s1 s2 s3 c1 c2 c3 a b' := by
  have hbl : ∀ b, b ≠ W.heap.size + 1 → ((w.setCell ⟨W.heap.size + 1, 0, none⟩ (.slice s1 s2 s3)).setCell ⟨W.heap.size + 1, 1, none⟩ (.slice c1 c2 c3)).heap[b]? = w.heap[b]? := fun b hne => (RowKit.Below.heap_setCell _ _ _ _ (fun e => hne e)).trans (RowKit.Below.heap_setCell _ _ _ _ (fun e => hne e))
  have hno : ¬ Off3 W.heap.size P (W.heap.size + 1) := by
    rintro ⟨_, h | h⟩ <;> omega
  refine ⟨(h.below.setCell (p := ⟨W.heap.size + 1, 0, none⟩) (by show W.heap.size ≤ W.heap.size + 1; omega) _).setCell (p := ⟨W.heap.size + 1, 1, none⟩) (by show W.heap.size ≤ W.heap.size + 1; omega) _, by simpa using h.lt, ?_, ?_, ?_, ?_, ?_, ?_, ?_, (h.isA.set hno 0 _).set hno 1 _, (hb.set hno 0 _).set hno 1 _⟩
  · rw [World.cell?_of_block (a := ⟨W.heap.size, 0, none⟩) (hbl _ (by show W.heap.size ≠ W.heap.size + 1; omega))]; exact h.a0
  · rw [World.cell?_of_block (a := ⟨W.heap.size, 1, none⟩) (hbl _ (by show W.heap.size ≠ W.heap.size + 1; omega))]; exact h.a1
  · rw [World.cell?_setCell_other _ _ _ _ (by simp)]; exact World.cell?_setCell_same _ _ _ h.b0
  · exact World.cell?_setCell_same _ _ _ (u := .slice co2 cn2 cc2) ((World.cell?_setCell_other _ _ _ _ (by simp)).trans h.b1)
  · rw [World.cell?_of_block (a := ⟨W.heap.size + 1 + 1, 0, none⟩) (hbl _ (by show W.heap.size + 1 + 1 ≠ W.heap.size + 1; omega))]; exact h.r0
  · rw [World.cell?_of_block (a := ⟨W.heap.size + 1 + 1, 1, none⟩) (hbl _ (by show W.heap.size + 1 + 1 ≠ W.heap.size + 1; omega))]; exact h.r1
  · intro b i h1 h2
    rw [World.frozen?_setCell, World.frozen?_setCell]
    exact h.fr b i h1 h2
theorem St.setA {W w : World} {P : Nat → Prop} {so : Option Addr} {sn sc : Nat} {co : Option Addr} {cn cc : Nat} {so2 : Option Addr} {sn2 sc2 : Nat} {co2 : Option Addr} {cn2 cc2 : Nat} {a b : Arr} (h : St W P w so sn sc co cn cc so2 sn2 sc2 co2 cn2 cc2 a b) {s1 : Option Addr} {s2 s3 : Nat} {c1 : Option Addr} {c2 c3 : Nat} {b' : Arr} (hb : IsArr (Off3 W.heap.size P) w (.agg #[.slice s1 s2 s3, .slice c1 c2 c3]) b') : St W P ((w.setCell ⟨W.heap.size, 0, none⟩ (.slice s1 s2 s3)).setCell ⟨W.heap.size, 1, none⟩ (.slice c1 c2 c3)) s1 s2 s3 c1 c2 c3 so2 sn2 sc2 co2 cn2 cc2 b' b := by
  have hbl : ∀ b, b ≠ W.heap.size → ((w.setCell ⟨W.heap.size, 0, none⟩ (.slice s1 s2 s3)).setCell ⟨W.heap.size, 1, none⟩ (.slice c1 c2 c3)).heap[b]? = w.heap[b]? := fun b hne => (RowKit.Below.heap_setCell _ _ _ _ (fun e => hne e)).trans (RowKit.Below.heap_setCell _ _ _ _ (fun e => hne e))
  have hno : ¬ Off3 W.heap.size P W.heap.size := by
    rintro ⟨_, h | h⟩ <;> omega
  refine ⟨(h.below.setCell (p := ⟨W.heap.size, 0, none⟩) (by show W.heap.size ≤ W.heap.size; omega) _).setCell (p := ⟨W.heap.size, 1, none⟩) (by show W.heap.size ≤ W.heap.size; omega) _, by simpa using h.lt, ?_, ?_, ?_, ?_, ?_, ?_, ?_, (hb.set hno 0 _).set hno 1 _, (h.isB.set hno 0 _).set hno 1 _⟩
  · rw [World.cell?_setCell_other _ _ _ _ (by simp)]; exact World.cell?_setCell_same _ _ _ h.a0
  · exact World.cell?_setCell_same _ _ _ (u := .slice co cn cc) ((World.cell?_setCell_other _ _ _ _ (by simp)).trans h.a1)
  · rw [World.cell?_of_block (a := ⟨W.heap.size + 1, 0, none⟩) (hbl _ (by show W.heap.size + 1 ≠ W.heap.size; omega))]; exact h.b0
  · rw [World.cell?_of_block (a := ⟨W.heap.size + 1, 1, none⟩) (hbl _ (by show W.heap.size + 1 ≠ W.heap.size; omega))]; exact h.b1
  · rw [World.cell?_of_block (a := ⟨W.heap.size + 1 + 1, 0, none⟩) (hbl _ (by show W.heap.size + 1 + 1 ≠ W.heap.size; omega))]; exact h.r0
  · rw [World.cell?_of_block (a := ⟨W.heap.size + 1 + 1, 1, none⟩) (hbl _ (by show W.heap.size + 1 + 1 ≠ W.heap.size; omega))]; exact h.r1
  · intro b i h1 h2
    rw [World.frozen?_setCell, World.frozen?_setCell]
    exact h.fr b i h1 h2
theorem Jgz {P : Nat → Prop} {w : World} {b off cap : Nat} {xs : List Int} (h : Nums P w (.slice (some ⟨b, off, none⟩) xs.length cap) xs) {k : Nat} (hk : k ≤ xs.length) : Nums P w (.slice (some ⟨b, off + k, none⟩) (xs.length - k) (cap - k)) (xs.drop k) := by
  obtain ⟨ao, cap', hv, hcap, h1, _⟩ := h
  injection hv with e1 e2 e3
  subst e3
  refine ⟨some ⟨b, off + k, none⟩, cap - k, by simp, by simp; omega, fun h0 => ?_, fun a h => by cases h; rfl⟩
  have h0' : 0 < xs.length := by simp at h0; omega
  obtain ⟨b', off', ha, hp, hl, hc⟩ := h1 h0'
  rw [← e1] at ha
  injection ha with ha
  injection ha with e4 e5
  subst e4
  subst e5
  refine ⟨b, off + k, rfl, hp, hl, fun i hi => ?_⟩
  simp at hi
  rw [Nat.add_assoc, hc (k + i) (by omega)]
  simp
theorem Jgu {P : Nat → Prop} {w : World} {b off cap : Nat} {xs : List Int} (h : Nums P w (.slice (some ⟨b, off, none⟩) xs.length cap) xs) {k : Nat} (hk : k ≤ xs.length) : Nums P w (.slice (some ⟨b, off, none⟩) k cap) (xs.take k) := by
  obtain ⟨ao, cap', hv, hcap, h1, _⟩ := h
  injection hv with e1 e2 e3
  subst e3
  refine ⟨some ⟨b, off, none⟩, cap, by simp [Nat.min_eq_left hk], by simp; omega, fun h0 => ?_, fun a h => by cases h; rfl⟩
  have h0' : 0 < xs.length := by simp at h0; omega
  obtain ⟨b', off', ha, hp, hl, hc⟩ := h1 h0'
  rw [← e1] at ha
  injection ha with ha
  injection ha with e4 e5
  subst e4
  subst e5
  refine ⟨b, off, rfl, hp, hl, fun i hi => ?_⟩
  simp at hi
  rw [hc i (by omega)]
  simp
set_option maxHeartbeats 1000000 in
theorem Qx (P : Nat → Prop) (W : World) (hP : ∀ b, W.heap.size ≤ b → P b) (so : Option Addr) (sn sc : Nat) (co : Option Addr) (cn cc : Nat) (a : Arr) (ha : IsArr P W (.agg #[.slice so sn sc, .slice co cn cc]) a) :
    Calls Tryz.prog 177 #[.agg #[.slice so sn sc, .slice co cn cc]] W fun e w' => ∃ s1 s2 s3 c1 c2 c3, e = .returned (.agg #[.slice s1 s2 s3, .slice c1 c2 c3]) ∧ IsArr P w' (.agg #[.slice s1 s2 s3, .slice c1 c2 c3]) (Kq a) ∧ Below W.heap.size W w' := by
  have hsn := (Jc ha).2
  have HS := hide (fun W' => Ji W' so sn sc co cn cc)
  have HC := hide (fun W' (h : Below W.heap.size W W') (hs : W.heap.size + 1 < W'.heap.size) => Zp (fun b => P b ∧ b ≠ W.heap.size + 1) W' (fun b h' => ⟨hP b (by omega), by omega⟩) (.slice co cn cc) a.cells (((Jq ha).imp (fun b hp hl => ⟨hp, by omega⟩)).below h))
  have HA := hide (ha.imp (Q := fun b => P b ∧ b ≠ W.heap.size + 1) (fun b hp hl => ⟨hp, by omega⟩))
  obtain ⟨r, hr⟩ : ∃ r : Arr, Kq a = r := ⟨_, rfl⟩
  simp only [hr]
  by_cases h0 : sn = 0
  · have hr' : (⟨[a.cells.length], a.cells⟩ : Arr) = r := by rw [← hr]; unfold Kq; rw [if_pos (by omega)]; rfl
    simp only [hr'] at HC
    subst h0
    clear hr hr' ha hP hsn HA
    go_enter Tryz.func177, Tryz.ntmps177
    go_wp2_with (go_at_call 143; refine (Ja HS _).mono ?_; rintro e w' ⟨rfl, rfl⟩)
    have HBW : Hid (Below W.heap.size W ((((W.alloc (.cells #[.slice so 0 sc, .slice co cn cc] 57)).alloc (.cells #[.slice none 0 0, .slice none 0 0] 57)).alloc (.cells #[.slice so 0 sc, .slice co cn cc] 57)).alloc (.cells #[.slice so 0 sc, .slice co cn cc] 57))) := hide ((((((Below.refl W.heap.size W).alloc (Nat.le_refl _) _).alloc (by simp) _).alloc (by simp; omega) _).alloc (by simp; omega) _))
    refine (Ja HC _ (Ja HBW) (by simp)).mono ?_
    rintro e w1 ⟨s1, s2, s3, c1, c2, c3, rfl, h1, hb1⟩
    have HA := hide h1
    have HB : Hid (Below W.heap.size W w1) := hide ((Ja HBW).trans (hb1.mono (Ja HBW).size))
    obtain ⟨hc, hf⟩ := Jr hb1
    have hs1 := hb1.size
    simp only [World.size_alloc] at hc hf hs1
    have d0 : w1.cell? ⟨W.heap.size + 1, 0, none⟩ = some (.slice none 0 0) := (hc (W.heap.size + 1) 0 (by omega)).trans ((V9 W _ _ _ _ 0).trans rfl)
    have d1 : w1.cell? ⟨W.heap.size + 1, 1, none⟩ = some (.slice none 0 0) := (hc (W.heap.size + 1) 1 (by omega)).trans ((V9 W _ _ _ _ 1).trans rfl)
    have g0 := (hf (W.heap.size + 1) 0 (by omega)).trans (Qc W _ _ _ _ 0)
    have g1 := (hf (W.heap.size + 1) 1 (by omega)).trans (Qc W _ _ _ _ 1)
    have hw1 : W.heap.size + 1 < w1.heap.size := by omega
    clear h1 hb1 hc hf HBW HC HS
    go_wp2_with fail
    refine bodyPost_ret (v := .agg #[.slice s1 s2 s3, .slice c1 c2 c3]) (by simp [results, Tryz.results177, go_sem, d0, d1]) rfl ⟨_, _, _, _, _, _, rfl, ?_, ?_⟩
    · exact (((Ja HA).set (fun h => h.2 rfl) 0 _).set (fun h => h.2 rfl) 1 _).imp (fun b h _ => h.1)
    · exact ((Ja HB).setCell (p := ⟨W.heap.size + 1, 0, none⟩) (Nat.le_succ _) _).setCell (p := ⟨W.heap.size + 1, 1, none⟩) (Nat.le_succ _) _
  · have hr' : a = r := by rw [← hr]; unfold Kq; rw [if_neg (by omega)]
    subst hr'
    have h0' : ((sn : Int) == 0) = false := by rw [beq_eq_false_iff_ne]; omega
    clear hr ha hP hsn HC h0
    go_enter Tryz.func177, Tryz.ntmps177
    go_wp2_with (go_at_call 143; refine (Ja HS _).mono ?_; rintro e w' ⟨rfl, rfl⟩)
    refine bodyPost_ret (v := .agg #[.slice so sn sc, .slice co cn cc]) (by simp [results, Tryz.results177, go_sem]) rfl ⟨_, _, _, _, _, _, rfl, ?_, ?_⟩
    · exact ((Ja HA).below (((((Below.refl W.heap.size W).alloc (Nat.le_refl _) _).alloc (by simp) _).alloc (by simp; omega) _).alloc (by simp; omega) _)).imp (fun b h _ => h.1)
    · exact ((((Below.refl W.heap.size W).alloc (Nat.le_refl _) _).alloc (by simp) _).alloc (by simp; omega) _).alloc (by simp; omega) _
end Go.Proofs.YtjobgpahajhbnabGreatDoor
namespace Go.Proofs.YtjobgpahajhbnabGreatDoor
open Go.RowKit Go.Proofs Go.Maps
attribute [local go_sem ↓] Go.wp_at_zero Go.wp_at_succ
theorem Tryz.enters123 : Enters Tryz.prog 123 := Go.Proofs.enters_of Tryz.func123 (by decide) rfl
def Qm (x : Int) (xs : List Int) : List Int := if 0 ≤ x then xs.drop x.toNat else xs.take (xs.length - (-x).toNat)
def Jaq (a b : Arr) : Arr × Int := if a.shape.length ≠ 0 ∨ (Kq b).shape.length ≠ 1 then (eArr, 5) else (⟨[(Qm (a.cells.headD 0) b.cells).length], Qm (a.cells.headD 0) b.cells⟩, 0)
theorem Yc {W w : World} {P : Nat → Prop} {v u0 u1 : Value} {q : Arr} (hb : Below W.heap.size W w) (hA : IsArr (Off3 W.heap.size P) w v q) : IsArr P ((w.setCell ⟨W.heap.size + 1 + 1, 0, none⟩ u0).setCell ⟨W.heap.size + 1 + 1, 1, none⟩ u1) v q ∧ Below W.heap.size W ((w.setCell ⟨W.heap.size + 1 + 1, 0, none⟩ u0).setCell ⟨W.heap.size + 1 + 1, 1, none⟩ u1) := by
  have hno : ¬ Off3 W.heap.size P (W.heap.size + 1 + 1) := by
    rintro ⟨_, h | h⟩ <;> omega
  exact ⟨((hA.set hno 0 _).set hno 1 _).imp (fun b h _ => h.1), (hb.setCell (p := ⟨W.heap.size + 1 + 1, 0, none⟩) (by show W.heap.size ≤ W.heap.size + 1 + 1; omega) _).setCell (p := ⟨W.heap.size + 1 + 1, 1, none⟩) (by show W.heap.size ≤ W.heap.size + 1 + 1; omega) _⟩
theorem Zx {P : Nat → Prop} {w : World} {b off cap n : Nat} {xs : List Int} (h : Nums P w (.slice (some ⟨b, off, none⟩) n cap) xs) {k : Nat} (hk : k ≤ n) : Nums P w (.slice (if cap = k then some ⟨b, off, none⟩ else some ⟨b, off + k, none⟩) (n - k) (cap - k)) (xs.drop k) := by
  have hn := Jf h
  subst hn
  by_cases e : cap = k
  · rw [if_pos e]
    have hcap : xs.length ≤ cap := by
      obtain ⟨ao, cap', hv, hcap, _⟩ := h
      injection hv with e1 e2 e3
      omega
    have hz : xs.length - k = 0 := by omega
    have hd : xs.drop k = [] := List.drop_of_length_le (by omega)
    rw [hz, hd]
    exact ⟨_, _, rfl, by simp, fun h => absurd h (by simp), fun a h => by cases h; rfl⟩
  · rw [if_neg e]
    exact Jgz h hk
theorem Jhy {x : Int} {xs : List Int} {n : Nat} (hn : n = xs.length) (h : 0 ≤ x) : ∃ k : Nat, k ≤ n ∧ min x (n : Int) = (k : Int) ∧ Qm x xs = xs.drop k := by
  subst hn
  unfold Qm
  rw [if_pos h]
  by_cases hx : (xs.length : Int) < x
  · exact ⟨xs.length, Nat.le_refl _, by omega, by rw [List.drop_of_length_le (by omega), List.drop_of_length_le (Nat.le_refl _)]⟩
  · exact ⟨x.toNat, by omega, by omega, rfl⟩
theorem Jhz {x : Int} {xs : List Int} {n : Nat} (hn : n = xs.length) (h : ¬ 0 ≤ x) : ∃ k : Nat, k ≤ n ∧ max x (-(n : Int)) = (k : Int) - (n : Int) ∧ Qm x xs = xs.take k := by
  subst hn
  unfold Qm
  rw [if_neg h]
  by_cases hx : -(xs.length : Int) > x
  · exact ⟨0, by omega, by omega, by rw [show xs.length - (-x).toNat = 0 by omega]⟩
  · exact ⟨xs.length - (-x).toNat, by omega, by omega, rfl⟩
theorem Jio {n : Nat} (h : n ≤ 1000) : IntKind.i64.wrap (-(n : Int)) = -(n : Int) := by
  show (if (true && decide (-(n : Int) % (18446744073709551616 : Int) ≥ 9223372036854775808)) = true then -(n : Int) % (18446744073709551616 : Int) - 18446744073709551616 else -(n : Int) % (18446744073709551616 : Int)) = -(n : Int)
  by_cases h0 : n = 0
  · subst h0; decide
  · have e : -(n : Int) % (18446744073709551616 : Int) = 18446744073709551616 - n := by omega
    rw [e, if_pos (by simp; omega)]
    omega
set_option maxHeartbeats 2000000 in
set_option maxRecDepth 20000 in
theorem Jm1 (w : World) : FnTwo 123 #[] w Jaq := by
  intro W P u v a b _ hP ha hb hoa hob
  obtain ⟨so, sn, sc, co, cn, cc, rfl, ha1, ha2⟩ := ha
  obtain ⟨so2, sn2, sc2, co2, cn2, cc2, rfl, hb1, hb2⟩ := hb
  have hsn := Jf ha1
  simp at hsn
  have HSN := hide hsn
  have hS0 := St.start (P := P) (W := W) (a := a) (b := b) ⟨so, sn, sc, co, cn, cc, rfl, ha1, ha2⟩ ⟨so2, sn2, sc2, co2, cn2, cc2, rfl, hb1, hb2⟩
  obtain ⟨W1, hW1⟩ : ∃ W1, ((W.alloc (.cells #[.slice so sn sc, .slice co cn cc] 57)).alloc (.cells #[.slice so2 sn2 sc2, .slice co2 cn2 cc2] 57)).alloc (.cells #[.slice none 0 0, .slice none 0 0] 57) = W1 := ⟨_, rfl⟩
  rw [hW1] at hS0
  have HS0 := hide hS0
  have HOff : Hid (∀ w' : World, W.heap.size + 1 + 1 < w'.heap.size → ∀ b, w'.heap.size ≤ b → Off3 W.heap.size P b) := hide (fun w' h b hb => ⟨hP b (by omega), .inr (by omega)⟩)
  have HL := hide (Qx (Off3 W.heap.size P) W1 (Ja HOff W1 hS0.lt) so2 sn2 sc2 co2 cn2 cc2 b hS0.isB)
  have HScal := hide (fun w' => (Ji w' so sn sc co cn cc).mono (fun e w'' h => (⟨h.1, by rw [h.2]; exact ((Below.refl _ _).alloc (Nat.le_refl _) _).alloc (by simp) _⟩ : e = .returned (.bool ((sn : Int) == 0)) ∧ Below w'.heap.size w' w'')))
  have HP : Hid (∀ b, W.heap.size ≤ b → P b) := hP
  have HOA := hide hoa
  have HOB := hide (K7 hob)
  have HBC := hide (Kj b)
  obtain ⟨r, hr⟩ : ∃ r, Jaq a b = r := ⟨_, rfl⟩
  simp only [hr]
  have HR := hide hr
  have b0' := hS0.b0
  have b1' := hS0.b1
  clear hP hoa hob ha1 ha2 hb1 hb2 hr hsn hS0
  go_enter Tryz.func123, Tryz.ntmps123
  go_wp2_with fail
  try rw [hW1]
  clear hW1 b0' b1'
  refine (Ja HL).mono ?_
  rintro e w2 ⟨s1, s2, s3, c1, c2, c3, rfl, hB2, hb2⟩
  have hS2 := (Ja HS0).keep hb2
  have hS3 := hS2.setB hB2
  have HS3 := hide hS3
  have HS2L := hide (Jc hB2)
  have x0 := hS2.a0
  have x1 := hS2.a1
  have x2 := hS2.b0
  have x3 := hS2.b1
  have y2 := hS2.fr (W.heap.size + 1) 0 (by omega) (by omega)
  have y3 := hS2.fr (W.heap.size + 1) 1 (by omega) (by omega)
  have n3 := hS2.lt
  have n1 : W.heap.size < w2.heap.size := by omega
  have n2 : W.heap.size + 1 < w2.heap.size := by omega
  clear hS2 hS3 hB2 hb2 HL HS0
  go_wp2_with fail
  obtain ⟨w3, hw3⟩ : ∃ w3, (w2.setCell ⟨W.heap.size + 1, 0, none⟩ (.slice s1 s2 s3)).setCell ⟨W.heap.size + 1, 1, none⟩ (.slice c1 c2 c3) = w3 := ⟨_, rfl⟩
  rw [hw3] at HS3 ⊢
  clear hw3 x0 x1 x2 x3 y2 y3 n1 n2 n3
  refine (Ja HScal _).mono ?_
  rintro e w4 ⟨rfl, hb4⟩
  have hS4 := (Ja HS3).keep hb4
  have HS4 := hide hS4
  have x0 := hS4.a0
  have x1 := hS4.a1
  have x2 := hS4.b0
  have x3 := hS4.b1
  have x4 := hS4.r0
  have x5 := hS4.r1
  have y4 := hS4.fr (W.heap.size + 1 + 1) 0 (by omega) (by omega)
  have y5 := hS4.fr (W.heap.size + 1 + 1) 1 (by omega) (by omega)
  have n3 := hS4.lt
  have n1 : W.heap.size < w4.heap.size := by omega
  have n2 : W.heap.size + 1 < w4.heap.size := by omega
  have HBz := hide hS4.below
  clear hS4 hb4 HS3 HScal
  by_cases hsc : sn = 0
  · have hsc' : ((sn : Int) == 0) = true := by rw [hsc]; rfl
    have HSC := hide hsc
    clear hsc
    go_wp2_with fail
    refine (Zs _ s1 s2 s3 c1 c2 c3).mono ?_
    rintro e w5 ⟨rfl, hw5⟩
    have hb5 : Below w4.heap.size w4 w5 := by rw [hw5]; exact ((Below.refl _ _).alloc (Nat.le_refl _) _).alloc (by simp) _
    clear hw5
    have hS5 := (Ja HS4).keep hb5
    have HS5 := hide hS5
    clear x0 x1 x2 x3 x4 x5 y4 y5 n1 n2 n3
    have x0 := hS5.a0
    have x1 := hS5.a1
    have x2 := hS5.b0
    have x3 := hS5.b1
    have x4 := hS5.r0
    have x5 := hS5.r1
    have y4 := hS5.fr (W.heap.size + 1 + 1) 0 (by omega) (by omega)
    have y5 := hS5.fr (W.heap.size + 1 + 1) 1 (by omega) (by omega)
    have n3 := hS5.lt
    have n1 : W.heap.size < w5.heap.size := by omega
    have n2 : W.heap.size + 1 < w5.heap.size := by omega
    have HBz := hide hS5.below
    clear hb5 HS4
    by_cases hrow : s2 = 1
    · have hrow' : ((s2 : Int) == 1) = true := by rw [hrow]; rfl
      have hash : a.shape = [] := List.eq_nil_of_length_eq_zero (by rw [← Ja HSN]; exact Ja HSC)
      obtain ⟨x, ab, ao, hax, hcn1, hco, _, hal, hac, hacc⟩ := Zo (Jq hS5.isA) (Ja HOA) hash
      subst hco
      have hBc := Jq hS5.isB
      rw [Ja HBC] at hBc
      have hc2 := Jf hBc
      obtain ⟨xs, hxs⟩ : ∃ xs, b.cells = xs := ⟨_, rfl⟩
      rw [hxs] at hBc hc2
      have hfew : xs.length ≤ 200 := by rw [← hxs, ← Kj b]; exact (Ja HOB).few
      have hr' : r = (⟨[(Qm x xs).length], Qm x xs⟩, 0) := by
        rw [← Ja HR]
        unfold Jaq
        rw [if_neg (by rw [hash, ← (Ja HS2L).2, hrow]; simp), hax, hxs]
        rfl
      obtain ⟨ys, hys⟩ : ∃ ys, Qm x xs = ys := ⟨_, rfl⟩
      rw [hys] at hr'
      subst hr'
      have HYS := hide hys
      clear hys
      have hx64 := (Ja HOA).fits x (by rw [hax]; simp)
      subst hcn1
      have HBC2 := hide hBc
      have hcc3 : c2 ≤ c3 := by
        obtain ⟨ao', cap', hv, hcap, _, _⟩ := hBc
        injection hv with e1 e2 e3
        omega
      clear hS5 hash hax hxs HBC HOB HOA HR HSC HS2L HSN hBc hrow
      have HC2 := hide hc2
      clear hc2
      go_wp2_with fail
      refine (J2 _ s1 s2 s3 c1 c2 c3).mono ?_
      rintro e w6 ⟨rfl, hw6⟩
      have hb6 : Below w5.heap.size w5 w6 := by rw [hw6]; exact (Below.refl _ _).alloc (Nat.le_refl _) _
      clear hw6
      have hS6 := (Ja HS5).keep hb6
      have hac6 := (hb6.cell (p := ⟨ab, ao, none⟩) hal).trans hac
      have HN6 := hide ((Ja HBC2).below hb6)
      clear x0 x1 x2 x3 x4 x5 y4 y5 n1 n2 n3 HBz HBC2 HS5 hb6 hac
      have x1 := hS6.a1
      have x2 := hS6.b0
      have x3 := hS6.b1
      have x4 := hS6.r0
      have x5 := hS6.r1
      have y4 := hS6.fr (W.heap.size + 1 + 1) 0 (by omega) (by omega)
      have y5 := hS6.fr (W.heap.size + 1 + 1) 1 (by omega) (by omega)
      have n3 := hS6.lt
      have n1 : W.heap.size < w6.heap.size := by omega
      have n2 : W.heap.size + 1 < w6.heap.size := by omega
      have HB6 := hide hS6.below
      clear hS6
      have HRW := hide (fun (w' : World) (hb : W.heap.size + 1 + 1 < w'.heap.size) v ys (h : Nums (Off3 W.heap.size P) w' v ys) => Zp (Off3 W.heap.size P) w' (Ja HOff w' hb) v ys h)
      have hx1 := hx64.1
      have hx2 := hx64.2
      clear hx64
      by_cases hx0 : 0 ≤ x
      · obtain ⟨k, hkc, hmin, hdl⟩ := Jhy (Ja HC2) hx0
        rw [Ja HYS] at hdl
        have hk0 : (0 : Int) ≤ (k : Int) := by omega
        have hk1 : (k : Int) ≤ (c2 : Int) := by omega
        have HDL := hide hdl
        clear hdl
        rcases c1 with _ | ⟨cb, coff, spot⟩
        · have hN := Ja HN6
          obtain ⟨ao', cap', hv, hcap, h1, _⟩ := hN
          have hz : xs.length = 0 := by
            by_cases h : 0 < xs.length
            · obtain ⟨b', off', e1, _⟩ := h1 h
              injection hv with e2
              rw [e1] at e2
              cases e2
            · omega
          have hc0 : c2 = 0 := by rw [Ja HC2]; exact hz
          subst hc0
          have hk : k = 0 := by omega
          subst hk
          have hy0 : ys = [] := by rw [Ja HDL, List.eq_nil_of_length_eq_zero hz]; rfl
          subst hy0
          have hmin0 : min x 0 = 0 := by omega
          clear hv hcap h1 hz hmin
          have HND : Hid (Nums (Off3 W.heap.size P) w6.drew (.slice none 0 c3) []) := hide ⟨_, _, rfl, by simp, fun h => absurd h (by simp), fun a h => by cases h⟩
          go_wp2_with fail
          go_region_with (go_at_call 71; refine (Ja HRW _ (by simpa using n3) _ _ (Ja HND)).mono ?_; rintro e w7 ⟨t1, t2, t3, u1, u2, u3, rfl, hA7, hb7⟩; have q4 := (hb7.cell (p := ⟨W.heap.size + 1 + 1, 0, none⟩) n3).trans x4; have q5 := (hb7.cell (p := ⟨W.heap.size + 1 + 1, 1, none⟩) n3).trans x5; have z4 := (hb7.frozen (p := ⟨W.heap.size + 1 + 1, 0, none⟩) n3).trans y4; have z5 := (hb7.frozen (p := ⟨W.heap.size + 1 + 1, 1, none⟩) n3).trans y5; have HA7 := hide hA7; have HB7 : Hid (Below W.heap.size W w7) := hide ((Ja HB6).trans ((Jk hb7).mono (Ja HB6).size)); have n7 := hb7.size; clear hA7 hb7)
          all_goals
            go_wp2_with fail
            exact bodyPost_ret (v := .tuple #[.agg #[.slice t1 t2 t3, .slice u1 u2 u3], .int .i64 0]) (by simp [results, Tryz.results123, go_sem, q4, q5]) rfl ⟨_, _, _, _, _, _, rfl, (Yc (Ja HB7) (Ja HA7)).1, (Yc (Ja HB7) (Ja HA7)).2⟩
        · have hsp : spot = none := by
            obtain ⟨ao', cap', hv, hcap, h1, h2⟩ := Ja HN6
            injection hv with e2
            exact h2 _ e2.symm
          subst hsp
          obtain ⟨ad, had⟩ : ∃ ad : Option Addr, (if c3 = k then some ⟨cb, coff, none⟩ else some ⟨cb, coff + k, none⟩) = ad := ⟨_, rfl⟩
          have HND : Hid (Nums (Off3 W.heap.size P) w6.drew (.slice ad (c2 - k) (c3 - k)) ys) := hide (by
            rw [← had, Ja HDL]
            exact (Zx (Ja HN6) hkc).below (Below.refl _ _).drew)
          go_wp2_with fail
          go_region_with (go_at_call 71; refine (Ja HRW _ (by simpa using n3) _ _ (Ja HND)).mono ?_; rintro e w7 ⟨t1, t2, t3, u1, u2, u3, rfl, hA7, hb7⟩; have q4 := (hb7.cell (p := ⟨W.heap.size + 1 + 1, 0, none⟩) n3).trans x4; have q5 := (hb7.cell (p := ⟨W.heap.size + 1 + 1, 1, none⟩) n3).trans x5; have z4 := (hb7.frozen (p := ⟨W.heap.size + 1 + 1, 0, none⟩) n3).trans y4; have z5 := (hb7.frozen (p := ⟨W.heap.size + 1 + 1, 1, none⟩) n3).trans y5; have HA7 := hide hA7; have HB7 : Hid (Below W.heap.size W w7) := hide ((Ja HB6).trans ((Jk hb7).mono (Ja HB6).size)); have n7 := hb7.size; clear hA7 hb7)
          all_goals
            go_wp2_with fail
            exact bodyPost_ret (v := .tuple #[.agg #[.slice t1 t2 t3, .slice u1 u2 u3], .int .i64 0]) (by simp [results, Tryz.results123, go_sem, q4, q5]) rfl ⟨_, _, _, _, _, _, rfl, (Yc (Ja HB7) (Ja HA7)).1, (Yc (Ja HB7) (Ja HA7)).2⟩
      · obtain ⟨k, hkc, hmax, hdl⟩ := Jhz (Ja HC2) hx0
        rw [Ja HYS] at hdl
        have hk0 : (0 : Int) ≤ (k : Int) := by omega
        have hk1 : (k : Int) ≤ (c2 : Int) := by omega
        have hk2 : k ≤ c3 := by omega
        have HDL := hide hdl
        have hc2l : c2 ≤ 200 := by rw [Ja HC2]; exact hfew
        have hng : IntKind.i64.wrap (-(c2 : Int)) = -(c2 : Int) := Jio (by omega)
        have hadd : IntKind.i64.wrap ((c2 : Int) + ((k : Int) - (c2 : Int))) = (k : Int) := by
          have e : (c2 : Int) + ((k : Int) - (c2 : Int)) = (k : Int) := by omega
          rw [e]
          exact Jd (by omega) (by omega)
        clear hdl
        rcases c1 with _ | ⟨cb, coff, spot⟩
        · have hN := Ja HN6
          obtain ⟨ao', cap', hv, hcap, h1, _⟩ := hN
          have hz : xs.length = 0 := by
            by_cases h : 0 < xs.length
            · obtain ⟨b', off', e1, _⟩ := h1 h
              injection hv with e2
              rw [e1] at e2
              cases e2
            · omega
          have hc0 : c2 = 0 := by rw [Ja HC2]; exact hz
          have hk : k = 0 := by omega
          have hy0 : ys = [] := by rw [Ja HDL, List.eq_nil_of_length_eq_zero hz]; simp
          have hx0' : x < 0 := by omega
          have HND : Hid (Nums (Off3 W.heap.size P) w6.drew (.slice none k c3) ys) := hide (by
            rw [hk, hy0]
            exact ⟨_, _, rfl, by simp, fun h => absurd h (by simp), fun a h => by cases h⟩)
          clear hv hcap h1 hz hc0 hk hy0
          go_wp2_with fail
          go_region_with (go_at_call 71; refine (Ja HRW _ (by simpa using n3) _ _ (Ja HND)).mono ?_; rintro e w7 ⟨t1, t2, t3, u1, u2, u3, rfl, hA7, hb7⟩; have q4 := (hb7.cell (p := ⟨W.heap.size + 1 + 1, 0, none⟩) n3).trans x4; have q5 := (hb7.cell (p := ⟨W.heap.size + 1 + 1, 1, none⟩) n3).trans x5; have z4 := (hb7.frozen (p := ⟨W.heap.size + 1 + 1, 0, none⟩) n3).trans y4; have z5 := (hb7.frozen (p := ⟨W.heap.size + 1 + 1, 1, none⟩) n3).trans y5; have HA7 := hide hA7; have HB7 : Hid (Below W.heap.size W w7) := hide ((Ja HB6).trans ((Jk hb7).mono (Ja HB6).size)); have n7 := hb7.size; clear hA7 hb7)
          all_goals
            go_wp2_with fail
            exact bodyPost_ret (v := .tuple #[.agg #[.slice t1 t2 t3, .slice u1 u2 u3], .int .i64 0]) (by simp [results, Tryz.results123, go_sem, q4, q5]) rfl ⟨_, _, _, _, _, _, rfl, (Yc (Ja HB7) (Ja HA7)).1, (Yc (Ja HB7) (Ja HA7)).2⟩
        · have hsp : spot = none := by
            obtain ⟨ao', cap', hv, hcap, h1, h2⟩ := Ja HN6
            injection hv with e2
            exact h2 _ e2.symm
          subst hsp
          have hx0' : x < 0 := by omega
          have HND : Hid (Nums (Off3 W.heap.size P) w6.drew (.slice (some ⟨cb, coff, none⟩) k c3) ys) := hide (by
            rw [Ja HDL]
            have hN := Ja HN6
            have hl := Jf hN
            rw [hl] at hN hkc
            exact (Jgu hN hkc).below (Below.refl _ _).drew)
          go_wp2_with fail
          go_region_with (go_at_call 71; refine (Ja HRW _ (by simpa using n3) _ _ (Ja HND)).mono ?_; rintro e w7 ⟨t1, t2, t3, u1, u2, u3, rfl, hA7, hb7⟩; have q4 := (hb7.cell (p := ⟨W.heap.size + 1 + 1, 0, none⟩) n3).trans x4; have q5 := (hb7.cell (p := ⟨W.heap.size + 1 + 1, 1, none⟩) n3).trans x5; have z4 := (hb7.frozen (p := ⟨W.heap.size + 1 + 1, 0, none⟩) n3).trans y4; have z5 := (hb7.frozen (p := ⟨W.heap.size + 1 + 1, 1, none⟩) n3).trans y5; have HA7 := hide hA7; have HB7 : Hid (Below W.heap.size W w7) := hide ((Ja HB6).trans ((Jk hb7).mono (Ja HB6).size)); have n7 := hb7.size; clear hA7 hb7)
          all_goals
            go_wp2_with fail
            exact bodyPost_ret (v := .tuple #[.agg #[.slice t1 t2 t3, .slice u1 u2 u3], .int .i64 0]) (by simp [results, Tryz.results123, go_sem, q4, q5]) rfl ⟨_, _, _, _, _, _, rfl, (Yc (Ja HB7) (Ja HA7)).1, (Yc (Ja HB7) (Ja HA7)).2⟩
    · have hrow' : ((s2 : Int) == 1) = false := by rw [beq_eq_false_iff_ne]; omega
      have hr' : r = (eArr, 5) := by
        rw [← Ja HR]
        unfold Jaq
        rw [if_pos (Or.inr (by rw [← (Ja HS2L).2]; exact hrow))]
      subst hr'
      clear hS5 hrow
      go_wp2_with fail
      exact bodyPost_ret (v := .tuple #[.agg #[.slice none 0 0, .slice none 0 0], .int .i64 5]) (by simp [results, Tryz.results123, go_sem, x4, x5]) rfl ⟨_, _, _, _, _, _, rfl, Yb _ _, (Yc (P := P) (Ja HBz) (Yb _ _)).2⟩
  · have hsc' : ((sn : Int) == 0) = false := by rw [beq_eq_false_iff_ne]; omega
    have hr' : r = (eArr, 5) := by
      rw [← Ja HR]
      unfold Jaq
      rw [if_pos (Or.inl (by rw [← Ja HSN]; exact hsc))]
    subst hr'
    clear hsc
    go_wp2_with fail
    exact bodyPost_ret (v := .tuple #[.agg #[.slice none 0 0, .slice none 0 0], .int .i64 5]) (by simp [results, Tryz.results123, go_sem, x4, x5]) rfl ⟨_, _, _, _, _, _, rfl, Yb _ _, (Yc (P := P) (Ja HBz) (Yb _ _)).2⟩
theorem Jh1 (x : Int) (xs : List Int) : (Qm x xs).length ≤ xs.length := by
  unfold Qm
  split <;> simp
theorem Jh0 {x : Int} {xs : List Int} {c : Int} (h : c ∈ Qm x xs) : c ∈ xs := by
  unfold Qm at h
  split at h
  · exact List.mem_of_mem_drop h
  · exact List.mem_of_mem_take h
theorem Jkx : TwoC ⟨#[100, 114, 111, 112]⟩ Jaq := ⟨fun w => (Z3 (t := ⟨#[100, 114, 111, 112]⟩) (k1 := .string [114, 111, 112]) (k2 := .string [100, 114, 111, 112]) (f := 123) (by decide) (by kernel_rfl) (by kernel_rfl) (by kernel_rfl) (by kernel_rfl) (by kernel_rfl) w).mono (by rintro e w' ⟨rfl, hb⟩; exact ⟨123, #[], rfl, Tryz.enters123, hb, Jm1 w'⟩), fun a b ha hb => by
  unfold Jaq
  split
  · exact ⟨by simp [eArr], fun h => absurd h (by decide)⟩
  · have hl := Jh1 (a.cells.headD 0) b.cells
    have hf := hb.few
    exact ⟨by show (Qm _ _).length ≤ 200; omega, fun _ => ⟨by simp, fun n hn => by rw [List.mem_singleton.1 hn]; omega, by simp [Jj], by show (Qm _ _).length ≤ 200; omega, fun c hc => hb.fits c (Jh0 hc)⟩⟩⟩
end Go.Proofs.YtjobgpahajhbnabGreatDoor
