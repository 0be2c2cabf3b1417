import Derived.Test.YtjobgpahajhbnabGreatDoorHb
import Derived.Stop.RegionWithIn
namespace Go.Proofs.YtjobgpahajhbnabGreatDoor
open Go.RowKit Go.Proofs Go.Shelf
theorem Tryz.enters121 : Enters Tryz.prog 121 := Go.Proofs.enters_of Tryz.func121 (by decide) rfl
def rotL (L : List Int) (s : Nat) : List Int := L.drop s ++ L.take s
def Qk (n : Nat) (y : Int) : Nat := (y % (n : Int)).toNat
theorem Zm (n : Int) : (wrap64 n - n) % 18446744073709551616 = 0 := by
  unfold wrap64
  omega
theorem Jjv {n : Nat} {y : Int} (h0 : 0 < n) : ((Y6 y n).1 - y / (n : Int)) % 18446744073709551616 = 0 := by
  unfold Y6
  rw [if_neg (by omega)]
  have hn : ¬ ((n : Int) < 0) := by omega
  have hsg : (n : Int).sign = 1 := Int.sign_eq_one_of_pos (by omega)
  have hd := Int.tdiv_eq_ediv (a := y) (b := (n : Int))
  rw [hsg] at hd
  have hm : (y.tmod (n : Int) = 0) ↔ (n : Int) ∣ y := (Int.dvd_iff_tmod_eq_zero).symm
  by_cases hy : 0 ≤ y
  · rw [if_pos (Or.inl hy)] at hd
    rw [if_neg (by rintro ⟨_, h⟩; apply h; rw [decide_eq_false (by omega), decide_eq_false hn])]
    show (wrap64 (y.tdiv (n : Int)) - y / (n : Int)) % 18446744073709551616 = 0
    have := Zm (y.tdiv (n : Int))
    rw [hd] at this ⊢
    omega
  · by_cases hdv : (n : Int) ∣ y
    · rw [if_pos (Or.inr hdv)] at hd
      rw [if_neg (by rintro ⟨h, _⟩; exact h (hm.2 hdv))]
      show (wrap64 (y.tdiv (n : Int)) - y / (n : Int)) % 18446744073709551616 = 0
      have := Zm (y.tdiv (n : Int))
      rw [hd] at this ⊢
      omega
    · rw [if_neg (by rintro (h | h); exact hy h; exact hdv h)] at hd
      rw [if_pos ⟨fun h => hdv (hm.1 h), by rw [decide_eq_true (by omega), decide_eq_false hn]; decide⟩]
      show (wrap64 (wrap64 (y.tdiv (n : Int)) - 1) - y / (n : Int)) % 18446744073709551616 = 0
      have h1 := Zm (y.tdiv (n : Int))
      have h2 := Zm (wrap64 (y.tdiv (n : Int)) - 1)
      rw [hd] at h1 h2 ⊢
      omega
theorem Jje {n : Nat} {y : Int} (h0 : 0 < n) (hn : n ≤ 1000) : (Kr (n : Int) y).1 = y % (n : Int) := by
  unfold Kr
  rw [if_neg (by omega)]
  show wrap64 (y - wrap64 ((n : Int) * (Y6 y n).1)) = y % (n : Int)
  have hq := Jjv (y := y) h0
  obtain ⟨t, ht⟩ := Int.dvd_of_emod_eq_zero hq
  have hq' : (Y6 y n).1 = y / (n : Int) + 18446744073709551616 * t := by omega
  have hmul : (n : Int) * (Y6 y n).1 = (n : Int) * (y / (n : Int)) + 18446744073709551616 * ((n : Int) * t) := by
    rw [hq', Int.mul_add, ← Int.mul_assoc, Int.mul_comm (n : Int) 18446744073709551616, Int.mul_assoc]
  have hdef := Int.emod_add_mul_ediv y (n : Int)
  have hlo := Int.emod_nonneg y (show (n : Int) ≠ 0 by omega)
  have hhi := Int.emod_lt_of_pos y (show (0 : Int) < (n : Int) by omega)
  have hc := Zm ((n : Int) * (Y6 y n).1)
  generalize hA : wrap64 ((n : Int) * (Y6 y n).1) = A at hc ⊢
  generalize hB : (n : Int) * (Y6 y n).1 = B at hc hmul
  generalize hC : (n : Int) * (y / (n : Int)) = C at hmul hdef
  generalize hT : (n : Int) * t = T at hmul
  generalize hR : y % (n : Int) = R at hdef hlo hhi ⊢
  unfold wrap64
  omega
theorem Ji4 {n : Nat} {y : Int} (h0 : 0 < n) : Qk n y < n ∧ ((Qk n y : Nat) : Int) = y % (n : Int) := by
  have hlo := Int.emod_nonneg y (show (n : Int) ≠ 0 by omega)
  have hhi := Int.emod_lt_of_pos y (show (0 : Int) < (n : Int) by omega)
  unfold Qk
  omega
end Go.Proofs.YtjobgpahajhbnabGreatDoor
namespace Go.Proofs.YtjobgpahajhbnabGreatDoor
open Go.RowKit Go.Proofs Go.Shelf
attribute [local go_sem] Oper.semAt_some
def Z6 {n : Nat} (pre : List (Part n)) (xs : List Int) (y : Int) : List Int := (pre.map (fun p => rotL ((xs.drop p.1.1).take p.1.2) (Qk p.1.2 y))).flatten
theorem Gn {n : Nat} (pre : List (Part n)) (x : Part n) (xs : List Int) (y : Int) : Z6 (pre ++ [x]) xs y = Z6 pre xs y ++ rotL ((xs.drop x.1.1).take x.1.2) (Qk x.1.2 y) := by
  unfold Z6
  rw [List.map_append, List.flatten_append]
  simp
theorem Jcn (L : List Int) (s : Nat) : (rotL L s).length = L.length := by
  unfold rotL
  simp
  omega
theorem Ng {n : Nat} : ∀ (pre : List (Part n)) (xs : List Int) (y : Int), (Z6 pre xs y).length ≤ pre.length * xs.length
  | [], _, _ => by simp [Z6]
  | p :: pre, xs, y => by
    have h := Ng pre xs y
    have e : Z6 (p :: pre) xs y = rotL ((xs.drop p.1.1).take p.1.2) (Qk p.1.2 y) ++ Z6 pre xs y := by simp [Z6]
    rw [e, List.length_append, Jcn, List.length_cons, Nat.add_mul, Nat.one_mul]
    simp
    omega
def Ge (xs : List Int) (la : Nat) (y : Int) : List Int := Z6 (Yn xs.length (max la 1) (Z7 la) xs.length) xs y
def Xf (a b : Arr) : Arr × Int := if a.shape.length ≠ 0 then (eArr, 5) else if b.shape.length = 0 then (b, 0) else (⟨b.shape, Ge b.cells (Ju b.shape) (a.cells.headD 0)⟩, 0)
theorem Nums.own {P : Nat → Prop} {A B : World} {row : Option Nat} {n : Nat} {v : Value} {L : List Int} (h : Nums P A v L) (hg : A.grownBy B row) (hr : ∀ r, row = some r → n ≤ r ∧ ∃ o : Obj, A.heap[r]? = some o ∧ o.isCells = false) : Nums P B v L := by
  obtain ⟨ao, cap, hv, hcap, h1, h2⟩ := h
  refine ⟨ao, cap, hv, hcap, fun h0 => ?_, h2⟩
  obtain ⟨b, off, ha, hp, hl, hc⟩ := h1 h0
  exact ⟨b, off, ha, hp, Nat.lt_of_lt_of_le hl hg.size, fun i hi => cell_kept (hc i hi) hg (fun r e => (hr r e).2)⟩
section
attribute [local go_sem ↓] Go.wp_at_zero Go.wp_at_succ
set_option maxHeartbeats 2000000 in
theorem Jdm (W : World) (P : Nat → Prop) (so : Option Addr) (sn sc : Nat) (co : Option Addr) (cn cc : Nat) (so2 : Option Addr) (sn2 sc2 : Nat) (co2 : Option Addr) (cn2 cc2 : Nat) (a b : Arr) (ha : IsArr P W (.agg #[.slice so sn sc, .slice co cn cc]) a) (hb : IsArr P W (.agg #[.slice so2 sn2 sc2, .slice co2 cn2 cc2]) b) (h : sn ≠ 0 ∨ sn2 = 0) :
    Calls Tryz.prog 121 #[.agg #[.slice so sn sc, .slice co cn cc], .agg #[.slice so2 sn2 sc2, .slice co2 cn2 cc2]] W fun e W' => ∃ so sn sc co cn cc, e = .returned (.tuple #[.agg #[.slice so sn sc, .slice co cn cc], .int .i64 (Xf a b).2]) ∧ IsArr P W' (.agg #[.slice so sn sc, .slice co cn cc]) (Xf a b).1 ∧ Below W.heap.size W W' := by
  have hsa := (Jc ha).2
  have hsb := (Jc hb).2
  have hS0 := St.start (P := P) (W := W) (a := a) (b := b) ha hb
  obtain ⟨W1, hW1⟩ : ∃ W1, ((W.alloc (.cells #[.slice so sn sc, .slice co cn cc] 57)).alloc (.cells #[.slice so2 sn2 sc2, .slice co2 cn2 cc2] 57)).alloc (.cells #[.slice none 0 0, .slice none 0 0] 57) = W1 := ⟨_, rfl⟩
  rw [hW1] at hS0
  have HS0 := hide hS0
  have HScal := hide (fun w' => (Ji w' so sn sc co cn cc).mono (fun e w'' h => (⟨h.1, by rw [h.2]; exact ((Below.refl _ _).alloc (Nat.le_refl _) _).alloc (by simp) _⟩ : e = .returned (.bool ((sn : Int) == 0)) ∧ Below w'.heap.size w' w'')))
  have HScal2 := hide (fun w' => (Ji w' so2 sn2 sc2 co2 cn2 cc2).mono (fun e w'' h => (⟨h.1, by rw [h.2]; exact ((Below.refl _ _).alloc (Nat.le_refl _) _).alloc (by simp) _⟩ : e = .returned (.bool ((sn2 : Int) == 0)) ∧ Below w'.heap.size w' w'')))
  obtain ⟨r, hr⟩ : ∃ r, Xf a b = r := ⟨_, rfl⟩
  simp only [hr]
  have HR := hide hr
  have HSA := hide hsa
  have HSB := hide hsb
  have x0 := hS0.a0
  have x1 := hS0.a1
  clear ha hb hr hS0 hsa hsb
  go_enter Tryz.func121, Tryz.ntmps121
  go_wp2_with fail
  try rw [hW1]
  clear hW1 x0 x1
  refine (Ja HScal _).mono ?_
  rintro e w2 ⟨rfl, hb2⟩
  have hS := (Ja HS0).keep hb2
  have HS2 := hide hS
  have HBz := hide hS.below
  have x2 := hS.b0
  have x3 := hS.b1
  have x4 := hS.r0
  have x5 := hS.r1
  have y4 := hS.fr (W.heap.size + 1 + 1) 0 (by omega) (by omega)
  have y5 := hS.fr (W.heap.size + 1 + 1) 1 (by omega) (by omega)
  have n3 := hS.lt
  have n2 : W.heap.size + 1 < w2.heap.size := by omega
  clear hS hb2 HS0 HScal
  by_cases hsc : sn = 0
  · have hsc' : ((sn : Int) == 0) = true := by rw [hsc]; rfl
    have h2 : sn2 = 0 := by omega
    have h2' : ((sn2 : Int) == 0) = true := by rw [h2]; rfl
    have hr' : r = (b, 0) := by
      rw [← Ja HR]
      unfold Xf
      rw [if_neg (by rw [← Ja HSA]; omega), if_pos (by rw [← Ja HSB]; exact h2)]
    subst hr'
    clear hsc h h2 HR HSA HSB
    go_wp2_with fail
    refine (Ja HScal2 _).mono ?_
    rintro e w3 ⟨rfl, hb3⟩
    have hS := (Ja HS2).keep hb3
    clear x2 x3 x4 x5 y4 y5 n3 n2 HBz
    have x2 := hS.b0
    have x3 := hS.b1
    have x4 := hS.r0
    have x5 := hS.r1
    have y4 := hS.fr (W.heap.size + 1 + 1) 0 (by omega) (by omega)
    have y5 := hS.fr (W.heap.size + 1 + 1) 1 (by omega) (by omega)
    have n3 := hS.lt
    have n2 : W.heap.size + 1 < w3.heap.size := by omega
    have HBz := hide hS.below
    have HIB := hide hS.isB
    clear hS hb3 HS2
    go_wp2_with fail
    exact bodyPost_ret (v := .tuple #[.agg #[.slice so2 sn2 sc2, .slice co2 cn2 cc2], .int .i64 0]) (by simp [results, Tryz.results121, go_sem, x4, x5]) rfl ⟨_, _, _, _, _, _, rfl, (Yc (Ja HBz) (Ja HIB)).1, (Yc (Ja HBz) (Ja HIB)).2⟩
  · have hsc' : ((sn : Int) == 0) = false := by rw [beq_eq_false_iff_ne]; omega
    have hr' : r = (eArr, 5) := by
      rw [← Ja HR]
      unfold Xf
      rw [if_pos (by rw [← Ja HSA]; exact hsc)]
    subst hr'
    clear hsc h
    go_wp2_with fail
    exact bodyPost_ret (v := .tuple #[.agg #[.slice none 0 0, .slice none 0 0], .int .i64 5]) (by simp [results, Tryz.results121, go_sem, x4, x5]) rfl ⟨_, _, _, _, _, _, rfl, Yb _ _, (Yc (P := P) (Ja HBz) (Yb _ _)).2⟩
end
end Go.Proofs.YtjobgpahajhbnabGreatDoor
namespace Go.Proofs.YtjobgpahajhbnabGreatDoor
open Go.RowKit Go.Proofs Go.Shelf
theorem Jos {l n : Nat} {P : Program} {o : Oper} {a : Act} {w : World} {K K' : Act → World → Prop} {Q : Exit → Act → World → Prop} (hd : ∀ c, o.op ≠ .defer c) (hk : ∀ a w, K a w → K' a w) (h : o.wp P a w K Q) : o.wpIn (Fence.wide.inRound l) n P a w K' Q := by
  refine ⟨fun _ _ => trivial, ?_⟩
  rw [show (Fence.wide.inRound l).round = some l from rfl, Oper.semAt_some l _ _ hd]
  have h := Oper.wp_mono hk h
  unfold Oper.wp at h
  generalize (execOp a.eval o).run P w = r at *
  cases r with
  | ok x w' =>
    cases x with
    | value v => exact h
    | skip => exact h
    | defer d => exact h
    | enter f args => exact ⟨fun h => (by cases h), CallsIn.inRound l (callsIn_wide.2 h)⟩
    | row row args => exact ⟨fun h => (by cases h), fun c cs _ => let ⟨v, w2, r, s⟩ := h c cs; ⟨v, w2, r, stepsIn_wide.2 s⟩⟩
    | _ => exact h.elim
  | halt x w' => cases x <;> exact h
theorem Z5 {l n : Nat} {P : Program} {md : Region.Mode} {ops : Array Oper} {Q : Exit → Act → World → Prop} (hd : ∀ (i : Nat) (o : Oper), ops[i]? = some o → ∀ c, o.op ≠ .defer c) (hL : ¬ LetsOut Q) : ∀ (fuel : Nat) (listed : Array Bool) (a : Act) (w : World), wpAny P md ops Q fuel listed a w → wpAnyIn (Fence.wide.inRound l) n P md ops Q fuel listed a w
  | 0, _, _, _, h => h
  | fuel + 1, listed, a, w, h => ⟨h.1, fun i hi => by
    have hh := h.2 i hi
    unfold wpOp at hh
    unfold wpOpIn
    split
    · rename_i ho
      simp only [ho] at hh
      exact Z5 hd hL fuel _ _ _ hh
    · rename_i o ho
      simp only [ho] at hh
      split
      · rename_i hw
        simp only [hw, if_true] at hh
        rcases hh with hh | hh
        · exact Jos (hd i o ho) (fun a w h => Z5 hd hL fuel _ a w h) hh
        · exact absurd hh.2 hL
      · rename_i hw
        simp only [hw] at hh
        exact ⟨fun _ _ => trivial, Z5 hd hL fuel _ _ _ hh⟩⟩
end Go.Proofs.YtjobgpahajhbnabGreatDoor
namespace Go.Proofs.YtjobgpahajhbnabGreatDoor
open Go.RowKit Go.Proofs Go.Shelf
attribute [local go_sem] Oper.semAt_some
structure S2 (W w : World) (co : Option Addr) (cn cc : Nat) (so2 : Option Addr) (sn2 sc2 : Nat) : Prop where
  below : Below W.heap.size W w
  lt : W.heap.size + 1 + 1 < w.heap.size
  a1 : w.cell? ⟨W.heap.size, 1, none⟩ = some (.slice co cn cc)
  b0 : w.cell? ⟨W.heap.size + 1, 0, none⟩ = some (.slice so2 sn2 sc2)
  r0 : w.cell? ⟨W.heap.size + 1 + 1, 0, none⟩ = some (.slice none 0 0)
  r1 : w.cell? ⟨W.heap.size + 1 + 1, 1, none⟩ = some (.slice none 0 0)
  f0 : w.frozen? ⟨W.heap.size + 1 + 1, 0, none⟩ = false
  f1 : w.frozen? ⟨W.heap.size + 1 + 1, 1, none⟩ = false
theorem S2.of {W w : World} {P : Nat → Prop} {so : Option Addr} {sn sc : Nat} {co : Option Addr} {cn cc : Nat} {so2 : Option Addr} {sn2 sc2 : Nat} {co2 : Option Addr} {cn2 cc2 : Nat} {a b : Arr} (h : St W P w so sn sc co cn cc so2 sn2 sc2 co2 cn2 cc2 a b) : S2 W w co cn cc so2 sn2 sc2 := ⟨h.below, h.lt, h.a1, h.b0, h.r0, h.r1, h.fr _ 0 (by omega) (by omega), h.fr _ 1 (by omega) (by omega)⟩
theorem S2.keep {W w w' : World} {co : Option Addr} {cn cc : Nat} {so2 : Option Addr} {sn2 sc2 : Nat} (h : S2 W w co cn cc so2 sn2 sc2) (hb : Below (W.heap.size + 1 + 1 + 1) w w') : S2 W w' co cn cc so2 sn2 sc2 := by
  have l := h.lt
  have hz := hb.size
  refine ⟨h.below.trans (hb.mono (by omega)), by omega, ?_, ?_, ?_, ?_, ?_, ?_⟩
  · exact (hb.cell (p := ⟨W.heap.size, 1, none⟩) (by show W.heap.size < W.heap.size + 1 + 1 + 1; omega)).trans h.a1
  · exact (hb.cell (p := ⟨W.heap.size + 1, 0, none⟩) (by show W.heap.size + 1 < W.heap.size + 1 + 1 + 1; omega)).trans h.b0
  · exact (hb.cell (p := ⟨W.heap.size + 1 + 1, 0, none⟩) (by show W.heap.size + 1 + 1 < W.heap.size + 1 + 1 + 1; omega)).trans h.r0
  · exact (hb.cell (p := ⟨W.heap.size + 1 + 1, 1, none⟩) (by show W.heap.size + 1 + 1 < W.heap.size + 1 + 1 + 1; omega)).trans h.r1
  · exact (hb.frozen (p := ⟨W.heap.size + 1 + 1, 0, none⟩) (by show W.heap.size + 1 + 1 < W.heap.size + 1 + 1 + 1; omega)).trans h.f0
  · exact (hb.frozen (p := ⟨W.heap.size + 1 + 1, 1, none⟩) (by show W.heap.size + 1 + 1 < W.heap.size + 1 + 1 + 1; omega)).trans h.f1
theorem S2.own {W A B : World} {row : Option Nat} {n : Nat} {co : Option Addr} {cn cc : Nat} {so2 : Option Addr} {sn2 sc2 : Nat} (h : S2 W A co cn cc so2 sn2 sc2) (hn : W.heap.size ≤ n) (hg : A.grownBy B row) (hr : ∀ r, row = some r → n ≤ r ∧ ∃ o : Obj, A.heap[r]? = some o ∧ o.isCells = false) : S2 W B co cn cc so2 sn2 sc2 := by
  have hr2 := fun r e => (hr r e).2
  have hl := h.lt
  have hz := hg.size
  exact ⟨h.below.grown hg (by omega) (fun k e => Nat.le_trans hn (hr k e).1), by omega, cell_kept h.a1 hg hr2, cell_kept h.b0 hg hr2, cell_kept h.r0 hg hr2, cell_kept h.r1 hg hr2, (frozen_kept h.r0 hg hr2).trans h.f0, (frozen_kept h.r1 hg hr2).trans h.f1⟩
def Off4 (n bx : Nat) (P : Nat → Prop) (b : Nat) : Prop := P b ∧ (b < n ∨ (n + 1 + 1 < b ∧ b ≠ bx))
theorem Jgw {P : Nat → Prop} {w : World} {b off n cap : Nat} {xs : List Int} (h : Nums P w (.slice (some ⟨b, off, none⟩) n cap) xs) (x : Part n) : Nums P w (.slice (some ⟨b, off + x.1.1, none⟩) x.1.2 x.1.2) ((xs.drop x.1.1).take x.1.2) := by
  have hn := Jf h
  have hx := x.2
  obtain ⟨ao, cap', hv, hcap, h1, _⟩ := h
  injection hv with e1 e2 e3
  subst e1
  obtain ⟨b', off', ha, hp, hl, hc⟩ := h1 (by omega)
  injection ha with ha
  injection ha with e4 e5
  subst e4 e5
  have hlen : ((xs.drop x.1.1).take x.1.2).length = x.1.2 := by simp; omega
  refine ⟨some ⟨b, off + x.1.1, none⟩, x.1.2, by rw [hlen], by rw [hlen]; exact Nat.le_refl _, fun _ => ⟨b, off + x.1.1, rfl, hp, hl, fun i hi => ?_⟩, fun a h => by cases h; rfl⟩
  rw [hlen] at hi
  rw [Nat.add_assoc, hc (x.1.1 + i) (by omega)]
  simp
def Jon (R : Act → World → Prop) : Exit → Act → World → Prop
  | .normal, a, w => R a w
  | _, _, _ => False
set_option maxRecDepth 100000 in
set_option maxHeartbeats 4000000 in
theorem Jiw (W : World) (P : Nat → Prop) (hP : ∀ b, W.heap.size ≤ b → P b) (so : Option Addr) (sc : Nat) (co : Option Addr) (cn cc : Nat) (so2 : Option Addr) (sn2 sc2 : Nat) (co2 : Option Addr) (cn2 cc2 : Nat) (a b : Arr) (ha : IsArr P W (.agg #[.slice so 0 sc, .slice co cn cc]) a) (hb : IsArr P W (.agg #[.slice so2 sn2 sc2, .slice co2 cn2 cc2]) b) (hoa : a.ok) (hob : b.ok) (h : sn2 ≠ 0) :
    Calls Tryz.prog 121 #[.agg #[.slice so 0 sc, .slice co cn cc], .agg #[.slice so2 sn2 sc2, .slice co2 cn2 cc2]] W fun e W' => ∃ so sn sc co cn cc, e = .returned (.tuple #[.agg #[.slice so sn sc, .slice co cn cc], .int .i64 0]) ∧ IsArr P W' (.agg #[.slice so sn sc, .slice co cn cc]) ⟨b.shape, Ge b.cells (Ju b.shape) (a.cells.headD 0)⟩ ∧ Below W.heap.size W W' := by
  have hsa := (Jc ha).2
  have hsb := (Jc hb).2
  have hcb := (Jc hb).1
  have hash : a.shape = [] := List.eq_nil_of_length_eq_zero hsa.symm
  have hds := J8 (l := b.shape) (by omega)
  obtain ⟨la, hla⟩ : ∃ la, Ju b.shape = la := ⟨_, rfl⟩
  rw [hla] at hds ⊢
  have hla2 : la ≤ 200 := hob.lens la (by rw [hds]; simp)
  have hdl : b.shape.dropLast.length ≤ 3 := by have := hob.rank; simp; omega
  obtain ⟨xs, hxs⟩ : ∃ xs, b.cells = xs := ⟨_, rfl⟩
  rw [hxs] at hcb ⊢
  have hfew : xs.length ≤ 200 := by rw [← hxs]; exact hob.few
  have h0' : ((sn2 : Int) == 0) = false := by rw [beq_eq_false_iff_ne]; omega
  obtain ⟨y, ab, ao, hax, hcn1, hco, _, hal, hac, hacc⟩ := Zo (Jq ha) hoa hash
  subst hco hcn1
  have hy64 := hoa.fits y (by rw [hax]; simp)
  rw [hax]
  show Calls Tryz.prog 121 #[.agg #[.slice so 0 sc, .slice (some ⟨ab, ao, none⟩) 1 cc], .agg #[.slice so2 sn2 sc2, .slice co2 cn2 cc2]] W fun e W' => ∃ so sn sc co cn cc, e = .returned (.tuple #[.agg #[.slice so sn sc, .slice co cn cc], .int .i64 0]) ∧ IsArr P W' (.agg #[.slice so sn sc, .slice co cn cc]) ⟨b.shape, Ge xs la y⟩ ∧ Below W.heap.size W W'
  have hS0 := St.start (P := P) (W := W) (a := a) (b := b) ha hb
  obtain ⟨W1, hW1⟩ : ∃ W1, ((W.alloc (.cells #[.slice so 0 sc, .slice (some ⟨ab, ao, none⟩) 1 cc] 57)).alloc (.cells #[.slice so2 sn2 sc2, .slice co2 cn2 cc2] 57)).alloc (.cells #[.slice none 0 0, .slice none 0 0] 57) = W1 := ⟨_, rfl⟩
  rw [hW1] at hS0
  have HS0 := hide hS0
  have HScal : Hid (∀ w', Calls Tryz.prog 143 #[.agg #[.slice so 0 sc, .slice (some ⟨ab, ao, none⟩) 1 cc]] w' fun e w'' => e = .returned (.bool true) ∧ Below w'.heap.size w' w'') := hide (fun w' => (Ji w' so 0 sc (some ⟨ab, ao, none⟩) 1 cc).mono (fun e w'' h => ⟨h.1, by rw [h.2]; exact ((Below.refl _ _).alloc (Nat.le_refl _) _).alloc (by simp) _⟩))
  have HScal2 : Hid (∀ w', Calls Tryz.prog 143 #[.agg #[.slice so2 sn2 sc2, .slice co2 cn2 cc2]] w' fun e w'' => e = .returned (.bool false) ∧ Below w'.heap.size w' w'') := hide (fun w' => (Ji w' so2 sn2 sc2 co2 cn2 cc2).mono (fun e w'' h => ⟨by rw [h.1, h0'], by rw [h.2]; exact ((Below.refl _ _).alloc (Nat.le_refl _) _).alloc (by simp) _⟩))
  have HLa : Hid (∀ w', Below W.heap.size W w' → Calls Tryz.prog 157 #[.agg #[.slice so2 sn2 sc2, .slice co2 cn2 cc2]] w' fun e w'' => e = .returned (.int .i64 la) ∧ Below w'.heap.size w' w'') := hide (fun w' hbw => Qy w' so2 sn2 sc2 co2 cn2 cc2 b (hb.below hbw) b.shape.dropLast la hds hdl)
  have HCh : Hid (∀ w', Calls Tryz.prog 156 #[.slice co2 cn2 cc2, .int .i64 ((max la 1 : Nat) : Int)] w' fun e w'' => e = .returned (.func (.func 199) #[] #[.pointer (some ⟨w'.heap.size, 0, none⟩), .pointer (some ⟨w'.heap.size + 1, 0, none⟩)]) ∧ w'' = (w'.alloc (.cells #[.slice co2 cn2 cc2] 32)).alloc (.cells #[.int .i64 ((max la 1 : Nat) : Int)] 3)) := hide (fun w' => G7 co2 cn2 cc2 (max la 1) (Z7 la) w')
  have hmax : max (la : Int) 1 = ((max la 1 : Nat) : Int) := by omega
  have HOff : Hid (∀ w' : World, W.heap.size + 1 + 1 < w'.heap.size → ∀ b, w'.heap.size ≤ b → Off3 W.heap.size P b) := hide (fun w' h b hb => ⟨hP b (by omega), .inr (by omega)⟩)
  have HCN := hide hcb
  have HXS := hide hxs
  have HNB : Hid (∀ w', Below W.heap.size W w' → Nums (fun b => P b ∧ b < W.heap.size) w' (.slice co2 cn2 cc2) xs) := hide (fun w' hbw => by have h1 := Jq hb; rw [hxs] at h1; exact (h1.imp (fun b hp hl => ⟨hp, hl⟩)).below hbw)
  have HShB := hide (Kl hb)
  have HP := hide hP
  have x0 := hS0.a0
  have x1 := hS0.a1
  refine (callsIn_wide (n := 5)).1 ?_
  refine callsIn_of_wp_marks Tryz.func121 rfl trivial ?_ rfl
  simp only [Tryz.ntmps121, List.size_toArray, List.length_cons, List.length_nil, Nat.reduceAdd, Nat.reduceSub, Array.replicate_succ, Array.replicate_zero, List.push_toArray, List.append_toArray, List.nil_append, List.cons_append]
  clear ha hb hoa hob hsa hsb hcb hash hds hla hxs hdl hax hS0 h h0' hP
  gi_wp2_with fail
  try rw [hW1]
  clear hW1 x0 x1
  refine ⟨trivial, (callsIn_wide.2 (Ja HScal _)).mono ?_⟩
  rintro e w2 ⟨rfl, hb2⟩
  have hS := (Ja HS0).keep hb2
  have HS2 := hide hS
  have x2 := hS.b0
  have x3 := hS.b1
  have n3 := hS.lt
  have n2 : W.heap.size + 1 < w2.heap.size := by omega
  clear hS hb2 HS0 HScal
  gi_wp2_with fail
  refine ⟨trivial, (callsIn_wide.2 (Ja HScal2 _)).mono ?_⟩
  rintro e w3 ⟨rfl, hb3⟩
  have hS := (Ja HS2).keep hb3
  clear x2 x3 n3 n2
  obtain ⟨w4, hw4⟩ : ∃ w4, w3.alloc (.cells #[.slice none 0 0] 32) = w4 := ⟨_, rfl⟩
  have hb4 : Below w3.heap.size w3 w4 := by rw [← hw4]; exact (Below.refl _ _).alloc (Nat.le_refl _) _
  have hs4 : w4.heap.size = w3.heap.size + 1 := by rw [← hw4]; simp
  have t0 : w4.cell? ⟨w3.heap.size, 0, none⟩ = some (.slice none 0 0) := by rw [← hw4]; exact (World.cell?_alloc_at _ _ _ _ rfl).trans rfl
  have t1 : w4.frozen? ⟨w3.heap.size, 0, none⟩ = false := by rw [← hw4]; exact World.frozen?_alloc_at _ _ _ _ rfl
  have hS4 := hS.keep hb4
  have HS4 := hide hS4
  have x2 := hS4.b0
  have x3 := hS4.b1
  have n3 := hS4.lt
  have n33 := hS.lt
  have n2 : W.heap.size + 1 < w4.heap.size := by omega
  clear hS hS4 hb3 HS2 HScal2 hb4
  gi_wp2_with fail
  try rw [hw4]
  clear hw4
  refine Code.wpIn_mono (Q := Jon (fun a' w' => ∃ w5, Below w4.heap.size w4 w5 ∧ w' = (w5.alloc (.cells #[.slice co2 cn2 cc2] 32)).alloc (.cells #[.int .i64 ((max la 1 : Nat) : Int)] 3) ∧ a' = { tmps := #[.agg #[.slice so 0 sc, .slice (some ⟨ab, ao, none⟩) 1 cc], .agg #[.slice so2 sn2 sc2, .slice co2 cn2 cc2], .pointer (some ⟨W.heap.size, 0, none⟩), .pointer (some ⟨W.heap.size + 1, 0, none⟩), .pointer (some ⟨W.heap.size + 1 + 1, 0, none⟩), .int .i64 0, .pointer (some ⟨w3.heap.size, 0, none⟩), undef, undef, undef, .agg #[.slice so 0 sc, .slice (some ⟨ab, ao, none⟩) 1 cc], .bool true, .bool false, undef, .agg #[.slice so2 sn2 sc2, .slice co2 cn2 cc2], .bool false, undef, .pointer (some ⟨W.heap.size + 1, 1, none⟩), .slice co2 cn2 cc2, .agg #[.slice so2 sn2 sc2, .slice co2 cn2 cc2], .int .i64 la, .int .i64 ((max la 1 : Nat) : Int), .func (.func 199) #[] #[.pointer (some ⟨w5.heap.size, 0, none⟩), .pointer (some ⟨w5.heap.size + 1, 0, none⟩)], undef, undef, undef, undef, undef, undef, undef, undef, undef, undef, undef, undef, undef, undef, undef, undef, undef, undef, undef, undef, undef, undef, undef, undef], defers := [] })) ?_ ?_
  case refine_2 =>
    gi_region_with (first | (refine ⟨trivial, ?_⟩; gi_at_call 157; refine (callsIn_wide.2 (Ja HLa _ ((Ja HS4).below.trans ((Below.refl _ _).drew.mono (Ja HS4).below.size)))).mono ?_; rintro e w5 ⟨rfl, hb5⟩; have hb5' := Jk hb5; have HB5 := hide hb5'; have p2 := (hb5'.cell (p := ⟨W.heap.size + 1, 0, none⟩) n2).trans x2; have p3 := (hb5'.cell (p := ⟨W.heap.size + 1, 1, none⟩) n2).trans x3; have n5 := hb5'.size; clear hb5 hb5') | (refine ⟨trivial, ?_⟩; gi_at_call 156; refine (callsIn_wide.2 (Ja HCh _)).mono ?_; rintro e w6 ⟨rfl, hw6⟩))
    all_goals exact ⟨w5, Ja HB5, rfl, rfl⟩
  case refine_1 =>
    intro e a' w' he
    cases e with
    | normal =>
      obtain ⟨w5, hb5, hw6, rfl⟩ := he
      dsimp only
      have hb56 : Below w5.heap.size w5 w' := by rw [hw6]; exact ((Below.refl _ _).alloc (Nat.le_refl _) _).alloc (by simp) _
      have hb46 : Below w4.heap.size w4 w' := hb5.trans (hb56.mono hb5.size)
      have k1 : w'.cell? ⟨w5.heap.size, 0, none⟩ = some (.slice co2 cn2 cc2) := by
        rw [hw6, World.cell?_of_block (a := ⟨w5.heap.size, 0, none⟩) (RowKit.Below.heap_alloc _ _ _ (by simp))]
        exact (World.cell?_alloc_at _ _ _ _ rfl).trans rfl
      have k2 : w'.cell? ⟨w5.heap.size + 1, 0, none⟩ = some (.int .i64 ((max la 1 : Nat) : Int)) := by
        rw [hw6]
        exact (World.cell?_alloc_at _ _ _ _ (by simp)).trans rfl
      have hs6 : w'.heap.size = w5.heap.size + 1 + 1 := by rw [hw6]; simp
      have hs5 := hb5.size
      clear hw6 x2 x3
      gi_wp2_with fail
      have hS6 := S2.of ((Ja HS4).keep hb46)
      have hm1000 : max la 1 ≤ 1000 := by omega
      have hcn200 : cn2 ≤ 1000 := by rw [Ja HCN]; omega
      have hcap2 := Zk (Ja HNB W (Below.refl _ _))
      have hlW : W.heap.size ≤ w'.heap.size := by omega
      obtain ⟨b', off, hao⟩ : ∃ b' off, 0 < cn2 → co2 = some ⟨b', off, none⟩ := by
        by_cases h0 : 0 < cn2
        · obtain ⟨b', off, e⟩ := Vd (Ja HNB W (Below.refl _ _)) (by omega)
          exact ⟨b', off, fun _ => e⟩
        · exact ⟨0, 0, fun h => absurd h h0⟩
      have t0' := (hb46.cell (p := ⟨w3.heap.size, 0, none⟩) (by show w3.heap.size < w4.heap.size; omega)).trans t0
      have t1' := (hb46.frozen (p := ⟨w3.heap.size, 0, none⟩) (by show w3.heap.size < w4.heap.size; omega)).trans t1
      refine wpIn_rangeFunc_ownF rfl (by omega) (gf := 199) (lb := #[.pointer (some ⟨w5.heap.size, 0, none⟩), .pointer (some ⟨w5.heap.size + 1, 0, none⟩)]) rfl trivial (enters_of Tryz.func199 (by kernel_rfl) rfl)
        (X6 4 (by omega) w5.heap.size (w5.heap.size + 1) b' off cn2 cc2 (max la 1) co2 hao (Z7 la) hm1000 hcn200 hcap2 w' (by omega) (by omega) k1 k2) KpB.trans (fun W' l o o' hl ho _ _ => KpB.put (n := w'.heap.size) (by omega) (by omega) W' l o o' hl ho) (Below.refl _ _) (fun _ => rfl)
        (fun pre W' => (∃ o n c, W'.cell? ⟨w3.heap.size, 0, none⟩ = some (.slice o n c) ∧ W'.frozen? ⟨w3.heap.size, 0, none⟩ = false ∧ Nums (Off4 W.heap.size w3.heap.size P) W' (.slice o n c) (Z6 pre xs y)) ∧ S2 W W' (some ⟨ab, ao, none⟩) 1 cc so2 sn2 sc2 ∧ w'.heap.size ≤ W'.heap.size)
        (fun _ _ _ => False)
        (fun pre X Y row hs hg hr => by
          obtain ⟨⟨o, n, c, h1, h2, h3⟩, h4, h5⟩ := hs
          exact ⟨⟨o, n, c, cell_kept h1 hg (fun r e => (hr r e).2), (frozen_kept h1 hg (fun r e => (hr r e).2)).trans h2, h3.own hg hr⟩, h4.own hlW hg hr, Nat.le_trans h5 hg.size⟩)
        (fun _ _ _ _ _ hs _ _ => hs)
        ⟨⟨none, 0, 0, t0', t1', Jn _ _⟩, hS6, Nat.le_refl _⟩
        (fun x => { tmps := #[.agg #[.slice so 0 sc, .slice (some ⟨ab, ao, none⟩) 1 cc], .agg #[.slice so2 sn2 sc2, .slice co2 cn2 cc2], .pointer (some ⟨W.heap.size, 0, none⟩), .pointer (some ⟨W.heap.size + 1, 0, none⟩), .pointer (some ⟨W.heap.size + 1 + 1, 0, none⟩), .int .i64 0, .pointer (some ⟨w3.heap.size, 0, none⟩), .slice (some ⟨b', off + x.1.1, none⟩) x.1.2 x.1.2, undef, undef, .agg #[.slice so 0 sc, .slice (some ⟨ab, ao, none⟩) 1 cc], .bool true, .bool false, undef, .agg #[.slice so2 sn2 sc2, .slice co2 cn2 cc2], .bool false, undef, .pointer (some ⟨W.heap.size + 1, 1, none⟩), .slice co2 cn2 cc2, .agg #[.slice so2 sn2 sc2, .slice co2 cn2 cc2], .int .i64 la, .int .i64 ((max la 1 : Nat) : Int), .func (.func 199) #[] #[.pointer (some ⟨w5.heap.size, 0, none⟩), .pointer (some ⟨w5.heap.size + 1, 0, none⟩)], .slice (some ⟨b', off + x.1.1, none⟩) x.1.2 x.1.2, undef, undef, undef, undef, undef, undef, undef, undef, undef, undef, undef, undef, undef, undef, undef, undef, undef, undef, undef, undef, undef, undef, undef], defers := [] }) ?assign ?body ?done ?stop
      case assign =>
        intro l x W' K hK
        gi_wp2
        exact hK
      case body =>
        rintro l pre x W' ⟨⟨o, n, c, h1, h2, h3⟩, h4, h5⟩ hpre
        dsimp only
        have hx := x.2
        have hc0 : 0 < cn2 := by omega
        have hN0 := Ja HNB W' h4.below
        rw [hao hc0] at hN0
        have hNx := Jgw hN0 x
        obtain ⟨n', hn'⟩ : ∃ n', x.1.2 = n' := ⟨_, rfl⟩
        obtain ⟨lo, hlo⟩ : ∃ lo, x.1.1 = lo := ⟨_, rfl⟩
        obtain ⟨zs, hzs⟩ : ∃ zs, (xs.drop x.1.1).take x.1.2 = zs := ⟨_, rfl⟩
        rw [hn', hlo] at hx
        have hsn := Gn pre x xs y
        rw [hzs] at hsn hNx
        rw [hn'] at hsn hNx ⊢
        rw [hlo] at hNx ⊢
        obtain ⟨s, hs⟩ : ∃ s, Qk n' y = s := ⟨_, rfl⟩
        have hst := Ji4 (n := n') (y := y) (by omega)
        rw [hs] at hst hsn
        have hrest := Jje (n := n') (y := y) (by omega) (by omega)
        rw [← hst.2] at hrest
        have hRC := rest_rule.call (n' : Int) y W' (by unfold Jg; omega) hy64
        rw [hrest] at hRC
        have ya := (h4.below.cell (p := ⟨ab, ao, none⟩) hal).trans hac
        have a1 := h4.a1
        have hbx : w3.heap.size < W'.heap.size := by omega
        have hs0 : (0 : Int) ≤ (s : Int) := by omega
        have hs1 : (s : Int) ≤ (n' : Int) := by omega
        have hs2 : s ≤ n' := by omega
        have had : (if n' = s then some (⟨b', off + lo, none⟩ : Addr) else some ⟨b', off + lo + s, none⟩) = some ⟨b', off + lo + s, none⟩ := if_neg (by omega)
        have hzl := Jf hNx
        have hND := Zx hNx hs2
        rw [had] at hND
        have hNT := Yg hNx hs2
        have hfl : [Z6 pre xs y, zs.drop s, zs.take s].flatten = Z6 (pre ++ [x]) xs y := by rw [hsn]; simp [rotL]
        have HFL := hide hfl
        have hbound : [Z6 pre xs y, zs.drop s, zs.take s].flatten.length ≤ 1000000 := by
          rw [hfl]
          have h1 := Ng (pre ++ [x]) xs y
          have h2 : (pre ++ [x]).length * xs.length ≤ 1000 * 200 := Nat.mul_le_mul (by simp; omega) hfew
          omega
        have HCC : Hid (Calls Tryz.prog 176 #[.slice (some ⟨W'.heap.size, 0, none⟩) 3 3] (W'.alloc (.cells #[.slice o n c, .slice (some ⟨b', off + lo + s, none⟩) (n' - s) (n' - s), .slice (some ⟨b', off + lo, none⟩) s n'] 32)).drew fun e w'' => ∃ oo nn kk, e = .returned (.slice oo nn kk) ∧ Nums (Off4 W.heap.size w3.heap.size P) w'' (.slice oo nn kk) (Z6 (pre ++ [x]) xs y) ∧ Below W'.heap.size W' w'') := hide (by
          have hbA : Below W'.heap.size W' (W'.alloc (.cells #[.slice o n c, .slice (some ⟨b', off + lo + s, none⟩) (n' - s) (n' - s), .slice (some ⟨b', off + lo, none⟩) s n'] 32)).drew := ((Below.refl _ _).alloc (Nat.le_refl _) _).drew
          have hLs := Jlg (Q := fun _ => True) (e := 32) (h3.imp (fun _ _ _ => trivial)) (hND.imp (fun _ _ _ => trivial)) (hNT.imp (fun _ _ _ => trivial))
          obtain ⟨wA, hwA⟩ : ∃ wA, (W'.alloc (.cells #[.slice o n c, .slice (some ⟨b', off + lo + s, none⟩) (n' - s) (n' - s), .slice (some ⟨b', off + lo, none⟩) s n'] 32)).drew = wA := ⟨_, rfl⟩
          have hsz : wA.heap.size = W'.heap.size + 1 := by rw [← hwA]; simp
          have hLs2 : Jcc (fun _ => True) wA W'.heap.size [Z6 pre xs y, zs.drop s, zs.take s] := by rw [← hwA]; exact hLs
          rw [hwA] at hbA ⊢
          refine (G6 (Off4 W.heap.size w3.heap.size P) (Q := fun _ => True) wA (fun b hb => ⟨Ja HP b (by omega), .inr ⟨by omega, by omega⟩⟩) W'.heap.size 3 3 [Z6 pre xs y, zs.drop s, zs.take s] rfl (by decide) (by omega) hLs2 hbound).mono ?_
          rintro e w'' ⟨oo, nn, kk, rfl, hNC, hbC⟩
          rw [hfl] at hNC
          exact ⟨oo, nn, kk, rfl, hNC, hbA.trans (hbC.mono hbA.size)⟩)
        have HST := hide hst
        clear hND hNT hNx hN0 hbound hfl hzl hsn hrest hzs hn' hlo hs hst
        gi_wp2_with fail
        refine ⟨trivial, (CallsIn.inRound l (callsIn_wide.2 hRC)).mono ?_⟩
        rintro e W2 ⟨rfl, hW2⟩
        have hW2' := hW2.symm
        subst hW2'
        gi_wp2_with fail
        refine Code.wpIn_mono (Q := Jon (fun _ w'' => ∃ oo nn kk wC, Nums (Off4 W.heap.size w3.heap.size P) wC (.slice oo nn kk) (Z6 (pre ++ [x]) xs y) ∧ Below W'.heap.size W' wC ∧ w'' = wC.setCell ⟨w3.heap.size, 0, none⟩ (.slice oo nn kk))) ?_ ?_
        case refine_2 =>
          refine wpIn_region_any (by kernel_rfl) (Z5 ?hd ?hL _ _ _ _ ?_)
          case hd =>
            intro i o' ho c' hc'
            rcases i with _ | _ | _ | _ | _ | _ | _ | _ | _ | _ | i <;> simp at ho <;> (subst ho; cases hc')
          case hL =>
            rintro ⟨a', w'', h'⟩
            exact h'
          change wpAny _ _ _ _ _ _ _ (World.drew _)
          refine wpAny_take (i := 1) (v := .slice (some ⟨b', off + lo, none⟩) n' n') rfl (by kernel_rfl) (by kernel_rfl) (by kernel_rfl) (fun _ _ _ h => h) (Or.inl ⟨by rfl, fun w => by go_simp⟩) ?_
          go_simp
          refine wpAny_take (i := 2) (v := .int .i64 s) rfl (by kernel_rfl) (by kernel_rfl) (by kernel_rfl) (fun _ _ _ h => h) (Or.inl ⟨by rfl, fun w => by go_simp⟩) ?_
          go_simp
          refine wpAny_take (i := 3) (v := .slice (some ⟨b', off + lo + s, none⟩) (n' - s) (n' - s)) rfl (by kernel_rfl) (by kernel_rfl) (by kernel_rfl) (fun _ _ _ h => h) (Or.inl ⟨by rfl, fun w => by go_simp⟩) ?_
          go_simp
          refine wpAny_take (i := 4) (v := .slice (some ⟨b', off + lo, none⟩) n' n') rfl (by kernel_rfl) (by kernel_rfl) (by kernel_rfl) (fun _ _ _ h => h) (Or.inl ⟨by rfl, fun w => by go_simp⟩) ?_
          go_simp
          refine wpAny_take (i := 5) (v := .int .i64 s) rfl (by kernel_rfl) (by kernel_rfl) (by kernel_rfl) (fun _ _ _ h => h) (Or.inl ⟨by rfl, fun w => by go_simp⟩) ?_
          go_simp
          refine wpAny_take (i := 6) (v := .slice (some ⟨b', off + lo, none⟩) s n') rfl (by kernel_rfl) (by kernel_rfl) (by kernel_rfl) (fun _ _ _ h => h) (Or.inl ⟨by rfl, fun w => by go_simp⟩) ?_
          go_simp
          refine wpAny_ready (rs := [0]) (by kernel_rfl) (by simp) ?_
          refine AllReady.cons rfl (fun K hK => ?_) AllReady.nil
          go_simp
          refine hK _ _ ?_
          clear hK K
          refine wpAny_ready (rs := [7]) (by kernel_rfl) (by simp) ?_
          refine AllReady.cons rfl (fun K hK => ?_) AllReady.nil
          go_simp
          refine hK _ _ ?_
          clear hK K
          refine wpAny_ready (rs := [8]) (by kernel_rfl) (by simp) ?_
          refine AllReady.cons rfl (fun K hK => ?_) AllReady.nil
          go_simp
          refine (Ja HCC).mono ?_
          rintro e wC ⟨oo, nn, kk, rfl, hNC, hbC⟩
          have q1 := (hbC.cell (p := ⟨w3.heap.size, 0, none⟩) hbx).trans h1
          have q2 := (hbC.frozen (p := ⟨w3.heap.size, 0, none⟩) hbx).trans h2
          refine hK _ _ ?_
          clear hK K
          refine wpAny_ready (rs := [9]) (by kernel_rfl) (by simp) ?_
          refine AllReady.cons rfl (fun K hK => ?_) AllReady.nil
          go_simp
          refine hK _ _ ?_
          clear hK K
          exact wpAny_done (by kernel_rfl) ⟨oo, nn, kk, wC, hNC, hbC, rfl⟩ _
        case refine_1 =>
          intro e a' w'' he
          cases e with
          | normal =>
            obtain ⟨oo, nn, kk, wC, hNC, hbC, rfl⟩ := he
            have hbS : Below (W.heap.size + 1 + 1 + 1) W' (wC.setCell ⟨w3.heap.size, 0, none⟩ (.slice oo nn kk)) := (hbC.mono (by omega)).setCell (p := ⟨w3.heap.size, 0, none⟩) (by show W.heap.size + 1 + 1 + 1 ≤ w3.heap.size; omega) _
            have hq1 := (hbC.cell (p := ⟨w3.heap.size, 0, none⟩) hbx).trans h1
            have hko : KeepsOthers W' wC := ⟨hbC.size, fun k o hk _ => (hbC.block k (Array.getElem?_eq_some_iff.1 hk).1).trans hk⟩
            have hno : ¬ Off4 W.heap.size w3.heap.size P w3.heap.size := by
              rintro ⟨_, h | h⟩ <;> omega
            refine ⟨hko.trans (KeepsOthers.setCell _ _ _), ⟨?_, ?_⟩, ⟨oo, nn, kk, World.cell?_setCell_same _ _ _ hq1, ?_, hNC.set hno 0 _⟩, h4.keep hbS, ?_⟩
            · exact (RowKit.Below.heap_setCell _ _ _ _ (by show w5.heap.size ≠ w3.heap.size; omega)).trans (hbC.block _ (by omega))
            · exact (RowKit.Below.heap_setCell _ _ _ _ (by show w5.heap.size + 1 ≠ w3.heap.size; omega)).trans (hbC.block _ (by omega))
            · rw [World.frozen?_setCell]
              exact (hbC.frozen (p := ⟨w3.heap.size, 0, none⟩) hbx).trans h2
            · have := hbC.size
              simp
              omega
          | _ => exact he.elim
      case done =>
        rintro D zs W' hD rfl ⟨⟨o, n, c, h1, h2, h3⟩, h4, h5⟩ hK
        have y0 := h4.b0
        have y2 := h4.r0
        have y3 := h4.r1
        have z2 := h4.f0
        have z3 := h4.f1
        have m2 := h4.lt
        have m1 : W.heap.size + 1 < W'.heap.size := by omega
        have m3 : w3.heap.size < W'.heap.size := by omega
        gi_wp2
        obtain ⟨W2, hW2⟩ : ∃ W2, (W'.setCell ⟨W.heap.size + 1 + 1, 0, none⟩ (.slice so2 sn2 sc2)).setCell ⟨W.heap.size + 1 + 1, 1, none⟩ (.slice o n c) = W2 := ⟨_, rfl⟩
        have hK2 : W2.heap[D]? = some (.deferred (some [])) := by rw [← hW2]; exact ((KeepsOthers.setCell _ _ _).trans (KeepsOthers.setCell _ _ _)).same D _ hK rfl
        have hO2 : OnlyB (W.heap.size + 1 + 1) W' W2 := by
          rw [← hW2]
          exact ⟨rfl, rfl, rfl, by simp, fun k hk => (RowKit.Below.heap_setCell _ _ _ _ (fun e => hk e)).trans (RowKit.Below.heap_setCell _ _ _ _ (fun e => hk e))⟩
        have q0 : W2.cell? ⟨W.heap.size + 1 + 1, 0, none⟩ = some (.slice so2 sn2 sc2) := by
          rw [← hW2, World.cell?_setCell_other _ _ _ _ (by simp)]
          exact World.cell?_setCell_same _ _ _ y2
        have q1 : W2.cell? ⟨W.heap.size + 1 + 1, 1, none⟩ = some (.slice o n c) := by
          rw [← hW2]
          exact World.cell?_setCell_same _ _ _ (u := .slice none 0 0) ((World.cell?_setCell_other _ _ _ _ (by simp)).trans y3)
        have hno : ¬ Off4 W.heap.size w3.heap.size P (W.heap.size + 1 + 1) := by
          rintro ⟨_, h | h⟩ <;> omega
        have hN2 : Nums (Off4 W.heap.size w3.heap.size P) W2 (.slice o n c) (Ge xs la y) := by
          rw [← hW2]
          have hcn := Ja HCN
          subst hcn
          exact (h3.set hno 0 _).set hno 1 _
        rw [hW2]
        refine ⟨by simp, .inl ⟨_, _, rfl, run_takeDeferred hK2, ?_⟩⟩
        have hput := grownBy_putObj' W2 D (.deferred none)
        have hrr : ∀ r, some D = some r → ∃ o : Obj, W2.heap[r]? = some o ∧ o.isCells = false := fun r e => by cases e; exact ⟨_, hK2, rfl⟩
        have q0' := cell_kept q0 hput hrr
        have q1' := cell_kept q1 hput hrr
        have hput2 : Below W.heap.size W2 (W2.putObj D (.deferred none)) := (Below.refl _ _).grown hput (by rw [hO2.size]; omega) (fun k e => by cases e; omega)
        have hB3 : Below W.heap.size W (W2.putObj D (.deferred none)) := (h4.below.trans (hO2.below (by omega))).trans hput2
        have hN3 := hN2.own (n := 0) hput (fun r e => ⟨Nat.zero_le _, hrr r e⟩)
        exact ⟨.tuple #[.agg #[.slice so2 sn2 sc2, .slice o n c], .int .i64 0], by simp [results, Tryz.results121, go_sem, q0', q1'], so2, sn2, sc2, o, n, c, rfl, ⟨_, _, _, _, _, _, rfl, (Ja HShB).below hB3, hN3.imp (fun b h _ => h.1)⟩, hB3⟩
      case stop =>
        rintro D c pre W' _ _ h _
        exact h.elim
    | _ => exact he.elim
theorem Jlw (w : World) : FnTwo 121 #[] w Xf := by
  intro W P u v a b _ hP ha hb hoa hob
  have ha0 := ha
  have hb0 := hb
  obtain ⟨so, sn, sc, co, cn, cc, rfl, ha1, ha2⟩ := ha
  obtain ⟨so2, sn2, sc2, co2, cn2, cc2, rfl, hb1, hb2⟩ := hb
  have hsa := (Jc ha0).2
  have hsb := (Jc hb0).2
  by_cases h : sn ≠ 0 ∨ sn2 = 0
  · exact Jdm W P so sn sc co cn cc so2 sn2 sc2 co2 cn2 cc2 a b ha0 hb0 h
  · have h1 : sn = 0 := by omega
    have h2 : sn2 ≠ 0 := by omega
    subst h1
    have hr : Xf a b = (⟨b.shape, Ge b.cells (Ju b.shape) (a.cells.headD 0)⟩, 0) := by
      unfold Xf
      rw [if_neg (by omega), if_neg (by omega)]
    rw [hr]
    exact Jiw W P hP so sc co cn cc so2 sn2 sc2 co2 cn2 cc2 a b ha0 hb0 hoa hob h2
end Go.Proofs.YtjobgpahajhbnabGreatDoor
namespace Go.Proofs.YtjobgpahajhbnabGreatDoor
open Go.RowKit Go.Proofs
theorem Gp {n c : Nat} (hc : 0 < c) (xs : List Int) (y : Int) (hx : xs.length = n) : ∀ k, (Z6 (Yn n c hc k) xs y).length = min n (k * c)
  | 0 => by simp [Yn, Z6]
  | k + 1 => by
    have ih := Gp hc xs y hx k
    have e : (k + 1) * c = k * c + c := by rw [Nat.add_mul, Nat.one_mul]
    by_cases h : k * c < n
    · rw [Xo hc h, Gn, List.length_append, Jcn, ih, e]
      simp only [Vp, List.length_take, List.length_drop]
      omega
    · rw [Yn, dif_neg h, ih, e]
      omega
theorem Je4 (xs : List Int) (la : Nat) (y : Int) : (Ge xs la y).length = xs.length := by
  unfold Ge
  rw [Gp (Z7 la) xs y rfl]
  have : xs.length ≤ xs.length * max la 1 := Nat.le_mul_of_pos_right _ (Z7 la)
  omega
theorem Jjc {L : List Int} {s : Nat} {c : Int} (h : c ∈ rotL L s) : c ∈ L := by
  unfold rotL at h
  rcases List.mem_append.1 h with h | h
  · exact List.mem_of_mem_drop h
  · exact List.mem_of_mem_take h
theorem Je3 {n : Nat} {pre : List (Part n)} {xs : List Int} {y c : Int} (h : c ∈ Z6 pre xs y) : c ∈ xs := by
  unfold Z6 at h
  obtain ⟨l, h1, h2⟩ := List.mem_flatten.1 h
  obtain ⟨p, _, rfl⟩ := List.mem_map.1 h1
  exact List.mem_of_mem_drop (List.mem_of_mem_take (Jjc h2))
theorem Jiv : TwoC ⟨#[114, 101, 118]⟩ Xf := ⟨fun w => (Z3 (t := ⟨#[114, 101, 118]⟩) (k1 := .string [101, 118]) (k2 := .string [114, 101, 118]) (f := 121) (by decide) (by kernel_rfl) (by kernel_rfl) (by kernel_rfl) (by kernel_rfl) (by kernel_rfl) w).mono (by rintro e w' ⟨rfl, hb⟩; exact ⟨121, #[], rfl, Tryz.enters121, hb, Jlw w'⟩), fun a b ha hb => by
  unfold Xf
  split
  · exact ⟨by simp [eArr], fun h => absurd h (by decide)⟩
  · split
    · exact ⟨hb.few, fun _ => hb⟩
    · have hl := Je4 b.cells (Ju b.shape) (a.cells.headD 0)
      exact ⟨by show (Ge _ _ _).length ≤ 200; rw [hl]; exact hb.few, fun _ => ⟨hb.rank, hb.lens, by show (Ge _ _ _).length = _; rw [hl]; exact hb.size, by show (Ge _ _ _).length ≤ 200; rw [hl]; exact hb.few, fun c hc => hb.fits c (Je3 hc)⟩⟩⟩
end Go.Proofs.YtjobgpahajhbnabGreatDoor
