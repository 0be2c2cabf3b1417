import Derived.Test.YtjobgpahajhbnaaGreatDoorTe
import Derived.Test.YtjobgpahajhbnaaGreatDoorHa
import Derived.Deep.RegionHeld3
namespace Go.Proofs.YtjobgpahajhbnaaGreatDoor
open Go.RowKit Go.Proofs
attribute [local go_sem ↓] Go.wp_at_zero Go.wp_at_succ

def swapL (d : List Int) (i j : Nat) : List Int := (d.set i (d.getD j 0)).set j (d.getD i 0)
theorem swapL_len (d : List Int) (i j : Nat) : (swapL d i j).length = d.length := by simp [swapL]
theorem swapL_at {d : List Int} {i j : Nat} (hi : i < d.length) (hj : j < d.length) (k : Nat) : (swapL d i j).getD k 0 = if j = k then d.getD i 0 else if i = k then d.getD j 0 else d.getD k 0 := by
  obtain ⟨x, hx⟩ : ∃ x, d.getD i 0 = x := ⟨_, rfl⟩
  obtain ⟨y, hy⟩ : ∃ y, d.getD j 0 = y := ⟨_, rfl⟩
  unfold swapL
  rw [hx, hy, List.getD_eq_getElem?_getD, List.getElem?_set, List.length_set]
  by_cases e1 : j = k
  · rw [if_pos e1, if_pos e1, if_pos hj]
    rfl
  · rw [if_neg e1, if_neg e1, List.getElem?_set]
    by_cases e2 : i = k
    · rw [if_pos e2, if_pos e2, if_pos hi]
      rfl
    · rw [if_neg e2, if_neg e2, ← List.getD_eq_getElem?_getD]
/-- n places, each below n -/
structure InR (n : Nat) (d : List Int) : Prop where
  len : d.length = n
  rng : ∀ x ∈ d, 0 ≤ x ∧ x < (n : Int)
theorem InR.at {n : Nat} {d : List Int} (h : InR n d) {i : Nat} (hi : i < n) : 0 ≤ d.getD i 0 ∧ d.getD i 0 < (n : Int) := by
  have hl : i < d.length := by rw [h.len]; exact hi
  rw [List.getD_eq_getElem?_getD, List.getElem?_eq_getElem hl]
  exact h.rng _ (List.getElem_mem hl)
theorem InR.swap {n : Nat} {d : List Int} (h : InR n d) {i j : Nat} (hi : i < n) (hj : j < n) : InR n (swapL d i j) := by
  refine ⟨by rw [swapL_len]; exact h.len, fun x hx => ?_⟩
  unfold swapL at hx
  rcases List.mem_or_eq_of_mem_set hx with h1 | h1
  · rcases List.mem_or_eq_of_mem_set h1 with h2 | h2
    · exact h.rng x h2
    · rw [h2]; exact h.at hj
  · rw [h1]; exact h.at hi
theorem OnlyB.refl (g : Nat) (W : World) : OnlyB g W W := ⟨rfl, rfl, rfl, rfl, fun _ _ => rfl⟩
theorem OnlyB.trans {g : Nat} {A B C : World} (h : OnlyB g A B) (k : OnlyB g B C) : OnlyB g A C := ⟨k.os.trans h.os, k.tape.trans h.tape, k.output.trans h.output, k.size.trans h.size, fun b hb => (k.block b hb).trans (h.block b hb)⟩
theorem OnlyB.drew {g : Nat} {A B : World} (h : OnlyB g A B) : OnlyB g A B.drew := ⟨h.os, h.tape, h.output, h.size, h.block⟩
theorem OnlyB.set {g : Nat} {A B : World} (h : OnlyB g A B) (i : Nat) (v : Value) : OnlyB g A (B.setCell ⟨g, i, none⟩ v) := ⟨h.os, h.tape, h.output, by simpa using h.size, fun b hb => (RowKit.Below.heap_setCell _ _ _ _ hb).trans (h.block b hb)⟩
theorem OnlyB.cell {g : Nat} {A B : World} (h : OnlyB g A B) {b o : Nat} (hb : b ≠ g) : B.cell? ⟨b, o, none⟩ = A.cell? ⟨b, o, none⟩ := World.cell?_of_block (h.block b hb)
/-- where a sort stands -/
structure SAt (g n : Nat) (W0 W : World) (d : List Int) : Prop where
  row : ∀ i, i < n → W.cell? ⟨g, i, none⟩ = some (.int .i64 (d.getD i 0)) ∧ W.frozen? ⟨g, i, none⟩ = false
  only : OnlyB g W0 W
  inr : InR n d
  lt : g < W.heap.size
theorem SAt.drew {g n : Nat} {W0 W : World} {d : List Int} (h : SAt g n W0 W d) : SAt g n W0 W.drew d := ⟨h.row, h.only.drew, h.inr, h.lt⟩
theorem SAt.swap {g n : Nat} {W0 W : World} {d : List Int} (h : SAt g n W0 W d) {i j : Nat} (hi : i < n) (hj : j < n) : SAt g n W0 ((W.setCell ⟨g, i, none⟩ (.int .i64 (d.getD j 0))).setCell ⟨g, j, none⟩ (.int .i64 (d.getD i 0))) (swapL d i j) := by
  refine ⟨fun k hk => ⟨?_, by rw [World.frozen?_setCell, World.frozen?_setCell]; exact (h.row k hk).2⟩, (h.only.set _ _).set _ _, h.inr.swap hi hj, by simpa using h.lt⟩
  have hl : d.length = n := h.inr.len
  rw [swapL_at (by omega) (by omega)]
  by_cases e1 : j = k
  · subst e1
    rw [if_pos rfl]
    have h1 : ∃ u, (W.setCell ⟨g, i, none⟩ (.int .i64 (d.getD j 0))).cell? ⟨g, j, none⟩ = some u := by
      by_cases e2 : i = j
      · subst e2
        exact ⟨_, World.cell?_setCell_same _ _ _ (h.row i hi).1⟩
      · exact ⟨_, (World.cell?_setCell_other _ _ _ _ (by intro e; injection e with _ e3; exact e2 e3)).trans (h.row j hj).1⟩
    obtain ⟨u, hu⟩ := h1
    exact World.cell?_setCell_same _ _ _ hu
  · rw [if_neg e1, World.cell?_setCell_other _ _ _ _ (by intro e; injection e with _ e3; exact e1 e3)]
    by_cases e2 : i = k
    · subst e2
      rw [if_pos rfl]
      exact World.cell?_setCell_same _ _ _ (h.row i hi).1
    · rw [if_neg e2, World.cell?_setCell_other _ _ _ _ (by intro e; injection e with _ e3; exact e2 e3)]
      exact (h.row k hk).1
/-- what the comparison of two places comes to -/
def CmpC (g n b3 b2 : Nat) (W0 : World) (cf : Int → Int → Int) : Prop := ∀ W, OnlyB g W0 W → ∀ x y : Int, 0 ≤ x ∧ x < (n : Int) → 0 ≤ y ∧ y < (n : Int) → Calls Tryz.prog 276 #[.int .i64 x, .int .i64 y, .pointer (some ⟨b3, 0, none⟩), .pointer (some ⟨b2, 0, none⟩)] W fun e W' => e = .returned (.int .i64 (cf x y)) ∧ OnlyB g W W' ∧ W'.heap[g]? = W.heap[g]?
theorem SAt.next {g n : Nat} {W0 W W' : World} {d : List Int} (h : SAt g n W0 W d) (hb : OnlyB g W W') (hg : W'.heap[g]? = W.heap[g]?) : SAt g n W0 W' d :=
  ⟨fun i hi => ⟨(World.cell?_of_block (a := ⟨g, i, none⟩) hg).trans (h.row i hi).1, (World.frozen?_of_block (a := ⟨g, i, none⟩) hg).trans (h.row i hi).2⟩, h.only.trans hb, h.inr, by rw [hb.size]; exact h.lt⟩
/-- insertion -/
def insIn (cf : Int → Int → Int) (a : Nat) : Nat → List Int → List Int
  | 0, d => d
  | k + 1, d => if cf (d.getD (a + k + 1) 0) (d.getD (a + k) 0) < 0 then insIn cf a k (swapL d (a + k + 1) (a + k)) else d
def insOut (cf : Int → Int → Int) (a : Nat) : Nat → Nat → List Int → List Int
  | 0, _, d => d
  | s + 1, i, d => insOut cf a s (i + 1) (insIn cf a (i - a) d)
/-- the first place of which p does not hold, by halves -/
def bsr (p : Nat → Bool) : Nat → Nat → Nat → Nat
  | 0, i, _ => i
  | f + 1, i, j => if i < j then (if p ((i + j) / 2) = true then bsr p f ((i + j) / 2 + 1) j else bsr p f i ((i + j) / 2)) else i
theorem bsr_more {p : Nat → Bool} : ∀ {f i j : Nat}, j - i ≤ f → bsr p f i j = bsr p (f + 1) i j
  | 0, i, j, h => by
    rw [bsr, bsr, if_neg (by omega)]
  | f + 1, i, j, h => by
    rw [bsr]
    conv => rhs; rw [bsr]
    by_cases hij : i < j
    · rw [if_pos hij, if_pos hij]
      by_cases hp : p ((i + j) / 2) = true
      · rw [if_pos hp, if_pos hp]
        exact bsr_more (by omega)
      · rw [if_neg hp, if_neg hp]
        exact bsr_more (by omega)
    · rw [if_neg hij, if_neg hij]
def bsF (p : Nat → Bool) (i j : Nat) : Nat := bsr p (j - i) i j
theorem bsr_enough {p : Nat → Bool} {i j : Nat} : ∀ {f : Nat}, j - i ≤ f → bsr p f i j = bsF p i j := by
  intro f hf
  obtain ⟨k, rfl⟩ : ∃ k, f = (j - i) + k := ⟨f - (j - i), by omega⟩
  clear hf
  induction k with
  | zero => rfl
  | succ k ih => rw [← ih, ← Nat.add_assoc, ← bsr_more (by omega)]
theorem bsF_stop {p : Nat → Bool} {i j : Nat} (h : ¬ i < j) : bsF p i j = i := by
  unfold bsF
  rw [show j - i = 0 by omega, bsr]
theorem bsF_yes {p : Nat → Bool} {i j : Nat} (h : i < j) (hp : p ((i + j) / 2) = true) : bsF p i j = bsF p ((i + j) / 2 + 1) j := by
  rw [← bsr_enough (f := (j - i - 1) + 1) (by omega), bsr, if_pos h, if_pos hp, bsr_enough (by omega)]
theorem bsF_no {p : Nat → Bool} {i j : Nat} (h : i < j) (hp : ¬ p ((i + j) / 2) = true) : bsF p i j = bsF p i ((i + j) / 2) := by
  rw [← bsr_enough (f := (j - i - 1) + 1) (by omega), bsr, if_pos h, if_neg hp, bsr_enough (by omega)]
theorem bsF_rng {p : Nat → Bool} : ∀ (f : Nat) {i j : Nat}, j - i ≤ f → i ≤ j → i ≤ bsF p i j ∧ bsF p i j ≤ j
  | 0, i, j, hf, h => by rw [bsF_stop (by omega)]; omega
  | f + 1, i, j, hf, h => by
    by_cases hij : i < j
    · by_cases hp : p ((i + j) / 2) = true
      · rw [bsF_yes hij hp]
        have := bsF_rng (p := p) f (i := (i + j) / 2 + 1) (j := j) (by omega) (by omega)
        omega
      · rw [bsF_no hij hp]
        have := bsF_rng (p := p) f (i := i) (j := (i + j) / 2) (by omega) (by omega)
        omega
    · rw [bsF_stop hij]; omega
/-- a cell is led on, or back, by swaps -/
def shUp : Nat → Nat → List Int → List Int
  | 0, _, d => d
  | s + 1, k, d => shUp s (k + 1) (swapL d k (k + 1))
def shDn : Nat → Nat → List Int → List Int
  | 0, _, d => d
  | s + 1, k, d => shDn s (k - 1) (swapL d k (k - 1))
def swR (a b : Nat) : Nat → Nat → List Int → List Int
  | 0, _, d => d
  | s + 1, i, d => swR a b s (i + 1) (swapL d (a + i) (b + i))
def rotP (m : Nat) : Nat → Nat → Nat → List Int → List Int
  | 0, i, _, d => swR (m - i) m i 0 d
  | f + 1, i, j, d => if i = j then swR (m - i) m i 0 d else if j < i then rotP m f (i - j) j (swR (m - i) m j 0 d) else rotP m f i (j - i) (swR (m - i) (m + j - i) i 0 d)
def rotF (a m b : Nat) (d : List Int) : List Int := rotP m (m - a + (b - m)) (m - a) (b - m) d
/-- where the halves part -/
def startF (cf : Int → Int → Int) (a m b : Nat) (d : List Int) : Nat :=
  bsF (fun c => decide (¬ cf (d.getD ((a + b) / 2 + m - 1 - c) 0) (d.getD c 0) < 0)) (if (a + b) / 2 < m then (a + b) / 2 + m - b else a) (if (a + b) / 2 < m then (a + b) / 2 else m)
def symP (cf : Int → Int → Int) : Nat → Nat → Nat → Nat → List Int → List Int
  | 0, _, _, _, d => d
  | f + 1, a, m, b, d =>
    if m = a + 1 then shUp (bsF (fun h => decide (cf (d.getD h 0) (d.getD a 0) < 0)) m b - 1 - a) a d
    else if b = m + 1 then shDn (m - bsF (fun h => decide (¬ cf (d.getD m 0) (d.getD h 0) < 0)) a m) m d
    else
      let s := startF cf a m b d
      let e := (a + b) / 2 + m - s
      let d1 := if s < m ∧ m < e then rotF s m e d else d
      let d2 := if a < s ∧ s < (a + b) / 2 then symP cf f a s ((a + b) / 2) d1 else d1
      if (a + b) / 2 < e ∧ e < b then symP cf f ((a + b) / 2) e b d2 else d2
end Go.Proofs.YtjobgpahajhbnaaGreatDoor
namespace Go.Proofs.YtjobgpahajhbnaaGreatDoor
open Go.RowKit Go.Proofs
attribute [local go_sem ↓] Go.wp_at_zero Go.wp_at_succ

def compF (x y : Int) : Int := if x < y then -1 else if y < x then 1 else 0
theorem comp_fn (W : World) (x y : Int) : Calls Tryz.prog 230 #[.int .i64 x, .int .i64 y] W fun e W' => e = .returned (.int .i64 (compF x y)) ∧ W' = W := compare_any x y _ rfl W
theorem comp_back (W : World) (x y : Int) : Calls Tryz.prog 237 #[.int .i64 x, .int .i64 y] W fun e W' => e = .returned (.int .i64 (compF y x)) ∧ W' = W := by
  have HC := hide (fun W' => comp_fn W' y x)
  obtain ⟨r, hr⟩ : ∃ r, compF y x = r := ⟨_, rfl⟩
  simp only [hr] at HC ⊢
  clear hr
  go_enter Tryz.func237, Tryz.ntmps237
  go_wp2_with (go_at_call 230; refine (unhide HC _).mono ?_; rintro e w' ⟨rfl, rfl⟩)
  exact bodyPost_ret (v := .int .i64 r) (by simp [results, Tryz.results237, go_sem]) rfl ⟨rfl, rfl⟩
/-- the order of places by their cells -/
def byCells (kf : Int → Int → Int) (ks : List Int) (x y : Int) : Int := kf (ks.getD x.toNat 0) (ks.getD y.toNat 0)
set_option maxHeartbeats 2000000 in
set_option maxRecDepth 20000 in
theorem cmp_any {q : Nat} (hen : Enters Tryz.prog q) {kf : Int → Int → Int} (hk : ∀ W x y, Calls Tryz.prog q #[.int .i64 x, .int .i64 y] W fun e W' => e = .returned (.int .i64 (kf x y)) ∧ W' = W) (g n b3 b2 : Nat) (W0 : World) (h3 : b3 ≠ g) (h2 : b2 ≠ g) (c3 : W0.cell? ⟨b3, 0, none⟩ = some (.func (.func q) #[] #[])) (co : Option Addr) (cc : Nat) (c2 : W0.cell? ⟨b2, 1, none⟩ = some (.slice co n cc)) (l3 : b3 < W0.heap.size) (l2 : b2 < W0.heap.size) (ks : List Int) (hN : Nums (fun b => b ≠ g) W0 (.slice co n cc) ks) :
    CmpC g n b3 b2 W0 (byCells kf ks) := by
  intro W hW x y hx hy
  have hn := nums_len hN
  obtain ⟨i, rfl⟩ : ∃ i : Nat, x = i := ⟨x.toNat, by omega⟩
  obtain ⟨j, rfl⟩ : ∃ j : Nat, y = j := ⟨y.toNat, by omega⟩
  have hi : i < ks.length := by omega
  have hj : j < ks.length := by omega
  obtain ⟨ao, cap, hv, hcap, hA, _⟩ := hN
  obtain ⟨cb, cof, rfl, hne, hlt, hc⟩ := hA (by omega)
  injection hv with e1 e2 e3
  subst e1
  have d3 := (hW.cell (o := 0) h3).trans c3
  have d2 := (hW.cell (o := 1) h2).trans c2
  have ci := (hW.cell (o := cof + i) hne).trans (hc i hi)
  have cj := (hW.cell (o := cof + j) hne).trans (hc j hj)
  have hr : byCells kf ks (i : Int) (j : Int) = kf ks[i] ks[j] := by
    unfold byCells
    simp [List.getD_eq_getElem?_getD, hi, hj]
  rw [hr]
  obtain ⟨u, hu⟩ : ∃ u, ks[i] = u := ⟨_, rfl⟩
  obtain ⟨v, hv'⟩ : ∃ v, ks[j] = v := ⟨_, rfl⟩
  rw [hu] at ci ⊢
  rw [hv'] at cj ⊢
  have HK := hide (fun W' => hk W' u v)
  obtain ⟨r, hr'⟩ : ∃ r, kf u v = r := ⟨_, rfl⟩
  simp only [hr'] at HK ⊢
  have hen2 : ∀ args w, (callFunc q args).run Tryz.prog w = .ok (.enter q args) w := hen
  have k3 : b3 < W.heap.size := by rw [hW.size]; exact l3
  have k2 : b2 < W.heap.size := by rw [hW.size]; exact l2
  have kc : cb < W.heap.size := by rw [hW.size]; exact hlt
  have i0 : (0 : Int) ≤ (i : Int) := by omega
  have i1 : (i : Int) < (n : Int) := by omega
  have j0 : (0 : Int) ≤ (j : Int) := by omega
  have j1 : (j : Int) < (n : Int) := by omega
  have HW := hide hW
  clear hW hx hy hA hc hr hu hv' hr' hk hen c3 c2 hn hi hj hcap e2 e3 hne hlt l3 l2
  go_enter Tryz.func276, Tryz.ntmps276
  go_wp2_with fail
  go_region_held3 (fun w' => w'.cell? ⟨b3, 0, none⟩ = some (.func (.func q) #[] #[]) ∧ w'.cell? ⟨b2, 1, none⟩ = some (.slice (some ⟨cb, cof, none⟩) n cc) ∧ w'.cell? ⟨cb, cof + i, none⟩ = some (.int .i64 u) ∧ w'.cell? ⟨cb, cof + j, none⟩ = some (.int .i64 v))
    (first
      | exact ⟨d3, d2, ci, cj⟩
      | (trace_state; fail))
    ((go_at_fn q; refine (unhide HK _).mono ?_; rintro e w' ⟨rfl, rfl⟩))
  go_wp2_with fail
  exact bodyPost_ret (v := .int .i64 r) (by simp [results, Tryz.results276, go_sem]) rfl ⟨rfl, (OnlyB.refl _ _).drew, rfl⟩
end Go.Proofs.YtjobgpahajhbnaaGreatDoor
namespace Go.Proofs.YtjobgpahajhbnaaGreatDoor
open Go.RowKit Go.Proofs
attribute [local go_sem ↓] Go.wp_at_zero Go.wp_at_succ

theorem insIn_inr {cf : Int → Int → Int} {a n : Nat} : ∀ {k : Nat} {d : List Int}, InR n d → a + k < n → InR n (insIn cf a k d)
  | 0, _, h, _ => h
  | k + 1, d, h, hk => by
    rw [insIn]
    split
    · exact insIn_inr (h.swap hk (by omega)) (by omega)
    · exact h
set_option maxHeartbeats 4000000 in
set_option maxRecDepth 20000 in
theorem insert_any (g n b3 b2 cap a b : Nat) (W0 : World) (cf : Int → Int → Int) (hC : CmpC g n b3 b2 W0 cf) (hn : n ≤ 1000) (hab : a ≤ b) (hb : b ≤ n) (W : World) (d : List Int) (hS : SAt g n W0 W d) :
    Calls Tryz.prog 294 #[.slice (some ⟨g, 0, none⟩) n cap, .int .i64 a, .int .i64 b, .func (.func 276) #[] #[.pointer (some ⟨b3, 0, none⟩), .pointer (some ⟨b2, 0, none⟩)]] W fun e W' => e = .returned (.tuple #[]) ∧ SAt g n W0 W' (insOut cf a (b - (a + 1)) (a + 1) d) := by
  have HC := hide hC
  have HS := hide hS
  obtain ⟨R, hR⟩ : ∃ R, insOut cf a (b - (a + 1)) (a + 1) d = R := ⟨_, rfl⟩
  rw [hR]
  have HR := hide hR
  clear hC hS hR
  go_enter Tryz.func294, Tryz.ntmps294
  go_wp2_with fail
  go_loopw [8] (fun v8 wr => ∃ (i : Nat) (d : List Int), v8 = .int .i64 i ∧ a + 1 ≤ i ∧ i ≤ n + 1 ∧ SAt g n W0 wr d ∧ Hid (insOut cf a (b - i) i d = R)) (fun v8 _ => b - (intOf v8).toNat)
  case atStart => exact ⟨a + 1, d, by go_num, by omega, by omega, unhide HS, HR⟩
  case round =>
    obtain ⟨i, d, rfl, hi1, hi2, hS, hE⟩ := hrel
    rename World => wr
    have HS := hide hS
    by_cases hib : i < b
    · have i0 : (i : Int) < (b : Int) := by omega
      have HE2 : Hid (insOut cf a (b - (i + 1)) (i + 1) (insIn cf a (i - a) d) = R) := hide (by
        have h1 := unhide hE
        rw [show b - i = (b - (i + 1)) + 1 by omega, insOut] at h1
        exact h1)
      obtain ⟨R2, hR2⟩ : ∃ R2, insIn cf a (i - a) d = R2 := ⟨_, rfl⟩
      rw [hR2] at HE2
      have HR2 := hide hR2
      clear hS hE hR2
      go_wp2_with fail
      go_loopw [9] (fun v9 wx => ∃ (j : Nat) (d : List Int), v9 = .int .i64 j ∧ a ≤ j ∧ j ≤ i ∧ SAt g n W0 wx d ∧ Hid (insIn cf a (j - a) d = R2)) (fun v9 _ => (intOf v9).toNat)
      case atStart => exact ⟨i, d, rfl, by omega, by omega, unhide HS, HR2⟩
      case round =>
        obtain ⟨j, d, rfl, hj1, hj2, hS, hE⟩ := hrel
        rename World => wx
        have HSx := hide hS
        by_cases hja : a < j
        · obtain ⟨p, hp⟩ : ∃ p, j = p + 1 := ⟨j - 1, by omega⟩
          have c1 := (hS.row j (by omega)).1
          have c2 := (hS.row p (by omega)).1
          have hcall := unhide HC wx.drew hS.only.drew (d.getD j 0) (d.getD p 0) (hS.inr.at (by omega)) (hS.inr.at (by omega))
          have HE2' : Hid (insIn cf a (j - a) d = if cf (d.getD j 0) (d.getD p 0) < 0 then insIn cf a (p - a) (swapL d j p) else d) := hide (by
            rw [show j - a = (p - a) + 1 by omega, insIn, show a + (p - a) + 1 = j by omega, show a + (p - a) = p by omega])
          obtain ⟨x, hx⟩ : ∃ x, d.getD j 0 = x := ⟨_, rfl⟩
          obtain ⟨y, hy⟩ : ∃ y, d.getD p 0 = y := ⟨_, rfl⟩
          rw [hx, hy] at hcall HE2'
          rw [hx] at c1
          rw [hy] at c2
          obtain ⟨z, hz⟩ : ∃ z, cf x y = z := ⟨_, rfl⟩
          rw [hz] at hcall HE2'
          have HCall := hide hcall
          have HX := hide hx
          have HY := hide hy
          have hpw : IntKind.i64.wrap ((j : Int) - 1) = (p : Int) := by
            have e : (j : Int) - 1 = (p : Int) := by omega
            rw [e]
            exact wrap_pos (by omega) (by omega)
          have HPP := hide hp
          have hgl := hS.lt
          have g0 : (a : Int) < (j : Int) := by omega
          have j0 : (0 : Int) ≤ (j : Int) := by omega
          have j1 : (j : Int) < (n : Int) := by omega
          have p0 : (0 : Int) ≤ (p : Int) := by omega
          have p1 : (p : Int) < (n : Int) := by omega
          have hpn : p < n := by omega
          have hjn : j < n := by omega
          clear hS hx hy hz hcall hp
          go_wp2_with fail
          go_region_held3 (fun w' => w'.cell? ⟨g, j, none⟩ = some (.int .i64 x) ∧ w'.cell? ⟨g, p, none⟩ = some (.int .i64 y))
            (first
              | exact ⟨c1, c2⟩
              | exact ⟨by rw [← unhide HX]; exact ((unhide HS5).row j hjn).1, by rw [← unhide HY]; exact ((unhide HS5).row p hpn).1⟩
              | (trace_state; fail))
            ((go_at_call 276; refine (unhide HCall).mono ?_; rintro e w5 ⟨rfl, hb5, hg5⟩; have HS5 := hide ((unhide HSx).drew.next hb5 hg5); clear hb5 hg5))
          clear c1 c2
          by_cases hz0 : z < 0
          · have HE3 : Hid (insIn cf a (p - a) (swapL d j p) = R2) := hide (by
              have h1 := unhide HE2'
              rw [if_pos hz0, unhide hE] at h1
              exact h1.symm)
            have c1 := ((unhide HS5).row j hjn).1
            have c2 := ((unhide HS5).row p hpn).1
            have f1 := ((unhide HS5).row j hjn).2
            have f2 := ((unhide HS5).row p hpn).2
            rw [unhide HX] at c1
            rw [unhide HY] at c2
            have hgl5 := (unhide HS5).lt
            have njp : j ≠ p := by have := unhide HPP; omega
            have npj : p ≠ j := by omega
            clear hE HE2'
            go_wp2_with fail
            go_region
            have HS6 : Hid (SAt g n W0 ((w5.setCell ⟨g, j, none⟩ (.int .i64 y)).setCell ⟨g, p, none⟩ (.int .i64 x)).drew (swapL d j p)) := hide (by
              have h1 := (unhide HS5).swap hjn hpn
              rw [unhide HX, unhide HY] at h1
              exact h1.drew)
            go_wp2_with fail
            go_roundw
            case rel => exact ⟨p, swapL d j p, rfl, by have := unhide HPP; omega, by have := unhide HPP; omega, unhide HS6, HE3⟩
            case measure => simp [intOf]; have := unhide HPP; omega
          · have he : d = R2 := by
              have h1 := unhide HE2'
              rw [if_neg hz0, unhide hE] at h1
              exact h1.symm
            subst he
            clear hE HE2'
            go_wp2_with fail
            go_roundw
            case rel => exact ⟨i + 1, d, by go_num, by omega, by omega, unhide HS5, HE2⟩
            case measure => simp [intOf]; omega
        · have hje : j = a := by omega
          subst hje
          have he : d = R2 := by
            have h1 := unhide hE
            rw [Nat.sub_self, insIn] at h1
            exact h1
          subst he
          have g0 : ¬ (j : Int) < (j : Int) := by omega
          clear hS hE
          go_wp2_with fail
          go_region
          go_wp2_with fail
          go_roundw
          case rel => exact ⟨i + 1, d, by go_num, by omega, by omega, (unhide HSx).drew, HE2⟩
          case measure => simp [intOf]; omega
    · have he : d = R := by
        have h1 := unhide hE
        rw [show b - i = 0 by omega, insOut] at h1
        exact h1
      subst he
      have i0 : ¬ (i : Int) < (b : Int) := by omega
      clear hS hE
      go_wp2_with fail
      first
      | (go_end0; exact ⟨rfl, unhide HS⟩)
      | (trace_state; fail)
end Go.Proofs.YtjobgpahajhbnaaGreatDoor
namespace Go.Proofs.YtjobgpahajhbnaaGreatDoor
open Go.RowKit Go.Proofs
attribute [local go_sem ↓] Go.wp_at_zero Go.wp_at_succ

set_option maxHeartbeats 4000000 in
set_option maxRecDepth 20000 in
theorem swaps_any (g n cap a b c : Nat) (fv : Value) (W0 : World) (hn : n ≤ 1000) (hab : a < b) (hb : b + c ≤ n) (W : World) (d : List Int) (hS : SAt g n W0 W d) :
    Calls Tryz.prog 298 #[.slice (some ⟨g, 0, none⟩) n cap, .int .i64 a, .int .i64 b, .int .i64 c, fv] W fun e W' => e = .returned (.tuple #[]) ∧ SAt g n W0 W' (swR a b c 0 d) := by
  have HS := hide hS
  obtain ⟨R, hR⟩ : ∃ R, swR a b c 0 d = R := ⟨_, rfl⟩
  rw [hR]
  have HR := hide hR
  clear hS hR
  go_enter Tryz.func298, Tryz.ntmps298
  go_wp2_with fail
  go_loopw [10] (fun v10 wr => ∃ (i : Nat) (d : List Int), v10 = .int .i64 i ∧ i ≤ c ∧ SAt g n W0 wr d ∧ Hid (swR a b (c - i) i d = R)) (fun v10 _ => c - (intOf v10).toNat)
  case atStart => exact ⟨0, d, rfl, by omega, unhide HS, HR⟩
  case round =>
    obtain ⟨i, d, rfl, hi, hS, hE⟩ := hrel
    rename World => wr
    have HSx := hide hS
    by_cases hic : i < c
    · have HE2 : Hid (swR a b (c - (i + 1)) (i + 1) (swapL d (a + i) (b + i)) = R) := hide (by
        have h1 := unhide hE
        rw [show c - i = (c - (i + 1)) + 1 by omega, swR] at h1
        exact h1)
      obtain ⟨p, hp⟩ : ∃ p, a + i = p := ⟨_, rfl⟩
      obtain ⟨q, hq⟩ : ∃ q, b + i = q := ⟨_, rfl⟩
      rw [hp, hq] at HE2
      have c1 := (hS.row p (by omega)).1
      have c2 := (hS.row q (by omega)).1
      have f1 := (hS.row p (by omega)).2
      have f2 := (hS.row q (by omega)).2
      have hgl := hS.lt
      obtain ⟨x, hx⟩ : ∃ x, d.getD p 0 = x := ⟨_, rfl⟩
      obtain ⟨y, hy⟩ : ∃ y, d.getD q 0 = y := ⟨_, rfl⟩
      rw [hx] at c1
      rw [hy] at c2
      have HS6 : Hid (∀ w', SAt g n W0 w' d → SAt g n W0 ((w'.setCell ⟨g, p, none⟩ (.int .i64 y)).setCell ⟨g, q, none⟩ (.int .i64 x)) (swapL d p q)) := hide (fun w' h => by
        have h1 := h.swap (i := p) (j := q) (by omega) (by omega)
        rw [hx, hy] at h1
        exact h1)
      have hw1 : IntKind.i64.wrap ((a : Int) + (i : Int)) = (p : Int) := by
        rw [← Int.natCast_add, hp]
        exact wrap_pos (by omega) (by omega)
      have hw2 : IntKind.i64.wrap ((b : Int) + (i : Int)) = (q : Int) := by
        rw [← Int.natCast_add, hq]
        exact wrap_pos (by omega) (by omega)
      have i0 : (i : Int) < (c : Int) := by omega
      have p0 : (0 : Int) ≤ (p : Int) := by omega
      have p1 : (p : Int) < (n : Int) := by omega
      have q0 : (0 : Int) ≤ (q : Int) := by omega
      have q1 : (q : Int) < (n : Int) := by omega
      have npq : p ≠ q := by omega
      have nqp : q ≠ p := by omega
      clear hS hE hp hq hx hy
      go_wp2_with fail
      go_region
      go_wp2_with fail
      go_roundw
      case rel => exact ⟨i + 1, swapL d p q, by go_num, by omega, by first | exact (unhide HS6 _ (unhide HSx)).drew | exact unhide HS6 _ (unhide HSx).drew, HE2⟩
      case measure => simp [intOf]; omega
    · have he : d = R := by
        have h1 := unhide hE
        rw [show c - i = 0 by omega, swR] at h1
        exact h1
      subst he
      have i0 : ¬ (i : Int) < (c : Int) := by omega
      clear hS hE
      go_wp2_with fail
      go_end0
      exact ⟨rfl, unhide HSx⟩
set_option maxHeartbeats 4000000 in
set_option maxRecDepth 20000 in
theorem rotate_any (g n cap a m b : Nat) (fv : Value) (W0 : World) (hn : n ≤ 1000) (ham : a < m) (hmb : m < b) (hb : b ≤ n) (W : World) (d : List Int) (hS : SAt g n W0 W d) :
    Calls Tryz.prog 297 #[.slice (some ⟨g, 0, none⟩) n cap, .int .i64 a, .int .i64 m, .int .i64 b, fv] W fun e W' => e = .returned (.tuple #[]) ∧ SAt g n W0 W' (rotF a m b d) := by
  have HS := hide hS
  obtain ⟨R, hR⟩ : ∃ R, rotF a m b d = R := ⟨_, rfl⟩
  rw [hR]
  have HR := hide hR
  have hw1 : IntKind.i64.wrap ((m : Int) - (a : Int)) = ((m - a : Nat) : Int) := by
    have e : (m : Int) - (a : Int) = ((m - a : Nat) : Int) := by omega
    rw [e]
    exact wrap_pos (by omega) (by omega)
  have hw2 : IntKind.i64.wrap ((b : Int) - (m : Int)) = ((b - m : Nat) : Int) := by
    have e : (b : Int) - (m : Int) = ((b - m : Nat) : Int) := by omega
    rw [e]
    exact wrap_pos (by omega) (by omega)
  clear hS hR
  go_enter Tryz.func297, Tryz.ntmps297
  go_wp2_with fail
  go_loopw [10, 11] (fun v10 v11 wr => ∃ (i j f : Nat) (d : List Int), v10 = .int .i64 i ∧ v11 = .int .i64 j ∧ 0 < i ∧ 0 < j ∧ i ≤ m ∧ m + j ≤ n ∧ i + j ≤ f ∧ SAt g n W0 wr d ∧ Hid (rotP m f i j d = R)) (fun v10 v11 _ => (intOf v10).toNat + (intOf v11).toNat)
  case atStart => exact ⟨m - a, b - m, m - a + (b - m), d, by first | rfl | go_num, by first | rfl | go_num, by omega, by omega, by omega, by omega, by omega, unhide HS, HR⟩
  case round =>
    obtain ⟨i, j, f, d, rfl, rfl, hi0, hj0, him, hjn, hf, hS, hE⟩ := hrel
    rename World => wr
    have HSx := hide hS
    obtain ⟨f, rfl⟩ : ∃ f', f = f' + 1 := ⟨f - 1, by omega⟩
    obtain ⟨mi, hmi⟩ : ∃ mi, m - i = mi := ⟨_, rfl⟩
    have hw3 : IntKind.i64.wrap ((m : Int) - (i : Int)) = (mi : Int) := by
      have e : (m : Int) - (i : Int) = (mi : Int) := by omega
      rw [e]
      exact wrap_pos (by omega) (by omega)
    clear hw1 hw2
    by_cases hij : i = j
    · subst hij
      have HSw := hide (swaps_any g n cap mi m i fv W0 hn (by omega) hjn wr d hS)
      have HE2 : Hid (swR mi m i 0 d = R) := hide (by
        have h1 := unhide hE
        rw [rotP, if_pos rfl, hmi] at h1
        exact h1)
      have e0 : ((i : Int) != (i : Int)) = false := by simp
      clear hS hE hmi
      go_wp2_with fail
      refine (unhide HSw).mono ?_
      rintro e w5 ⟨rfl, hS5⟩
      have HS5 : Hid (SAt g n W0 w5 R) := hide (by rw [← unhide HE2]; exact hS5)
      clear hS5
      go_wp2_with fail
      go_end0
      exact ⟨rfl, unhide HS5⟩
    · have e0 : ((i : Int) != (j : Int)) = true := by simp; omega
      by_cases hlt : j < i
      · have HSw := hide (swaps_any g n cap mi m j fv W0 hn (by omega) hjn wr d hS)
        have HE2 : Hid (rotP m f (i - j) j (swR mi m j 0 d) = R) := hide (by
          have h1 := unhide hE
          rw [rotP, if_neg hij, if_pos hlt, hmi] at h1
          exact h1)
        obtain ⟨i', hi'⟩ : ∃ i', i - j = i' := ⟨_, rfl⟩
        rw [hi'] at HE2
        have hw4 : IntKind.i64.wrap ((i : Int) - (j : Int)) = (i' : Int) := by
          have e : (i : Int) - (j : Int) = (i' : Int) := by omega
          rw [e]
          exact wrap_pos (by omega) (by omega)
        have g0 : (j : Int) < (i : Int) := by omega
        clear hS hE hmi
        go_wp2_with fail
        refine (unhide HSw).mono ?_
        rintro e w5 ⟨rfl, hS5⟩
        have HS5 := hide hS5
        clear hS5
        go_wp2_with fail
        go_roundw
        case rel => exact ⟨i', j, f, _, by first | rfl | go_num, by first | rfl | go_num, by omega, by omega, by omega, by omega, by omega, unhide HS5, HE2⟩
        case measure => simp [intOf]; omega
      · have hnn : mi + j < n := by omega
        obtain ⟨mj, hmj⟩ : ∃ mj, m + j - i = mj := ⟨_, rfl⟩
        have HSw := hide (swaps_any g n cap mi mj i fv W0 hn (by omega) (by omega) wr d hS)
        have HE2 : Hid (rotP m f i (j - i) (swR mi mj i 0 d) = R) := hide (by
          have h1 := unhide hE
          rw [rotP, if_neg hij, if_neg hlt, hmi, hmj] at h1
          exact h1)
        obtain ⟨j', hj'⟩ : ∃ j', j - i = j' := ⟨_, rfl⟩
        rw [hj'] at HE2
        obtain ⟨ms, hms⟩ : ∃ ms, m + j = ms := ⟨_, rfl⟩
        have hw4 : IntKind.i64.wrap ((j : Int) - (i : Int)) = (j' : Int) := by
          have e : (j : Int) - (i : Int) = (j' : Int) := by omega
          rw [e]
          exact wrap_pos (by omega) (by omega)
        have hw5 : IntKind.i64.wrap ((m : Int) + (j : Int)) = (ms : Int) := by
          rw [← Int.natCast_add, hms]
          exact wrap_pos (by omega) (by omega)
        have hw6 : IntKind.i64.wrap ((ms : Int) - (i : Int)) = (mj : Int) := by
          have e : (ms : Int) - (i : Int) = (mj : Int) := by omega
          rw [e]
          exact wrap_pos (by omega) (by omega)
        have g0 : ¬ (j : Int) < (i : Int) := by omega
        clear hS hE hmi hmj
        go_wp2_with fail
        refine (unhide HSw).mono ?_
        rintro e w5 ⟨rfl, hS5⟩
        have HS5 := hide hS5
        clear hS5
        go_wp2_with fail
        go_roundw
        case rel => exact ⟨i, j', f, _, by first | rfl | go_num, by first | rfl | go_num, by omega, by omega, by omega, by omega, by omega, unhide HS5, HE2⟩
        case measure => simp [intOf]; omega
end Go.Proofs.YtjobgpahajhbnaaGreatDoor
