import Derived.Test.YtjobgpahajhbnaaGreatDoorGg
import Derived.Test.YtjobgpahajhbnaaGreatDoorJa
import Derived.Deep.RegionLaw
import Derived.Test.YtjobgpahajhbnaaGreatDoorTe
namespace Go.Proofs.YtjobgpahajhbnaaGreatDoor
open Go.RowKit Go.Proofs Go.Maps
attribute [local go_sem ↓] Go.wp_at_zero Go.wp_at_succ

def iotaN (n : Nat) : List Int := (List.range n).map Int.ofNat
theorem iotaN_inr (n : Nat) : InR n (iotaN n) := ⟨by simp [iotaN], fun x hx => by
  simp only [iotaN, List.mem_map, List.mem_range] at hx
  obtain ⟨i, hi, rfl⟩ := hx
  exact ⟨by simp, by show (i : Int) < (n : Int); omega⟩⟩
def orderP (kf : Int → Int → Int) (a : Arr) : Arr × Int := if a.shape.length ≠ 1 then (eArr, 5) else (⟨[a.cells.length], stableP (byCells kf a.cells) a.cells.length (iotaN a.cells.length)⟩, 0)
theorem insOut_inr {cf : Int → Int → Int} {a n : Nat} : ∀ {s i : Nat} {d : List Int}, InR n d → a ≤ i → i + s ≤ n → InR n (insOut cf a s i d)
  | 0, _, _, h, _, _ => h
  | s + 1, i, d, h, h1, h2 => by
    rw [insOut]
    exact insOut_inr (insIn_inr h (by omega)) (by omega) (by omega)
theorem shUp_inr {n : Nat} : ∀ {s k : Nat} {d : List Int}, InR n d → k + s < n → InR n (shUp s k d)
  | 0, _, _, h, _ => h
  | s + 1, k, d, h, h1 => by rw [shUp]; exact shUp_inr (h.swap (by omega) (by omega)) (by omega)
theorem shDn_inr {n : Nat} : ∀ {s k : Nat} {d : List Int}, InR n d → k < n → InR n (shDn s k d)
  | 0, _, _, h, _ => h
  | s + 1, k, d, h, h1 => by rw [shDn]; exact shDn_inr (h.swap (by omega) (by omega)) (by omega)
theorem swR_inr {n a b : Nat} : ∀ {s i : Nat} {d : List Int}, InR n d → a + i + s ≤ n → b + i + s ≤ n → InR n (swR a b s i d)
  | 0, _, _, h, _, _ => h
  | s + 1, i, d, h, h1, h2 => by rw [swR]; exact swR_inr (h.swap (by omega) (by omega)) (by omega) (by omega)
theorem rotP_inr {n m : Nat} : ∀ {f i j : Nat} {d : List Int}, InR n d → i + j ≤ f → i ≤ m → m + j ≤ n → 0 < i → 0 < j → InR n (rotP m f i j d)
  | 0, i, j, d, h, h1, h2, h3, h4, h5 => absurd h1 (by omega)
  | f + 1, i, j, d, h, h1, h2, h3, h4, h5 => by
    rw [rotP]
    split
    · rename_i e
      exact swR_inr h (by omega) (by omega)
    · split
      · exact rotP_inr (swR_inr h (by omega) (by omega)) (by omega) (by omega) h3 (by omega) h5
      · exact rotP_inr (swR_inr h (by omega) (by omega)) (by omega) h2 (by omega) h4 (by omega)
theorem start_rng {cf : Int → Int → Int} {a m b : Nat} {d : List Int} (h1 : a < m) (h2 : m < b) : a ≤ startF cf a m b d ∧ startF cf a m b d ≤ m ∧ startF cf a m b d ≤ (a + b) / 2 ∧ (a + b) / 2 + m ≤ startF cf a m b d + b := by
  unfold startF
  by_cases h : (a + b) / 2 < m
  · rw [if_pos h, if_pos h]
    have := bsF_rng (p := fun c => decide (¬ cf (d.getD ((a + b) / 2 + m - 1 - c) 0) (d.getD c 0) < 0)) _ (i := (a + b) / 2 + m - b) (j := (a + b) / 2) (Nat.le_refl _) (by omega)
    omega
  · rw [if_neg h, if_neg h]
    have := bsF_rng (p := fun c => decide (¬ cf (d.getD ((a + b) / 2 + m - 1 - c) 0) (d.getD c 0) < 0)) _ (i := a) (j := m) (Nat.le_refl _) (by omega)
    omega
theorem symP_inr {cf : Int → Int → Int} {n : Nat} : ∀ {f a m b : Nat} {d : List Int}, InR n d → a < m → m < b → b ≤ n → InR n (symP cf f a m b d)
  | 0, _, _, _, _, h, _, _, _ => h
  | f + 1, a, m, b, d, h, h1, h2, h3 => by
    by_cases e1 : m = a + 1
    · rw [symP, if_pos e1]
      have := bsF_rng (p := fun h => decide (cf (d.getD h 0) (d.getD a 0) < 0)) _ (i := m) (j := b) (Nat.le_refl _) (by omega)
      exact shUp_inr h (by omega)
    · by_cases e2 : b = m + 1
      · rw [symP, if_neg e1, if_pos e2]
        exact shDn_inr h (by omega)
      · rw [symP_big e1 e2]
        have hs := start_rng (cf := cf) (d := d) h1 h2
        obtain ⟨s, hs'⟩ : ∃ s, startF cf a m b d = s := ⟨_, rfl⟩
        rw [hs'] at hs ⊢
        simp only
        obtain ⟨e, he⟩ : ∃ e, (a + b) / 2 + m - s = e := ⟨_, rfl⟩
        rw [he]
        have i1 : InR n (if s < m ∧ m < e then rotF s m e d else d) := by
          split
          · exact rotP_inr h (by omega) (by omega) (by omega) (by omega) (by omega)
          · exact h
        obtain ⟨d1, hd1⟩ : ∃ d1, (if s < m ∧ m < e then rotF s m e d else d) = d1 := ⟨_, rfl⟩
        rw [hd1] at i1 ⊢
        have i2 : InR n (if a < s ∧ s < (a + b) / 2 then symP cf f a s ((a + b) / 2) d1 else d1) := by
          split
          · rename_i hh
            exact symP_inr i1 hh.1 hh.2 (by omega)
          · exact i1
        obtain ⟨d2, hd2⟩ : ∃ d2, (if a < s ∧ s < (a + b) / 2 then symP cf f a s ((a + b) / 2) d1 else d1) = d2 := ⟨_, rfl⟩
        rw [hd2] at i2 ⊢
        split
        · rename_i hh
          exact symP_inr i2 hh.1 hh.2 h3
        · exact i2
theorem st1_inr {cf : Int → Int → Int} {n : Nat} : ∀ {f a : Nat} {d : List Int}, InR n d → InR n (st1 cf n f a d)
  | 0, a, d, h => by
    rw [st1]
    by_cases e : a + 1 ≤ n
    · exact insOut_inr h (by omega) (by omega)
    · rw [show n - (a + 1) = 0 by omega, insOut]; exact h
  | f + 1, a, d, h => by
    rw [st1]
    split
    · exact st1_inr (insOut_inr h (by omega) (by omega))
    · by_cases e : a + 1 ≤ n
      · exact insOut_inr h (by omega) (by omega)
      · rw [show n - (a + 1) = 0 by omega, insOut]; exact h
theorem mrg_inr {cf : Int → Int → Int} {n s : Nat} (hs : 0 < s) : ∀ {f a : Nat} {d : List Int}, InR n d → InR n (mrg cf n s f a d)
  | 0, _, _, h => h
  | f + 1, a, d, h => by
    rw [mrg]
    split
    · exact mrg_inr hs (symP_inr h (by omega) (by omega) (by omega))
    · split
      · exact symP_inr h (by omega) (by omega) (Nat.le_refl _)
      · exact h
theorem mrgs_inr {cf : Int → Int → Int} {n : Nat} : ∀ {f s : Nat} {d : List Int}, 0 < s → InR n d → InR n (mrgs cf n f s d)
  | 0, _, _, _, h => h
  | f + 1, s, d, hs, h => by
    rw [mrgs]
    split
    · exact mrgs_inr (by omega) (mrg_inr hs h)
    · exact h
theorem stableP_inr (cf : Int → Int → Int) {n : Nat} {d : List Int} (h : InR n d) : InR n (stableP cf n d) := mrgs_inr (by omega) (st1_inr h)
theorem SAt.nums {g n : Nat} {W0 W : World} {d : List Int} (h : SAt g n W0 W d) {P : Nat → Prop} (hP : P g) {cap : Nat} (hc : n ≤ cap) : Nums P W (.slice (some ⟨g, 0, none⟩) n cap) d := by
  have hl := h.inr.len
  refine ⟨_, _, by rw [hl], by omega, fun _ => ⟨g, 0, rfl, hP, h.lt, fun i hi => ?_⟩, fun a e => by cases e; rfl⟩
  rw [Nat.zero_add, (h.row i (by omega)).1, List.getD_eq_getElem?_getD, List.getElem?_eq_getElem hi]
  rfl
set_option maxHeartbeats 4000000 in
set_option maxRecDepth 20000 in
theorem order_any {q : Nat} (hen : Enters Tryz.prog q) {kf : Int → Int → Int} (hk : ∀ W x y, Calls Tryz.prog q #[.int .i64 x, .int .i64 y] W fun e W' => e = .returned (.int .i64 (kf x y)) ∧ W' = W) (P : Nat → Prop) (W : World) (hP : ∀ b, W.heap.size ≤ b → P b) (so : Option Addr) (sn sc : Nat) (co : Option Addr) (cn cc : Nat) (a : Arr) (ha : IsArr P W (.agg #[.slice so sn sc, .slice co cn cc]) a) (hok : a.ok) :
    Calls Tryz.prog 236 #[.agg #[.slice so sn sc, .slice co cn cc], .func (.func q) #[] #[]] W fun e W' => ∃ so sn sc co cn cc, e = .returned (.tuple #[.agg #[.slice so sn sc, .slice co cn cc], .int .i64 (orderP kf a).2]) ∧ IsArr P W' (.agg #[.slice so sn sc, .slice co cn cc]) (orderP kf a).1 ∧ Below W.heap.size W W' := by
  have hsn := (isArr_len ha).2
  have hcn := (isArr_len ha).1
  have hst : Bx W (((W.alloc (.cells #[.slice so sn sc, .slice co cn cc] 89)).alloc (.cells #[.func (.func q) #[] #[]] 284)).alloc (.cells #[.slice none 0 0, .slice none 0 0] 89)) [[.slice so sn sc, .slice co cn cc], [.func (.func q) #[] #[]], [.slice none 0 0, .slice none 0 0]] := (((Bx.nil W).alloc (by simp) [.slice so sn sc, .slice co cn cc] 89).alloc (by simp) [.func (.func q) #[] #[]] 284).alloc (by simp) [.slice none 0 0, .slice none 0 0] 89
  have HST := hide hst
  have HP := hide hP
  have HN := hide (isArr_cells ha)
  have HK := hide hk
  have HEn := hide hen
  have HSN := hide hsn
  have HCN := hide hcn
  have hcn2 : cn ≤ 200 := by have := hok.few; omega
  obtain ⟨r, hr⟩ : ∃ r, orderP kf a = r := ⟨_, rfl⟩
  simp only [hr]
  have HR := hide hr
  clear hst ha hok hP hk hen hsn hcn hr
  go_enter Tryz.func236, Tryz.ntmps236
  go_wp2_with fail
  refine (isRow_any _ so sn sc co cn cc).mono ?_
  rintro e w1 ⟨rfl, hw1⟩
  have HX1 : Hid (Bx W w1 [[.slice so sn sc, .slice co cn cc], [.func (.func q) #[] #[]], [.slice none 0 0, .slice none 0 0]]) := hide ((unhide HST).next (by rw [hw1]; exact ((Below.refl _ _).alloc (Nat.le_refl _) _).alloc (by simp) _))
  clear hw1 HST
  by_cases hrow : sn = 1
  · have e0 : ((sn : Int) == 1) = true := by rw [hrow]; rfl
    obtain ⟨R, hR⟩ : ∃ R, stableP (byCells kf a.cells) a.cells.length (iotaN a.cells.length) = R := ⟨_, rfl⟩
    have hr' : r = (⟨[a.cells.length], R⟩, 0) := by
      rw [← unhide HR]
      unfold orderP
      rw [if_neg (by rw [← unhide HSN]; omega), hR]
    subst hr'
    have HRS : Hid (stableP (byCells kf a.cells) cn (iotaN cn) = R) := hide (by rw [unhide HCN]; exact hR)
    clear hR
    have b0 : w1.cell? ⟨W.heap.size, 0, none⟩ = some (.slice so sn sc) := ((unhide HX1).cell 0 0 _ rfl).1
    have b1 : w1.cell? ⟨W.heap.size, 1, none⟩ = some (.slice co cn cc) := ((unhide HX1).cell 0 1 _ rfl).1
    clear hrow
    go_wp2_with fail
    refine (size_any _ so sn sc co cn cc).mono ?_
    rintro e w2 ⟨rfl, hw2⟩
    have HX2 : Hid (Bx W w2 [[.slice so sn sc, .slice co cn cc], [.func (.func q) #[] #[]], [.slice none 0 0, .slice none 0 0]]) := hide ((unhide HX1).next (by rw [hw2]; exact (Below.refl _ _).alloc (Nat.le_refl _) _))
    clear hw2 HX1 b0 b1
    go_wp2_with fail
    refine (places_any cn hcn2 w2).mono ?_
    rintro e w3 ⟨rfl, hown, hb3⟩
    have HX3 := hide ((unhide HX2).next hb3)
    have hlt2 := (unhide HX2).lt
    simp at hlt2
    have hg3 : w2.heap.size < w3.heap.size := (hown.lt w2.heap.size rfl).2
    obtain ⟨g, hg⟩ : ∃ g, w2.heap.size = g := ⟨_, rfl⟩
    have hS3 : SAt g cn w3 w3 (iotaN cn) := by
      refine ⟨fun i hi => ⟨?_, by rw [← hg]; exact hown.frozenAt i⟩, OnlyB.refl _ _, iotaN_inr cn, by rw [← hg]; exact hg3⟩
      have h1 := hown.cellAt i (by simpa using hi)
      rw [hg] at h1
      rw [h1]
      simp [iotaN, hi]
    rw [hg] at hlt2 ⊢
    have HNs : Hid (Nums (fun b => b ≠ g) w3 (.slice co cn cc) a.cells) := hide (((unhide HN).imp (fun b _ hl => by omega)).below (unhide HX3).below)
    have hC : CmpC g cn (W.heap.size + 1) W.heap.size w3 (byCells kf a.cells) := cmp_any (unhide HEn) (unhide HK) g cn (W.heap.size + 1) W.heap.size w3 (by omega) (by omega) ((unhide HX3).cell 1 0 _ rfl).1 co cc ((unhide HX3).cell 0 1 _ rfl).1 (by omega) (by omega) a.cells (unhide HNs)
    have HSo := hide (sortStable_any g cn (W.heap.size + 1) W.heap.size cn w3 _ hC (by omega) w3 _ hS3)
    have hgW : W.heap.size + 3 ≤ g := hlt2
    clear hown hb3 hg hg3 hS3 hC HX2 HNs HK HEn
    go_wp2_with fail
    refine (unhide HSo).mono ?_
    rintro e w4 ⟨rfl, hS4⟩
    rw [unhide HRS] at hS4
    have HS4 := hide hS4
    have HX4 : Hid (Bx W w4 [[.slice so sn sc, .slice co cn cc], [.func (.func q) #[] #[]], [.slice none 0 0, .slice none 0 0]]) := hide ((unhide HX3).keep (hS4.only.below (by simpa using hgW)))
    have HRow := hide (row_any (OffB W.heap.size 3 P) w4 (fun b h => OffB.new (unhide HP) (by have := (unhide HX4).lt; simp at this; omega)) (.slice (some ⟨g, 0, none⟩) cn cn) R ((unhide HS4).nums (P := OffB W.heap.size 3 P) (OffB.new (unhide HP) hgW) (Nat.le_refl _)))
    have hlen : R.length = a.cells.length := by rw [(unhide HS4).inr.len, unhide HCN]
    rw [hlen] at HRow
    clear hS4 HX3 HSo
    go_wp2_with fail
    refine (unhide HRow).mono ?_
    rintro e w5 ⟨s1, s2, s3, c1, c2, c3, rfl, hA5, hb5⟩
    have HX5 := hide ((unhide HX4).next hb5)
    have HA5 := hide hA5
    clear hA5 hb5 HX4 HRow
    have r0 : w5.cell? ⟨W.heap.size + 1 + 1, 0, none⟩ = some (.slice none 0 0) := ((unhide HX5).cell 2 0 _ rfl).1
    have r1 : w5.cell? ⟨W.heap.size + 1 + 1, 1, none⟩ = some (.slice none 0 0) := ((unhide HX5).cell 2 1 _ rfl).1
    have g0 : w5.frozen? ⟨W.heap.size + 1 + 1, 0, none⟩ = false := ((unhide HX5).cell 2 0 _ rfl).2
    have g1 : w5.frozen? ⟨W.heap.size + 1 + 1, 1, none⟩ = false := ((unhide HX5).cell 2 1 _ rfl).2
    go_wp2_with fail
    have hf2 := fin_bx (q := 2) (u0 := .slice s1 s2 s3) (u1 := .slice c1 c2 c3) (unhide HX5).below (by decide) (unhide HA5)
    exact bodyPost_ret (v := .tuple #[.agg #[.slice s1 s2 s3, .slice c1 c2 c3], .int .i64 0]) (by simp [results, Tryz.results236, go_sem, r0, r1]) rfl ⟨_, _, _, _, _, _, rfl, hf2.1, hf2.2⟩
  · have e0 : ((sn : Int) == 1) = false := beq_false_of_ne (by omega)
    have hr' : r = (eArr, 5) := by
      rw [← unhide HR]
      unfold orderP
      rw [if_pos (by rw [← unhide HSN]; exact hrow)]
    subst hr'
    have r0 : w1.cell? ⟨W.heap.size + 1 + 1, 0, none⟩ = some (.slice none 0 0) := ((unhide HX1).cell 2 0 _ rfl).1
    have r1 : w1.cell? ⟨W.heap.size + 1 + 1, 1, none⟩ = some (.slice none 0 0) := ((unhide HX1).cell 2 1 _ rfl).1
    have g0 : w1.frozen? ⟨W.heap.size + 1 + 1, 0, none⟩ = false := ((unhide HX1).cell 2 0 _ rfl).2
    have g1 : w1.frozen? ⟨W.heap.size + 1 + 1, 1, none⟩ = false := ((unhide HX1).cell 2 1 _ rfl).2
    clear hrow
    go_wp2_with fail
    have hf2 := fin_bx (q := 2) (P := P) (k := 3) (a := eArr) (u0 := .slice none 0 0) (u1 := .slice none 0 0) (unhide HX1).below (by decide) (e_arr _ _)
    exact bodyPost_ret (v := .tuple #[.agg #[.slice none 0 0, .slice none 0 0], .int .i64 5]) (by simp [results, Tryz.results236, go_sem, r0, r1]) rfl ⟨none, 0, 0, none, 0, 0, rfl, hf2.1, hf2.2⟩
theorem order_okk (kf : Int → Int → Int) {a : Arr} (h : a.ok) : (orderP kf a).1.cells.length ≤ 200 ∧ ((orderP kf a).2 = 0 → (orderP kf a).1.ok) := by
  unfold orderP
  split
  · exact ⟨by simp [eArr], fun h => absurd h (by decide)⟩
  · have hi := stableP_inr (byCells kf a.cells) (iotaN_inr a.cells.length)
    have hf := h.few
    exact ⟨by show (stableP _ _ _).length ≤ 200; rw [hi.len]; exact hf, fun _ => ⟨by simp, by simp; omega, by show (stableP _ _ _).length = _; rw [hi.len]; simp [prodL], by show (stableP _ _ _).length ≤ 200; rw [hi.len]; exact hf, fun c hc => by have := hi.rng c hc; unfold fit64; omega⟩⟩
theorem Tryz.enters187 : Enters Tryz.prog 187 := Go.Proofs.enters_of Tryz.func187 (by decide) rfl
theorem Tryz.enters188 : Enters Tryz.prog 188 := Go.Proofs.enters_of Tryz.func188 (by decide) rfl
theorem Tryz.enters230 : Enters Tryz.prog 230 := Go.Proofs.enters_of Tryz.func230 (by decide) rfl
theorem Tryz.enters237 : Enters Tryz.prog 237 := Go.Proofs.enters_of Tryz.func237 (by decide) rfl
set_option maxHeartbeats 1000000 in
theorem up_fn (w : World) : FnOne 187 #[] w (orderP compF) := by
  intro W P v a _ hP ha hoa
  have ha0 := ha
  obtain ⟨so, sn, sc, co, cn, cc, rfl, _, _⟩ := ha0
  show Calls Tryz.prog 187 #[.agg #[.slice so sn sc, .slice co cn cc]] W _
  have hst : Bx W ((W.alloc (.cells #[.slice so sn sc, .slice co cn cc] 89)).alloc (.cells #[.slice none 0 0, .slice none 0 0] 89)) [[.slice so sn sc, .slice co cn cc], [.slice none 0 0, .slice none 0 0]] := ((Bx.nil W).alloc (by simp) [.slice so sn sc, .slice co cn cc] 89).alloc (by simp) [.slice none 0 0, .slice none 0 0] 89
  have HST := hide hst
  have HC := hide (order_any Tryz.enters230 comp_fn (OffB W.heap.size 2 P) _ (fun b hb => OffB.new hP (by have := hst.lt; simp at hb; omega)) so sn sc co cn cc a ((ha.imp (Q := OffB W.heap.size 2 P) (fun b h hl => ⟨h, Or.inl hl⟩)).below hst.below) hoa)
  clear hst ha hoa hP
  go_enter Tryz.func187, Tryz.ntmps187
  go_wp2_with (go_at_call 236; refine (unhide HC).mono ?_)
  rintro e w2 ⟨s4, s5, s6, c4, c5, c6, rfl, hA5, hb5⟩
  have HX := hide ((unhide HST).next hb5)
  have HA5 := hide hA5
  clear hA5 hb5 HST HC
  have r0 : w2.cell? ⟨W.heap.size + 1, 0, none⟩ = some (.slice none 0 0) := ((unhide HX).cell 1 0 _ rfl).1
  have r1 : w2.cell? ⟨W.heap.size + 1, 1, none⟩ = some (.slice none 0 0) := ((unhide HX).cell 1 1 _ rfl).1
  have g0 : w2.frozen? ⟨W.heap.size + 1, 0, none⟩ = false := ((unhide HX).cell 1 0 _ rfl).2
  have g1 : w2.frozen? ⟨W.heap.size + 1, 1, none⟩ = false := ((unhide HX).cell 1 1 _ rfl).2
  go_wp2_with fail
  have hf2 := fin_bx (q := 1) (u0 := .slice s4 s5 s6) (u1 := .slice c4 c5 c6) (unhide HX).below (by decide) (unhide HA5)
  exact bodyPost_ret (v := .tuple #[.agg #[.slice s4 s5 s6, .slice c4 c5 c6], .int .i64 (orderP compF a).2]) (by simp [results, Tryz.results187, go_sem, r0, r1]) rfl ⟨_, _, _, _, _, _, rfl, hf2.1, hf2.2⟩
set_option maxHeartbeats 1000000 in
theorem down_fn (w : World) : FnOne 188 #[] w (orderP (fun x y => compF y x)) := by
  intro W P v a _ hP ha hoa
  have ha0 := ha
  obtain ⟨so, sn, sc, co, cn, cc, rfl, _, _⟩ := ha0
  show Calls Tryz.prog 188 #[.agg #[.slice so sn sc, .slice co cn cc]] W _
  have hst : Bx W ((W.alloc (.cells #[.slice so sn sc, .slice co cn cc] 89)).alloc (.cells #[.slice none 0 0, .slice none 0 0] 89)) [[.slice so sn sc, .slice co cn cc], [.slice none 0 0, .slice none 0 0]] := ((Bx.nil W).alloc (by simp) [.slice so sn sc, .slice co cn cc] 89).alloc (by simp) [.slice none 0 0, .slice none 0 0] 89
  have HST := hide hst
  have HC := hide (order_any Tryz.enters237 comp_back (OffB W.heap.size 2 P) _ (fun b hb => OffB.new hP (by have := hst.lt; simp at hb; omega)) so sn sc co cn cc a ((ha.imp (Q := OffB W.heap.size 2 P) (fun b h hl => ⟨h, Or.inl hl⟩)).below hst.below) hoa)
  clear hst ha hoa hP
  go_enter Tryz.func188, Tryz.ntmps188
  go_wp2_with (go_at_call 236; refine (unhide HC).mono ?_)
  rintro e w2 ⟨s4, s5, s6, c4, c5, c6, rfl, hA5, hb5⟩
  have HX := hide ((unhide HST).next hb5)
  have HA5 := hide hA5
  clear hA5 hb5 HST HC
  have r0 : w2.cell? ⟨W.heap.size + 1, 0, none⟩ = some (.slice none 0 0) := ((unhide HX).cell 1 0 _ rfl).1
  have r1 : w2.cell? ⟨W.heap.size + 1, 1, none⟩ = some (.slice none 0 0) := ((unhide HX).cell 1 1 _ rfl).1
  have g0 : w2.frozen? ⟨W.heap.size + 1, 0, none⟩ = false := ((unhide HX).cell 1 0 _ rfl).2
  have g1 : w2.frozen? ⟨W.heap.size + 1, 1, none⟩ = false := ((unhide HX).cell 1 1 _ rfl).2
  go_wp2_with fail
  have hf2 := fin_bx (q := 1) (u0 := .slice s4 s5 s6) (u1 := .slice c4 c5 c6) (unhide HX).below (by decide) (unhide HA5)
  exact bodyPost_ret (v := .tuple #[.agg #[.slice s4 s5 s6, .slice c4 c5 c6], .int .i64 (orderP (fun x y => compF y x) a).2]) (by simp [results, Tryz.results188, go_sem, r0, r1]) rfl ⟨_, _, _, _, _, _, rfl, hf2.1, hf2.2⟩
theorem up_one : OneC ⟨#[117, 112]⟩ (orderP compF) := ⟨fun w => (find_one (t := ⟨#[117, 112]⟩) (k1 := .string [112]) (k2 := .string [117, 112]) (f := 187) (by decide) (by kernel_rfl) (by kernel_rfl) (by kernel_rfl) (by kernel_rfl) w).mono (by rintro e w' ⟨rfl, hb⟩; exact ⟨187, #[], rfl, Tryz.enters187, hb, up_fn w'⟩), fun a ha => order_okk _ ha⟩
theorem down_one : OneC ⟨#[100, 111, 119, 110]⟩ (orderP (fun x y => compF y x)) := ⟨fun w => (find_one (t := ⟨#[100, 111, 119, 110]⟩) (k1 := .string [111, 119, 110]) (k2 := .string [100, 111, 119, 110]) (f := 188) (by decide) (by kernel_rfl) (by kernel_rfl) (by kernel_rfl) (by kernel_rfl) w).mono (by rintro e w' ⟨rfl, hb⟩; exact ⟨188, #[], rfl, Tryz.enters188, hb, down_fn w'⟩), fun a ha => order_okk _ ha⟩
end Go.Proofs.YtjobgpahajhbnaaGreatDoor
namespace Go.Proofs.YtjobgpahajhbnaaGreatDoor
open Go.RowKit Go.Proofs

def ix (d : List Int) (k : Nat) : Int := d.getD k 0
theorem ix_swap {d : List Int} {i j : Nat} (hi : i < d.length) (hj : j < d.length) (k : Nat) : ix (swapL d i j) k = if j = k then ix d i else if i = k then ix d j else ix d k := swapL_at hi hj k
/-- a strict order that the comparison tells, where places go the same way -/
structure Ord (cf : Int → Int → Int) (lt : Int → Int → Prop) : Prop where
  trans : ∀ {x y z}, lt x y → lt y z → lt x z
  irr : ∀ x, ¬ lt x x
  less : ∀ {x y}, cf x y < 0 → lt x y
  more : ∀ {x y}, ¬ cf y x < 0 → x < y → lt x y
def SortedOn (lt : Int → Int → Prop) (d : List Int) (a b : Nat) : Prop := ∀ i j, a ≤ i → i < j → j < b → lt (ix d i) (ix d j)
def CrossOn (d : List Int) (a m b : Nat) : Prop := ∀ i j, a ≤ i → i < m → m ≤ j → j < b → ix d i < ix d j
/-- nothing but the cells from a to b has changed, and they come from there -/
structure From (d d' : List Int) (a b : Nat) : Prop where
  len : d'.length = d.length
  out : ∀ k, k < a ∨ b ≤ k → ix d' k = ix d k
  inn : ∀ k, a ≤ k → k < b → ∃ k', a ≤ k' ∧ k' < b ∧ ix d' k = ix d k'
theorem From.refl (d : List Int) (a b : Nat) : From d d a b := ⟨rfl, fun _ _ => rfl, fun k h1 h2 => ⟨k, h1, h2, rfl⟩⟩
theorem From.trans {d d1 d2 : List Int} {a b : Nat} (h : From d d1 a b) (k : From d1 d2 a b) : From d d2 a b :=
  ⟨k.len.trans h.len, fun q hq => (k.out q hq).trans (h.out q hq), fun q h1 h2 => by
    obtain ⟨q1, e1, e2, e3⟩ := k.inn q h1 h2
    obtain ⟨q2, f1, f2, f3⟩ := h.inn q1 e1 e2
    exact ⟨q2, f1, f2, e3.trans f3⟩⟩
theorem From.mono {d d' : List Int} {a b a' b' : Nat} (h : From d d' a b) (ha : a' ≤ a) (hb : b ≤ b') : From d d' a' b' :=
  ⟨h.len, fun q hq => h.out q (by omega), fun q h1 h2 => by
    by_cases e : q < a ∨ b ≤ q
    · exact ⟨q, h1, h2, h.out q e⟩
    · obtain ⟨q1, e1, e2, e3⟩ := h.inn q (by omega) (by omega)
      exact ⟨q1, by omega, by omega, e3⟩⟩
theorem From.swap {d : List Int} {a b i j : Nat} (hb : b ≤ d.length) (hi : a ≤ i ∧ i < b) (hj : a ≤ j ∧ j < b) : From d (swapL d i j) a b :=
  ⟨swapL_len d i j, fun k hk => by rw [ix_swap (by omega) (by omega), if_neg (by omega), if_neg (by omega)], fun k h1 h2 => by
    rw [ix_swap (by omega) (by omega)]
    by_cases e1 : j = k
    · rw [if_pos e1]; exact ⟨i, hi.1, hi.2, rfl⟩
    · rw [if_neg e1]
      by_cases e2 : i = k
      · rw [if_pos e2]; exact ⟨j, hj.1, hj.2, rfl⟩
      · rw [if_neg e2]; exact ⟨k, h1, h2, rfl⟩⟩
section
variable {cf : Int → Int → Int} {lt : Int → Int → Prop}
theorem insIn_ok (hO : Ord cf lt) {a K : Nat} : ∀ (k : Nat) (d : List Int), a + K < d.length → k ≤ K → SortedOn lt d a (a + k) → (∀ i, a ≤ i → i < a + k → ix d i < ix d (a + k)) → SortedOn lt d (a + k) (a + K + 1) → (∀ i j, a ≤ i → i < a + k → a + k < j → j < a + K + 1 → lt (ix d i) (ix d j)) → SortedOn lt (insIn cf a k d) a (a + K + 1) ∧ From d (insIn cf a k d) a (a + K + 1)
  | 0, d, _, _, _, _, h3, _ => ⟨h3, From.refl _ _ _⟩
  | k + 1, d, hl, hk, h1, h2, h3, h4 => by
    rw [insIn]
    by_cases hc : cf (d.getD (a + k + 1) 0) (d.getD (a + k) 0) < 0
    · rw [if_pos hc]
      have hxy : lt (ix d (a + k + 1)) (ix d (a + k)) := hO.less hc
      have hs := ix_swap (d := d) (i := a + k + 1) (j := a + k) (by omega) (by omega)
      have v1 : ix (swapL d (a + k + 1) (a + k)) (a + k) = ix d (a + k + 1) := by rw [hs, if_pos rfl]
      have v2 : ix (swapL d (a + k + 1) (a + k)) (a + k + 1) = ix d (a + k) := by rw [hs, if_neg (by omega), if_pos rfl]
      have v3 : ∀ t, t ≠ a + k → t ≠ a + k + 1 → ix (swapL d (a + k + 1) (a + k)) t = ix d t := fun t h h' => by rw [hs, if_neg (Ne.symm h), if_neg (Ne.symm h')]
      obtain ⟨r1, r2⟩ := insIn_ok hO k (swapL d (a + k + 1) (a + k)) (by rw [swapL_len]; exact hl) (by omega) (by
          intro i j e1 e2 e3
          rw [v3 i (by omega) (by omega), v3 j (by omega) (by omega)]
          exact h1 i j e1 e2 (by omega)) (by
          intro i e1 e2
          rw [v1, v3 i (by omega) (by omega)]
          exact h2 i e1 (by omega)) (by
          intro i j e1 e2 e3
          by_cases i1 : i = a + k
          · subst i1
            rw [v1]
            by_cases j1 : j = a + k + 1
            · subst j1; rw [v2]; exact hxy
            · rw [v3 j (by omega) j1]; exact h3 (a + k + 1) j (by omega) (by omega) e3
          · rw [v3 j (by omega) (by omega)]
            by_cases i2 : i = a + k + 1
            · subst i2
              rw [v2]
              exact h4 (a + k) j (by omega) (by omega) (by omega) e3
            · rw [v3 i i1 i2]
              exact h3 i j (by omega) e2 e3) (by
          intro i j e1 e2 e3 e4
          rw [v3 i (by omega) (by omega)]
          by_cases j1 : j = a + k + 1
          · subst j1; rw [v2]; exact h1 i (a + k) e1 (by omega) (by omega)
          · rw [v3 j (by omega) j1]; exact h4 i j e1 (by omega) (by omega) e4)
      exact ⟨r1, (From.swap (by omega) (by omega) (by omega)).trans r2⟩
    · rw [if_neg hc]
      have hyx : lt (ix d (a + k)) (ix d (a + k + 1)) := hO.more hc (h2 (a + k) (by omega) (by omega))
      refine ⟨fun i j e1 e2 e3 => ?_, From.refl _ _ _⟩
      by_cases j1 : j < a + k + 1
      · exact h1 i j e1 e2 j1
      · by_cases i1 : i < a + k + 1
        · by_cases j2 : j = a + k + 1
          · subst j2
            by_cases i2 : i = a + k
            · subst i2; exact hyx
            · exact hO.trans (h1 i (a + k) e1 (by omega) (by omega)) hyx
          · exact h4 i j e1 i1 (by omega) e3
        · exact h3 i j (by omega) e2 e3
theorem insOut_ok (hO : Ord cf lt) {a b : Nat} : ∀ (s i : Nat) (d : List Int), b ≤ d.length → i + s = b → a ≤ i → SortedOn lt d a i → (∀ p q, a ≤ p → p < q → i ≤ q → q < b → ix d p < ix d q) → SortedOn lt (insOut cf a s i d) a b ∧ From d (insOut cf a s i d) a b
  | 0, i, d, _, h1, _, h3, _ => by
    have : i = b := by omega
    subst this
    exact ⟨h3, From.refl _ _ _⟩
  | s + 1, i, d, hl, h1, h2, h3, h4 => by
    rw [insOut]
    obtain ⟨r1, r2⟩ := insIn_ok hO (a := a) (K := i - a) (i - a) d (by omega) (Nat.le_refl _) (by rw [show a + (i - a) = i by omega]; exact h3) (by rw [show a + (i - a) = i by omega]; exact fun p e1 e2 => h4 p i e1 e2 (Nat.le_refl _) (by omega)) (fun p q e1 e2 e3 => by omega) (fun p q e1 e2 e3 e4 => by omega)
    rw [show a + (i - a) + 1 = i + 1 by omega] at r1 r2
    obtain ⟨t1, t2⟩ := insOut_ok hO s (i + 1) (insIn cf a (i - a) d) (by rw [r2.len]; exact hl) (by omega) (by omega) r1 (by
      intro p q e1 e2 e3 e4
      rw [r2.out q (Or.inr e3)]
      by_cases hp : p < i + 1
      · obtain ⟨p', f1, f2, f3⟩ := r2.inn p e1 hp
        rw [f3]
        exact h4 p' q f1 (by omega) (by omega) e4
      · rw [r2.out p (Or.inr (by omega))]
        exact h4 p q e1 e2 (by omega) e4)
    exact ⟨t1, (r2.mono (Nat.le_refl _) (by omega)).trans t2⟩
theorem bsF_ok {p : Nat → Bool} : ∀ (f : Nat) {i j : Nat}, j - i ≤ f → i ≤ j → (∀ c c', i ≤ c → c < c' → c' < j → p c' = true → p c = true) → (∀ c, i ≤ c → c < bsF p i j → p c = true) ∧ (∀ c, bsF p i j ≤ c → c < j → p c = false)
  | 0, i, j, hf, h, _ => by
    rw [bsF_stop (by omega)]
    exact ⟨fun c h1 h2 => by omega, fun c h1 h2 => by omega⟩
  | f + 1, i, j, hf, h, hm => by
    by_cases hij : i < j
    · by_cases hp : p ((i + j) / 2) = true
      · rw [bsF_yes hij hp]
        obtain ⟨r1, r2⟩ := bsF_ok (p := p) f (i := (i + j) / 2 + 1) (j := j) (by omega) (by omega) (fun c c' e1 e2 e3 e4 => hm c c' (by omega) e2 e3 e4)
        refine ⟨fun c e1 e2 => ?_, r2⟩
        by_cases hc : c < (i + j) / 2 + 1
        · by_cases hc2 : c = (i + j) / 2
          · rw [hc2]; exact hp
          · exact hm c ((i + j) / 2) e1 (by omega) (by omega) hp
        · exact r1 c (by omega) e2
      · rw [bsF_no hij hp]
        obtain ⟨r1, r2⟩ := bsF_ok (p := p) f (i := i) (j := (i + j) / 2) (by omega) (by omega) (fun c c' e1 e2 e3 e4 => hm c c' e1 e2 (by omega) e4)
        refine ⟨r1, fun c e1 e2 => ?_⟩
        by_cases hc : c < (i + j) / 2
        · exact r2 c e1 hc
        · cases hpc : p c with
          | false => rfl
          | true =>
            by_cases hc2 : c = (i + j) / 2
            · rw [hc2] at hpc; exact absurd hpc hp
            · exact absurd (hm ((i + j) / 2) c (by omega) (by omega) e2 hpc) hp
    · rw [bsF_stop hij]
      exact ⟨fun c h1 h2 => by omega, fun c h1 h2 => by omega⟩
theorem shUp_ix : ∀ (s k : Nat) (d : List Int), k + s < d.length → ∀ t, ix (shUp s k d) t = if k ≤ t ∧ t < k + s then ix d (t + 1) else if t = k + s then ix d k else ix d t
  | 0, k, d, _, t => by
    rw [shUp, if_neg (by omega)]
    by_cases e : t = k + 0
    · rw [if_pos e, e]; rfl
    · rw [if_neg e]
  | s + 1, k, d, h, t => by
    rw [shUp, shUp_ix s (k + 1) _ (by rw [swapL_len]; omega) t]
    have hs := ix_swap (d := d) (i := k) (j := k + 1) (by omega) (by omega)
    by_cases h1 : k + 1 ≤ t ∧ t < k + 1 + s
    · rw [if_pos h1, if_pos (by omega), hs, if_neg (by omega), if_neg (by omega)]
    · rw [if_neg h1]
      by_cases h2 : t = k + 1 + s
      · rw [if_pos h2, if_neg (by omega), if_pos (by omega), hs, if_pos rfl]
      · rw [if_neg h2, hs]
        by_cases h3 : k = t
        · rw [if_neg (by omega), if_pos h3, if_pos (by omega), h3]
        · rw [if_neg (by omega), if_neg h3, if_neg (by omega), if_neg (by omega)]
theorem shDn_ix : ∀ (s k : Nat) (d : List Int), s ≤ k → k < d.length → ∀ t, ix (shDn s k d) t = if t = k - s then ix d k else if k - s < t ∧ t ≤ k then ix d (t - 1) else ix d t
  | 0, k, d, _, _, t => by
    rw [shDn]
    by_cases e : t = k - 0
    · rw [if_pos e, e]; rfl
    · rw [if_neg e, if_neg (by omega)]
  | s + 1, k, d, h, hl, t => by
    rw [shDn, shDn_ix s (k - 1) _ (by omega) (by rw [swapL_len]; omega) t]
    have hs := ix_swap (d := d) (i := k) (j := k - 1) (by omega) (by omega)
    by_cases h1 : t = k - 1 - s
    · rw [if_pos h1, if_pos (show t = k - (s + 1) by omega), hs, if_pos rfl]
    · rw [if_neg h1, if_neg (show ¬ t = k - (s + 1) by omega)]
      by_cases h2 : k - 1 - s < t ∧ t ≤ k - 1
      · rw [if_pos h2, if_pos (show k - (s + 1) < t ∧ t ≤ k by omega), hs, if_neg (by omega), if_neg (by omega)]
      · rw [if_neg h2, hs]
        by_cases h3 : k = t
        · rw [if_neg (show ¬ k - 1 = t by omega), if_pos h3, if_pos (by omega), h3]
        · rw [if_neg (show ¬ k - 1 = t by omega), if_neg h3, if_neg (by omega)]
theorem swR_ix {a b : Nat} : ∀ (s i : Nat) (d : List Int), a + i + s ≤ b + i → b + i + s ≤ d.length → ∀ t, ix (swR a b s i d) t = if a + i ≤ t ∧ t < a + i + s then ix d (t - a + b) else if b + i ≤ t ∧ t < b + i + s then ix d (t - b + a) else ix d t
  | 0, i, d, _, _, t => by rw [swR, if_neg (by omega), if_neg (by omega)]
  | s + 1, i, d, h1, h2, t => by
    rw [swR, swR_ix s (i + 1) _ (by omega) (by rw [swapL_len]; omega) t]
    have hs := ix_swap (d := d) (i := a + i) (j := b + i) (by omega) (by omega)
    by_cases c1 : a + (i + 1) ≤ t ∧ t < a + (i + 1) + s
    · rw [if_pos c1, if_pos (by omega), hs, if_neg (by omega), if_neg (by omega)]
    · rw [if_neg c1]
      by_cases c2 : b + (i + 1) ≤ t ∧ t < b + (i + 1) + s
      · rw [if_pos c2, if_neg (by omega), if_pos (by omega), hs, if_neg (by omega), if_neg (by omega)]
      · rw [if_neg c2, hs]
        by_cases c3 : b + i = t
        · rw [if_pos c3, if_neg (by omega), if_pos (by omega), ← c3]
          congr 1
          omega
        · rw [if_neg c3]
          by_cases c4 : a + i = t
          · rw [if_pos c4, if_pos (by omega), ← c4]
            congr 1
            omega
          · rw [if_neg c4, if_neg (by omega), if_neg (by omega)]
theorem rotP_ix {m : Nat} : ∀ (f i j : Nat) (d : List Int), i + j ≤ f → 0 < i → 0 < j → i ≤ m → m + j ≤ d.length → ∀ t, ix (rotP m f i j d) t = if m - i ≤ t ∧ t < m - i + j then ix d (t + i) else if m - i + j ≤ t ∧ t < m + j then ix d (t - j) else ix d t
  | 0, i, j, d, h, h1, _, _, _, _ => absurd h (by omega)
  | f + 1, i, j, d, h, h1, h2, h3, h4, t => by
    rw [rotP]
    by_cases e : i = j
    · subst e
      rw [if_pos rfl, swR_ix i 0 d (by omega) (by omega) t]
      by_cases c1 : m - i ≤ t ∧ t < m - i + i
      · rw [if_pos (by omega), if_pos c1]
        congr 1
        omega
      · rw [if_neg (by omega), if_neg c1]
        by_cases c2 : m - i + i ≤ t ∧ t < m + i
        · rw [if_pos (by omega), if_pos c2]
          congr 1
          omega
        · rw [if_neg (by omega), if_neg c2]
    · rw [if_neg e]
      by_cases hlt : j < i
      · rw [if_pos hlt]
        have hw := swR_ix (a := m - i) (b := m) j 0 d (by omega) (by omega)
        have hlen : (swR (m - i) m j 0 d).length = d.length := by
          exact (show ∀ (a b s i : Nat) (d : List Int), (swR a b s i d).length = d.length from by
            intro a b s
            induction s with
            | zero => intro i d; rfl
            | succ s ih => intro i d; rw [swR, ih, swapL_len]) _ _ _ _ _
        rw [rotP_ix f (i - j) j _ (by omega) (by omega) h2 (by omega) (by rw [hlen]; exact h4) t]
        by_cases c1 : m - (i - j) ≤ t ∧ t < m - (i - j) + j
        · rw [if_pos c1, if_neg (by omega), if_pos (by omega), hw]
          by_cases c2 : m + 0 ≤ t + (i - j) ∧ t + (i - j) < m + 0 + j
          · rw [if_neg (by omega), if_pos c2]
            congr 1
            omega
          · exfalso; omega
        · rw [if_neg c1]
          by_cases c2 : m - (i - j) + j ≤ t ∧ t < m + j
          · rw [if_pos c2, if_neg (by omega), if_pos (by omega), hw, if_neg (by omega), if_neg (by omega)]
          · rw [if_neg c2, hw]
            by_cases c3 : m - i + 0 ≤ t ∧ t < m - i + 0 + j
            · rw [if_pos c3, if_pos (by omega)]
              congr 1
              omega
            · rw [if_neg c3, if_neg (by omega), if_neg (by omega), if_neg (by omega)]
      · rw [if_neg hlt]
        have hw := swR_ix (a := m - i) (b := m + j - i) i 0 d (by omega) (by omega)
        have hlen : (swR (m - i) (m + j - i) i 0 d).length = d.length := (show ∀ (a b s i : Nat) (d : List Int), (swR a b s i d).length = d.length from by
            intro a b s
            induction s with
            | zero => intro i d; rfl
            | succ s ih => intro i d; rw [swR, ih, swapL_len]) _ _ _ _ _
        rw [rotP_ix f i (j - i) _ (by omega) h1 (by omega) h3 (by rw [hlen]; omega) t]
        by_cases c1 : m - i ≤ t ∧ t < m - i + (j - i)
        · rw [if_pos c1, if_pos (by omega), hw, if_neg (by omega), if_neg (by omega)]
        · rw [if_neg c1]
          by_cases c2 : m - i + (j - i) ≤ t ∧ t < m + (j - i)
          · rw [if_pos c2, hw, if_pos (by omega), if_pos (by omega)]
            congr 1
            omega
          · rw [if_neg c2, hw, if_neg (by omega)]
            by_cases c3 : m + j - i + 0 ≤ t ∧ t < m + j - i + 0 + i
            · rw [if_pos c3, if_neg (by omega), if_pos (by omega)]
              congr 1
              omega
            · rw [if_neg c3, if_neg (by omega), if_neg (by omega)]
end
end Go.Proofs.YtjobgpahajhbnaaGreatDoor
