import Derived.Test.YtjobgpahajhbnabGreatDoorGg
import Derived.Test.YtjobgpahajhbnabGreatDoorCe
import Derived.Test.YtjobgpahajhbnabGreatDoorTe
namespace Go.Proofs.YtjobgpahajhbnabGreatDoor
open Go.RowKit Go.Proofs Go.Maps
attribute [local go_sem ↓] Go.wp_at_zero Go.wp_at_succ
def Jag (n : Nat) : List Int := (List.range n).map Int.ofNat
theorem Jaf (n : Nat) : InR n (Jag n) := ⟨by simp [Jag], fun x hx => by
  simp only [Jag, List.mem_map, List.mem_range] at hx
  obtain ⟨i, hi, rfl⟩ := hx
  exact ⟨by simp, by show (i : Int) < (n : Int); omega⟩⟩
def Zd (kf : Int → Int → Int) (a : Arr) : Arr × Int := if a.shape.length ≠ 1 then (eArr, 5) else (⟨[a.cells.length], Zf (Ky kf a.cells) a.cells.length (Jag a.cells.length)⟩, 0)
theorem Qa {cf : Int → Int → Int} {a n : Nat} : ∀ {s i : Nat} {d : List Int}, InR n d → a ≤ i → i + s ≤ n → InR n (Zg cf a s i d)
  | 0, _, _, h, _, _ => h
  | s + 1, i, d, h, h1, h2 => by
    rw [Zg]
    exact Qa (Jah h (by omega)) (by omega) (by omega)
theorem Jci {n : Nat} : ∀ {s k : Nat} {d : List Int}, InR n d → k + s < n → InR n (shUp s k d)
  | 0, _, _, h, _ => h
  | s + 1, k, d, h, h1 => by rw [shUp]; exact Jci (h.swap (by omega) (by omega)) (by omega)
theorem Jcj {n : Nat} : ∀ {s k : Nat} {d : List Int}, InR n d → k < n → InR n (shDn s k d)
  | 0, _, _, h, _ => h
  | s + 1, k, d, h, h1 => by rw [shDn]; exact Jcj (h.swap (by omega) (by omega)) (by omega)
theorem Fh {n a b : Nat} : ∀ {s i : Nat} {d : List Int}, InR n d → a + i + s ≤ n → b + i + s ≤ n → InR n (swR a b s i d)
  | 0, _, _, h, _, _ => h
  | s + 1, i, d, h, h1, h2 => by rw [swR]; exact Fh (h.swap (by omega) (by omega)) (by omega) (by omega)
theorem Fk {n m : Nat} : ∀ {f i j : Nat} {d : List Int}, InR n d → i + j ≤ f → i ≤ m → m + j ≤ n → 0 < i → 0 < j → InR n (rotP m f i j d)
  | 0, i, j, d, h, h1, h2, h3, h4, h5 => absurd h1 (by omega)
  | f + 1, i, j, d, h, h1, h2, h3, h4, h5 => by
    rw [rotP]
    split
    · rename_i e
      exact Fh h (by omega) (by omega)
    · split
      · exact Fk (Fh h (by omega) (by omega)) (by omega) (by omega) h3 (by omega) h5
      · exact Fk (Fh h (by omega) (by omega)) (by omega) h2 (by omega) h4 (by omega)
theorem Jfg {cf : Int → Int → Int} {a m b : Nat} {d : List Int} (h1 : a < m) (h2 : m < b) : a ≤ Qi cf a m b d ∧ Qi cf a m b d ≤ m ∧ Qi cf a m b d ≤ (a + b) / 2 ∧ (a + b) / 2 + m ≤ Qi cf a m b d + b := by
  unfold Qi
  by_cases h : (a + b) / 2 < m
  · rw [if_pos h, if_pos h]
    have := Kz (p := fun c => decide (¬ cf (d.getD ((a + b) / 2 + m - 1 - c) 0) (d.getD c 0) < 0)) _ (i := (a + b) / 2 + m - b) (j := (a + b) / 2) (Nat.le_refl _) (by omega)
    omega
  · rw [if_neg h, if_neg h]
    have := Kz (p := fun c => decide (¬ cf (d.getD ((a + b) / 2 + m - 1 - c) 0) (d.getD c 0) < 0)) _ (i := a) (j := m) (Nat.le_refl _) (by omega)
    omega
theorem V0 {cf : Int → Int → Int} {n : Nat} : ∀ {f a m b : Nat} {d : List Int}, InR n d → a < m → m < b → b ≤ n → InR n (symP cf f a m b d)
  | 0, _, _, _, _, h, _, _, _ => h
  | f + 1, a, m, b, d, h, h1, h2, h3 => by
    by_cases e1 : m = a + 1
    · rw [symP, if_pos e1]
      have := Kz (p := fun h => decide (cf (d.getD h 0) (d.getD a 0) < 0)) _ (i := m) (j := b) (Nat.le_refl _) (by omega)
      exact Jci h (by omega)
    · by_cases e2 : b = m + 1
      · rw [symP, if_neg e1, if_pos e2]
        exact Jcj h (by omega)
      · rw [Jcg e1 e2]
        have hs := Jfg (cf := cf) (d := d) h1 h2
        obtain ⟨s, hs'⟩ : ∃ s, Qi cf a m b d = s := ⟨_, rfl⟩
        rw [hs'] at hs ⊢
        simp only
        obtain ⟨e, he⟩ : ∃ e, (a + b) / 2 + m - s = e := ⟨_, rfl⟩
        rw [he]
        have i1 : InR n (if s < m ∧ m < e then rotF s m e d else d) := by
          split
          · exact Fk h (by omega) (by omega) (by omega) (by omega) (by omega)
          · exact h
        obtain ⟨d1, hd1⟩ : ∃ d1, (if s < m ∧ m < e then rotF s m e d else d) = d1 := ⟨_, rfl⟩
        rw [hd1] at i1 ⊢
        have i2 : InR n (if a < s ∧ s < (a + b) / 2 then symP cf f a s ((a + b) / 2) d1 else d1) := by
          split
          · rename_i hh
            exact V0 i1 hh.1 hh.2 (by omega)
          · exact i1
        obtain ⟨d2, hd2⟩ : ∃ d2, (if a < s ∧ s < (a + b) / 2 then symP cf f a s ((a + b) / 2) d1 else d1) = d2 := ⟨_, rfl⟩
        rw [hd2] at i2 ⊢
        split
        · rename_i hh
          exact V0 i2 hh.1 hh.2 h3
        · exact i2
theorem Jfh {cf : Int → Int → Int} {n : Nat} : ∀ {f a : Nat} {d : List Int}, InR n d → InR n (st1 cf n f a d)
  | 0, a, d, h => by
    rw [st1]
    by_cases e : a + 1 ≤ n
    · exact Qa h (by omega) (by omega)
    · rw [show n - (a + 1) = 0 by omega, Zg]; exact h
  | f + 1, a, d, h => by
    rw [st1]
    split
    · exact Jfh (Qa h (by omega) (by omega))
    · by_cases e : a + 1 ≤ n
      · exact Qa h (by omega) (by omega)
      · rw [show n - (a + 1) = 0 by omega, Zg]; exact h
theorem Jg3 {cf : Int → Int → Int} {n s : Nat} (hs : 0 < s) : ∀ {f a : Nat} {d : List Int}, InR n d → InR n (mrg cf n s f a d)
  | 0, _, _, h => h
  | f + 1, a, d, h => by
    rw [mrg]
    split
    · exact Jg3 hs (V0 h (by omega) (by omega) (by omega))
    · split
      · exact V0 h (by omega) (by omega) (Nat.le_refl _)
      · exact h
theorem Jcw {cf : Int → Int → Int} {n : Nat} : ∀ {f s : Nat} {d : List Int}, 0 < s → InR n d → InR n (mrgs cf n f s d)
  | 0, _, _, _, h => h
  | f + 1, s, d, hs, h => by
    rw [mrgs]
    split
    · exact Jcw (by omega) (Jg3 hs h)
    · exact h
theorem Jbf (cf : Int → Int → Int) {n : Nat} {d : List Int} (h : InR n d) : InR n (Zf cf n d) := Jcw (by omega) (Jfh h)
theorem SAt.nums {g n : Nat} {W0 W : World} {d : List Int} (h : SAt g n W0 W d) {P : Nat → Prop} (hP : P g) {cap : Nat} (hc : n ≤ cap) : Nums P W (.slice (some ⟨g, 0, none⟩) n cap) d := by
  have hl := h.inr.len
  refine ⟨_, _, by rw [hl], by omega, fun _ => ⟨g, 0, rfl, hP, h.lt, fun i hi => ?_⟩, fun a e => by cases e; rfl⟩
  rw [Nat.zero_add, (h.row i (by omega)).1, List.getD_eq_getElem?_getD, List.getElem?_eq_getElem hi]
  rfl
set_option maxHeartbeats 4000000 in
set_option maxRecDepth 20000 in
theorem Ny {q : Nat} (hen : Enters Tryz.prog q) {kf : Int → Int → Int} (hk : ∀ W x y, Calls Tryz.prog q #[.int .i64 x, .int .i64 y] W fun e W' => e = .returned (.int .i64 (kf x y)) ∧ W' = W) (P : Nat → Prop) (W : World) (hP : ∀ b, W.heap.size ≤ b → P b) (so : Option Addr) (sn sc : Nat) (co : Option Addr) (cn cc : Nat) (a : Arr) (ha : IsArr P W (.agg #[.slice so sn sc, .slice co cn cc]) a) (hok : a.ok) :
    Calls Tryz.prog 159 #[.agg #[.slice so sn sc, .slice co cn cc], .func (.func q) #[] #[]] W fun e W' => ∃ so sn sc co cn cc, e = .returned (.tuple #[.agg #[.slice so sn sc, .slice co cn cc], .int .i64 (Zd kf a).2]) ∧ IsArr P W' (.agg #[.slice so sn sc, .slice co cn cc]) (Zd kf a).1 ∧ Below W.heap.size W W' := by
  have hsn := (Jc ha).2
  have hcn := (Jc ha).1
  have hst : Bx W (((W.alloc (.cells #[.slice so sn sc, .slice co cn cc] 57)).alloc (.cells #[.func (.func q) #[] #[]] 197)).alloc (.cells #[.slice none 0 0, .slice none 0 0] 57)) [[.slice so sn sc, .slice co cn cc], [.func (.func q) #[] #[]], [.slice none 0 0, .slice none 0 0]] := (((Bx.nil W).alloc (by simp) [.slice so sn sc, .slice co cn cc] 57).alloc (by simp) [.func (.func q) #[] #[]] 197).alloc (by simp) [.slice none 0 0, .slice none 0 0] 57
  have HST := hide hst
  have HP := hide hP
  have HN := hide (Jq ha)
  have HK := hide hk
  have HEn := hide hen
  have HSN := hide hsn
  have HCN := hide hcn
  have hcn2 : cn ≤ 200 := by have := hok.few; omega
  obtain ⟨r, hr⟩ : ∃ r, Zd kf a = r := ⟨_, rfl⟩
  simp only [hr]
  have HR := hide hr
  clear hst ha hok hP hk hen hsn hcn hr
  go_enter Tryz.func159, Tryz.ntmps159
  go_wp2_with fail
  refine (Zs _ so sn sc co cn cc).mono ?_
  rintro e w1 ⟨rfl, hw1⟩
  have HX1 : Hid (Bx W w1 [[.slice so sn sc, .slice co cn cc], [.func (.func q) #[] #[]], [.slice none 0 0, .slice none 0 0]]) := hide ((Ja HST).next (by rw [hw1]; exact ((Below.refl _ _).alloc (Nat.le_refl _) _).alloc (by simp) _))
  clear hw1 HST
  by_cases hrow : sn = 1
  · have e0 : ((sn : Int) == 1) = true := by rw [hrow]; rfl
    obtain ⟨R, hR⟩ : ∃ R, Zf (Ky kf a.cells) a.cells.length (Jag a.cells.length) = R := ⟨_, rfl⟩
    have hr' : r = (⟨[a.cells.length], R⟩, 0) := by
      rw [← Ja HR]
      unfold Zd
      rw [if_neg (by rw [← Ja HSN]; omega), hR]
    subst hr'
    have HRS : Hid (Zf (Ky kf a.cells) cn (Jag cn) = R) := hide (by rw [Ja HCN]; exact hR)
    clear hR
    have b0 : w1.cell? ⟨W.heap.size, 0, none⟩ = some (.slice so sn sc) := ((Ja HX1).cell 0 0 _ rfl).1
    have b1 : w1.cell? ⟨W.heap.size, 1, none⟩ = some (.slice co cn cc) := ((Ja HX1).cell 0 1 _ rfl).1
    clear hrow
    go_wp2_with fail
    refine (J2 _ so sn sc co cn cc).mono ?_
    rintro e w2 ⟨rfl, hw2⟩
    have HX2 : Hid (Bx W w2 [[.slice so sn sc, .slice co cn cc], [.func (.func q) #[] #[]], [.slice none 0 0, .slice none 0 0]]) := hide ((Ja HX1).next (by rw [hw2]; exact (Below.refl _ _).alloc (Nat.le_refl _) _))
    clear hw2 HX1 b0 b1
    go_wp2_with fail
    refine (Gv cn hcn2 w2).mono ?_
    rintro e w3 ⟨rfl, hown, hb3⟩
    have HX3 := hide ((Ja HX2).next hb3)
    have hlt2 := (Ja HX2).lt
    simp at hlt2
    have hg3 : w2.heap.size < w3.heap.size := (hown.lt w2.heap.size rfl).2
    obtain ⟨g, hg⟩ : ∃ g, w2.heap.size = g := ⟨_, rfl⟩
    have hS3 : SAt g cn w3 w3 (Jag cn) := by
      refine ⟨fun i hi => ⟨?_, by rw [← hg]; exact hown.frozenAt i⟩, OnlyB.refl _ _, Jaf cn, by rw [← hg]; exact hg3⟩
      have h1 := hown.cellAt i (by simpa using hi)
      rw [hg] at h1
      rw [h1]
      simp [Jag, hi]
    rw [hg] at hlt2 ⊢
    have HNs : Hid (Nums (fun b => b ≠ g) w3 (.slice co cn cc) a.cells) := hide (((Ja HN).imp (fun b _ hl => by omega)).below (Ja HX3).below)
    have hC : CmpC g cn (W.heap.size + 1) W.heap.size w3 (Ky kf a.cells) := Jm7 (Ja HEn) (Ja HK) g cn (W.heap.size + 1) W.heap.size w3 (by omega) (by omega) ((Ja HX3).cell 1 0 _ rfl).1 co cc ((Ja HX3).cell 0 1 _ rfl).1 (by omega) (by omega) a.cells (Ja HNs)
    have HSo := hide (Gh g cn (W.heap.size + 1) W.heap.size cn w3 _ hC (by omega) w3 _ hS3)
    have hgW : W.heap.size + 3 ≤ g := hlt2
    clear hown hb3 hg hg3 hS3 hC HX2 HNs HK HEn
    go_wp2_with fail
    refine (Ja HSo).mono ?_
    rintro e w4 ⟨rfl, hS4⟩
    rw [Ja HRS] at hS4
    have HS4 := hide hS4
    have HX4 : Hid (Bx W w4 [[.slice so sn sc, .slice co cn cc], [.func (.func q) #[] #[]], [.slice none 0 0, .slice none 0 0]]) := hide ((Ja HX3).keep (hS4.only.below (by simpa using hgW)))
    have HRow := hide (Zp (OffB W.heap.size 3 P) w4 (fun b h => OffB.new (Ja HP) (by have := (Ja HX4).lt; simp at this; omega)) (.slice (some ⟨g, 0, none⟩) cn cn) R ((Ja HS4).nums (P := OffB W.heap.size 3 P) (OffB.new (Ja HP) hgW) (Nat.le_refl _)))
    have hlen : R.length = a.cells.length := by rw [(Ja HS4).inr.len, Ja HCN]
    rw [hlen] at HRow
    clear hS4 HX3 HSo
    go_wp2_with fail
    refine (Ja HRow).mono ?_
    rintro e w5 ⟨s1, s2, s3, c1, c2, c3, rfl, hA5, hb5⟩
    have HX5 := hide ((Ja HX4).next hb5)
    have HA5 := hide hA5
    clear hA5 hb5 HX4 HRow
    have r0 : w5.cell? ⟨W.heap.size + 1 + 1, 0, none⟩ = some (.slice none 0 0) := ((Ja HX5).cell 2 0 _ rfl).1
    have r1 : w5.cell? ⟨W.heap.size + 1 + 1, 1, none⟩ = some (.slice none 0 0) := ((Ja HX5).cell 2 1 _ rfl).1
    have g0 : w5.frozen? ⟨W.heap.size + 1 + 1, 0, none⟩ = false := ((Ja HX5).cell 2 0 _ rfl).2
    have g1 : w5.frozen? ⟨W.heap.size + 1 + 1, 1, none⟩ = false := ((Ja HX5).cell 2 1 _ rfl).2
    go_wp2_with fail
    have hf2 := Yd (q := 2) (u0 := .slice s1 s2 s3) (u1 := .slice c1 c2 c3) (Ja HX5).below (by decide) (Ja HA5)
    exact bodyPost_ret (v := .tuple #[.agg #[.slice s1 s2 s3, .slice c1 c2 c3], .int .i64 0]) (by simp [results, Tryz.results159, go_sem, r0, r1]) rfl ⟨_, _, _, _, _, _, rfl, hf2.1, hf2.2⟩
  · have e0 : ((sn : Int) == 1) = false := beq_false_of_ne (by omega)
    have hr' : r = (eArr, 5) := by
      rw [← Ja HR]
      unfold Zd
      rw [if_pos (by rw [← Ja HSN]; exact hrow)]
    subst hr'
    have r0 : w1.cell? ⟨W.heap.size + 1 + 1, 0, none⟩ = some (.slice none 0 0) := ((Ja HX1).cell 2 0 _ rfl).1
    have r1 : w1.cell? ⟨W.heap.size + 1 + 1, 1, none⟩ = some (.slice none 0 0) := ((Ja HX1).cell 2 1 _ rfl).1
    have g0 : w1.frozen? ⟨W.heap.size + 1 + 1, 0, none⟩ = false := ((Ja HX1).cell 2 0 _ rfl).2
    have g1 : w1.frozen? ⟨W.heap.size + 1 + 1, 1, none⟩ = false := ((Ja HX1).cell 2 1 _ rfl).2
    clear hrow
    go_wp2_with fail
    have hf2 := Yd (q := 2) (P := P) (k := 3) (a := eArr) (u0 := .slice none 0 0) (u1 := .slice none 0 0) (Ja HX1).below (by decide) (Yb _ _)
    exact bodyPost_ret (v := .tuple #[.agg #[.slice none 0 0, .slice none 0 0], .int .i64 5]) (by simp [results, Tryz.results159, go_sem, r0, r1]) rfl ⟨none, 0, 0, none, 0, 0, rfl, hf2.1, hf2.2⟩
theorem Nx (kf : Int → Int → Int) {a : Arr} (h : a.ok) : (Zd kf a).1.cells.length ≤ 200 ∧ ((Zd kf a).2 = 0 → (Zd kf a).1.ok) := by
  unfold Zd
  split
  · exact ⟨by simp [eArr], fun h => absurd h (by decide)⟩
  · have hi := Jbf (Ky kf a.cells) (Jaf a.cells.length)
    have hf := h.few
    exact ⟨by show (Zf _ _ _).length ≤ 200; rw [hi.len]; exact hf, fun _ => ⟨by simp, by simp; omega, by show (Zf _ _ _).length = _; rw [hi.len]; simp [Jj], by show (Zf _ _ _).length ≤ 200; rw [hi.len]; exact hf, fun c hc => by have := hi.rng c hc; unfold Jg; omega⟩⟩
theorem Tryz.enters107 : Enters Tryz.prog 107 := Go.Proofs.enters_of Tryz.func107 (by decide) rfl
theorem Tryz.enters108 : Enters Tryz.prog 108 := Go.Proofs.enters_of Tryz.func108 (by decide) rfl
theorem Tryz.enters153 : Enters Tryz.prog 153 := Go.Proofs.enters_of Tryz.func153 (by decide) rfl
theorem Tryz.enters160 : Enters Tryz.prog 160 := Go.Proofs.enters_of Tryz.func160 (by decide) rfl
set_option maxHeartbeats 1000000 in
theorem Joo (w : World) : FnOne 107 #[] w (Zd X4) := by
  intro W P v a _ hP ha hoa
  have ha0 := ha
  obtain ⟨so, sn, sc, co, cn, cc, rfl, _, _⟩ := ha0
  show Calls Tryz.prog 107 #[.agg #[.slice so sn sc, .slice co cn cc]] W _
  have hst : Bx W ((W.alloc (.cells #[.slice so sn sc, .slice co cn cc] 57)).alloc (.cells #[.slice none 0 0, .slice none 0 0] 57)) [[.slice so sn sc, .slice co cn cc], [.slice none 0 0, .slice none 0 0]] := ((Bx.nil W).alloc (by simp) [.slice so sn sc, .slice co cn cc] 57).alloc (by simp) [.slice none 0 0, .slice none 0 0] 57
  have HST := hide hst
  have HC := hide (Ny Tryz.enters153 Jh9 (OffB W.heap.size 2 P) _ (fun b hb => OffB.new hP (by have := hst.lt; simp at hb; omega)) so sn sc co cn cc a ((ha.imp (Q := OffB W.heap.size 2 P) (fun b h hl => ⟨h, Or.inl hl⟩)).below hst.below) hoa)
  clear hst ha hoa hP
  go_enter Tryz.func107, Tryz.ntmps107
  go_wp2_with (go_at_call 159; refine (Ja HC).mono ?_)
  rintro e w2 ⟨s4, s5, s6, c4, c5, c6, rfl, hA5, hb5⟩
  have HX := hide ((Ja HST).next hb5)
  have HA5 := hide hA5
  clear hA5 hb5 HST HC
  have r0 : w2.cell? ⟨W.heap.size + 1, 0, none⟩ = some (.slice none 0 0) := ((Ja HX).cell 1 0 _ rfl).1
  have r1 : w2.cell? ⟨W.heap.size + 1, 1, none⟩ = some (.slice none 0 0) := ((Ja HX).cell 1 1 _ rfl).1
  have g0 : w2.frozen? ⟨W.heap.size + 1, 0, none⟩ = false := ((Ja HX).cell 1 0 _ rfl).2
  have g1 : w2.frozen? ⟨W.heap.size + 1, 1, none⟩ = false := ((Ja HX).cell 1 1 _ rfl).2
  go_wp2_with fail
  have hf2 := Yd (q := 1) (u0 := .slice s4 s5 s6) (u1 := .slice c4 c5 c6) (Ja HX).below (by decide) (Ja HA5)
  exact bodyPost_ret (v := .tuple #[.agg #[.slice s4 s5 s6, .slice c4 c5 c6], .int .i64 (Zd X4 a).2]) (by simp [results, Tryz.results107, go_sem, r0, r1]) rfl ⟨_, _, _, _, _, _, rfl, hf2.1, hf2.2⟩
set_option maxHeartbeats 1000000 in
theorem Jm2 (w : World) : FnOne 108 #[] w (Zd (fun x y => X4 y x)) := by
  intro W P v a _ hP ha hoa
  have ha0 := ha
  obtain ⟨so, sn, sc, co, cn, cc, rfl, _, _⟩ := ha0
  show Calls Tryz.prog 108 #[.agg #[.slice so sn sc, .slice co cn cc]] W _
  have hst : Bx W ((W.alloc (.cells #[.slice so sn sc, .slice co cn cc] 57)).alloc (.cells #[.slice none 0 0, .slice none 0 0] 57)) [[.slice so sn sc, .slice co cn cc], [.slice none 0 0, .slice none 0 0]] := ((Bx.nil W).alloc (by simp) [.slice so sn sc, .slice co cn cc] 57).alloc (by simp) [.slice none 0 0, .slice none 0 0] 57
  have HST := hide hst
  have HC := hide (Ny Tryz.enters160 Jia (OffB W.heap.size 2 P) _ (fun b hb => OffB.new hP (by have := hst.lt; simp at hb; omega)) so sn sc co cn cc a ((ha.imp (Q := OffB W.heap.size 2 P) (fun b h hl => ⟨h, Or.inl hl⟩)).below hst.below) hoa)
  clear hst ha hoa hP
  go_enter Tryz.func108, Tryz.ntmps108
  go_wp2_with (go_at_call 159; refine (Ja HC).mono ?_)
  rintro e w2 ⟨s4, s5, s6, c4, c5, c6, rfl, hA5, hb5⟩
  have HX := hide ((Ja HST).next hb5)
  have HA5 := hide hA5
  clear hA5 hb5 HST HC
  have r0 : w2.cell? ⟨W.heap.size + 1, 0, none⟩ = some (.slice none 0 0) := ((Ja HX).cell 1 0 _ rfl).1
  have r1 : w2.cell? ⟨W.heap.size + 1, 1, none⟩ = some (.slice none 0 0) := ((Ja HX).cell 1 1 _ rfl).1
  have g0 : w2.frozen? ⟨W.heap.size + 1, 0, none⟩ = false := ((Ja HX).cell 1 0 _ rfl).2
  have g1 : w2.frozen? ⟨W.heap.size + 1, 1, none⟩ = false := ((Ja HX).cell 1 1 _ rfl).2
  go_wp2_with fail
  have hf2 := Yd (q := 1) (u0 := .slice s4 s5 s6) (u1 := .slice c4 c5 c6) (Ja HX).below (by decide) (Ja HA5)
  exact bodyPost_ret (v := .tuple #[.agg #[.slice s4 s5 s6, .slice c4 c5 c6], .int .i64 (Zd (fun x y => X4 y x) a).2]) (by simp [results, Tryz.results108, go_sem, r0, r1]) rfl ⟨_, _, _, _, _, _, rfl, hf2.1, hf2.2⟩
theorem Jne : OneC ⟨#[117, 112]⟩ (Zd X4) := ⟨fun w => (Za (t := ⟨#[117, 112]⟩) (k1 := .string [112]) (k2 := .string [117, 112]) (f := 107) (by decide) (by kernel_rfl) (by kernel_rfl) (by kernel_rfl) (by kernel_rfl) w).mono (by rintro e w' ⟨rfl, hb⟩; exact ⟨107, #[], rfl, Tryz.enters107, hb, Joo w'⟩), fun a ha => Nx _ ha⟩
theorem Jky : OneC ⟨#[100, 111, 119, 110]⟩ (Zd (fun x y => X4 y x)) := ⟨fun w => (Za (t := ⟨#[100, 111, 119, 110]⟩) (k1 := .string [111, 119, 110]) (k2 := .string [100, 111, 119, 110]) (f := 108) (by decide) (by kernel_rfl) (by kernel_rfl) (by kernel_rfl) (by kernel_rfl) w).mono (by rintro e w' ⟨rfl, hb⟩; exact ⟨108, #[], rfl, Tryz.enters108, hb, Jm2 w'⟩), fun a ha => Nx _ ha⟩
end Go.Proofs.YtjobgpahajhbnabGreatDoor
