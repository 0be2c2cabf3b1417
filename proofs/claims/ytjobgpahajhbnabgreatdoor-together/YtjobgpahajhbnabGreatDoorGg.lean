import Derived.Test.YtjobgpahajhbnabGreatDoorGf
import Derived.Test.YtjobgpahajhbnabGreatDoorKg
import Derived.Test.YtjobgpahajhbnabGreatDoorTd
import Derived.Test.YtjobgpahajhbnabGreatDoorJc
import Derived.Deep.RegionLaw
namespace Go.Proofs.YtjobgpahajhbnabGreatDoor
open Go.RowKit Go.Proofs
attribute [local go_sem ↓] Go.wp_at_zero Go.wp_at_succ
def st1 (cf : Int → Int → Int) (n : Nat) : Nat → Nat → List Int → List Int
  | 0, a, d => Zg cf a (n - (a + 1)) (a + 1) d
  | f + 1, a, d => if a + 20 ≤ n then st1 cf n f (a + 20) (Zg cf a (a + 20 - (a + 1)) (a + 1) d) else Zg cf a (n - (a + 1)) (a + 1) d
def mrg (cf : Int → Int → Int) (n s : Nat) : Nat → Nat → List Int → List Int
  | 0, _, d => d
  | f + 1, a, d => if a + 2 * s ≤ n then mrg cf n s f (a + 2 * s) (symP cf (2 * s) a (a + s) (a + 2 * s) d) else if a + s < n then symP cf (n - a) a (a + s) n d else d
def mrgs (cf : Int → Int → Int) (n : Nat) : Nat → Nat → List Int → List Int
  | 0, _, d => d
  | f + 1, s, d => if s < n then mrgs cf n f (2 * s) (mrg cf n s (n + 1) 0 d) else d
def Zf (cf : Int → Int → Int) (n : Nat) (d : List Int) : List Int := mrgs cf n (n + 1) 20 (st1 cf n (n + 1) 0 d)
set_option maxHeartbeats 8000000 in
set_option maxRecDepth 20000 in
theorem Jdq (g n b3 b2 cap : Nat) (W0 : World) (cf : Int → Int → Int) (hC : CmpC g n b3 b2 W0 cf) (hn : n ≤ 1000) (W : World) (d : List Int) (hS : SAt g n W0 W d) :
    Calls Tryz.prog 213 #[.slice (some ⟨g, 0, none⟩) n cap, .int .i64 n, .func (.func 201) #[] #[.pointer (some ⟨b3, 0, none⟩), .pointer (some ⟨b2, 0, none⟩)]] W fun e W' => e = .returned (.tuple #[]) ∧ SAt g n W0 W' (Zf cf n d) := by
  have HC := hide hC
  have HS := hide hS
  obtain ⟨R1, hR1⟩ : ∃ R1, st1 cf n (n + 1) 0 d = R1 := ⟨_, rfl⟩
  obtain ⟨R, hR⟩ : ∃ R, mrgs cf n (n + 1) 20 R1 = R := ⟨_, rfl⟩
  have hRR : Zf cf n d = R := by unfold Zf; rw [hR1, hR]
  rw [hRR]
  have HR1 := hide hR1
  have HR := hide hR
  clear hC hS hR hR1 hRR
  go_enter Tryz.func213, Tryz.ntmps213
  go_wp2_with fail
  go_loopw [7, 8] (fun v7 v8 wr => ∃ (a f : Nat) (d : List Int), v7 = .int .i64 a ∧ v8 = .int .i64 (a + 20 : Nat) ∧ a ≤ n ∧ n < a + f ∧ SAt g n W0 wr d ∧ Hid (st1 cf n f a d = R1)) (fun _ v8 _ => n + 20 - (intOf v8).toNat)
  case atStart => exact ⟨0, n + 1, d, rfl, rfl, by omega, by omega, Ja HS, HR1⟩
  case round =>
    obtain ⟨a, f, d, rfl, rfl, han, hf, hS, hE⟩ := hrel
    rename World => wr
    have HSx := hide hS
    obtain ⟨f, rfl⟩ : ∃ f', f = f' + 1 := ⟨f - 1, by omega⟩
    obtain ⟨a2, ha2⟩ : ∃ a2, a + 20 = a2 := ⟨_, rfl⟩
    rw [ha2]
    by_cases hlt : a2 ≤ n
    · have HIn := hide (G4 g n b3 b2 cap a a2 W0 cf (Ja HC) hn (by omega) hlt wr d hS)
      have HE2 : Hid (st1 cf n f a2 (Zg cf a (a2 - (a + 1)) (a + 1) d) = R1) := hide (by
        have h1 := Ja hE
        rw [st1, ha2, if_pos hlt] at h1
        exact h1)
      have g0 : (a2 : Int) ≤ (n : Int) := by omega
      have HA2 := hide ha2
      clear hS hE ha2
      go_wp2_with fail
      refine (Ja HIn).mono ?_
      rintro e w5 ⟨rfl, hS5⟩
      have HS5 := hide hS5
      clear hS5
      go_wp2_with fail
      go_roundw
      case rel => exact ⟨a2, f, _, by first | rfl | go_num, by first | rfl | go_num, by omega, by have := Ja HA2; omega, Ja HS5, HE2⟩
      case measure => simp [intOf]; omega
    · have HIn := hide (G4 g n b3 b2 cap a n W0 cf (Ja HC) hn han (Nat.le_refl _) wr d hS)
      have hd : Zg cf a (n - (a + 1)) (a + 1) d = R1 := by
        have h1 := Ja hE
        rw [st1, ha2, if_neg hlt] at h1
        exact h1
      rw [hd] at HIn
      have g0 : ¬ (a2 : Int) ≤ (n : Int) := by omega
      clear hS hE hd ha2
      go_wp2_with fail
      refine (Ja HIn).mono ?_
      rintro e w5 ⟨rfl, hS5⟩
      have HS5 := hide hS5
      clear hS5 HIn
      go_wp2_with fail
      go_loopw [6] (fun v6 wx => ∃ (s f : Nat) (d : List Int), v6 = .int .i64 s ∧ 0 < s ∧ s ≤ 2020 ∧ n < s + f ∧ SAt g n W0 wx d ∧ Hid (mrgs cf n f s d = R)) (fun v6 _ => n + 1 - (intOf v6).toNat)
      case atStart => exact ⟨20, n + 1, R1, rfl, by omega, by omega, by omega, Ja HS5, HR⟩
      case round =>
        obtain ⟨s, f, d, rfl, hs0, hs1, hf, hS, hE⟩ := hrel
        rename World => wx
        have HSy := hide hS
        by_cases hsn : s < n
        · obtain ⟨f, rfl⟩ : ∃ f', f = f' + 1 := ⟨f - 1, by omega⟩
          obtain ⟨s2, hs2⟩ : ∃ s2, 2 * s = s2 := ⟨_, rfl⟩
          obtain ⟨R2, hR2⟩ : ∃ R2, mrg cf n s (n + 1) 0 d = R2 := ⟨_, rfl⟩
          have HE2 : Hid (mrgs cf n f s2 R2 = R) := hide (by
            have h1 := Ja hE
            rw [mrgs, if_pos hsn, hs2, hR2] at h1
            exact h1)
          have HR2 := hide hR2
          have hw1 : IntKind.i64.wrap (2 * (s : Int)) = (s2 : Int) := by
            have e : 2 * (s : Int) = (s2 : Int) := by omega
            rw [e]
            exact Jd (by omega) (by omega)
          have hw2 : IntKind.i64.wrap ((s : Int) * 2) = (s2 : Int) := by
            have e : (s : Int) * 2 = (s2 : Int) := by omega
            rw [e]
            exact Jd (by omega) (by omega)
          have g0 : (s : Int) < (n : Int) := by omega
          have HS2 := hide hs2
          clear hS hE hR2 hs2
          go_wp2_with fail
          go_loopw [7, 8] (fun v7 v8 wy => ∃ (a f : Nat) (d : List Int), v7 = .int .i64 a ∧ v8 = .int .i64 (a + s2 : Nat) ∧ a ≤ n ∧ n < a + f ∧ SAt g n W0 wy d ∧ Hid (mrg cf n s f a d = R2)) (fun _ v8 _ => n + s2 - (intOf v8).toNat)
          case atStart => exact ⟨0, n + 1, d, rfl, by first | rfl | go_num | (rw [Nat.zero_add]), by omega, by omega, Ja HSy, HR2⟩
          case round =>
            obtain ⟨a, k, d, rfl, rfl, han, hk, hS, hE⟩ := hrel
            rename World => wy
            have HSz := hide hS
            obtain ⟨k, rfl⟩ : ∃ k', k = k' + 1 := ⟨k - 1, by omega⟩
            obtain ⟨b, hab⟩ : ∃ b, a + s2 = b := ⟨_, rfl⟩
            obtain ⟨m, ham⟩ : ∃ m, a + s = m := ⟨_, rfl⟩
            have hs2' := Ja HS2
            rw [hab]
            have hwm : IntKind.i64.wrap ((a : Int) + (s : Int)) = (m : Int) := by
              rw [← Int.natCast_add, ham]
              exact Jd (by omega) (by omega)
            by_cases hbn : b ≤ n
            · have HSm := hide (Jbe g n b3 b2 cap W0 cf (Ja HC) hn s2 a m b wy d (by omega) (by omega) hbn (by omega) hS)
              have HE3 : Hid (mrg cf n s k b (symP cf s2 a m b d) = R2) := hide (by
                have h1 := Ja hE
                rw [mrg, hs2', hab, ham, if_pos hbn] at h1
                exact h1)
              have g1 : (b : Int) ≤ (n : Int) := by omega
              have hwb : IntKind.i64.wrap ((b : Int) + (s2 : Int)) = ((b + s2 : Nat) : Int) := by
                rw [← Int.natCast_add]
                exact Jd (by omega) (by omega)
              have HAB := hide hab
              clear hS hE hab ham hs2'
              go_wp2_with fail
              refine (Ja HSm).mono ?_
              rintro e w6 ⟨rfl, hS6⟩
              have HS6 := hide hS6
              clear hS6
              go_wp2_with fail
              go_roundw
              case rel => exact ⟨b, k, _, by first | rfl | go_num, by first | rfl | go_num, by omega, by have := Ja HAB; have := Ja HS2; omega, Ja HS6, HE3⟩
              case measure => simp [intOf]; have := Ja HAB; have := Ja HS2; omega
            · have g1 : ¬ (b : Int) ≤ (n : Int) := by omega
              by_cases hmn : m < n
              · have HSm := hide (Jbe g n b3 b2 cap W0 cf (Ja HC) hn (n - a) a m n wy d (by omega) hmn (Nat.le_refl _) (Nat.le_refl _) hS)
                have hd : symP cf (n - a) a m n d = R2 := by
                  have h1 := Ja hE
                  rw [mrg, hs2', hab, ham, if_neg hbn, if_pos hmn] at h1
                  exact h1
                rw [hd] at HSm
                have g2 : (m : Int) < (n : Int) := by omega
                clear hS hE hab ham hs2' hd
                go_wp2_with fail
                refine (Ja HSm).mono ?_
                rintro e w6 ⟨rfl, hS6⟩
                have HS6 := hide hS6
                clear hS6
                go_wp2_with fail
                go_roundw
                case rel => exact ⟨s2, f, R2, by first | rfl | go_num, by have := Ja HS2; omega, by have := Ja HS2; omega, by have := Ja HS2; omega, Ja HS6, HE2⟩
                case measure => simp [intOf]; have := Ja HS2; omega
              · have hd : d = R2 := by
                  have h1 := Ja hE
                  rw [mrg, hs2', hab, ham, if_neg hbn, if_neg hmn] at h1
                  exact h1
                subst hd
                have g2 : ¬ (m : Int) < (n : Int) := by omega
                clear hS hE hab ham hs2'
                go_wp2_with fail
                go_roundw
                case rel => exact ⟨s2, f, d, by first | rfl | go_num, by have := Ja HS2; omega, by have := Ja HS2; omega, by have := Ja HS2; omega, Ja HSz, HE2⟩
                case measure => simp [intOf]; have := Ja HS2; omega
        · have hd : d = R := by
            have h1 := Ja hE
            cases f with
            | zero => rw [mrgs] at h1; exact h1
            | succ f => rw [mrgs, if_neg hsn] at h1; exact h1
          subst hd
          have g0 : ¬ (s : Int) < (n : Int) := by omega
          clear hS hE
          go_wp2_with fail
          go_end0
          exact ⟨rfl, Ja HSy⟩
set_option maxHeartbeats 1000000 in
theorem Gh (g n b3 b2 cap : Nat) (W0 : World) (cf : Int → Int → Int) (hC : CmpC g n b3 b2 W0 cf) (hn : n ≤ 1000) (W : World) (d : List Int) (hS : SAt g n W0 W d) :
    Calls Tryz.prog 200 #[.slice (some ⟨g, 0, none⟩) n cap, .func (.func 201) #[] #[.pointer (some ⟨b3, 0, none⟩), .pointer (some ⟨b2, 0, none⟩)]] W fun e W' => e = .returned (.tuple #[]) ∧ SAt g n W0 W' (Zf cf n d) := by
  have HC := hide (Jdq g n b3 b2 cap W0 cf hC hn W d hS)
  obtain ⟨R, hR⟩ : ∃ R, Zf cf n d = R := ⟨_, rfl⟩
  rw [hR] at HC ⊢
  clear hC hS hR
  go_enter Tryz.func200, Tryz.ntmps200
  go_wp2_with (go_at_call 213; refine (Ja HC).mono ?_; rintro e w5 ⟨rfl, hS5⟩; have HS5 := hide hS5; clear hS5)
  go_end0
  exact ⟨rfl, Ja HS5⟩
end Go.Proofs.YtjobgpahajhbnabGreatDoor
namespace Go.Proofs.YtjobgpahajhbnabGreatDoor
open Go.RowKit Go.Proofs
def colC (xs : List Int) (n i r : Nat) : List Int := (List.range r).map fun j => xs.getD (i + j * n) 0
def col (b : Arr) (i : Nat) : Arr := ⟨b.shape.dropLast, colC b.cells (Ju b.shape) i (Jj b.shape.dropLast)⟩
def cols (b : Arr) : List Arr := (List.range (Ju b.shape)).map (col b)
theorem V7 (xs : List Int) (n i r : Nat) : (colC xs n i r).length = r := by simp [colC]
theorem Jib (xs : List Int) (n i r : Nat) : colC xs n i (r + 1) = colC xs n i r ++ [xs.getD (i + r * n) 0] := by
  simp [colC, List.range_succ]
theorem Qe (b : Arr) : (cols b).length = Ju b.shape := by simp [cols]
theorem Jm6 {b : Arr} {i : Nat} (h : i < (cols b).length) : (cols b)[i] = col b i := by simp [cols]
theorem Xb {b : Arr} (h : b.ok) (hr : b.shape.length ≠ 0) : b.cells.length = Jj b.shape.dropLast * Ju b.shape := by
  rw [h.size]
  have := J8 hr
  rw [this, Jp, Ym, ← this]
theorem Jc2 {b : Arr} (h : b.ok) (hr : b.shape.length ≠ 0) (hn : 0 < Ju b.shape) : Jj b.shape.dropLast ≤ b.cells.length := by
  rw [Xb h hr]
  exact Nat.le_mul_of_pos_right _ hn
theorem Joe {b : Arr} (h : b.ok) (hr : b.shape.length ≠ 0) (hn : 0 < Ju b.shape) (i : Nat) : (col b i).ok := by
  refine ⟨by have := h.rank; simp [col]; omega, fun n hn => h.lens n (List.dropLast_subset _ hn), by simp [col, V7], ?_, ?_⟩
  · have := Jc2 h hr hn
    have := h.few
    simp [col, V7]
    omega
  · intro c hc
    simp only [col, colC, List.mem_map] at hc
    obtain ⟨j, _, rfl⟩ := hc
    rw [List.getD_eq_getElem?_getD]
    cases hg : b.cells[i + j * Ju b.shape]? with
    | none => simp [Jg]
    | some v => exact h.fits v (List.mem_of_getElem? hg)
def Jl (f : Arr → Arr → Arr × Int) : List Arr → Arr × Int
  | [] => (eArr, 0)
  | c :: r => if r = [] then (c, 0) else if (Jl f r).2 ≠ 0 then (eArr, (Jl f r).2) else if (f c (Jl f r).1).2 ≠ 0 then (eArr, (f c (Jl f r).1).2) else f c (Jl f r).1
theorem X7 (f : Arr → Arr → Arr × Int) (c : Arr) : Jl f [c] = (c, 0) := by simp [Jl]
theorem Vq {f : Arr → Arr → Arr × Int} {c : Arr} {r : List Arr} (hr : r ≠ []) (h0 : (Jl f r).2 = 0) : Jl f (c :: r) = if (f c (Jl f r).1).2 ≠ 0 then (eArr, (f c (Jl f r).1).2) else f c (Jl f r).1 := by
  rw [Jl, if_neg hr, if_neg (by simp [h0])]
theorem Jax {f : Arr → Arr → Arr × Int} {e : Int} (he : e ≠ 0) : ∀ {p r : List Arr}, r ≠ [] → Jl f r = (eArr, e) → Jl f (p ++ r) = (eArr, e)
  | [], r, _, h => h
  | c :: p, r, hr, h => by
    have := Jax (p := p) he hr h
    rw [List.cons_append, Jl, if_neg (by simp [hr]), this]
    simp [he]
structure Evens (f : Arr → Arr → Arr × Int) : Prop where
  ok : ∀ a b, a.ok → b.ok → (f a b).2 = 0 → (f a b).1.ok
  shape : ∀ a b, a.ok → b.ok → a.shape = b.shape → (f a b).2 = 0 → (f a b).1.shape = a.shape
theorem V8 {f : Arr → Arr → Arr × Int} (hf : Evens f) {sh : List Nat} : ∀ {l : List Arr}, l ≠ [] → (∀ c ∈ l, c.ok ∧ c.shape = sh) → (Jl f l).2 = 0 → (Jl f l).1.ok ∧ (Jl f l).1.shape = sh
  | [], h, _, _ => absurd rfl h
  | c :: r, _, hl, h0 => by
    by_cases hr : r = []
    · subst hr
      rw [X7]
      exact hl c (by simp)
    · have hc := hl c (by simp)
      by_cases h1 : (Jl f r).2 = 0
      · have ih := V8 hf hr (fun d hd => hl d (by simp [hd])) h1
        rw [Vq hr h1] at h0 ⊢
        by_cases h2 : (f c (Jl f r).1).2 = 0
        · rw [if_neg (by simp [h2])]
          exact ⟨hf.ok _ _ hc.1 ih.1 h2, (hf.shape _ _ hc.1 ih.1 (hc.2.trans ih.2.symm) h2).trans hc.2⟩
        · rw [if_pos h2] at h0
          exact absurd h0 h2
      · rw [Jl, if_neg hr, if_pos h1] at h0
        exact absurd h0 h1
theorem Jb5 {f : Arr → Arr → Arr × Int} {l : List Arr} (h : (Jl f l).2 ≠ 0) : (Jl f l).1 = eArr := by
  cases l with
  | nil => rfl
  | cons c r =>
    rw [Jl] at h ⊢
    split
    · rename_i hr
      rw [if_pos hr] at h
      exact absurd rfl h
    · rename_i hr
      rw [if_neg hr] at h
      split
      · rfl
      · rename_i h1
        rw [if_neg h1] at h
        split
        · rfl
        · rename_i h2
          rw [if_neg h2] at h
          exact absurd h h2
def Yr (f : Arr → Arr → Arr × Int) (z : Int) (b : Arr) : Arr × Int :=
  if b.shape.length = 0 then (b, 0) else if Yu b.shape.dropLast = false then (eArr, 9)
  else if Ju b.shape = 0 then (⟨b.shape.dropLast, List.replicate (Jj b.shape.dropLast) z⟩, 0) else Jl f (cols b)
def Ki (f : Arr → Arr → Arr × Int) (cs : List Arr) : Nat → Int
  | 0 => 0
  | k + 1 => if Ki f cs k ≠ 0 then Ki f cs k else (Jl f (cs.take (k + 1))).2
def Ko (f : Arr → Arr → Arr × Int) (cs : List Arr) (m n k : Nat) : List Int := (List.range (m * n)).map fun p => if p % n < k then (Jl f (cs.take (p % n + 1))).1.cells.getD (p / n) 0 else 0
def Yt (f : Arr → Arr → Arr × Int) (b : Arr) : Arr × Int :=
  if b.shape.length = 0 then (b, 0) else if Ki f (cols b) (Ju b.shape) ≠ 0 then (eArr, Ki f (cols b) (Ju b.shape))
  else (⟨b.shape, Ko f (cols b) (Jj b.shape.dropLast) (Ju b.shape) (Ju b.shape)⟩, 0)
theorem F9 {b : Arr} (h : b.ok) (hr : b.shape.length ≠ 0) : ∀ c ∈ cols b, c.ok ∧ c.shape = b.shape.dropLast := by
  intro c hc
  simp only [cols, List.mem_map, List.mem_range] at hc
  obtain ⟨i, hi, rfl⟩ := hc
  exact ⟨Joe h hr (by omega) i, rfl⟩
theorem Jmu {f : Arr → Arr → Arr × Int} (hf : Evens f) {z : Int} (hz : Jg z) {b : Arr} (h : b.ok) : (Yr f z b).1.cells.length ≤ 200 ∧ ((Yr f z b).2 = 0 → (Yr f z b).1.ok) := by
  unfold Yr
  by_cases h0 : b.shape.length = 0
  · rw [if_pos h0]
    exact ⟨h.few, fun _ => h⟩
  rw [if_neg h0]
  by_cases h1 : Yu b.shape.dropLast = false
  · rw [if_pos h1]
    exact ⟨by simp [eArr], fun h => absurd h (by decide)⟩
  rw [if_neg h1]
  have hfit : Yu b.shape.dropLast = true := by simpa using h1
  unfold Yu at hfit
  simp only [Bool.and_eq_true, decide_eq_true_eq, List.all_eq_true] at hfit
  by_cases h2 : Ju b.shape = 0
  · rw [if_pos h2]
    refine ⟨by simp; omega, fun _ => ⟨by have := h.rank; simp; omega, fun n hn => by have := hfit.1 n hn; omega, by simp, by simp; omega, ?_⟩⟩
    intro c hc
    rw [List.eq_of_mem_replicate hc]
    exact hz
  rw [if_neg h2]
  have hne : cols b ≠ [] := by
    intro e
    have := Qe b
    rw [e] at this
    exact h2 this.symm
  by_cases h3 : (Jl f (cols b)).2 = 0
  · have := (V8 hf hne (F9 h h0) h3).1
    exact ⟨this.few, fun _ => this⟩
  · rw [Jb5 h3]
    exact ⟨by simp [eArr], fun h => absurd h h3⟩
theorem Gs {f : Arr → Arr → Arr × Int} {cs : List Arr} : ∀ {k : Nat}, Ki f cs k = 0 → ∀ i, i < k → (Jl f (cs.take (i + 1))).2 = 0
  | 0, _, i, hi => absurd hi (by omega)
  | k + 1, h, i, hi => by
    unfold Ki at h
    by_cases h0 : Ki f cs k = 0
    · rw [if_neg (by simp [h0])] at h
      by_cases hk : i = k
      · subst hk; exact h
      · exact Gs h0 i (by omega)
    · rw [if_pos h0] at h
      exact absurd h h0
theorem Xl {f : Arr → Arr → Arr × Int} {cs : List Arr} {k : Nat} (h : Ki f cs k ≠ 0) : ∀ {n : Nat}, k ≤ n → Ki f cs n = Ki f cs k
  | 0, hn => by
    have : k = 0 := by omega
    subst this
    rfl
  | n + 1, hn => by
    by_cases hk : k = n + 1
    · subst hk; rfl
    · have ih := Xl h (n := n) (by omega)
      show (if Ki f cs n ≠ 0 then Ki f cs n else (Jl f (cs.take (n + 1))).2) = _
      rw [if_pos (by rw [ih]; exact h), ih]
theorem Qj {b : Arr} (h : b.ok) (hr : b.shape.length ≠ 0) {k : Nat} : ∀ c ∈ (cols b).take k, c.ok ∧ c.shape = b.shape.dropLast := fun c hc => F9 h hr c (List.mem_of_mem_take hc)
theorem Jl2 {f : Arr → Arr → Arr × Int} (hf : Evens f) {b : Arr} (h : b.ok) : (Yt f b).1.cells.length ≤ 200 ∧ ((Yt f b).2 = 0 → (Yt f b).1.ok) := by
  unfold Yt
  by_cases h0 : b.shape.length = 0
  · rw [if_pos h0]
    exact ⟨h.few, fun _ => h⟩
  rw [if_neg h0]
  by_cases h1 : Ki f (cols b) (Ju b.shape) = 0
  · rw [if_neg (by simp [h1])]
    have hs := Xb h h0
    have hl : (Ko f (cols b) (Jj b.shape.dropLast) (Ju b.shape) (Ju b.shape)).length = b.cells.length := by simp [Ko, hs]
    refine ⟨by rw [hl]; exact h.few, fun _ => ⟨h.rank, h.lens, by rw [hl]; exact h.size, by rw [hl]; exact h.few, ?_⟩⟩
    intro c hc
    simp only [Ko, List.mem_map, List.mem_range] at hc
    obtain ⟨p, hp, rfl⟩ := hc
    have hn : 0 < Ju b.shape := by
      rcases Nat.eq_zero_or_pos (Ju b.shape) with e | e
      · rw [e] at hp; omega
      · exact e
    have hpn := Nat.mod_lt p hn
    rw [if_pos hpn]
    have h3 := Gs h1 _ hpn
    have hne : (cols b).take (p % Ju b.shape + 1) ≠ [] := by
      intro e
      have := congrArg List.length e
      rw [List.length_take, Qe] at this
      simp at this
      omega
    have hk := (V8 hf hne (Qj h h0) h3).1
    rw [List.getD_eq_getElem?_getD]
    cases hg : (Jl f ((cols b).take (p % Ju b.shape + 1))).1.cells[p / Ju b.shape]? with
    | none => simp [Jg]
    | some v => exact hk.fits v (List.mem_of_getElem? hg)
  · rw [if_pos h1]
    exact ⟨by simp [eArr], fun h => absurd h h1⟩
end Go.Proofs.YtjobgpahajhbnabGreatDoor
namespace Go.Proofs.YtjobgpahajhbnabGreatDoor
open Go.RowKit Go.Proofs
attribute [local go_sem ↓] Go.wp_at_zero Go.wp_at_succ
structure Bx (W w : World) (l : List (List Value)) : Prop where
  below : Below W.heap.size W w
  lt : W.heap.size + l.length ≤ w.heap.size
  cell : ∀ q j v, (l[q]?.bind (·[j]?)) = some v → w.cell? ⟨W.heap.size + q, j, none⟩ = some v ∧ w.frozen? ⟨W.heap.size + q, j, none⟩ = false
theorem Bx.nil (W : World) : Bx W W [] := ⟨Below.refl _ _, by simp, fun q j v h => by simp at h⟩
theorem Bx.next {W w w' : World} {l : List (List Value)} (h : Bx W w l) (hb : Below w.heap.size w w') : Bx W w' l := by
  have h1 := h.lt
  have h2 := hb.size
  refine ⟨h.below.trans (hb.mono h.below.size), by omega, fun q j v hq => ?_⟩
  have hql : q < l.length := by
    rcases Nat.lt_or_ge q l.length with h | h
    · exact h
    · rw [List.getElem?_eq_none h] at hq
      cases hq
  obtain ⟨a, b⟩ := h.cell q j v hq
  exact ⟨(hb.cell (p := ⟨W.heap.size + q, j, none⟩) (by show W.heap.size + q < w.heap.size; omega)).trans a, (hb.frozen (p := ⟨W.heap.size + q, j, none⟩) (by show W.heap.size + q < w.heap.size; omega)).trans b⟩
theorem Bx.keep {W w w' : World} {l : List (List Value)} (h : Bx W w l) (hb : Below (W.heap.size + l.length) w w') : Bx W w' l := by
  have h1 := h.lt
  have h2 := hb.size
  refine ⟨h.below.trans (hb.mono (by omega)), by omega, fun q j v hq => ?_⟩
  have hql : q < l.length := by
    rcases Nat.lt_or_ge q l.length with h | h
    · exact h
    · rw [List.getElem?_eq_none h] at hq
      cases hq
  obtain ⟨a, b⟩ := h.cell q j v hq
  exact ⟨(hb.cell (p := ⟨W.heap.size + q, j, none⟩) (by show W.heap.size + q < W.heap.size + l.length; omega)).trans a, (hb.frozen (p := ⟨W.heap.size + q, j, none⟩) (by show W.heap.size + q < W.heap.size + l.length; omega)).trans b⟩
theorem Bx.alloc {W w : World} {l : List (List Value)} (h : Bx W w l) (hs : w.heap.size = W.heap.size + l.length) (vs : List Value) (e : TypeId) : Bx W (w.alloc (.cells vs.toArray e)) (l ++ [vs]) := by
  refine ⟨h.below.alloc h.below.size _, by simp; omega, fun q j v hq => ?_⟩
  by_cases hql : q < l.length
  · rw [List.getElem?_append_left hql] at hq
    obtain ⟨a, b⟩ := h.cell q j v hq
    have hb : Below w.heap.size w (w.alloc (.cells vs.toArray e)) := (Below.refl _ _).alloc (Nat.le_refl _) _
    exact ⟨(hb.cell (p := ⟨W.heap.size + q, j, none⟩) (by show W.heap.size + q < w.heap.size; omega)).trans a, (hb.frozen (p := ⟨W.heap.size + q, j, none⟩) (by show W.heap.size + q < w.heap.size; omega)).trans b⟩
  · rw [List.getElem?_append_right (by omega)] at hq
    have : q - l.length = 0 := by
      rcases Nat.eq_zero_or_pos (q - l.length) with e | e
      · exact e
      · rw [List.getElem?_eq_none (by simp; omega)] at hq
        cases hq
    rw [this] at hq
    have hq : vs[j]? = some v := by simpa using hq
    have hqe : W.heap.size + q = w.heap.size := by omega
    rw [hqe]
    exact ⟨(World.cell?_alloc_at _ _ _ _ rfl).trans (by simpa using hq), World.frozen?_alloc_at _ _ _ _ rfl⟩
theorem Bx.set {W w : World} {l : List (List Value)} (h : Bx W w l) (q j : Nat) (u v : Value) (hu : (l[q]?.bind (·[j]?)) = some u) : Bx W (w.setCell ⟨W.heap.size + q, j, none⟩ v) (l.modify q (·.set j v)) := by
  have hc := (h.cell q j u hu).1
  refine ⟨h.below.setCell (by show W.heap.size ≤ W.heap.size + q; omega) _, by have := h.lt; simpa using this, fun q' j' v' hq => ?_⟩
  rw [World.frozen?_setCell]
  by_cases e : q' = q ∧ j' = j
  · obtain ⟨rfl, rfl⟩ := e
    rw [List.getElem?_modify] at hq
    simp only [if_pos] at hq
    cases hl : l[q']? with
    | none => rw [hl] at hu; cases hu
    | some x =>
      rw [hl] at hq hu
      have hu : x[j']? = some u := by simpa using hu
      have hjl : j' < x.length := by
        rcases Nat.lt_or_ge j' x.length with h | h
        · exact h
        · rw [List.getElem?_eq_none h] at hu; cases hu
      have hq : v = v' := by simpa [hjl] using hq
      subst hq
      exact ⟨World.cell?_setCell_same _ _ _ hc, (h.cell q' j' u (by rw [hl]; simpa using hu)).2⟩
  · have hne : (⟨W.heap.size + q', j', none⟩ : Addr) ≠ ⟨W.heap.size + q, j, none⟩ := fun he => e (by injection he; omega)
    rw [World.cell?_setCell_other _ _ _ _ hne.symm]
    refine h.cell q' j' v' ?_
    rw [List.getElem?_modify] at hq
    by_cases e1 : q = q'
    · subst e1
      simp only [if_pos] at hq
      cases hl : l[q]? with
      | none => rw [hl] at hq; cases hq
      | some x =>
        rw [hl] at hq
        have hq : (x.set j v)[j']? = some v' := by simpa using hq
        rw [List.getElem?_set_ne (fun h => e ⟨rfl, h.symm⟩)] at hq
        simpa using hq
    · simpa [if_neg e1] using hq
def OffB (n k : Nat) (P : Nat → Prop) (b : Nat) : Prop := P b ∧ (b < n ∨ n + k ≤ b)
theorem OffB.new {n k : Nat} {P : Nat → Prop} (hP : ∀ b, n ≤ b → P b) {b : Nat} (h : n + k ≤ b) : OffB n k P b := ⟨hP b (by omega), Or.inr h⟩
def Cols (Q : Nat → Prop) (w : World) (gb : Nat) (cs : List Arr) : Prop := ∀ i, (h : i < cs.length) → ∃ so sn sc co cn cc, w.cell? ⟨gb, i * 2, none⟩ = some (.slice so sn sc) ∧ w.cell? ⟨gb, i * 2 + 1, none⟩ = some (.slice co cn cc) ∧ IsArr Q w (.agg #[.slice so sn sc, .slice co cn cc]) cs[i]
theorem Cols.below {Q : Nat → Prop} {w w' : World} {gb : Nat} {cs : List Arr} (h : Cols Q w gb cs) (hg : gb < w.heap.size) (hb : Below w.heap.size w w') : Cols Q w' gb cs := fun i hi => by
  obtain ⟨so, sn, sc, co, cn, cc, a, b, c⟩ := h i hi
  exact ⟨so, sn, sc, co, cn, cc, (hb.cell (p := ⟨gb, i * 2, none⟩) hg).trans a, (hb.cell (p := ⟨gb, i * 2 + 1, none⟩) hg).trans b, c.below hb⟩
theorem Cols.imp {P Q : Nat → Prop} {w : World} {gb : Nat} {cs : List Arr} (h : Cols P w gb cs) (hq : ∀ b, P b → b < w.heap.size → Q b) : Cols Q w gb cs := fun i hi => by
  obtain ⟨so, sn, sc, co, cn, cc, a, b, c⟩ := h i hi
  exact ⟨so, sn, sc, co, cn, cc, a, b, c.imp hq⟩
theorem Cols.take {P : Nat → Prop} {w : World} {gb : Nat} {cs : List Arr} (h : Cols P w gb cs) (k : Nat) : Cols P w gb (cs.take k) := fun i hi => by
  have hi' : i < cs.length := by simp at hi; omega
  obtain ⟨so, sn, sc, co, cn, cc, a, b, c⟩ := h i hi'
  exact ⟨so, sn, sc, co, cn, cc, a, b, by rw [List.getElem_take]; exact c⟩
end Go.Proofs.YtjobgpahajhbnabGreatDoor
namespace Go.Proofs.YtjobgpahajhbnabGreatDoor
open Go.RowKit Go.Proofs
attribute [local go_sem ↓] Go.wp_at_zero Go.wp_at_succ
theorem Jaw {f : Arr → Arr → Arr × Int} (hf : ∀ a b, a.ok → b.ok → (f a b).2 = 0 → (f a b).1.ok) : ∀ {l : List Arr}, l ≠ [] → (∀ c ∈ l, c.ok) → (Jl f l).2 = 0 → (Jl f l).1.ok
  | [], h, _, _ => absurd rfl h
  | c :: r, _, hl, h0 => by
    by_cases hr : r = []
    · subst hr
      rw [X7]
      exact hl c (by simp)
    · by_cases h1 : (Jl f r).2 = 0
      · have ih := Jaw hf hr (fun d hd => hl d (by simp [hd])) h1
        rw [Vq hr h1] at h0 ⊢
        by_cases h2 : (f c (Jl f r).1).2 = 0
        · rw [if_neg (by simp [h2])]
          exact hf _ _ (hl c (by simp)) ih h2
        · rw [if_pos h2] at h0
          exact absurd h0 h2
      · rw [Jl, if_neg hr, if_pos h1] at h0
        exact absurd h0 h1
theorem Yd {W w : World} {P : Nat → Prop} {k q : Nat} {v u0 u1 : Value} {a : Arr} (hb : Below W.heap.size W w) (hq : q < k) (hA : IsArr (OffB W.heap.size k P) w v a) : IsArr P ((w.setCell ⟨W.heap.size + q, 0, none⟩ u0).setCell ⟨W.heap.size + q, 1, none⟩ u1) v a ∧ Below W.heap.size W ((w.setCell ⟨W.heap.size + q, 0, none⟩ u0).setCell ⟨W.heap.size + q, 1, none⟩ u1) := by
  have hno : ¬ OffB W.heap.size k P (W.heap.size + q) := by
    rintro ⟨_, h⟩
    omega
  exact ⟨((hA.set hno 0 _).set hno 1 _).imp (fun b h _ => h.1), (hb.setCell (p := ⟨W.heap.size + q, 0, none⟩) (by show W.heap.size ≤ W.heap.size + q; omega) _).setCell (p := ⟨W.heap.size + q, 1, none⟩) (by show W.heap.size ≤ W.heap.size + q; omega) _⟩
set_option maxHeartbeats 2000000 in
set_option maxRecDepth 20000 in
theorem X8 {f : Arr → Arr → Arr × Int} {g : Nat} (z : Int) (hen : Enters Tryz.prog g) {w0 : World} (hfn : FnTwo g #[] w0 f) (P : Nat → Prop) (W : World) (hW : Below w0.heap.size w0 W) (hP : ∀ b, W.heap.size ≤ b → P b) (gb k cap : Nat) (cs : List Arr) (hk : cs.length = k) (hk0 : 0 < k) (hk2 : k ≤ 200) (hgb : gb < W.heap.size) (hC : Cols P W gb cs) (hok : ∀ c ∈ cs, c.ok) (hev : ∀ a b, a.ok → b.ok → (f a b).2 = 0 → (f a b).1.ok) :
    Calls Tryz.prog 149 #[.agg #[.func (.func g) #[] #[], .int .i64 z], .slice (some ⟨gb, 0, none⟩) k cap] W fun e W' => ∃ so sn sc co cn cc, e = .returned (.tuple #[.agg #[.slice so sn sc, .slice co cn cc], .int .i64 (Jl f cs).2]) ∧ IsArr P W' (.agg #[.slice so sn sc, .slice co cn cc]) (Jl f cs).1 ∧ Below W.heap.size W W' := by
  obtain ⟨q, rfl⟩ : ∃ q, k = q + 1 := ⟨k - 1, by omega⟩
  have hC' := hC.imp (Q := OffB W.heap.size 3 P) (fun b h hl => ⟨h, Or.inl hl⟩)
  obtain ⟨so, sn, sc, co, cn, cc, l0, l1, lA⟩ := hC' q (by omega)
  have HC := hide hC'
  have HLA := hide lA
  have HP := hide hP
  have HFn := hide hfn
  have HOk := hide hok
  have HEv := hide hev
  have HW := hide hW
  have hen2 : ∀ args w, (callFunc g args).run Tryz.prog w = .ok (.enter g args) w := hen
  have q0 : (0 : Int) ≤ (q : Int) := by omega
  have q1 : (q : Int) < ((q : Int) + 1) := by omega
  clear hC hC' lA hP hfn hok hev hW hen
  go_enter Tryz.func149, Tryz.ntmps149
  go_wp2_with fail
  have hstart := ((Bx.nil W).alloc (by simp) [.func (.func g) #[] #[], .int .i64 z] 143).alloc (by simp) [.slice none 0 0, .slice none 0 0] 57 |>.alloc (by simp) [.slice so sn sc, .slice co cn cc] 57
  have hbs : Below W.heap.size W (((W.alloc (.cells #[.func (.func g) #[] #[], .int .i64 z] 143)).alloc (.cells #[.slice none 0 0, .slice none 0 0] 57)).alloc (.cells #[.slice so sn sc, .slice co cn cc] 57)) := hstart.below
  obtain ⟨wS, hwS⟩ : ∃ wS, ((W.alloc (.cells #[.func (.func g) #[] #[], .int .i64 z] 143)).alloc (.cells #[.slice none 0 0, .slice none 0 0] 57)).alloc (.cells #[.slice so sn sc, .slice co cn cc] 57) = wS := ⟨_, rfl⟩
  have hstart : Bx W wS [[.func (.func g) #[] #[], .int .i64 z], [.slice none 0 0, .slice none 0 0], [.slice so sn sc, .slice co cn cc]] := by rw [← hwS]; exact hstart
  rw [hwS] at hbs ⊢
  have HSt := hide hstart
  have HLS := hide ((Ja HLA).below hbs)
  clear hwS hstart hbs HLA l0 l1
  go_loopw [8] (fun v8 wr => ∃ j : Nat, v8 = .int .i64 ((j : Int) - 1) ∧ j ≤ q ∧ ∃ so sn sc co cn cc, Bx W wr [[.func (.func g) #[] #[], .int .i64 z], [.slice none 0 0, .slice none 0 0], [.slice so sn sc, .slice co cn cc]] ∧ IsArr (OffB W.heap.size 3 P) wr (.agg #[.slice so sn sc, .slice co cn cc]) (Jl f (cs.drop j)).1 ∧ (Jl f (cs.drop j)).2 = 0) (fun v8 _ => (intOf v8 + 1).toNat)
  case atStart =>
    have e : cs.drop q = [cs[q]'(by omega)] := by
      rw [List.drop_eq_getElem_cons (by omega), List.drop_eq_nil_of_le (by omega)]
    refine ⟨q, rfl, by omega, so, sn, sc, co, cn, cc, Ja HSt, ?_, ?_⟩ <;> rw [e, X7]
    exact Ja HLS
  case round =>
    obtain ⟨j, rfl, hj, s1, s2, s3, c1, c2, c3, hX, hM, hM0⟩ := hrel
    have HX := hide hX
    have HM := hide hM
    have HM0 := hide hM0
    have m0 : wr.cell? ⟨W.heap.size + 1 + 1, 0, none⟩ = some (.slice s1 s2 s3) := (hX.cell 2 0 _ rfl).1
    have m1 : wr.cell? ⟨W.heap.size + 1 + 1, 1, none⟩ = some (.slice c1 c2 c3) := (hX.cell 2 1 _ rfl).1
    have hlt : W.heap.size + 1 + 1 + 1 ≤ wr.heap.size := hX.lt
    by_cases hj0 : j = 0
    · subst hj0
      have r0 : wr.cell? ⟨W.heap.size + 1, 0, none⟩ = some (.slice none 0 0) := (hX.cell 1 0 _ rfl).1
      have r1 : wr.cell? ⟨W.heap.size + 1, 1, none⟩ = some (.slice none 0 0) := (hX.cell 1 1 _ rfl).1
      have g0 : wr.frozen? ⟨W.heap.size + 1, 0, none⟩ = false := (hX.cell 1 0 _ rfl).2
      have g1 : wr.frozen? ⟨W.heap.size + 1, 1, none⟩ = false := (hX.cell 1 1 _ rfl).2
      have i0 : ¬ (0 : Int) ≤ ((0 : Nat) : Int) - 1 := by omega
      clear hX hM hM0
      go_wp2_with fail
      have hf2 := Yd (q := 1) (u0 := .slice s1 s2 s3) (u1 := .slice c1 c2 c3) (Ja HX).below (by decide) (Ja HM)
      have h0 := Ja HM0
      rw [List.drop_zero] at hf2 h0
      refine bodyPost_ret (v := .tuple #[.agg #[.slice s1 s2 s3, .slice c1 c2 c3], .int .i64 0]) (by simp [results, Tryz.results149, go_sem, r0, r1]) rfl ⟨s1, s2, s3, c1, c2, c3, by rw [h0], hf2.1, hf2.2⟩
    · obtain ⟨i, rfl⟩ : ∃ i, j = i + 1 := ⟨j - 1, by omega⟩
      have hji : ((i + 1 : Nat) : Int) - 1 = (i : Int) := by omega
      rw [hji]
      obtain ⟨t1, t2, t3, d1, d2, d3, k0, k1, hcol⟩ := (Ja HC) i (by omega)
      have hmem : cs[i]'(by omega) ∈ cs := List.getElem_mem _
      have hcok := Ja HOk _ hmem
      have hmok : (Jl f (cs.drop (i + 1))).1.ok := Jaw (Ja HEv) (by intro e; have := congrArg List.length e; simp at this; omega) (fun c hc => Ja HOk c (List.mem_of_mem_drop hc)) hM0
      have hdrop : cs.drop i = cs[i]'(by omega) :: cs.drop (i + 1) := List.drop_eq_getElem_cons (by omega)
      have hne : cs.drop (i + 1) ≠ [] := by intro e; have := congrArg List.length e; simp at this; omega
      have hch := Vq (f := f) (c := cs[i]'(by omega)) hne hM0
      rw [← hdrop] at hch
      have HCh := hide hch
      have HS : Hid (∀ w', Below wr.heap.size wr w' → w'.cell? ⟨W.heap.size, 0, none⟩ = some (.func (.func g) #[] #[]) ∧ w'.cell? ⟨gb, i * 2, none⟩ = some (.slice t1 t2 t3) ∧ w'.cell? ⟨gb, i * 2 + 1, none⟩ = some (.slice d1 d2 d3) ∧ w'.cell? ⟨W.heap.size + 1 + 1, 0, none⟩ = some (.slice s1 s2 s3) ∧ w'.cell? ⟨W.heap.size + 1 + 1, 1, none⟩ = some (.slice c1 c2 c3)) := hide (fun w' hb => by
        have hbb : Below W.heap.size W w' := (Ja HX).below.trans (hb.mono (by omega))
        have hX' := (Ja HX).next hb
        exact ⟨(hX'.cell 0 0 _ rfl).1, (hbb.cell (p := ⟨gb, i * 2, none⟩) hgb).trans k0, (hbb.cell (p := ⟨gb, i * 2 + 1, none⟩) hgb).trans k1, (hX'.cell 2 0 _ rfl).1, (hX'.cell 2 1 _ rfl).1⟩)
      obtain ⟨A, hA⟩ : ∃ A, cs[i]'(by omega) = A := ⟨_, rfl⟩
      obtain ⟨B, hB⟩ : ∃ B, (Jl f (cs.drop (i + 1))).1 = B := ⟨_, rfl⟩
      rw [hA] at hcol hcok HCh
      rw [hB] at hM hmok HCh
      have HCall : Hid (∀ w', Below wr.heap.size wr w' → Calls Tryz.prog g #[.agg #[.slice t1 t2 t3, .slice d1 d2 d3], .agg #[.slice s1 s2 s3, .slice c1 c2 c3]] w' fun e W' => ∃ so sn sc co cn cc, e = .returned (.tuple #[.agg #[.slice so sn sc, .slice co cn cc], .int .i64 (f A B).2]) ∧ IsArr (OffB W.heap.size 3 P) W' (.agg #[.slice so sn sc, .slice co cn cc]) (f A B).1 ∧ Below w'.heap.size w' W') := hide (fun w' hb => by
        have hbb : Below W.heap.size W w' := (Ja HX).below.trans (hb.mono (Ja HX).below.size)
        have hsz := hb.size
        exact Ja HFn w' (OffB W.heap.size 3 P) _ _ A B ((Ja HW).trans (hbb.mono (Ja HW).size)) (fun b h => OffB.new (Ja HP) (by omega)) (hcol.below hbb) (hM.below hb) hcok hmok)
      have f0 : wr.frozen? ⟨W.heap.size + 1 + 1, 0, none⟩ = false := (hX.cell 2 0 _ rfl).2
      have f1 : wr.frozen? ⟨W.heap.size + 1 + 1, 1, none⟩ = false := (hX.cell 2 1 _ rfl).2
      have i0 : (0 : Int) ≤ (i : Int) := by omega
      have i1 : (i : Int) < (q : Int) + 1 := by omega
      have hgr : gb < wr.heap.size := by omega
      have hwr : W.heap.size < wr.heap.size := by omega
      clear hX hM hM0 hcol hcok hmok hmem hch hdrop k0 k1 hA hB hne hji hj0
      go_wp2_with fail
      obtain ⟨z0, z1, z2, -, -⟩ := Ja HS wr (Below.refl _ _)
      go_region_with ((go_at_fn g; refine (Ja HCall _ (Below.refl _ _).drew).mono ?_; rintro e w5 ⟨s4, s5, s6, c4, c5, c6, rfl, hA5, hb5⟩; have HA5 := hide hA5; have HB5w := hide ((Below.refl wr.heap.size wr).drew.trans hb5); have HB5 : Hid (Below (W.heap.size + 1 + 1) wr w5) := hide ((Ja HB5w).mono (by omega)); have m0' := ((Ja HB5w).cell (p := ⟨W.heap.size + 1 + 1, 0, none⟩) (by show W.heap.size + 1 + 1 < wr.heap.size; omega)).trans m0; have m1' := ((Ja HB5w).cell (p := ⟨W.heap.size + 1 + 1, 1, none⟩) (by show W.heap.size + 1 + 1 < wr.heap.size; omega)).trans m1; have f0' := ((Ja HB5w).frozen (p := ⟨W.heap.size + 1 + 1, 0, none⟩) (by show W.heap.size + 1 + 1 < wr.heap.size; omega)).trans f0; have f1' := ((Ja HB5w).frozen (p := ⟨W.heap.size + 1 + 1, 1, none⟩) (by show W.heap.size + 1 + 1 < wr.heap.size; omega)).trans f1; clear hA5 hb5))
      all_goals
        have HX5 : Hid (Bx W ((w5.setCell ⟨W.heap.size + 1 + 1, 0, none⟩ (.slice s4 s5 s6)).setCell ⟨W.heap.size + 1 + 1, 1, none⟩ (.slice c4 c5 c6)) [[.func (.func g) #[] #[], .int .i64 z], [.slice none 0 0, .slice none 0 0], [.slice s4 s5 s6, .slice c4 c5 c6]]) := hide ((((Ja HX).next (Ja HB5w)).set 2 0 _ (.slice s4 s5 s6) rfl).set 2 1 _ (.slice c4 c5 c6) rfl)
        have hno : ¬ OffB W.heap.size 3 P (W.heap.size + 1 + 1) := by rintro ⟨_, h⟩; omega
        have HA6 := hide (((Ja HA5).set hno 0 (.slice s4 s5 s6)).set hno 1 (.slice c4 c5 c6))
        obtain ⟨w6, hw6⟩ : ∃ w6, (w5.setCell ⟨W.heap.size + 1 + 1, 0, none⟩ (.slice s4 s5 s6)).setCell ⟨W.heap.size + 1 + 1, 1, none⟩ (.slice c4 c5 c6) = w6 := ⟨_, rfl⟩
        rw [hw6] at HX5 HA6 ⊢
        clear hw6 hno m0 m1 f0 f1 m0' m1' f0' f1' HA5 HB5 HB5w HS HCall HX z0 z1 z2
        by_cases he : (f A B).2 = 0
        · rw [he]
          have hch := Ja HCh
          rw [if_neg (by simp [he])] at hch
          have HCh2 := hide hch
          have HE := hide he
          clear hch HCh he
          go_wp2_with fail
          go_roundw
          case rel => exact ⟨i, by go_num, by omega, s4, s5, s6, c4, c5, c6, Ja HX5, by rw [Ja HCh2]; exact Ja HA6, by rw [Ja HCh2]; exact Ja HE⟩
          case measure => simp [intOf]
        · have hch := Ja HCh
          rw [if_pos he] at hch
          have hall := Jax (f := f) he (p := cs.take i) (r := cs.drop i) (by intro e; have := congrArg List.length e; simp at this; omega) hch
          rw [List.take_append_drop] at hall
          have HAll := hide hall
          obtain ⟨er, her⟩ : ∃ er, (f A B).2 = er := ⟨_, rfl⟩
          rw [her] at he HAll ⊢
          have he2 : (er != 0) = true := by simpa using he
          have r0 : w6.cell? ⟨W.heap.size + 1, 0, none⟩ = some (.slice none 0 0) := ((Ja HX5).cell 1 0 _ rfl).1
          have r1 : w6.cell? ⟨W.heap.size + 1, 1, none⟩ = some (.slice none 0 0) := ((Ja HX5).cell 1 1 _ rfl).1
          have g0 : w6.frozen? ⟨W.heap.size + 1, 0, none⟩ = false := ((Ja HX5).cell 1 0 _ rfl).2
          have g1 : w6.frozen? ⟨W.heap.size + 1, 1, none⟩ = false := ((Ja HX5).cell 1 1 _ rfl).2
          clear hch hall HCh he her HA6
          go_wp2_with fail
          have hf2 := Yd (q := 1) (P := P) (k := 3) (a := eArr) (u0 := .slice none 0 0) (u1 := .slice none 0 0) (Ja HX5).below (by decide) (Yb _ _)
          refine bodyPost_ret (v := .tuple #[.agg #[.slice none 0 0, .slice none 0 0], .int .i64 er]) (by simp [results, Tryz.results149, go_sem, r0, r1]) rfl ⟨none, 0, 0, none, 0, 0, by rw [Ja HAll], by rw [Ja HAll]; exact hf2.1, hf2.2⟩
end Go.Proofs.YtjobgpahajhbnabGreatDoor
namespace Go.Proofs.YtjobgpahajhbnabGreatDoor
open Go.RowKit Go.Proofs
attribute [local go_sem ↓] Go.wp_at_zero Go.wp_at_succ
theorem Tryz.info57 : (Tryz.prog.info? 57).map (fun i => (i.zero, i.size, i.bytes)) = some (some (.agg #[.slice none 0 0, .slice none 0 0]), 2, 48) := by kernel_rfl
theorem Jj4 (z : Value) (n : Nat) : (madeCells #[z, z] n).toList = List.replicate n z := by
  apply List.ext_getElem?
  intro j
  by_cases hj : j < n
  · have h2 : j % 2 < 2 := Nat.mod_lt _ (by decide)
    simp [madeCells, hj]
    have : j % 2 = 0 ∨ j % 2 = 1 := by omega
    rcases this with e | e <;> simp [e]
  · simp [madeCells, hj]
theorem Nk {ops : Array Oper} {o : Oper} {a : Act} {w : World} {K : Act → World → Prop} {Q : Exit → Act → World → Prop} {E : Prop} (hg : o.guard = none) (s x : Operand) (hop : o.op = Op.call { callee := Callee.builtin Builtin.append, args := #[s, x], argTypes := #[32, 32] }) (hty : o.type = 32)
    {B : Nat} {v : Value} {xs : List Int} (h : OwnL B w v xs) (hx : xs.length ≤ 1000) (hB : B ≤ w.heap.size) (y : Int) (hs : a.eval s = v) (hv : a.eval x = .slice (some ⟨w.heap.size, 0, none⟩) 1 1)
    (hK : ∀ v' w', OwnL B w' v' (xs ++ [y]) → Grew B w v v' w' → K (a.put o.dst v') w') : if Region.wanted o (yielded ops a.tmps) = true then Oper.wp Tryz.prog o a (w.alloc (.cells #[.int .i64 y] 2)) K Q else E := by
  have hw : Region.wanted o (yielded ops a.tmps) = true := by simp [Region.wanted, hg]
  rw [if_pos hw]
  obtain ⟨v', w', hrun, h1, h2⟩ := app1 h hx hB y
  unfold Oper.wp
  simp [execOp, hop, hty, resolve, invoke, builtin, hs, hv, hrun, Result.andThen]
  exact hK v' w' h1 h2
structure Into (g c : Nat) (w w' : World) : Prop where
  bs : Bs (fun b => b = g) w w'
  cell : ∀ j, j ≠ c → w'.cell? ⟨g, j, none⟩ = w.cell? ⟨g, j, none⟩
  fr : ∀ j, w'.frozen? ⟨g, j, none⟩ = w.frozen? ⟨g, j, none⟩
theorem Into.refl (g c : Nat) (w : World) : Into g c w w := ⟨Bs.of (Below.refl _ _), fun _ _ => rfl, fun _ => rfl⟩
theorem Into.below {g c n : Nat} {w w1 w2 : World} (h : Into g c w w1) (hg : g < n) (hn : w.heap.size ≤ n) (hb : Below n w1 w2) : Into g c w w2 :=
  ⟨⟨hb.os.trans h.bs.os, hb.tape.trans h.bs.tape, hb.output.trans h.bs.output, Nat.le_trans h.bs.size hb.size, fun k hk hne => (hb.block k (by omega)).trans (h.bs.block k hk hne)⟩, fun j hj => (hb.cell (p := ⟨g, j, none⟩) hg).trans (h.cell j hj), fun j => (hb.frozen (p := ⟨g, j, none⟩) hg).trans (h.fr j)⟩
theorem Into.set {g c : Nat} {w w1 : World} (h : Into g c w w1) (v : Value) : Into g c w (w1.setCell ⟨g, c, none⟩ v) :=
  ⟨⟨h.bs.os, h.bs.tape, h.bs.output, by simpa using h.bs.size, fun k hk hne => (RowKit.Below.heap_setCell _ _ _ _ (by intro e; exact hne e)).trans (h.bs.block k hk hne)⟩, fun j hj => (World.cell?_setCell_other _ _ _ _ (by intro e; injection e with _ e2; exact hj e2.symm)).trans (h.cell j hj), fun j => (World.frozen?_setCell ..).trans (h.fr j)⟩
end Go.Proofs.YtjobgpahajhbnabGreatDoor
