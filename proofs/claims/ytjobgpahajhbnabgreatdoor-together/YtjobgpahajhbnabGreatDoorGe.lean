import Derived.Test.YtjobgpahajhbnabGreatDoorGc
import Derived.Deep.CutRange
namespace Go.Proofs.YtjobgpahajhbnabGreatDoor
open Go.RowKit Go.Proofs
attribute [local go_sem ↓] Go.wp_at_zero Go.wp_at_succ
set_option maxHeartbeats 8000000 in
set_option maxRecDepth 20000 in
theorem Ji2 (g n b3 b2 cap a m b : Nat) (W0 : World) (cf : Int → Int → Int) (hC : CmpC g n b3 b2 W0 cf) (hn : n ≤ 1000) (ham : m = a + 1) (hmb : m < b) (hb : b ≤ n) (W : World) (d : List Int) (hS : SAt g n W0 W d) :
    Calls Tryz.prog 220 #[.slice (some ⟨g, 0, none⟩) n cap, .int .i64 a, .int .i64 m, .int .i64 b, .func (.func 201) #[] #[.pointer (some ⟨b3, 0, none⟩), .pointer (some ⟨b2, 0, none⟩)]] W fun e W' => e = .returned (.tuple #[]) ∧ SAt g n W0 W' (shUp (bsF (fun h => decide (cf (d.getD h 0) (d.getD a 0) < 0)) m b - 1 - a) a d) := by
  have HC := hide hC
  have HS := hide hS
  obtain ⟨P, hP⟩ : ∃ P : Nat → Bool, (fun h => decide (cf (d.getD h 0) (d.getD a 0) < 0)) = P := ⟨_, rfl⟩
  rw [hP]
  obtain ⟨B, hB⟩ : ∃ B, bsF P m b = B := ⟨_, rfl⟩
  rw [hB]
  have HPr := hide hP
  have HB := hide hB
  have hrng := Kz (p := P) (b - m) (i := m) (j := b) (Nat.le_refl _) (by omega)
  rw [hB] at hrng
  obtain ⟨hB1, hB2⟩ := hrng
  obtain ⟨R, hR⟩ : ∃ R, shUp (B - 1 - a) a d = R := ⟨_, rfl⟩
  rw [hR]
  have HR := hide hR
  have hw0 : IntKind.i64.wrap ((m : Int) - (a : Int)) = 1 := by
    have e : (m : Int) - (a : Int) = ((1 : Nat) : Int) := by omega
    rw [e]
    exact Jd (by omega) (by omega)
  have hal : a < m := by omega
  have HAM := hide ham
  clear hC hS hP hB hR ham
  go_enter Tryz.func220, Tryz.ntmps220
  go_wp2_with fail
  go_loopw [10, 11] (fun v10 v11 wr => ∃ (i j : Nat), v10 = .int .i64 i ∧ v11 = .int .i64 j ∧ m ≤ i ∧ i ≤ j ∧ j ≤ b ∧ SAt g n W0 wr d ∧ Hid (bsF P i j = B)) (fun v10 v11 _ => (intOf v11).toNat - (intOf v10).toNat)
  case atStart => exact ⟨m, b, by first | rfl | go_num, by first | rfl | go_num, by omega, by omega, by omega, Ja HS, HB⟩
  case round =>
    obtain ⟨i, j, rfl, rfl, hmi, hij, hjb, hS, hE⟩ := hrel
    rename World => wr
    have HSx := hide hS
    by_cases hlt : i < j
    · have i0 : (i : Int) < (j : Int) := by omega
      obtain ⟨h, hh⟩ : ∃ h, (i + j) / 2 = h := ⟨_, rfl⟩
      have hih : i ≤ h := by omega
      have hhj : h < j := by omega
      have hhd : ((i : Int) + (j : Int)) / 2 = (h : Int) := by omega
      have hfn : h < n := by omega
      have hsn : a < n := by omega
      have c1 := (hS.row (h) hfn).1
      have c2 := (hS.row (a) hsn).1
      have hcall := Ja HC wr.drew hS.only.drew (d.getD (h) 0) (d.getD (a) 0) (hS.inr.at hfn) (hS.inr.at hsn)
      have hPh := congrFun (Ja HPr) h
      obtain ⟨x, hx⟩ : ∃ x, d.getD (h) 0 = x := ⟨_, rfl⟩
      obtain ⟨y, hy⟩ : ∃ y, d.getD (a) 0 = y := ⟨_, rfl⟩
      simp only [hx, hy] at hcall hPh
      rw [hx] at c1
      rw [hy] at c2
      obtain ⟨z, hz⟩ : ∃ z, cf x y = z := ⟨_, rfl⟩
      rw [hz] at hcall hPh
      have HCall := hide hcall
      have HX := hide hx
      have HY := hide hy
      have HPh := hide hPh
      have HH := hide hh
      have HFn := hide hfn
      have HSn := hide hsn
      have hgl := hS.lt
      have f0 : (0 : Int) ≤ ((h : Nat) : Int) := by omega
      have f1 : ((h : Nat) : Int) < (n : Int) := by omega
      have s0 : (0 : Int) ≤ ((a : Nat) : Int) := by omega
      have s1 : ((a : Nat) : Int) < (n : Int) := by omega
      clear hS hx hy hz hcall hPh hh hfn hsn
      go_wp2_with fail
      go_region_held3 (fun w' => w'.cell? ⟨g, h, none⟩ = some (.int .i64 x) ∧ w'.cell? ⟨g, a, none⟩ = some (.int .i64 y))
        (first
          | exact ⟨c1, c2⟩
          | exact ⟨by rw [← Ja HX]; exact ((Ja HS5).row _ (Ja HFn)).1, by rw [← Ja HY]; exact ((Ja HS5).row _ (Ja HSn)).1⟩
          | (trace_state; fail))
        ((go_at_call 201; refine (Ja HCall).mono ?_; rintro e w5 ⟨rfl, hb5, hg5⟩; have HS5 := hide ((Ja HSx).drew.next hb5 hg5); clear hb5 hg5))
      clear c1 c2
      by_cases hz0 : z < 0
      · have HE2 : Hid (bsF P (h + 1) j = B) := hide (by
          have h1 := Ja hE
          have h2 := Ja HPh
          have h3 := Ja HH
          rw [Nc hlt (by rw [h3, ← h2]; simp; omega), h3] at h1
          exact h1)
        have hz2 : (!decide (z < 0)) = false := by simp [hz0]
        try rw [hz2]
        clear hE HPh HH hhd hz2
        go_wp2_with fail
        go_roundw
        case rel => exact ⟨h + 1, j, by first | rfl | go_num, by first | rfl | go_num, by omega, by omega, by omega, Ja HS5, HE2⟩
        case measure => simp [intOf]; omega
      · have HE2 : Hid (bsF P i h = B) := hide (by
          have h1 := Ja hE
          have h2 := Ja HPh
          have h3 := Ja HH
          rw [Jda hlt (by rw [h3, ← h2]; simp; omega), h3] at h1
          exact h1)
        have hz2 : (!decide (z < 0)) = true := by simp; omega
        try rw [hz2]
        clear hE HPh HH hhd hz2
        go_wp2_with fail
        go_roundw
        case rel => exact ⟨i, h, by first | rfl | go_num, by first | rfl | go_num, by omega, by omega, by omega, Ja HS5, HE2⟩
        case measure => simp [intOf]; omega
    · have hBi : i = B := by
        have h1 := Ja hE
        rw [Va hlt] at h1
        exact h1
      subst hBi
      have i0 : ¬ (i : Int) < (j : Int) := by omega
      obtain ⟨i1, hi1⟩ : ∃ i1, i - 1 = i1 := ⟨_, rfl⟩
      have hwi : IntKind.i64.wrap ((i : Int) - 1) = (i1 : Int) := by
        have e : (i : Int) - 1 = (i1 : Int) := by omega
        rw [e]
        exact Jd (by omega) (by omega)
      clear hS hE
      go_wp2_with fail
      go_loopw [13] (fun v13 wx => ∃ (k : Nat) (d : List Int), v13 = .int .i64 k ∧ a ≤ k ∧ k ≤ i - 1 ∧ SAt g n W0 wx d ∧ Hid (shUp (i - 1 - k) k d = R)) (fun v13 _ => i - 1 - (intOf v13).toNat)
      case atStart => exact ⟨a, d, rfl, by omega, by omega, Ja HSx, HR⟩
      case round =>
        obtain ⟨k, d, rfl, hk1, hk2, hS2, hE2⟩ := hrel
        rename World => wx
        have HS2 := hide hS2
        by_cases hk : k < i - 1
        · obtain ⟨q, hq⟩ : ∃ q, k + 1 = q := ⟨_, rfl⟩
          have HE3 : Hid (shUp (i - 1 - q) q (Zi d k q) = R) := hide (by
            have h1 := Ja hE2
            rw [show i - 1 - k = (i - 1 - q) + 1 by omega, shUp, hq] at h1
            exact h1)
          have hkn : k < n := by omega
          have hqn : q < n := by omega
          have c1 := (hS2.row k hkn).1
          have c2 := (hS2.row q hqn).1
          have f1 := (hS2.row k hkn).2
          have f2 := (hS2.row q hqn).2
          have hgl := hS2.lt
          obtain ⟨x, hx⟩ : ∃ x, d.getD k 0 = x := ⟨_, rfl⟩
          obtain ⟨y, hy⟩ : ∃ y, d.getD q 0 = y := ⟨_, rfl⟩
          rw [hx] at c1
          rw [hy] at c2
          have HS6 : Hid (SAt g n W0 ((wx.setCell ⟨g, k, none⟩ (.int .i64 y)).setCell ⟨g, q, none⟩ (.int .i64 x)).drew (Zi d k q)) := hide (by
            have h1 := hS2.swap hkn hqn
            rw [hx, hy] at h1
            exact h1.drew)
          have hwq : IntKind.i64.wrap ((k : Int) + 1) = (q : Int) := by
            have e : (k : Int) + 1 = (q : Int) := by omega
            rw [e]
            exact Jd (by omega) (by omega)
          have HQ := hide hq
          have g0 : (k : Int) < (i1 : Int) := by omega
          have k0 : (0 : Int) ≤ (k : Int) := by omega
          have k1 : (k : Int) < (n : Int) := by omega
          have q0 : (0 : Int) ≤ (q : Int) := by omega
          have q1 : (q : Int) < (n : Int) := by omega
          have nkq : k ≠ q := by omega
          have nqk : q ≠ k := by omega
          clear hS2 hE2 hx hy hq
          go_wp2_with fail
          go_region
          go_wp2_with fail
          go_roundw
          case rel => exact ⟨q, Zi d k q, by first | rfl | go_num, by have := Ja HQ; omega, by have := Ja HQ; omega, Ja HS6, HE3⟩
          case measure => simp [intOf]; have := Ja HQ; omega
        · have he : d = R := by
            have h1 := Ja hE2
            rw [show i - 1 - k = 0 by omega, shUp] at h1
            exact h1
          subst he
          have g0 : ¬ (k : Int) < (i1 : Int) := by omega
          clear hS2 hE2
          go_wp2_with fail
          exact bodyPost_ret (v := .tuple #[]) (by simp [results, Tryz.results220, go_sem]) rfl ⟨rfl, Ja HS2⟩
set_option maxHeartbeats 8000000 in
set_option maxRecDepth 20000 in
theorem Ji1 (g n b3 b2 cap a m b : Nat) (W0 : World) (cf : Int → Int → Int) (hC : CmpC g n b3 b2 W0 cf) (hn : n ≤ 1000) (ham : m ≠ a + 1) (hal : a < m) (hmb : b = m + 1) (hb : b ≤ n) (W : World) (d : List Int) (hS : SAt g n W0 W d) :
    Calls Tryz.prog 220 #[.slice (some ⟨g, 0, none⟩) n cap, .int .i64 a, .int .i64 m, .int .i64 b, .func (.func 201) #[] #[.pointer (some ⟨b3, 0, none⟩), .pointer (some ⟨b2, 0, none⟩)]] W fun e W' => e = .returned (.tuple #[]) ∧ SAt g n W0 W' (shDn (m - bsF (fun h => decide (¬ cf (d.getD m 0) (d.getD h 0) < 0)) a m) m d) := by
  have HC := hide hC
  have HS := hide hS
  obtain ⟨P, hP⟩ : ∃ P : Nat → Bool, (fun h => decide (¬ cf (d.getD m 0) (d.getD h 0) < 0)) = P := ⟨_, rfl⟩
  rw [hP]
  obtain ⟨B, hB⟩ : ∃ B, bsF P a m = B := ⟨_, rfl⟩
  rw [hB]
  have HPr := hide hP
  have HB := hide hB
  have hrng := Kz (p := P) (m - a) (i := a) (j := m) (Nat.le_refl _) (by omega)
  rw [hB] at hrng
  obtain ⟨hB1, hB2⟩ := hrng
  obtain ⟨R, hR⟩ : ∃ R, shDn (m - B) m d = R := ⟨_, rfl⟩
  rw [hR]
  have HR := hide hR
  obtain ⟨ma, hma⟩ : ∃ ma, m - a = ma := ⟨_, rfl⟩
  have hw0 : IntKind.i64.wrap ((m : Int) - (a : Int)) = (ma : Int) := by
    have e : (m : Int) - (a : Int) = (ma : Int) := by omega
    rw [e]
    exact Jd (by omega) (by omega)
  have hm1 : ((ma : Int) == 1) = false := beq_false_of_ne (by omega)
  have hw1 : IntKind.i64.wrap ((b : Int) - (m : Int)) = 1 := by
    have e : (b : Int) - (m : Int) = ((1 : Nat) : Int) := by omega
    rw [e]
    exact Jd (by omega) (by omega)
  have hmn : m < n := by omega
  clear hC hS hP hB hR ham hmb hma
  go_enter Tryz.func220, Tryz.ntmps220
  go_wp2_with fail
  go_loopw [14, 15] (fun v14 v15 wr => ∃ (i j : Nat), v14 = .int .i64 i ∧ v15 = .int .i64 j ∧ a ≤ i ∧ i ≤ j ∧ j ≤ m ∧ SAt g n W0 wr d ∧ Hid (bsF P i j = B)) (fun v14 v15 _ => (intOf v15).toNat - (intOf v14).toNat)
  case atStart => exact ⟨a, m, by first | rfl | go_num, by first | rfl | go_num, by omega, by omega, by omega, Ja HS, HB⟩
  case round =>
    obtain ⟨i, j, rfl, rfl, hmi, hij, hjb, hS, hE⟩ := hrel
    rename World => wr
    have HSx := hide hS
    by_cases hlt : i < j
    · have i0 : (i : Int) < (j : Int) := by omega
      obtain ⟨h, hh⟩ : ∃ h, (i + j) / 2 = h := ⟨_, rfl⟩
      have hih : i ≤ h := by omega
      have hhj : h < j := by omega
      have hhd : ((i : Int) + (j : Int)) / 2 = (h : Int) := by omega
      have hfn : m < n := by omega
      have hsn : h < n := by omega
      have c1 := (hS.row (m) hfn).1
      have c2 := (hS.row (h) hsn).1
      have hcall := Ja HC wr.drew hS.only.drew (d.getD (m) 0) (d.getD (h) 0) (hS.inr.at hfn) (hS.inr.at hsn)
      have hPh := congrFun (Ja HPr) h
      obtain ⟨x, hx⟩ : ∃ x, d.getD (m) 0 = x := ⟨_, rfl⟩
      obtain ⟨y, hy⟩ : ∃ y, d.getD (h) 0 = y := ⟨_, rfl⟩
      simp only [hx, hy] at hcall hPh
      rw [hx] at c1
      rw [hy] at c2
      obtain ⟨z, hz⟩ : ∃ z, cf x y = z := ⟨_, rfl⟩
      rw [hz] at hcall hPh
      have HCall := hide hcall
      have HX := hide hx
      have HY := hide hy
      have HPh := hide hPh
      have HH := hide hh
      have HFn := hide hfn
      have HSn := hide hsn
      have hgl := hS.lt
      have f0 : (0 : Int) ≤ ((m : Nat) : Int) := by omega
      have f1 : ((m : Nat) : Int) < (n : Int) := by omega
      have s0 : (0 : Int) ≤ ((h : Nat) : Int) := by omega
      have s1 : ((h : Nat) : Int) < (n : Int) := by omega
      clear hS hx hy hz hcall hPh hh hfn hsn
      go_wp2_with fail
      go_region_held3 (fun w' => w'.cell? ⟨g, m, none⟩ = some (.int .i64 x) ∧ w'.cell? ⟨g, h, none⟩ = some (.int .i64 y))
        (first
          | exact ⟨c1, c2⟩
          | exact ⟨by rw [← Ja HX]; exact ((Ja HS5).row _ (Ja HFn)).1, by rw [← Ja HY]; exact ((Ja HS5).row _ (Ja HSn)).1⟩
          | (trace_state; fail))
        ((go_at_call 201; refine (Ja HCall).mono ?_; rintro e w5 ⟨rfl, hb5, hg5⟩; have HS5 := hide ((Ja HSx).drew.next hb5 hg5); clear hb5 hg5))
      clear c1 c2
      by_cases hz0 : z < 0
      · have HE2 : Hid (bsF P i h = B) := hide (by
          have h1 := Ja hE
          have h2 := Ja HPh
          have h3 := Ja HH
          rw [Jda hlt (by rw [h3, ← h2]; simp; omega), h3] at h1
          exact h1)
        have hz2 : (!decide (z < 0)) = false := by simp [hz0]
        try rw [hz2]
        clear hE HPh HH hhd hz2
        go_wp2_with fail
        go_roundw
        case rel => exact ⟨i, h, by first | rfl | go_num, by first | rfl | go_num, by omega, by omega, by omega, Ja HS5, HE2⟩
        case measure => simp [intOf]; omega
      · have HE2 : Hid (bsF P (h + 1) j = B) := hide (by
          have h1 := Ja hE
          have h2 := Ja HPh
          have h3 := Ja HH
          rw [Nc hlt (by rw [h3, ← h2]; simp; omega), h3] at h1
          exact h1)
        have hz2 : (!decide (z < 0)) = true := by simp; omega
        try rw [hz2]
        clear hE HPh HH hhd hz2
        go_wp2_with fail
        go_roundw
        case rel => exact ⟨h + 1, j, by first | rfl | go_num, by first | rfl | go_num, by omega, by omega, by omega, Ja HS5, HE2⟩
        case measure => simp [intOf]; omega
    · have hBi : i = B := by
        have h1 := Ja hE
        rw [Va hlt] at h1
        exact h1
      subst hBi
      have i0 : ¬ (i : Int) < (j : Int) := by omega
      clear hS hE
      go_wp2_with fail
      go_loopw [17] (fun v17 wx => ∃ (k : Nat) (d : List Int), v17 = .int .i64 k ∧ i ≤ k ∧ k ≤ m ∧ SAt g n W0 wx d ∧ Hid (shDn (k - i) k d = R)) (fun v17 _ => (intOf v17).toNat)
      case atStart => exact ⟨m, d, rfl, by omega, by omega, Ja HSx, HR⟩
      case round =>
        obtain ⟨k, d, rfl, hk1, hk2, hS2, hE2⟩ := hrel
        rename World => wx
        have HS2 := hide hS2
        by_cases hk : i < k
        · obtain ⟨q, hq⟩ : ∃ q, k - 1 = q := ⟨_, rfl⟩
          have HE3 : Hid (shDn (q - i) q (Zi d k q) = R) := hide (by
            have h1 := Ja hE2
            rw [show k - i = (q - i) + 1 by omega, shDn, hq] at h1
            exact h1)
          have hkn : k < n := by omega
          have hqn : q < n := by omega
          have c1 := (hS2.row k hkn).1
          have c2 := (hS2.row q hqn).1
          have f1 := (hS2.row k hkn).2
          have f2 := (hS2.row q hqn).2
          have hgl := hS2.lt
          obtain ⟨x, hx⟩ : ∃ x, d.getD k 0 = x := ⟨_, rfl⟩
          obtain ⟨y, hy⟩ : ∃ y, d.getD q 0 = y := ⟨_, rfl⟩
          rw [hx] at c1
          rw [hy] at c2
          have HS6 : Hid (SAt g n W0 ((wx.setCell ⟨g, k, none⟩ (.int .i64 y)).setCell ⟨g, q, none⟩ (.int .i64 x)).drew (Zi d k q)) := hide (by
            have h1 := hS2.swap hkn hqn
            rw [hx, hy] at h1
            exact h1.drew)
          have hwq : IntKind.i64.wrap ((k : Int) - 1) = (q : Int) := by
            have e : (k : Int) - 1 = (q : Int) := by omega
            rw [e]
            exact Jd (by omega) (by omega)
          have HQ := hide hq
          have g0 : (i : Int) < (k : Int) := by omega
          have k0 : (0 : Int) ≤ (k : Int) := by omega
          have k1 : (k : Int) < (n : Int) := by omega
          have q0 : (0 : Int) ≤ (q : Int) := by omega
          have q1 : (q : Int) < (n : Int) := by omega
          have nkq : k ≠ q := by omega
          have nqk : q ≠ k := by omega
          clear hS2 hE2 hx hy hq
          go_wp2_with fail
          go_region
          go_wp2_with fail
          go_roundw
          case rel => exact ⟨q, Zi d k q, by first | rfl | go_num, by have := Ja HQ; omega, by have := Ja HQ; omega, Ja HS6, HE3⟩
          case measure => simp [intOf]; have := Ja HQ; omega
        · have he : d = R := by
            have h1 := Ja hE2
            rw [show k - i = 0 by omega, shDn] at h1
            exact h1
          subst he
          have g0 : ¬ (i : Int) < (k : Int) := by omega
          clear hS2 hE2
          go_wp2_with fail
          exact bodyPost_ret (v := .tuple #[]) (by simp [results, Tryz.results220, go_sem]) rfl ⟨rfl, Ja HS2⟩
end Go.Proofs.YtjobgpahajhbnabGreatDoor
