import Derived.Test.YtjobgpahajhbnabGreatDoorGe
import Derived.Deep.CutRange
namespace Go.Proofs.YtjobgpahajhbnabGreatDoor
open Go.RowKit Go.Proofs
attribute [local go_sem ↓] Go.wp_at_zero Go.wp_at_succ
theorem Jcg {cf : Int → Int → Int} {f a m b : Nat} {d : List Int} (h1 : m ≠ a + 1) (h2 : b ≠ m + 1) : symP cf (f + 1) a m b d = (let s := Qi cf a m b d
    let e := (a + b) / 2 + m - s
    let d1 := if s < m ∧ m < e then rotF s m e d else d
    let d2 := if a < s ∧ s < (a + b) / 2 then symP cf f a s ((a + b) / 2) d1 else d1
    if (a + b) / 2 < e ∧ e < b then symP cf f ((a + b) / 2) e b d2 else d2) := by
  rw [symP, if_neg h1, if_neg h2]
set_option maxHeartbeats 8000000 in
set_option maxRecDepth 20000 in
theorem Ji0 (g n b3 b2 cap f a m b : Nat) (W0 : World) (cf : Int → Int → Int) (hC : CmpC g n b3 b2 W0 cf) (hn : n ≤ 1000) (hI : ∀ (a m b : Nat) (W : World) (d : List Int), a < m → m < b → b ≤ n → b - a ≤ f → SAt g n W0 W d → Calls Tryz.prog 220 #[.slice (some ⟨g, 0, none⟩) n cap, .int .i64 a, .int .i64 m, .int .i64 b, .func (.func 201) #[] #[.pointer (some ⟨b3, 0, none⟩), .pointer (some ⟨b2, 0, none⟩)]] W fun e W' => e = .returned (.tuple #[]) ∧ SAt g n W0 W' (symP cf f a m b d)) (hal : a + 1 < m) (hmb : m + 1 < b) (hb : b ≤ n) (hf : b - a ≤ f + 1) (W : World) (d : List Int) (hS : SAt g n W0 W d) :
    Calls Tryz.prog 220 #[.slice (some ⟨g, 0, none⟩) n cap, .int .i64 a, .int .i64 m, .int .i64 b, .func (.func 201) #[] #[.pointer (some ⟨b3, 0, none⟩), .pointer (some ⟨b2, 0, none⟩)]] W fun e W' => e = .returned (.tuple #[]) ∧ SAt g n W0 W' (symP cf (f + 1) a m b d) := by
  have HC := hide hC
  have HI := hide hI
  have HS := hide hS
  obtain ⟨mid, hmid⟩ : ∃ mid, (a + b) / 2 = mid := ⟨_, rfl⟩
  have hm1 : a < mid := by omega
  have hm2 : mid < b := by omega
  have hmd : 2 * mid ≤ a + b := by omega
  obtain ⟨P, hP⟩ : ∃ P : Nat → Bool, (fun c => decide (¬ cf (d.getD (mid + m - 1 - c) 0) (d.getD c 0) < 0)) = P := ⟨_, rfl⟩
  obtain ⟨lo, hlo⟩ : ∃ lo, (if mid < m then mid + m - b else a) = lo := ⟨_, rfl⟩
  obtain ⟨hi, hhi⟩ : ∃ hi, (if mid < m then mid else m) = hi := ⟨_, rfl⟩
  have hq : a ≤ lo ∧ lo ≤ hi ∧ hi ≤ m ∧ hi ≤ mid ∧ mid + m ≤ lo + b := by
    by_cases h : mid < m
    · rw [if_pos h] at hlo hhi; omega
    · rw [if_neg h] at hlo hhi; omega
  obtain ⟨q1, q2, q3, q4, q5⟩ := hq
  obtain ⟨B, hB⟩ : ∃ B, bsF P lo hi = B := ⟨_, rfl⟩
  have hst : Qi cf a m b d = B := by
    unfold Qi
    rw [hmid, hP, hlo, hhi, hB]
  have hrng := Kz (p := P) (hi - lo) (i := lo) (j := hi) (Nat.le_refl _) q2
  rw [hB] at hrng
  obtain ⟨hB1, hB2⟩ := hrng
  have HPr := hide hP
  have HB := hide hB
  have HLo := hide hlo
  have HHi := hide hhi
  obtain ⟨R, hR⟩ : ∃ R, symP cf (f + 1) a m b d = R := ⟨_, rfl⟩
  have HR : Hid ((let e := mid + m - B
      let d1 := if B < m ∧ m < e then rotF B m e d else d
      let d2 := if a < B ∧ B < mid then symP cf f a B mid d1 else d1
      if mid < e ∧ e < b then symP cf f mid e b d2 else d2) = R) := hide (by
    have h := Jcg (cf := cf) (f := f) (d := d) (a := a) (m := m) (b := b) (by omega) (by omega)
    rw [hst, hmid, hR] at h
    exact h.symm)
  rw [hR]
  obtain ⟨nn, hnn⟩ : ∃ nn, mid + m = nn := ⟨_, rfl⟩
  obtain ⟨pp, hpp⟩ : ∃ pp, nn - 1 = pp := ⟨_, rfl⟩
  obtain ⟨ma, hma⟩ : ∃ ma, m - a = ma := ⟨_, rfl⟩
  obtain ⟨bm, hbm⟩ : ∃ bm, b - m = bm := ⟨_, rfl⟩
  have hw0 : IntKind.i64.wrap ((m : Int) - (a : Int)) = (ma : Int) := by
    have e : (m : Int) - (a : Int) = (ma : Int) := by omega
    rw [e]
    exact Jd (by omega) (by omega)
  have hma1 : ((ma : Int) == 1) = false := beq_false_of_ne (by omega)
  have hw1 : IntKind.i64.wrap ((b : Int) - (m : Int)) = (bm : Int) := by
    have e : (b : Int) - (m : Int) = (bm : Int) := by omega
    rw [e]
    exact Jd (by omega) (by omega)
  have hbm1 : ((bm : Int) == 1) = false := beq_false_of_ne (by omega)
  have hmd1 : ((a : Int) + (b : Int)) / 2 = (mid : Int) := by omega
  have hw2 : IntKind.i64.wrap ((mid : Int) + (m : Int)) = (nn : Int) := by
    rw [← Int.natCast_add, hnn]
    exact Jd (by omega) (by omega)
  have hw3 : IntKind.i64.wrap ((nn : Int) - 1) = (pp : Int) := by
    have e : (nn : Int) - 1 = (pp : Int) := by omega
    rw [e]
    exact Jd (by omega) (by omega)
  have hw4 : mid < m → IntKind.i64.wrap ((nn : Int) - (b : Int)) = (lo : Int) := fun h => by
    rw [if_pos h] at hlo
    have e : (nn : Int) - (b : Int) = (lo : Int) := by omega
    rw [e]
    exact Jd (by omega) (by omega)
  have HW4 := hide hw4
  have HMid := hide hmid
  have HNN := hide hnn
  have HPP := hide hpp
  clear hC hI hS hP hB hR hst hlo hhi hw4 hmid hma hbm
  go_enter Tryz.func220, Tryz.ntmps220
  go_upto_if 140 with fail
  go_cut [20, 21] from 138 to 146 (fun v20 v21 wx => v20 = .int .i64 lo ∧ v21 = .int .i64 hi ∧ wx = W)
  case first =>
    by_cases hmm : mid < m
    · have h1 := Ja HW4 hmm
      have h2 := Ja HHi
      rw [if_pos hmm] at h2
      have g0 : (mid : Int) < (m : Int) := by omega
      have HH2 := hide h2
      clear h2
      go_wp2_with fail
      go_meet
      exact ⟨rfl, by rw [Ja HH2], rfl⟩
    · have h1 := Ja HLo
      have h2 := Ja HHi
      rw [if_neg hmm] at h1 h2
      have g0 : ¬ (mid : Int) < (m : Int) := by omega
      have HH1 := hide h1
      have HH2 := hide h2
      clear h1 h2
      go_wp2_with fail
      go_meet
      exact ⟨by rw [Ja HH1], by rw [Ja HH2], rfl⟩
  case rest =>
    obtain ⟨rfl, rfl, hwc⟩ := hcut
    have hwc' := hwc.symm
    subst hwc'
    clear hwc hw0 hw1 hw2 HW4 hma1 hbm1 hmd1
    go_wp2_with fail
    go_loopw [20, 21] (fun v20 v21 wr => ∃ (i j : Nat), v20 = .int .i64 i ∧ v21 = .int .i64 j ∧ lo ≤ i ∧ i ≤ j ∧ j ≤ hi ∧ SAt g n W0 wr d ∧ Hid (bsF P i j = B)) (fun v20 v21 _ => (intOf v21).toNat - (intOf v20).toNat)
    case atStart => exact ⟨lo, hi, by first | rfl | go_num, by first | rfl | go_num, by omega, by omega, by omega, Ja HS, HB⟩
    case round =>
      obtain ⟨i, j, rfl, rfl, hmi, hij, hjb, hS, hE⟩ := hrel
      rename World => wr
      have HSx := hide hS
      by_cases hlt : i < j
      · have i0 : (i : Int) < (j : Int) := by omega
        obtain ⟨h, hh⟩ : ∃ h, (i + j) / 2 = h := ⟨_, rfl⟩
        have hih : i ≤ h := by omega
        have hhj : h < j := by omega
        have hhd : ((i : Int) + (j : Int)) / 2 = (h : Int) := by omega
        obtain ⟨ph, hph⟩ : ∃ ph, pp - h = ph := ⟨_, rfl⟩
        have hw5 : IntKind.i64.wrap ((pp : Int) - (h : Int)) = (ph : Int) := by
          have e : (pp : Int) - (h : Int) = (ph : Int) := by omega
          rw [e]
          exact Jd (by omega) (by omega)
        have hpc : mid + m - 1 - h = ph := by omega
        have hfn : ph < n := by omega
        have hsn : h < n := by omega
        have c1 := (hS.row (ph) hfn).1
        have c2 := (hS.row (h) hsn).1
        have hcall := Ja HC wr.drew hS.only.drew (d.getD (ph) 0) (d.getD (h) 0) (hS.inr.at hfn) (hS.inr.at hsn)
        have hPh := congrFun (Ja HPr) h
        simp only [hpc] at hPh
        obtain ⟨x, hx⟩ : ∃ x, d.getD (ph) 0 = x := ⟨_, rfl⟩
        obtain ⟨y, hy⟩ : ∃ y, d.getD (h) 0 = y := ⟨_, rfl⟩
        simp only [hx, hy] at hcall hPh
        rw [hx] at c1
        rw [hy] at c2
        obtain ⟨z, hz⟩ : ∃ z, cf x y = z := ⟨_, rfl⟩
        rw [hz] at hcall hPh
        have HCall := hide hcall
        have HX := hide hx
        have HY := hide hy
        have HPh := hide hPh
        have HH := hide hh
        have HFn := hide hfn
        have HSn := hide hsn
        have hgl := hS.lt
        have f0 : (0 : Int) ≤ ((ph : Nat) : Int) := by omega
        have f1 : ((ph : Nat) : Int) < (n : Int) := by omega
        have s0 : (0 : Int) ≤ ((h : Nat) : Int) := by omega
        have s1 : ((h : Nat) : Int) < (n : Int) := by omega
        clear hS hx hy hz hcall hPh hh hfn hsn hph hpc
        go_wp2_with fail
        go_region_held3 (fun w' => w'.cell? ⟨g, ph, none⟩ = some (.int .i64 x) ∧ w'.cell? ⟨g, h, none⟩ = some (.int .i64 y))
          (first
            | exact ⟨c1, c2⟩
            | exact ⟨by rw [← Ja HX]; exact ((Ja HS5).row _ (Ja HFn)).1, by rw [← Ja HY]; exact ((Ja HS5).row _ (Ja HSn)).1⟩
            | (trace_state; fail))
          ((go_at_call 201; refine (Ja HCall).mono ?_; rintro e w5 ⟨rfl, hb5, hg5⟩; have HS5 := hide ((Ja HSx).drew.next hb5 hg5); clear hb5 hg5))
        clear c1 c2
        by_cases hz0 : z < 0
        · have HE2 : Hid (bsF P i h = B) := hide (by
            have h1 := Ja hE
            have h2 := Ja HPh
            have h3 := Ja HH
            rw [Jda hlt (by rw [h3, ← h2]; simp; omega), h3] at h1
            exact h1)
          have hz2 : (!decide (z < 0)) = false := by simp [hz0]
          try rw [hz2]
          clear hE HPh HH hhd hz2
          go_wp2_with fail
          go_roundw
          case rel => exact ⟨i, h, by first | rfl | go_num, by first | rfl | go_num, by omega, by omega, by omega, Ja HS5, HE2⟩
          case measure => simp [intOf]; omega
        · have HE2 : Hid (bsF P (h + 1) j = B) := hide (by
            have h1 := Ja hE
            have h2 := Ja HPh
            have h3 := Ja HH
            rw [Nc hlt (by rw [h3, ← h2]; simp; omega), h3] at h1
            exact h1)
          have hz2 : (!decide (z < 0)) = true := by simp; omega
          try rw [hz2]
          clear hE HPh HH hhd hz2
          go_wp2_with fail
          go_roundw
          case rel => exact ⟨h + 1, j, by first | rfl | go_num, by first | rfl | go_num, by omega, by omega, by omega, Ja HS5, HE2⟩
          case measure => simp [intOf]; omega
      · have hBi : i = B := by
          have h1 := Ja hE
          rw [Va hlt] at h1
          exact h1
        subst hBi
        have i0 : ¬ (i : Int) < (j : Int) := by omega
        obtain ⟨e, he⟩ : ∃ e, nn - i = e := ⟨_, rfl⟩
        have hwe : IntKind.i64.wrap ((nn : Int) - (i : Int)) = (e : Int) := by
          have e' : (nn : Int) - (i : Int) = (e : Int) := by omega
          rw [e']
          exact Jd (by omega) (by omega)
        have he1 : e ≤ b := by omega
        have he2 : m ≤ e := by omega
        have he3 : mid ≤ e := by omega
        have HRR := Ja HR
        simp only [hnn, he] at HRR
        obtain ⟨d1, hd1⟩ : ∃ d1, (if i < m ∧ m < e then rotF i m e d else d) = d1 := ⟨_, rfl⟩
        rw [hd1] at HRR
        obtain ⟨d2, hd2⟩ : ∃ d2, (if a < i ∧ i < mid then symP cf f a i mid d1 else d1) = d2 := ⟨_, rfl⟩
        rw [hd2] at HRR
        have HD1 := hide hd1
        have HD2 := hide hd2
        have HRF := hide HRR
        clear hS hE HRR hd1 hd2 he
        obtain ⟨T1, hT1⟩ : ∃ T1, (decide (i < m) && decide (m < e)) = T1 := ⟨_, rfl⟩
        obtain ⟨T2, hT2⟩ : ∃ T2, (decide (a < i) && decide (i < mid)) = T2 := ⟨_, rfl⟩
        have HT1 := hide hT1
        have HT2 := hide hT2
        clear hT1 hT2
        go_upto_region 39 with fail
        go_cut [185] from 178 to 184 (fun v185 wx => v185 = .bool T1 ∧ wx = wr)
        case first =>
          have h3 := Ja HT1
          by_cases h1 : i < m
          · have g1 : (i : Int) < (m : Int) := by omega
            by_cases h2 : m < e
            · have g2 : (m : Int) < (e : Int) := by omega
              simp [h1, h2] at h3
              have H3 := hide h3
              clear h3
              go_wp2_with fail
              go_meet
              exact ⟨by rw [Ja H3], rfl⟩
            · have g2 : ¬ (m : Int) < (e : Int) := by omega
              simp [h1, h2] at h3
              have H3 := hide h3
              clear h3
              go_wp2_with fail
              go_meet
              exact ⟨by rw [Ja H3], rfl⟩
          · have g1 : ¬ (i : Int) < (m : Int) := by omega
            simp [h1] at h3
            have H3 := hide h3
            clear h3
            go_wp2_with fail
            go_meet
            exact ⟨by rw [Ja H3], rfl⟩
        case rest =>
        obtain ⟨rfl, hwc⟩ := hcut
        have hwc' := hwc.symm
        subst hwc'
        clear hwc
        go_upto_if 185 with fail
        go_cut [24] from 186 to 191 (fun v24 wx => v24 = .int .i64 e ∧ SAt g n W0 wx d1)
        case first =>
          cases T1 with
          | true =>
            have h3 := Ja HT1
            simp only [Bool.and_eq_true, decide_eq_true_eq] at h3
            have HRo := hide (Jdv g n cap i m e (.func (.func 201) #[] #[.pointer (some ⟨b3, 0, none⟩), .pointer (some ⟨b2, 0, none⟩)]) W0 hn h3.1 h3.2 (by omega) wr d (Ja HSx))
            have h4 := Ja HD1
            rw [if_pos h3] at h4
            rw [h4] at HRo
            clear h3 h4
            go_wp2_with fail
            refine (Ja HRo).mono ?_
            rintro e' w5 ⟨rfl, hS5⟩
            have HS5 := hide hS5
            clear hS5
            go_wp2_with fail
            go_meet
            exact ⟨rfl, Ja HS5⟩
          | false =>
            have h3 := Ja HT1
            simp only [Bool.and_eq_false_iff, decide_eq_false_iff_not] at h3
            have h4 := Ja HD1
            rw [if_neg (by omega)] at h4
            have H3 := hide h4
            clear h3 h4
            go_wp2_with fail
            go_meet
            exact ⟨rfl, by rw [← Ja H3]; exact Ja HSx⟩
        case rest =>
          obtain ⟨rfl, hS1⟩ := hcut
          rename World => w1
          have HS1 := hide hS1
          clear hS1 HSx HT1 HD1
          go_upto_region 41 with fail
          go_cut [199] from 192 to 198 (fun v199 wx => v199 = .bool T2 ∧ wx = w1)
          case first =>
            have h3 := Ja HT2
            by_cases h1 : a < i
            · have g1 : (a : Int) < (i : Int) := by omega
              by_cases h2 : i < mid
              · have g2 : (i : Int) < (mid : Int) := by omega
                simp [h1, h2] at h3
                have H3 := hide h3
                clear h3
                go_wp2_with fail
                go_meet
                exact ⟨by rw [Ja H3], rfl⟩
              · have g2 : ¬ (i : Int) < (mid : Int) := by omega
                simp [h1, h2] at h3
                have H3 := hide h3
                clear h3
                go_wp2_with fail
                go_meet
                exact ⟨by rw [Ja H3], rfl⟩
            · have g1 : ¬ (a : Int) < (i : Int) := by omega
              simp [h1] at h3
              have H3 := hide h3
              clear h3
              go_wp2_with fail
              go_meet
              exact ⟨by rw [Ja H3], rfl⟩
          case rest =>
          obtain ⟨rfl, hwc⟩ := hcut
          have hwc' := hwc.symm
          subst hwc'
          clear hwc
          go_upto_if 199 with fail
          go_cut [24] from 200 to 205 (fun v24 wx => v24 = .int .i64 e ∧ SAt g n W0 wx d2)
          case first =>
            cases T2 with
            | true =>
              have h3 := Ja HT2
              simp only [Bool.and_eq_true, decide_eq_true_eq] at h3
              have HRo := hide (Ja HI a i mid w1 d1 h3.1 h3.2 (by omega) (by omega) (Ja HS1))
              have h4 := Ja HD2
              rw [if_pos h3] at h4
              rw [h4] at HRo
              clear h3 h4
              go_wp2_with fail
              refine (Ja HRo).mono ?_
              rintro e' w5 ⟨rfl, hS5⟩
              have HS5 := hide hS5
              clear hS5
              go_wp2_with fail
              go_meet
              exact ⟨rfl, Ja HS5⟩
            | false =>
              have h3 := Ja HT2
              simp only [Bool.and_eq_false_iff, decide_eq_false_iff_not] at h3
              have h4 := Ja HD2
              rw [if_neg (by omega)] at h4
              have H3 := hide h4
              clear h3 h4
              go_wp2_with fail
              go_meet
              exact ⟨rfl, by rw [← Ja H3]; exact Ja HS1⟩
          case rest =>
            obtain ⟨rfl, hS2⟩ := hcut
            rename World => w2
            have HS2 := hide hS2
            clear hS2 HS1
            by_cases h1 : mid < e
            · have g1 : (mid : Int) < (e : Int) := by omega
              by_cases h2 : e < b
              · have g2 : (e : Int) < (b : Int) := by omega
                have HRo := hide (Ja HI mid e b w2 d2 h1 h2 (by omega) (by omega) (Ja HS2))
                have h3 := Ja HRF
                rw [if_pos ⟨h1, h2⟩] at h3
                rw [h3] at HRo
                clear h3
                go_wp2_with fail
                refine (Ja HRo).mono ?_
                rintro e' w5 ⟨rfl, hS5⟩
                have HS5 := hide hS5
                clear hS5
                go_wp2_with fail
                go_end0
                exact ⟨rfl, Ja HS5⟩
              · have g2 : ¬ (e : Int) < (b : Int) := by omega
                have h3 := Ja HRF
                rw [if_neg (by omega)] at h3
                have H3 := hide h3
                clear h3
                go_wp2_with fail
                go_end0
                exact ⟨rfl, by rw [← Ja H3]; exact Ja HS2⟩
            · have g1 : ¬ (mid : Int) < (e : Int) := by omega
              have h3 := Ja HRF
              rw [if_neg (by omega)] at h3
              have H3 := hide h3
              clear h3
              go_wp2_with fail
              go_end0
              exact ⟨rfl, by rw [← Ja H3]; exact Ja HS2⟩
theorem Jbe (g n b3 b2 cap : Nat) (W0 : World) (cf : Int → Int → Int) (hC : CmpC g n b3 b2 W0 cf) (hn : n ≤ 1000) : ∀ (f a m b : Nat) (W : World) (d : List Int), a < m → m < b → b ≤ n → b - a ≤ f → SAt g n W0 W d → Calls Tryz.prog 220 #[.slice (some ⟨g, 0, none⟩) n cap, .int .i64 a, .int .i64 m, .int .i64 b, .func (.func 201) #[] #[.pointer (some ⟨b3, 0, none⟩), .pointer (some ⟨b2, 0, none⟩)]] W fun e W' => e = .returned (.tuple #[]) ∧ SAt g n W0 W' (symP cf f a m b d)
  | 0, a, m, b, W, d, h1, h2, _, h4, _ => absurd h4 (by omega)
  | f + 1, a, m, b, W, d, h1, h2, h3, h4, hS => by
    by_cases e1 : m = a + 1
    · rw [symP, if_pos e1]
      exact Ji2 g n b3 b2 cap a m b W0 cf hC hn e1 h2 h3 W d hS
    · by_cases e2 : b = m + 1
      · rw [symP, if_neg e1, if_pos e2]
        exact Ji1 g n b3 b2 cap a m b W0 cf hC hn e1 h1 e2 h3 W d hS
      · exact Ji0 g n b3 b2 cap f a m b W0 cf hC hn (Jbe g n b3 b2 cap W0 cf hC hn f) (by omega) (by omega) h3 h4 W d hS
end Go.Proofs.YtjobgpahajhbnabGreatDoor
