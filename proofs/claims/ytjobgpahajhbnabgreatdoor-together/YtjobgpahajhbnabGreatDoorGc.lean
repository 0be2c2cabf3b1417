import Derived.Test.YtjobgpahajhbnabGreatDoorHb
namespace Go.Proofs.YtjobgpahajhbnabGreatDoor
open Go.RowKit Go.Proofs
attribute [local go_sem ↓] Go.wp_at_zero Go.wp_at_succ
theorem Jah {cf : Int → Int → Int} {a n : Nat} : ∀ {k : Nat} {d : List Int}, InR n d → a + k < n → InR n (Vx cf a k d)
  | 0, _, h, _ => h
  | k + 1, d, h, hk => by
    rw [Vx]
    split
    · exact Jah (h.swap hk (by omega)) (by omega)
    · exact h
set_option maxHeartbeats 4000000 in
set_option maxRecDepth 20000 in
theorem G4 (g n b3 b2 cap a b : Nat) (W0 : World) (cf : Int → Int → Int) (hC : CmpC g n b3 b2 W0 cf) (hn : n ≤ 1000) (hab : a ≤ b) (hb : b ≤ n) (W : World) (d : List Int) (hS : SAt g n W0 W d) :
    Calls Tryz.prog 219 #[.slice (some ⟨g, 0, none⟩) n cap, .int .i64 a, .int .i64 b, .func (.func 201) #[] #[.pointer (some ⟨b3, 0, none⟩), .pointer (some ⟨b2, 0, none⟩)]] W fun e W' => e = .returned (.tuple #[]) ∧ SAt g n W0 W' (Zg cf a (b - (a + 1)) (a + 1) d) := by
  have HC := hide hC
  have HS := hide hS
  obtain ⟨R, hR⟩ : ∃ R, Zg cf a (b - (a + 1)) (a + 1) d = R := ⟨_, rfl⟩
  rw [hR]
  have HR := hide hR
  clear hC hS hR
  go_enter Tryz.func219, Tryz.ntmps219
  go_wp2_with fail
  go_loopw [8] (fun v8 wr => ∃ (i : Nat) (d : List Int), v8 = .int .i64 i ∧ a + 1 ≤ i ∧ i ≤ n + 1 ∧ SAt g n W0 wr d ∧ Hid (Zg cf a (b - i) i d = R)) (fun v8 _ => b - (intOf v8).toNat)
  case atStart => exact ⟨a + 1, d, by go_num, by omega, by omega, Ja HS, HR⟩
  case round =>
    obtain ⟨i, d, rfl, hi1, hi2, hS, hE⟩ := hrel
    rename World => wr
    have HS := hide hS
    by_cases hib : i < b
    · have i0 : (i : Int) < (b : Int) := by omega
      have HE2 : Hid (Zg cf a (b - (i + 1)) (i + 1) (Vx cf a (i - a) d) = R) := hide (by
        have h1 := Ja hE
        rw [show b - i = (b - (i + 1)) + 1 by omega, Zg] at h1
        exact h1)
      obtain ⟨R2, hR2⟩ : ∃ R2, Vx cf a (i - a) d = R2 := ⟨_, rfl⟩
      rw [hR2] at HE2
      have HR2 := hide hR2
      clear hS hE hR2
      go_wp2_with fail
      go_loopw [9] (fun v9 wx => ∃ (j : Nat) (d : List Int), v9 = .int .i64 j ∧ a ≤ j ∧ j ≤ i ∧ SAt g n W0 wx d ∧ Hid (Vx cf a (j - a) d = R2)) (fun v9 _ => (intOf v9).toNat)
      case atStart => exact ⟨i, d, rfl, by omega, by omega, Ja HS, HR2⟩
      case round =>
        obtain ⟨j, d, rfl, hj1, hj2, hS, hE⟩ := hrel
        rename World => wx
        have HSx := hide hS
        by_cases hja : a < j
        · obtain ⟨p, hp⟩ : ∃ p, j = p + 1 := ⟨j - 1, by omega⟩
          have c1 := (hS.row j (by omega)).1
          have c2 := (hS.row p (by omega)).1
          have hcall := Ja HC wx.drew hS.only.drew (d.getD j 0) (d.getD p 0) (hS.inr.at (by omega)) (hS.inr.at (by omega))
          have HE2' : Hid (Vx cf a (j - a) d = if cf (d.getD j 0) (d.getD p 0) < 0 then Vx cf a (p - a) (Zi d j p) else d) := hide (by
            rw [show j - a = (p - a) + 1 by omega, Vx, show a + (p - a) + 1 = j by omega, show a + (p - a) = p by omega])
          obtain ⟨x, hx⟩ : ∃ x, d.getD j 0 = x := ⟨_, rfl⟩
          obtain ⟨y, hy⟩ : ∃ y, d.getD p 0 = y := ⟨_, rfl⟩
          rw [hx, hy] at hcall HE2'
          rw [hx] at c1
          rw [hy] at c2
          obtain ⟨z, hz⟩ : ∃ z, cf x y = z := ⟨_, rfl⟩
          rw [hz] at hcall HE2'
          have HCall := hide hcall
          have HX := hide hx
          have HY := hide hy
          have hpw : IntKind.i64.wrap ((j : Int) - 1) = (p : Int) := by
            have e : (j : Int) - 1 = (p : Int) := by omega
            rw [e]
            exact Jd (by omega) (by omega)
          have HPP := hide hp
          have hgl := hS.lt
          have g0 : (a : Int) < (j : Int) := by omega
          have j0 : (0 : Int) ≤ (j : Int) := by omega
          have j1 : (j : Int) < (n : Int) := by omega
          have p0 : (0 : Int) ≤ (p : Int) := by omega
          have p1 : (p : Int) < (n : Int) := by omega
          have hpn : p < n := by omega
          have hjn : j < n := by omega
          clear hS hx hy hz hcall hp
          go_wp2_with fail
          go_region_held3 (fun w' => w'.cell? ⟨g, j, none⟩ = some (.int .i64 x) ∧ w'.cell? ⟨g, p, none⟩ = some (.int .i64 y))
            (first
              | exact ⟨c1, c2⟩
              | exact ⟨by rw [← Ja HX]; exact ((Ja HS5).row j hjn).1, by rw [← Ja HY]; exact ((Ja HS5).row p hpn).1⟩
              | (trace_state; fail))
            ((go_at_call 201; refine (Ja HCall).mono ?_; rintro e w5 ⟨rfl, hb5, hg5⟩; have HS5 := hide ((Ja HSx).drew.next hb5 hg5); clear hb5 hg5))
          clear c1 c2
          by_cases hz0 : z < 0
          · have HE3 : Hid (Vx cf a (p - a) (Zi d j p) = R2) := hide (by
              have h1 := Ja HE2'
              rw [if_pos hz0, Ja hE] at h1
              exact h1.symm)
            have c1 := ((Ja HS5).row j hjn).1
            have c2 := ((Ja HS5).row p hpn).1
            have f1 := ((Ja HS5).row j hjn).2
            have f2 := ((Ja HS5).row p hpn).2
            rw [Ja HX] at c1
            rw [Ja HY] at c2
            have hgl5 := (Ja HS5).lt
            have njp : j ≠ p := by have := Ja HPP; omega
            have npj : p ≠ j := by omega
            clear hE HE2'
            go_wp2_with fail
            go_region
            have HS6 : Hid (SAt g n W0 ((w5.setCell ⟨g, j, none⟩ (.int .i64 y)).setCell ⟨g, p, none⟩ (.int .i64 x)).drew (Zi d j p)) := hide (by
              have h1 := (Ja HS5).swap hjn hpn
              rw [Ja HX, Ja HY] at h1
              exact h1.drew)
            go_wp2_with fail
            go_roundw
            case rel => exact ⟨p, Zi d j p, rfl, by have := Ja HPP; omega, by have := Ja HPP; omega, Ja HS6, HE3⟩
            case measure => simp [intOf]; have := Ja HPP; omega
          · have he : d = R2 := by
              have h1 := Ja HE2'
              rw [if_neg hz0, Ja hE] at h1
              exact h1.symm
            subst he
            clear hE HE2'
            go_wp2_with fail
            go_roundw
            case rel => exact ⟨i + 1, d, by go_num, by omega, by omega, Ja HS5, HE2⟩
            case measure => simp [intOf]; omega
        · have hje : j = a := by omega
          subst hje
          have he : d = R2 := by
            have h1 := Ja hE
            rw [Nat.sub_self, Vx] at h1
            exact h1
          subst he
          have g0 : ¬ (j : Int) < (j : Int) := by omega
          clear hS hE
          go_wp2_with fail
          go_region
          go_wp2_with fail
          go_roundw
          case rel => exact ⟨i + 1, d, by go_num, by omega, by omega, (Ja HSx).drew, HE2⟩
          case measure => simp [intOf]; omega
    · have he : d = R := by
        have h1 := Ja hE
        rw [show b - i = 0 by omega, Zg] at h1
        exact h1
      subst he
      have i0 : ¬ (i : Int) < (b : Int) := by omega
      clear hS hE
      go_wp2_with fail
      first
      | (go_end0; exact ⟨rfl, Ja HS⟩)
      | (trace_state; fail)
end Go.Proofs.YtjobgpahajhbnabGreatDoor
namespace Go.Proofs.YtjobgpahajhbnabGreatDoor
open Go.RowKit Go.Proofs
attribute [local go_sem ↓] Go.wp_at_zero Go.wp_at_succ
set_option maxHeartbeats 4000000 in
set_option maxRecDepth 20000 in
theorem Xh (g n cap a b c : Nat) (fv : Value) (W0 : World) (hn : n ≤ 1000) (hab : a < b) (hb : b + c ≤ n) (W : World) (d : List Int) (hS : SAt g n W0 W d) :
    Calls Tryz.prog 223 #[.slice (some ⟨g, 0, none⟩) n cap, .int .i64 a, .int .i64 b, .int .i64 c, fv] W fun e W' => e = .returned (.tuple #[]) ∧ SAt g n W0 W' (swR a b c 0 d) := by
  have HS := hide hS
  obtain ⟨R, hR⟩ : ∃ R, swR a b c 0 d = R := ⟨_, rfl⟩
  rw [hR]
  have HR := hide hR
  clear hS hR
  go_enter Tryz.func223, Tryz.ntmps223
  go_wp2_with fail
  go_loopw [10] (fun v10 wr => ∃ (i : Nat) (d : List Int), v10 = .int .i64 i ∧ i ≤ c ∧ SAt g n W0 wr d ∧ Hid (swR a b (c - i) i d = R)) (fun v10 _ => c - (intOf v10).toNat)
  case atStart => exact ⟨0, d, rfl, by omega, Ja HS, HR⟩
  case round =>
    obtain ⟨i, d, rfl, hi, hS, hE⟩ := hrel
    rename World => wr
    have HSx := hide hS
    by_cases hic : i < c
    · have HE2 : Hid (swR a b (c - (i + 1)) (i + 1) (Zi d (a + i) (b + i)) = R) := hide (by
        have h1 := Ja hE
        rw [show c - i = (c - (i + 1)) + 1 by omega, swR] at h1
        exact h1)
      obtain ⟨p, hp⟩ : ∃ p, a + i = p := ⟨_, rfl⟩
      obtain ⟨q, hq⟩ : ∃ q, b + i = q := ⟨_, rfl⟩
      rw [hp, hq] at HE2
      have c1 := (hS.row p (by omega)).1
      have c2 := (hS.row q (by omega)).1
      have f1 := (hS.row p (by omega)).2
      have f2 := (hS.row q (by omega)).2
      have hgl := hS.lt
      obtain ⟨x, hx⟩ : ∃ x, d.getD p 0 = x := ⟨_, rfl⟩
      obtain ⟨y, hy⟩ : ∃ y, d.getD q 0 = y := ⟨_, rfl⟩
      rw [hx] at c1
      rw [hy] at c2
      have HS6 : Hid (∀ w', SAt g n W0 w' d → SAt g n W0 ((w'.setCell ⟨g, p, none⟩ (.int .i64 y)).setCell ⟨g, q, none⟩ (.int .i64 x)) (Zi d p q)) := hide (fun w' h => by
        have h1 := h.swap (i := p) (j := q) (by omega) (by omega)
        rw [hx, hy] at h1
        exact h1)
      have hw1 : IntKind.i64.wrap ((a : Int) + (i : Int)) = (p : Int) := by
        rw [← Int.natCast_add, hp]
        exact Jd (by omega) (by omega)
      have hw2 : IntKind.i64.wrap ((b : Int) + (i : Int)) = (q : Int) := by
        rw [← Int.natCast_add, hq]
        exact Jd (by omega) (by omega)
      have i0 : (i : Int) < (c : Int) := by omega
      have p0 : (0 : Int) ≤ (p : Int) := by omega
      have p1 : (p : Int) < (n : Int) := by omega
      have q0 : (0 : Int) ≤ (q : Int) := by omega
      have q1 : (q : Int) < (n : Int) := by omega
      have npq : p ≠ q := by omega
      have nqp : q ≠ p := by omega
      clear hS hE hp hq hx hy
      go_wp2_with fail
      go_region
      go_wp2_with fail
      go_roundw
      case rel => exact ⟨i + 1, Zi d p q, by go_num, by omega, by first | exact (Ja HS6 _ (Ja HSx)).drew | exact Ja HS6 _ (Ja HSx).drew, HE2⟩
      case measure => simp [intOf]; omega
    · have he : d = R := by
        have h1 := Ja hE
        rw [show c - i = 0 by omega, swR] at h1
        exact h1
      subst he
      have i0 : ¬ (i : Int) < (c : Int) := by omega
      clear hS hE
      go_wp2_with fail
      go_end0
      exact ⟨rfl, Ja HSx⟩
set_option maxHeartbeats 4000000 in
set_option maxRecDepth 20000 in
theorem Jdv (g n cap a m b : Nat) (fv : Value) (W0 : World) (hn : n ≤ 1000) (ham : a < m) (hmb : m < b) (hb : b ≤ n) (W : World) (d : List Int) (hS : SAt g n W0 W d) :
    Calls Tryz.prog 222 #[.slice (some ⟨g, 0, none⟩) n cap, .int .i64 a, .int .i64 m, .int .i64 b, fv] W fun e W' => e = .returned (.tuple #[]) ∧ SAt g n W0 W' (rotF a m b d) := by
  have HS := hide hS
  obtain ⟨R, hR⟩ : ∃ R, rotF a m b d = R := ⟨_, rfl⟩
  rw [hR]
  have HR := hide hR
  have hw1 : IntKind.i64.wrap ((m : Int) - (a : Int)) = ((m - a : Nat) : Int) := by
    have e : (m : Int) - (a : Int) = ((m - a : Nat) : Int) := by omega
    rw [e]
    exact Jd (by omega) (by omega)
  have hw2 : IntKind.i64.wrap ((b : Int) - (m : Int)) = ((b - m : Nat) : Int) := by
    have e : (b : Int) - (m : Int) = ((b - m : Nat) : Int) := by omega
    rw [e]
    exact Jd (by omega) (by omega)
  clear hS hR
  go_enter Tryz.func222, Tryz.ntmps222
  go_wp2_with fail
  go_loopw [10, 11] (fun v10 v11 wr => ∃ (i j f : Nat) (d : List Int), v10 = .int .i64 i ∧ v11 = .int .i64 j ∧ 0 < i ∧ 0 < j ∧ i ≤ m ∧ m + j ≤ n ∧ i + j ≤ f ∧ SAt g n W0 wr d ∧ Hid (rotP m f i j d = R)) (fun v10 v11 _ => (intOf v10).toNat + (intOf v11).toNat)
  case atStart => exact ⟨m - a, b - m, m - a + (b - m), d, by first | rfl | go_num, by first | rfl | go_num, by omega, by omega, by omega, by omega, by omega, Ja HS, HR⟩
  case round =>
    obtain ⟨i, j, f, d, rfl, rfl, hi0, hj0, him, hjn, hf, hS, hE⟩ := hrel
    rename World => wr
    have HSx := hide hS
    obtain ⟨f, rfl⟩ : ∃ f', f = f' + 1 := ⟨f - 1, by omega⟩
    obtain ⟨mi, hmi⟩ : ∃ mi, m - i = mi := ⟨_, rfl⟩
    have hw3 : IntKind.i64.wrap ((m : Int) - (i : Int)) = (mi : Int) := by
      have e : (m : Int) - (i : Int) = (mi : Int) := by omega
      rw [e]
      exact Jd (by omega) (by omega)
    clear hw1 hw2
    by_cases hij : i = j
    · subst hij
      have HSw := hide (Xh g n cap mi m i fv W0 hn (by omega) hjn wr d hS)
      have HE2 : Hid (swR mi m i 0 d = R) := hide (by
        have h1 := Ja hE
        rw [rotP, if_pos rfl, hmi] at h1
        exact h1)
      have e0 : ((i : Int) != (i : Int)) = false := by simp
      clear hS hE hmi
      go_wp2_with fail
      refine (Ja HSw).mono ?_
      rintro e w5 ⟨rfl, hS5⟩
      have HS5 : Hid (SAt g n W0 w5 R) := hide (by rw [← Ja HE2]; exact hS5)
      clear hS5
      go_wp2_with fail
      go_end0
      exact ⟨rfl, Ja HS5⟩
    · have e0 : ((i : Int) != (j : Int)) = true := by simp; omega
      by_cases hlt : j < i
      · have HSw := hide (Xh g n cap mi m j fv W0 hn (by omega) hjn wr d hS)
        have HE2 : Hid (rotP m f (i - j) j (swR mi m j 0 d) = R) := hide (by
          have h1 := Ja hE
          rw [rotP, if_neg hij, if_pos hlt, hmi] at h1
          exact h1)
        obtain ⟨i', hi'⟩ : ∃ i', i - j = i' := ⟨_, rfl⟩
        rw [hi'] at HE2
        have hw4 : IntKind.i64.wrap ((i : Int) - (j : Int)) = (i' : Int) := by
          have e : (i : Int) - (j : Int) = (i' : Int) := by omega
          rw [e]
          exact Jd (by omega) (by omega)
        have g0 : (j : Int) < (i : Int) := by omega
        clear hS hE hmi
        go_wp2_with fail
        refine (Ja HSw).mono ?_
        rintro e w5 ⟨rfl, hS5⟩
        have HS5 := hide hS5
        clear hS5
        go_wp2_with fail
        go_roundw
        case rel => exact ⟨i', j, f, _, by first | rfl | go_num, by first | rfl | go_num, by omega, by omega, by omega, by omega, by omega, Ja HS5, HE2⟩
        case measure => simp [intOf]; omega
      · have hnn : mi + j < n := by omega
        obtain ⟨mj, hmj⟩ : ∃ mj, m + j - i = mj := ⟨_, rfl⟩
        have HSw := hide (Xh g n cap mi mj i fv W0 hn (by omega) (by omega) wr d hS)
        have HE2 : Hid (rotP m f i (j - i) (swR mi mj i 0 d) = R) := hide (by
          have h1 := Ja hE
          rw [rotP, if_neg hij, if_neg hlt, hmi, hmj] at h1
          exact h1)
        obtain ⟨j', hj'⟩ : ∃ j', j - i = j' := ⟨_, rfl⟩
        rw [hj'] at HE2
        obtain ⟨ms, hms⟩ : ∃ ms, m + j = ms := ⟨_, rfl⟩
        have hw4 : IntKind.i64.wrap ((j : Int) - (i : Int)) = (j' : Int) := by
          have e : (j : Int) - (i : Int) = (j' : Int) := by omega
          rw [e]
          exact Jd (by omega) (by omega)
        have hw5 : IntKind.i64.wrap ((m : Int) + (j : Int)) = (ms : Int) := by
          rw [← Int.natCast_add, hms]
          exact Jd (by omega) (by omega)
        have hw6 : IntKind.i64.wrap ((ms : Int) - (i : Int)) = (mj : Int) := by
          have e : (ms : Int) - (i : Int) = (mj : Int) := by omega
          rw [e]
          exact Jd (by omega) (by omega)
        have g0 : ¬ (j : Int) < (i : Int) := by omega
        clear hS hE hmi hmj
        go_wp2_with fail
        refine (Ja HSw).mono ?_
        rintro e w5 ⟨rfl, hS5⟩
        have HS5 := hide hS5
        clear hS5
        go_wp2_with fail
        go_roundw
        case rel => exact ⟨i, j', f, _, by first | rfl | go_num, by first | rfl | go_num, by omega, by omega, by omega, by omega, by omega, Ja HS5, HE2⟩
        case measure => simp [intOf]; omega
end Go.Proofs.YtjobgpahajhbnabGreatDoor
