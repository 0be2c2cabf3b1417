import Derived.Test.YtjobgpahajhbnaaGreatDoorKe
namespace Go.Proofs.YtjobgpahajhbnaaGreatDoor
open Go.RowKit Go.Proofs Go.Maps
attribute [local go_sem ↓] Go.wp_at_zero Go.wp_at_succ

theorem Tryz.enters203 : Enters Tryz.prog 203 := Go.Proofs.enters_of Tryz.func203 (by decide) rfl
def dropL (x : Int) (xs : List Int) : List Int := if 0 ≤ x then xs.drop x.toNat else xs.take (xs.length - (-x).toNat)
def dropP (a b : Arr) : Arr × Int := if a.shape.length ≠ 0 ∨ (rowed b).shape.length ≠ 1 then (eArr, 5) else (⟨[(dropL (a.cells.headD 0) b.cells).length], dropL (a.cells.headD 0) b.cells⟩, 0)
theorem fin_ok {W w : World} {P : Nat → Prop} {v u0 u1 : Value} {q : Arr} (hb : Below W.heap.size W w) (hA : IsArr (Off3 W.heap.size P) w v q) : IsArr P ((w.setCell ⟨W.heap.size + 1 + 1, 0, none⟩ u0).setCell ⟨W.heap.size + 1 + 1, 1, none⟩ u1) v q ∧ Below W.heap.size W ((w.setCell ⟨W.heap.size + 1 + 1, 0, none⟩ u0).setCell ⟨W.heap.size + 1 + 1, 1, none⟩ u1) := by
  have hno : ¬ Off3 W.heap.size P (W.heap.size + 1 + 1) := by
    rintro ⟨_, h | h⟩ <;> omega
  exact ⟨((hA.set hno 0 _).set hno 1 _).imp (fun b h _ => h.1), (hb.setCell (p := ⟨W.heap.size + 1 + 1, 0, none⟩) (by show W.heap.size ≤ W.heap.size + 1 + 1; omega) _).setCell (p := ⟨W.heap.size + 1 + 1, 1, none⟩) (by show W.heap.size ≤ W.heap.size + 1 + 1; omega) _⟩
theorem nums_drop_at {P : Nat → Prop} {w : World} {b off cap n : Nat} {xs : List Int} (h : Nums P w (.slice (some ⟨b, off, none⟩) n cap) xs) {k : Nat} (hk : k ≤ n) : Nums P w (.slice (if cap = k then some ⟨b, off, none⟩ else some ⟨b, off + k, none⟩) (n - k) (cap - k)) (xs.drop k) := by
  have hn := nums_len h
  subst hn
  by_cases e : cap = k
  · rw [if_pos e]
    have hcap : xs.length ≤ cap := by
      obtain ⟨ao, cap', hv, hcap, _⟩ := h
      injection hv with e1 e2 e3
      omega
    have hz : xs.length - k = 0 := by omega
    have hd : xs.drop k = [] := List.drop_of_length_le (by omega)
    rw [hz, hd]
    exact ⟨_, _, rfl, by simp, fun h => absurd h (by simp), fun a h => by cases h; rfl⟩
  · rw [if_neg e]
    exact nums_drop h hk
theorem dropL_pos {x : Int} {xs : List Int} {n : Nat} (hn : n = xs.length) (h : 0 ≤ x) : ∃ k : Nat, k ≤ n ∧ min x (n : Int) = (k : Int) ∧ dropL x xs = xs.drop k := by
  subst hn
  unfold dropL
  rw [if_pos h]
  by_cases hx : (xs.length : Int) < x
  · exact ⟨xs.length, Nat.le_refl _, by omega, by rw [List.drop_of_length_le (by omega), List.drop_of_length_le (Nat.le_refl _)]⟩
  · exact ⟨x.toNat, by omega, by omega, rfl⟩
theorem dropL_neg {x : Int} {xs : List Int} {n : Nat} (hn : n = xs.length) (h : ¬ 0 ≤ x) : ∃ k : Nat, k ≤ n ∧ max x (-(n : Int)) = (k : Int) - (n : Int) ∧ dropL x xs = xs.take k := by
  subst hn
  unfold dropL
  rw [if_neg h]
  by_cases hx : -(xs.length : Int) > x
  · exact ⟨0, by omega, by omega, by rw [show xs.length - (-x).toNat = 0 by omega]⟩
  · exact ⟨xs.length - (-x).toNat, by omega, by omega, rfl⟩
theorem wrap_neg {n : Nat} (h : n ≤ 1000) : IntKind.i64.wrap (-(n : Int)) = -(n : Int) := by
  show (if (true && decide (-(n : Int) % (18446744073709551616 : Int) ≥ 9223372036854775808)) = true then -(n : Int) % (18446744073709551616 : Int) - 18446744073709551616 else -(n : Int) % (18446744073709551616 : Int)) = -(n : Int)
  by_cases h0 : n = 0
  · subst h0; decide
  · have e : -(n : Int) % (18446744073709551616 : Int) = 18446744073709551616 - n := by omega
    rw [e, if_pos (by simp; omega)]
    omega
set_option maxHeartbeats 2000000 in
set_option maxRecDepth 20000 in
theorem drop_fn (w : World) : FnTwo 203 #[] w dropP := by
  intro W P u v a b _ hP ha hb hoa hob
  obtain ⟨so, sn, sc, co, cn, cc, rfl, ha1, ha2⟩ := ha
  obtain ⟨so2, sn2, sc2, co2, cn2, cc2, rfl, hb1, hb2⟩ := hb
  have hsn := nums_len ha1
  simp at hsn
  have HSN := hide hsn
  have hS0 := St.start (P := P) (W := W) (a := a) (b := b) ⟨so, sn, sc, co, cn, cc, rfl, ha1, ha2⟩ ⟨so2, sn2, sc2, co2, cn2, cc2, rfl, hb1, hb2⟩
  obtain ⟨W1, hW1⟩ : ∃ W1, ((W.alloc (.cells #[.slice so sn sc, .slice co cn cc] 89)).alloc (.cells #[.slice so2 sn2 sc2, .slice co2 cn2 cc2] 89)).alloc (.cells #[.slice none 0 0, .slice none 0 0] 89) = W1 := ⟨_, rfl⟩
  rw [hW1] at hS0
  have HS0 := hide hS0
  have HOff : Hid (∀ w' : World, W.heap.size + 1 + 1 < w'.heap.size → ∀ b, w'.heap.size ≤ b → Off3 W.heap.size P b) := hide (fun w' h b hb => ⟨hP b (by omega), .inr (by omega)⟩)
  have HL := hide (least_any (Off3 W.heap.size P) W1 (unhide HOff W1 hS0.lt) so2 sn2 sc2 co2 cn2 cc2 b hS0.isB)
  have HScal := hide (fun w' => (isScalar_any w' so sn sc co cn cc).mono (fun e w'' h => (⟨h.1, by rw [h.2]; exact ((Below.refl _ _).alloc (Nat.le_refl _) _).alloc (by simp) _⟩ : e = .returned (.bool ((sn : Int) == 0)) ∧ Below w'.heap.size w' w'')))
  have HP : Hid (∀ b, W.heap.size ≤ b → P b) := hP
  have HOA := hide hoa
  have HOB := hide (rowed_ok hob)
  have HBC := hide (rowed_cells b)
  obtain ⟨r, hr⟩ : ∃ r, dropP a b = r := ⟨_, rfl⟩
  simp only [hr]
  have HR := hide hr
  have b0' := hS0.b0
  have b1' := hS0.b1
  clear hP hoa hob ha1 ha2 hb1 hb2 hr hsn hS0
  go_enter Tryz.func203, Tryz.ntmps203
  go_wp2_with fail
  try rw [hW1]
  clear hW1 b0' b1'
  refine (unhide HL).mono ?_
  rintro e w2 ⟨s1, s2, s3, c1, c2, c3, rfl, hB2, hb2⟩
  have hS2 := (unhide HS0).keep hb2
  have hS3 := hS2.setB hB2
  have HS3 := hide hS3
  have HS2L := hide (isArr_len hB2)
  have x0 := hS2.a0
  have x1 := hS2.a1
  have x2 := hS2.b0
  have x3 := hS2.b1
  have y2 := hS2.fr (W.heap.size + 1) 0 (by omega) (by omega)
  have y3 := hS2.fr (W.heap.size + 1) 1 (by omega) (by omega)
  have n3 := hS2.lt
  have n1 : W.heap.size < w2.heap.size := by omega
  have n2 : W.heap.size + 1 < w2.heap.size := by omega
  clear hS2 hS3 hB2 hb2 HL HS0
  go_wp2_with fail
  obtain ⟨w3, hw3⟩ : ∃ w3, (w2.setCell ⟨W.heap.size + 1, 0, none⟩ (.slice s1 s2 s3)).setCell ⟨W.heap.size + 1, 1, none⟩ (.slice c1 c2 c3) = w3 := ⟨_, rfl⟩
  rw [hw3] at HS3 ⊢
  clear hw3 x0 x1 x2 x3 y2 y3 n1 n2 n3
  refine (unhide HScal _).mono ?_
  rintro e w4 ⟨rfl, hb4⟩
  have hS4 := (unhide HS3).keep hb4
  have HS4 := hide hS4
  have x0 := hS4.a0
  have x1 := hS4.a1
  have x2 := hS4.b0
  have x3 := hS4.b1
  have x4 := hS4.r0
  have x5 := hS4.r1
  have y4 := hS4.fr (W.heap.size + 1 + 1) 0 (by omega) (by omega)
  have y5 := hS4.fr (W.heap.size + 1 + 1) 1 (by omega) (by omega)
  have n3 := hS4.lt
  have n1 : W.heap.size < w4.heap.size := by omega
  have n2 : W.heap.size + 1 < w4.heap.size := by omega
  have HBz := hide hS4.below
  clear hS4 hb4 HS3 HScal
  by_cases hsc : sn = 0
  · have hsc' : ((sn : Int) == 0) = true := by rw [hsc]; rfl
    have HSC := hide hsc
    clear hsc
    go_wp2_with fail
    refine (isRow_any _ s1 s2 s3 c1 c2 c3).mono ?_
    rintro e w5 ⟨rfl, hw5⟩
    have hb5 : Below w4.heap.size w4 w5 := by rw [hw5]; exact ((Below.refl _ _).alloc (Nat.le_refl _) _).alloc (by simp) _
    clear hw5
    have hS5 := (unhide HS4).keep hb5
    have HS5 := hide hS5
    clear x0 x1 x2 x3 x4 x5 y4 y5 n1 n2 n3
    have x0 := hS5.a0
    have x1 := hS5.a1
    have x2 := hS5.b0
    have x3 := hS5.b1
    have x4 := hS5.r0
    have x5 := hS5.r1
    have y4 := hS5.fr (W.heap.size + 1 + 1) 0 (by omega) (by omega)
    have y5 := hS5.fr (W.heap.size + 1 + 1) 1 (by omega) (by omega)
    have n3 := hS5.lt
    have n1 : W.heap.size < w5.heap.size := by omega
    have n2 : W.heap.size + 1 < w5.heap.size := by omega
    have HBz := hide hS5.below
    clear hb5 HS4
    by_cases hrow : s2 = 1
    · have hrow' : ((s2 : Int) == 1) = true := by rw [hrow]; rfl
      have hash : a.shape = [] := List.eq_nil_of_length_eq_zero (by rw [← unhide HSN]; exact unhide HSC)
      obtain ⟨x, ab, ao, hax, hcn1, hco, _, hal, hac, hacc⟩ := scalar_cell (isArr_cells hS5.isA) (unhide HOA) hash
      subst hco
      have hBc := isArr_cells hS5.isB
      rw [unhide HBC] at hBc
      have hc2 := nums_len hBc
      obtain ⟨xs, hxs⟩ : ∃ xs, b.cells = xs := ⟨_, rfl⟩
      rw [hxs] at hBc hc2
      have hfew : xs.length ≤ 200 := by rw [← hxs, ← rowed_cells b]; exact (unhide HOB).few
      have hr' : r = (⟨[(dropL x xs).length], dropL x xs⟩, 0) := by
        rw [← unhide HR]
        unfold dropP
        rw [if_neg (by rw [hash, ← (unhide HS2L).2, hrow]; simp), hax, hxs]
        rfl
      obtain ⟨ys, hys⟩ : ∃ ys, dropL x xs = ys := ⟨_, rfl⟩
      rw [hys] at hr'
      subst hr'
      have HYS := hide hys
      clear hys
      have hx64 := (unhide HOA).fits x (by rw [hax]; simp)
      subst hcn1
      have HBC2 := hide hBc
      have hcc3 : c2 ≤ c3 := by
        obtain ⟨ao', cap', hv, hcap, _, _⟩ := hBc
        injection hv with e1 e2 e3
        omega
      clear hS5 hash hax hxs HBC HOB HOA HR HSC HS2L HSN hBc hrow
      have HC2 := hide hc2
      clear hc2
      go_wp2_with fail
      refine (size_any _ s1 s2 s3 c1 c2 c3).mono ?_
      rintro e w6 ⟨rfl, hw6⟩
      have hb6 : Below w5.heap.size w5 w6 := by rw [hw6]; exact (Below.refl _ _).alloc (Nat.le_refl _) _
      clear hw6
      have hS6 := (unhide HS5).keep hb6
      have hac6 := (hb6.cell (p := ⟨ab, ao, none⟩) hal).trans hac
      have HN6 := hide ((unhide HBC2).below hb6)
      clear x0 x1 x2 x3 x4 x5 y4 y5 n1 n2 n3 HBz HBC2 HS5 hb6 hac
      have x1 := hS6.a1
      have x2 := hS6.b0
      have x3 := hS6.b1
      have x4 := hS6.r0
      have x5 := hS6.r1
      have y4 := hS6.fr (W.heap.size + 1 + 1) 0 (by omega) (by omega)
      have y5 := hS6.fr (W.heap.size + 1 + 1) 1 (by omega) (by omega)
      have n3 := hS6.lt
      have n1 : W.heap.size < w6.heap.size := by omega
      have n2 : W.heap.size + 1 < w6.heap.size := by omega
      have HB6 := hide hS6.below
      clear hS6
      have HRW := hide (fun (w' : World) (hb : W.heap.size + 1 + 1 < w'.heap.size) v ys (h : Nums (Off3 W.heap.size P) w' v ys) => row_any (Off3 W.heap.size P) w' (unhide HOff w' hb) v ys h)
      have hx1 := hx64.1
      have hx2 := hx64.2
      clear hx64
      by_cases hx0 : 0 ≤ x
      · obtain ⟨k, hkc, hmin, hdl⟩ := dropL_pos (unhide HC2) hx0
        rw [unhide HYS] at hdl
        have hk0 : (0 : Int) ≤ (k : Int) := by omega
        have hk1 : (k : Int) ≤ (c2 : Int) := by omega
        have HDL := hide hdl
        clear hdl
        rcases c1 with _ | ⟨cb, coff, spot⟩
        · have hN := unhide HN6
          obtain ⟨ao', cap', hv, hcap, h1, _⟩ := hN
          have hz : xs.length = 0 := by
            by_cases h : 0 < xs.length
            · obtain ⟨b', off', e1, _⟩ := h1 h
              injection hv with e2
              rw [e1] at e2
              cases e2
            · omega
          have hc0 : c2 = 0 := by rw [unhide HC2]; exact hz
          subst hc0
          have hk : k = 0 := by omega
          subst hk
          have hy0 : ys = [] := by rw [unhide HDL, List.eq_nil_of_length_eq_zero hz]; rfl
          subst hy0
          have hmin0 : min x 0 = 0 := by omega
          clear hv hcap h1 hz hmin
          have HND : Hid (Nums (Off3 W.heap.size P) w6.drew (.slice none 0 c3) []) := hide ⟨_, _, rfl, by simp, fun h => absurd h (by simp), fun a h => by cases h⟩
          go_wp2_with fail
          go_region_with (go_at_call 151; refine (unhide HRW _ (by simpa using n3) _ _ (unhide HND)).mono ?_; rintro e w7 ⟨t1, t2, t3, u1, u2, u3, rfl, hA7, hb7⟩; have q4 := (hb7.cell (p := ⟨W.heap.size + 1 + 1, 0, none⟩) n3).trans x4; have q5 := (hb7.cell (p := ⟨W.heap.size + 1 + 1, 1, none⟩) n3).trans x5; have z4 := (hb7.frozen (p := ⟨W.heap.size + 1 + 1, 0, none⟩) n3).trans y4; have z5 := (hb7.frozen (p := ⟨W.heap.size + 1 + 1, 1, none⟩) n3).trans y5; have HA7 := hide hA7; have HB7 : Hid (Below W.heap.size W w7) := hide ((unhide HB6).trans ((below_drew hb7).mono (unhide HB6).size)); have n7 := hb7.size; clear hA7 hb7)
          all_goals
            go_wp2_with fail
            exact bodyPost_ret (v := .tuple #[.agg #[.slice t1 t2 t3, .slice u1 u2 u3], .int .i64 0]) (by simp [results, Tryz.results203, go_sem, q4, q5]) rfl ⟨_, _, _, _, _, _, rfl, (fin_ok (unhide HB7) (unhide HA7)).1, (fin_ok (unhide HB7) (unhide HA7)).2⟩
        · have hsp : spot = none := by
            obtain ⟨ao', cap', hv, hcap, h1, h2⟩ := unhide HN6
            injection hv with e2
            exact h2 _ e2.symm
          subst hsp
          obtain ⟨ad, had⟩ : ∃ ad : Option Addr, (if c3 = k then some ⟨cb, coff, none⟩ else some ⟨cb, coff + k, none⟩) = ad := ⟨_, rfl⟩
          have HND : Hid (Nums (Off3 W.heap.size P) w6.drew (.slice ad (c2 - k) (c3 - k)) ys) := hide (by
            rw [← had, unhide HDL]
            exact (nums_drop_at (unhide HN6) hkc).below (Below.refl _ _).drew)
          go_wp2_with fail
          go_region_with (go_at_call 151; refine (unhide HRW _ (by simpa using n3) _ _ (unhide HND)).mono ?_; rintro e w7 ⟨t1, t2, t3, u1, u2, u3, rfl, hA7, hb7⟩; have q4 := (hb7.cell (p := ⟨W.heap.size + 1 + 1, 0, none⟩) n3).trans x4; have q5 := (hb7.cell (p := ⟨W.heap.size + 1 + 1, 1, none⟩) n3).trans x5; have z4 := (hb7.frozen (p := ⟨W.heap.size + 1 + 1, 0, none⟩) n3).trans y4; have z5 := (hb7.frozen (p := ⟨W.heap.size + 1 + 1, 1, none⟩) n3).trans y5; have HA7 := hide hA7; have HB7 : Hid (Below W.heap.size W w7) := hide ((unhide HB6).trans ((below_drew hb7).mono (unhide HB6).size)); have n7 := hb7.size; clear hA7 hb7)
          all_goals
            go_wp2_with fail
            exact bodyPost_ret (v := .tuple #[.agg #[.slice t1 t2 t3, .slice u1 u2 u3], .int .i64 0]) (by simp [results, Tryz.results203, go_sem, q4, q5]) rfl ⟨_, _, _, _, _, _, rfl, (fin_ok (unhide HB7) (unhide HA7)).1, (fin_ok (unhide HB7) (unhide HA7)).2⟩
      · obtain ⟨k, hkc, hmax, hdl⟩ := dropL_neg (unhide HC2) hx0
        rw [unhide HYS] at hdl
        have hk0 : (0 : Int) ≤ (k : Int) := by omega
        have hk1 : (k : Int) ≤ (c2 : Int) := by omega
        have hk2 : k ≤ c3 := by omega
        have HDL := hide hdl
        have hc2l : c2 ≤ 200 := by rw [unhide HC2]; exact hfew
        have hng : IntKind.i64.wrap (-(c2 : Int)) = -(c2 : Int) := wrap_neg (by omega)
        have hadd : IntKind.i64.wrap ((c2 : Int) + ((k : Int) - (c2 : Int))) = (k : Int) := by
          have e : (c2 : Int) + ((k : Int) - (c2 : Int)) = (k : Int) := by omega
          rw [e]
          exact wrap_pos (by omega) (by omega)
        clear hdl
        rcases c1 with _ | ⟨cb, coff, spot⟩
        · have hN := unhide HN6
          obtain ⟨ao', cap', hv, hcap, h1, _⟩ := hN
          have hz : xs.length = 0 := by
            by_cases h : 0 < xs.length
            · obtain ⟨b', off', e1, _⟩ := h1 h
              injection hv with e2
              rw [e1] at e2
              cases e2
            · omega
          have hc0 : c2 = 0 := by rw [unhide HC2]; exact hz
          have hk : k = 0 := by omega
          have hy0 : ys = [] := by rw [unhide HDL, List.eq_nil_of_length_eq_zero hz]; simp
          have hx0' : x < 0 := by omega
          have HND : Hid (Nums (Off3 W.heap.size P) w6.drew (.slice none k c3) ys) := hide (by
            rw [hk, hy0]
            exact ⟨_, _, rfl, by simp, fun h => absurd h (by simp), fun a h => by cases h⟩)
          clear hv hcap h1 hz hc0 hk hy0
          go_wp2_with fail
          go_region_with (go_at_call 151; refine (unhide HRW _ (by simpa using n3) _ _ (unhide HND)).mono ?_; rintro e w7 ⟨t1, t2, t3, u1, u2, u3, rfl, hA7, hb7⟩; have q4 := (hb7.cell (p := ⟨W.heap.size + 1 + 1, 0, none⟩) n3).trans x4; have q5 := (hb7.cell (p := ⟨W.heap.size + 1 + 1, 1, none⟩) n3).trans x5; have z4 := (hb7.frozen (p := ⟨W.heap.size + 1 + 1, 0, none⟩) n3).trans y4; have z5 := (hb7.frozen (p := ⟨W.heap.size + 1 + 1, 1, none⟩) n3).trans y5; have HA7 := hide hA7; have HB7 : Hid (Below W.heap.size W w7) := hide ((unhide HB6).trans ((below_drew hb7).mono (unhide HB6).size)); have n7 := hb7.size; clear hA7 hb7)
          all_goals
            go_wp2_with fail
            exact bodyPost_ret (v := .tuple #[.agg #[.slice t1 t2 t3, .slice u1 u2 u3], .int .i64 0]) (by simp [results, Tryz.results203, go_sem, q4, q5]) rfl ⟨_, _, _, _, _, _, rfl, (fin_ok (unhide HB7) (unhide HA7)).1, (fin_ok (unhide HB7) (unhide HA7)).2⟩
        · have hsp : spot = none := by
            obtain ⟨ao', cap', hv, hcap, h1, h2⟩ := unhide HN6
            injection hv with e2
            exact h2 _ e2.symm
          subst hsp
          have hx0' : x < 0 := by omega
          have HND : Hid (Nums (Off3 W.heap.size P) w6.drew (.slice (some ⟨cb, coff, none⟩) k c3) ys) := hide (by
            rw [unhide HDL]
            have hN := unhide HN6
            have hl := nums_len hN
            rw [hl] at hN hkc
            exact (nums_take hN hkc).below (Below.refl _ _).drew)
          go_wp2_with fail
          go_region_with (go_at_call 151; refine (unhide HRW _ (by simpa using n3) _ _ (unhide HND)).mono ?_; rintro e w7 ⟨t1, t2, t3, u1, u2, u3, rfl, hA7, hb7⟩; have q4 := (hb7.cell (p := ⟨W.heap.size + 1 + 1, 0, none⟩) n3).trans x4; have q5 := (hb7.cell (p := ⟨W.heap.size + 1 + 1, 1, none⟩) n3).trans x5; have z4 := (hb7.frozen (p := ⟨W.heap.size + 1 + 1, 0, none⟩) n3).trans y4; have z5 := (hb7.frozen (p := ⟨W.heap.size + 1 + 1, 1, none⟩) n3).trans y5; have HA7 := hide hA7; have HB7 : Hid (Below W.heap.size W w7) := hide ((unhide HB6).trans ((below_drew hb7).mono (unhide HB6).size)); have n7 := hb7.size; clear hA7 hb7)
          all_goals
            go_wp2_with fail
            exact bodyPost_ret (v := .tuple #[.agg #[.slice t1 t2 t3, .slice u1 u2 u3], .int .i64 0]) (by simp [results, Tryz.results203, go_sem, q4, q5]) rfl ⟨_, _, _, _, _, _, rfl, (fin_ok (unhide HB7) (unhide HA7)).1, (fin_ok (unhide HB7) (unhide HA7)).2⟩
    · have hrow' : ((s2 : Int) == 1) = false := by rw [beq_eq_false_iff_ne]; omega
      have hr' : r = (eArr, 5) := by
        rw [← unhide HR]
        unfold dropP
        rw [if_pos (Or.inr (by rw [← (unhide HS2L).2]; exact hrow))]
      subst hr'
      clear hS5 hrow
      go_wp2_with fail
      exact bodyPost_ret (v := .tuple #[.agg #[.slice none 0 0, .slice none 0 0], .int .i64 5]) (by simp [results, Tryz.results203, go_sem, x4, x5]) rfl ⟨_, _, _, _, _, _, rfl, e_arr _ _, (fin_ok (P := P) (unhide HBz) (e_arr _ _)).2⟩
  · have hsc' : ((sn : Int) == 0) = false := by rw [beq_eq_false_iff_ne]; omega
    have hr' : r = (eArr, 5) := by
      rw [← unhide HR]
      unfold dropP
      rw [if_pos (Or.inl (by rw [← unhide HSN]; exact hsc))]
    subst hr'
    clear hsc
    go_wp2_with fail
    exact bodyPost_ret (v := .tuple #[.agg #[.slice none 0 0, .slice none 0 0], .int .i64 5]) (by simp [results, Tryz.results203, go_sem, x4, x5]) rfl ⟨_, _, _, _, _, _, rfl, e_arr _ _, (fin_ok (P := P) (unhide HBz) (e_arr _ _)).2⟩
theorem dropL_len (x : Int) (xs : List Int) : (dropL x xs).length ≤ xs.length := by
  unfold dropL
  split <;> simp
theorem dropL_mem {x : Int} {xs : List Int} {c : Int} (h : c ∈ dropL x xs) : c ∈ xs := by
  unfold dropL at h
  split at h
  · exact List.mem_of_mem_drop h
  · exact List.mem_of_mem_take h
theorem drop_two : TwoC ⟨#[100, 114, 111, 112]⟩ dropP := ⟨fun w => (find_two (t := ⟨#[100, 114, 111, 112]⟩) (k1 := .string [114, 111, 112]) (k2 := .string [100, 114, 111, 112]) (f := 203) (by decide) (by kernel_rfl) (by kernel_rfl) (by kernel_rfl) (by kernel_rfl) (by kernel_rfl) w).mono (by rintro e w' ⟨rfl, hb⟩; exact ⟨203, #[], rfl, Tryz.enters203, hb, drop_fn w'⟩), fun a b ha hb => by
  unfold dropP
  split
  · exact ⟨by simp [eArr], fun h => absurd h (by decide)⟩
  · have hl := dropL_len (a.cells.headD 0) b.cells
    have hf := hb.few
    exact ⟨by show (dropL _ _).length ≤ 200; omega, fun _ => ⟨by simp, fun n hn => by rw [List.mem_singleton.1 hn]; omega, by simp [prodL], by show (dropL _ _).length ≤ 200; omega, fun c hc => hb.fits c (dropL_mem hc)⟩⟩⟩
end Go.Proofs.YtjobgpahajhbnaaGreatDoor
namespace Go.Proofs.YtjobgpahajhbnaaGreatDoor
open Go.RowKit Go.Proofs Go.Maps
attribute [local go_sem ↓] Go.wp_at_zero Go.wp_at_succ

set_option maxHeartbeats 1000000 in
set_option maxRecDepth 20000 in
theorem last_any {P : Nat → Prop} (w : World) (so : Option Addr) (sn sc : Nat) (co : Option Addr) (cn cc : Nat) (a : Arr) (ha : IsArr P w (.agg #[.slice so sn sc, .slice co cn cc]) a) (sh : List Nat) (len : Nat) (hs : a.shape = sh ++ [len]) (h3 : sh.length ≤ 3) :
    Calls Tryz.prog 234 #[.agg #[.slice so sn sc, .slice co cn cc]] w fun e w' => e = .returned (.int .i64 len) ∧ Below w.heap.size w w' := by
  have hsn := (isArr_len ha).2
  rw [hs] at hsn
  simp at hsn
  obtain ⟨so', sn', sc', co', cn', cc', hv, h1, h2⟩ := ha
  injection hv with hv
  simp at hv
  obtain ⟨⟨rfl, rfl, rfl⟩, rfl, rfl, rfl⟩ := hv
  rw [hs] at h1
  obtain ⟨b, off, rfl, hb, hc, -⟩ := h1.at (k := sh.length) (by simp)
  simp at hc
  have hc2 : (w.alloc (.cells #[.slice (some ⟨b, off, none⟩) sn sc, .slice co cn cc] 89)).cell? ⟨b, off + sh.length, none⟩ = some (.int .i64 len) := by rw [World.cell?_alloc_lt _ _ _ hb]; exact hc
  have hc3 : ((w.alloc (.cells #[.slice (some ⟨b, off, none⟩) sn sc, .slice co cn cc] 89)).alloc (.cells #[.slice (some ⟨b, off, none⟩) sn sc, .slice co cn cc] 89)).cell? ⟨b, off + sh.length, none⟩ = some (.int .i64 len) := by rw [World.cell?_alloc_lt _ _ _ (by simp; omega)]; exact hc2
  obtain ⟨k, hk⟩ : ∃ k, sh.length = k := ⟨_, rfl⟩
  rw [hk] at hsn hc2 hc3 h3
  have HR := hide (fun w' => rank_any w' (some ⟨b, off, none⟩) sn sc co cn cc)
  have hk0 : (0 : Int) ≤ (k : Int) := by omega
  have hk1 : (k : Int) < (sn : Int) := by omega
  have hw1 : IntKind.i64.wrap ((sn : Int) - 1) = (k : Int) := by
    have e : ((sn : Int) - 1) = (k : Int) := by omega
    rw [e]
    exact wrap_pos (by omega) (by omega)
  clear hsn
  clear h1 h2 hs hk hc
  go_enter Tryz.func234, Tryz.ntmps234
  go_wp2_with fail
  go_region_with (first | (go_at_call 221; refine (unhide HR _).mono ?_; rintro e w' ⟨rfl, rfl⟩))
  all_goals
    go_wp2_with fail
    refine bodyPost_ret (v := .int .i64 len) (by simp [results, Tryz.results234, go_sem]) rfl ⟨rfl, ?_⟩
    first
    | exact ((Below.refl _ _).alloc (Nat.le_refl _) _).drew.alloc (by simp) _
    | trace_state
theorem nums_take_any {P : Nat → Prop} {w : World} {ao : Option Addr} {n cap : Nat} {xs : List Int} (h : Nums P w (.slice ao n cap) xs) {k : Nat} (hk : k ≤ n) : Nums P w (.slice ao k cap) (xs.take k) := by
  have hn := nums_len h
  obtain ⟨ao', cap', hv, hcap, h1, h2⟩ := h
  injection hv with e1 e2 e3
  subst e1 e3
  have hkl : k ≤ xs.length := by omega
  refine ⟨ao, cap, by simp [Nat.min_eq_left hkl], by simp; omega, fun h0 => ?_, h2⟩
  have h0' : 0 < xs.length := by simp at h0; omega
  obtain ⟨b, off, ha, hp, hl, hc⟩ := h1 h0'
  refine ⟨b, off, ha, hp, hl, fun i hi => ?_⟩
  simp at hi
  rw [hc i (by omega)]
  simp
theorem nums_cap {P : Nat → Prop} {w : World} {ao : Option Addr} {n cap : Nat} {xs : List Int} (h : Nums P w (.slice ao n cap) xs) : n ≤ cap := by
  obtain ⟨ao', cap', hv, hcap, _⟩ := h
  injection hv with e1 e2 e3
  omega
theorem nums_none {P : Nat → Prop} {w : World} {n cap : Nat} {xs : List Int} (h : Nums P w (.slice none n cap) xs) : n = 0 := by
  obtain ⟨ao', cap', hv, hcap, h1, _⟩ := h
  injection hv with e1 e2 e3
  by_cases h0 : 0 < xs.length
  · obtain ⟨b, off, ha, _⟩ := h1 h0
    rw [ha] at e1
    cases e1
  · omega
theorem nums_spot {P : Nat → Prop} {w : World} {b off : Nat} {spot : Option Nat} {n cap : Nat} {xs : List Int} (h : Nums P w (.slice (some ⟨b, off, spot⟩) n cap) xs) : spot = none := by
  obtain ⟨ao', cap', hv, hcap, h1, h2⟩ := h
  injection hv with e1 e2 e3
  exact h2 _ e1.symm
def lineL (xs : List Int) (len i : Nat) : List Int := (xs.drop (i * len)).take len
set_option maxHeartbeats 1000000 in
set_option maxRecDepth 20000 in
theorem aline_any {P : Nat → Prop} (w : World) (so : Option Addr) (sn sc : Nat) (co : Option Addr) (cn cc : Nat) (a : Arr) (ha : IsArr P w (.agg #[.slice so sn sc, .slice co cn cc]) a) (sh : List Nat) (len : Nat) (hs : a.shape = sh ++ [len]) (h3 : sh.length ≤ 3) (i : Nat) (hi : (i + 1) * len ≤ a.cells.length) (hil : i ≤ 100000000) (hll : len ≤ 1000) (hfew : a.cells.length ≤ 1000) :
    Calls Tryz.prog 257 #[.agg #[.slice so sn sc, .slice co cn cc], .int .i64 i] w fun e w' => ∃ o n c, e = .returned (.slice o n c) ∧ Nums P w' (.slice o n c) (lineL a.cells len i) ∧ Below w.heap.size w w' := by
  have HL := hide (fun w' (hb : Below w.heap.size w w') => last_any w' so sn sc co cn cc a (ha.below hb) sh len hs h3)
  have hN := isArr_cells ha
  have hcn := nums_len hN
  have hcap := nums_cap hN
  obtain ⟨lo, hlo⟩ : ∃ lo, i * len = lo := ⟨_, rfl⟩
  obtain ⟨i1, hi1⟩ : ∃ k, i + 1 = k := ⟨_, rfl⟩
  obtain ⟨up, hup⟩ : ∃ h, i1 * len = h := ⟨_, rfl⟩
  have hsum : up = lo + len := by rw [← hup, ← hlo, ← hi1, Nat.add_mul, Nat.one_mul]
  rw [hi1, hup] at hi
  have hl0 : (0 : Int) ≤ (lo : Int) := by omega
  have hl1 : (lo : Int) ≤ (up : Int) := by omega
  have hl2 : (up : Int) ≤ (cc : Int) := by omega
  have hl3 : lo ≤ up := by omega
  have hl4 : up ≤ cc := by omega
  have hl5 : up - lo = len := by omega
  have hw0 : IntKind.i64.wrap ((i : Int) + 1) = (i1 : Int) := by
    have e : (i : Int) + 1 = (i1 : Int) := by omega
    rw [e]
    exact wrap_pos (by omega) (by omega)
  have hw1 : IntKind.i64.wrap ((i : Int) * (len : Int)) = (lo : Int) := by
    rw [← Int.natCast_mul, hlo]
    exact wrap_pos hl0 (by omega)
  have hw2 : IntKind.i64.wrap ((i1 : Int) * (len : Int)) = (up : Int) := by
    rw [← Int.natCast_mul, hup]
    exact wrap_pos (by omega) (by omega)
  have HN := hide hN
  have HLO := hide hlo
  have H5 := hide hl5
  obtain ⟨ys, hys⟩ : ∃ ys, lineL a.cells len i = ys := ⟨_, rfl⟩
  rw [hys]
  have HYS := hide hys
  have hcn2 : up ≤ cn := by omega
  clear ha hN hlo hup hsum hi1 hys hl5 hs hcn hil hll hi
  rcases co with _ | ⟨cb, coff, spot⟩
  · have hz := nums_none (unhide HN)
    subst hz
    have hu : up = 0 := by omega
    subst hu
    have hlz : lo = 0 := by omega
    subst hlz
    have hlen : len = 0 := by have := unhide H5; omega
    have HR : Hid (ys = []) := hide (by rw [← unhide HYS]; unfold lineL; rw [hlen]; simp)
    clear hlen
    go_enter Tryz.func257, Tryz.ntmps257
    go_wp2_with (go_at_call 234; refine (unhide HL _ ((Below.refl _ _).alloc (Nat.le_refl _) _)).mono ?_; rintro e w1 ⟨rfl, hb1⟩; have HB := hide hb1; obtain ⟨hc, -⟩ := bcell hb1; have d1 := hc w.heap.size 1 (by simp); (try simp at d1); have hs1 := hb1.size; (try simp at hs1); clear hb1 hc)
    refine bodyPost_ret (v := .slice none 0 cc) (by simp [results, Tryz.results257, go_sem]) rfl ⟨_, _, _, rfl, ?_, ((Below.refl _ _).alloc (Nat.le_refl _) _).trans ((unhide HB).mono (by simp))⟩
    rw [unhide HR]
    exact ⟨_, _, rfl, by simp, fun h => absurd h (by simp), fun a h => by cases h⟩
  · have hsp := nums_spot (unhide HN)
    subst hsp
    obtain ⟨ad, had⟩ : ∃ ad : Option Addr, (if cc = lo then some ⟨cb, coff, none⟩ else some ⟨cb, coff + lo, none⟩) = ad := ⟨_, rfl⟩
    have HR : Hid (Nums P w (.slice ad (up - lo) (cc - lo)) ys) := hide (by
      have h1 := nums_drop_at (unhide HN) (k := lo) (by omega)
      rw [had] at h1
      have h2 := nums_take_any h1 (k := up - lo) (by omega)
      rw [← unhide HYS]
      unfold lineL
      rw [unhide HLO]
      rw [unhide H5] at h2 ⊢
      exact h2)
    go_enter Tryz.func257, Tryz.ntmps257
    go_wp2_with (go_at_call 234; refine (unhide HL _ ((Below.refl _ _).alloc (Nat.le_refl _) _)).mono ?_; rintro e w1 ⟨rfl, hb1⟩; have HB := hide hb1; obtain ⟨hc, -⟩ := bcell hb1; have d1 := hc w.heap.size 1 (by simp); (try simp at d1); have hs1 := hb1.size; (try simp at hs1); clear hb1 hc)
    exact bodyPost_ret (v := .slice ad (up - lo) (cc - lo)) (by simp [results, Tryz.results257, go_sem]) rfl ⟨_, _, _, rfl, (unhide HR).below (((Below.refl _ _).alloc (Nat.le_refl _) _).trans ((unhide HB).mono (by simp))), ((Below.refl _ _).alloc (Nat.le_refl _) _).trans ((unhide HB).mono (by simp))⟩
theorem clone_own {Q : Nat → Prop} (w : World) (ao : Option Addr) (n cap : Nat) (xs : List Int) (h : Nums Q w (.slice ao n cap) xs) (hx : xs.length ≤ 200) (h0 : 0 < n) :
    Calls Tryz.prog 79 #[.slice ao n cap] w fun e w' => ∃ g c, e = .returned (.slice (some ⟨g, 0, none⟩) n c) ∧ w'.ownsRow w.heap.size 3 1 (.slice (some ⟨g, 0, none⟩) n c) n (xs.map (Value.int .i64)) ∧ Below w.heap.size w w' := by
  have hn := nums_len h
  obtain ⟨ao', cap', hv, _, hcell, hspot⟩ := h
  injection hv with e1 e2 e3
  subst e1 e3
  obtain ⟨b, off, rfl, _, _, hc⟩ := hcell (by omega)
  obtain ⟨i0, hi, hz0, hz1, hz2⟩ := info_parts Tryz.info3
  refine (Tryz.slices_Clone_f79 i0 (.int .i64 0) 1 8 hi hz0 hz1 hz2 rfl (by decide) (fun w => by kernel_rfl) b off n cap (xs.map (Value.int .i64)) w (by simp [hn]) (by unfold maxLen; omega) (by omega) ?_ ?_).mono ?_
  · intro j u hu
    obtain ⟨hj, rfl⟩ := maps_get hu
    exact hc j hj
  · intro u hu
    obtain ⟨y, _, rfl⟩ := List.mem_map.1 hu
    rfl
  · rintro e w' ⟨v', rfl, hown, _, hb⟩
    obtain ⟨hl, ⟨rfl, hz⟩ | ⟨g, c, cur, rfl, r⟩⟩ := hown
    · omega
    · exact ⟨g, c, rfl, ⟨hl, .inr ⟨g, c, cur, rfl, r⟩⟩, hb⟩
theorem eq_any {Q Q' : Nat → Prop} (w : World) (o1 : Option Addr) (n c : Nat) (o2 : Option Addr) (d : Nat) (l r : List Nat) (h1 : Nums Q w (.slice o1 n c) (l.map Int.ofNat)) (h2 : Nums Q' w (.slice o2 n d) (r.map Int.ofNat)) (hn : n ≤ 200) :
    Calls Tryz.prog 256 #[.slice o1 n c, .slice o2 n d] w fun e w' => e = .returned (.bool (l == r)) ∧ Below w.heap.size w w' := by
  have l1 := nums_len h1
  have l2 := nums_len h2
  simp at l1 l2
  by_cases h0 : n = 0
  · subst h0
    have e1 : l = [] := List.eq_nil_of_length_eq_zero l1.symm
    have e2 : r = [] := List.eq_nil_of_length_eq_zero l2.symm
    subst e1 e2
    refine (Tryz.slices_Equal_int_empty o1 o2 c 0 d w (by omega)).mono ?_
    rintro e w' ⟨rfl, rfl⟩
    exact ⟨rfl, Below.refl _ _⟩
  · have p1 : 0 < (l.map Int.ofNat).length := by simp; omega
    have p2 : 0 < (r.map Int.ofNat).length := by simp; omega
    have p3 : n ≤ (l.map Int.ofNat).length := by simp; omega
    have p4 : n ≤ (r.map Int.ofNat).length := by simp; omega
    have p5 : (l.map Int.ofNat).length ≤ n := by simp; omega
    have p6 : (r.map Int.ofNat).length ≤ n := by simp; omega
    have p7 : n ≤ 9223372036854775807 := by omega
    obtain ⟨ao, cap, hv, _, hc, _⟩ := h1
    obtain ⟨b, off, rfl, _, _, hcell⟩ := hc p1
    injection hv with e1 e2 e3
    subst e1
    obtain ⟨ao2, cap2, hv2, _, hc2, _⟩ := h2
    obtain ⟨b2, off2, rfl, _, _, hcell2⟩ := hc2 p2
    injection hv2 with e1 e2 e3
    subst e1
    refine (Tryz.slices_Equal_int b off n c b2 off2 n d (l.map Int.ofNat) (r.map Int.ofNat) w p3 p4 p7 p7 (fun j hj => by rw [hcell j hj, List.getD_eq_getElem?_getD, List.getElem?_eq_getElem hj]; rfl) (fun j hj => by rw [hcell2 j hj, List.getD_eq_getElem?_getD, List.getElem?_eq_getElem hj]; rfl)).mono ?_
    rintro e w' ⟨rfl, q, rfl⟩
    refine ⟨?_, ⟨rfl, rfl, rfl, Nat.le_refl _, fun _ _ => rfl⟩⟩
    rw [List.take_of_length_le p5, List.take_of_length_le p6]
    congr 2
    rw [Bool.eq_iff_iff]
    simp only [beq_iff_eq]
    constructor
    · intro h
      exact List.map_inj_right (fun _ _ h => Int.ofNat.inj h) |>.1 h
    · rintro rfl
      rfl
end Go.Proofs.YtjobgpahajhbnaaGreatDoor
