import Derived.Test.YtjobgpahajhbnabGreatDoorTl
namespace Go.Proofs.YtjobgpahajhbnabGreatDoor
open Go.RowKit Go.Proofs Go.Maps
attribute [local go_sem ↓] Go.wp_at_zero Go.wp_at_succ
theorem Tryz.enters184 : Enters Tryz.prog 184 := Go.Proofs.enters_of Tryz.func184 (by decide) rfl
theorem Tryz.enters185 : Enters Tryz.prog 185 := Go.Proofs.enters_of Tryz.func185 (by decide) rfl
theorem Tryz.enters126 : Enters Tryz.prog 126 := Go.Proofs.enters_of Tryz.func126 (by decide) rfl
def outB (n : Nat) (x : Int) : Bool := decide (x < 0) || decide ((n : Int) ≤ x)
set_option maxHeartbeats 400000 in
theorem Jjx {W0 : World} (pb n : Nat) (hpb : pb < W0.heap.size) (c0 : W0.cell? ⟨pb, 0, none⟩ = some (.int .i64 n)) : PredC 184 #[.pointer (some ⟨pb, 0, none⟩)] W0 (outB n) where
  enters := Tryz.enters184
  call := by
    intro x w hb
    have c0' := (hb.cell (p := ⟨pb, 0, none⟩) hpb).trans c0
    clear c0 hb
    unfold outB
    by_cases h : x < 0
    · go_enter Tryz.func184, Tryz.ntmps184
      go_wp2
      exact bodyPost_ret (v := .bool true) (by simp [results, Tryz.results184, go_sem]) rfl ⟨by simp [h], rfl⟩
    · by_cases h2 : (n : Int) ≤ x
      · go_enter Tryz.func184, Tryz.ntmps184
        go_wp2
        exact bodyPost_ret (v := .bool true) (by simp [results, Tryz.results184, go_sem]) rfl ⟨by simp, rfl⟩
      · go_enter Tryz.func184, Tryz.ntmps184
        go_wp2
        exact bodyPost_ret (v := .bool false) (by simp [results, Tryz.results184, go_sem]) rfl ⟨by simp; omega, rfl⟩
def atF (xs : List Int) (x : Int) : Int := xs.getD x.toNat 0
set_option maxHeartbeats 400000 in
theorem Jna {P : Nat → Prop} {W0 : World} (pb : Nat) (hpb : pb < W0.heap.size) (co : Option Addr) (cn cc : Nat) (xs : List Int) (c1 : W0.cell? ⟨pb, 1, none⟩ = some (.slice co cn cc)) (h : Nums P W0 (.slice co cn cc) xs) : CellB 185 pb W0 (fun x => 0 ≤ x ∧ x < xs.length) (atF xs) where
  enters := Tryz.enters185
  call := by
    intro x w hb hx
    obtain ⟨k, rfl⟩ : ∃ k : Nat, x = k := ⟨x.toNat, by omega⟩
    have hk : k < xs.length := by omega
    have c1' := (hb.cell (p := ⟨pb, 1, none⟩) hpb).trans c1
    have hcn := Jf h
    obtain ⟨ao, cap, hv, _, h1, _⟩ := h.below hb
    injection hv with e1 e2 e3
    obtain ⟨b, off, ha, _, hlt, hc⟩ := h1 (by omega)
    subst e1
    subst ha
    have c2 := hc k hk
    have hv : atF xs (k : Int) = xs[k] := by simp [atF, List.getD_eq_getElem?_getD, hk]
    rw [hv]
    obtain ⟨y, hy⟩ : ∃ y, xs[k] = y := ⟨_, rfl⟩
    rw [hy] at c2 ⊢
    have hk0 : (0 : Int) ≤ (k : Int) := by omega
    have hk1 : (k : Int) < (cn : Int) := by omega
    clear h hc hv hy hx c1 hb h1 hcn e2 e3
    go_enter Tryz.func185, Tryz.ntmps185
    go_wp2
    exact bodyPost_ret (v := .int .i64 y) (by simp [results, Tryz.results185, go_sem]) rfl ⟨rfl, rfl⟩
def atP (a b : Arr) : Arr × Int := if b.shape.length ≠ 1 then (eArr, 5) else if a.cells.any (outB b.cells.length) = true then (eArr, 8) else (⟨a.shape, a.cells.map (atF b.cells)⟩, 0)
set_option maxHeartbeats 1000000 in
set_option maxRecDepth 20000 in
theorem Jox (w : World) : FnTwo 126 #[] w atP := by
  intro W P u v a b _ hP ha hb hoa hob
  obtain ⟨so, sn, sc, co, cn, cc, rfl, ha1, ha2⟩ := ha
  obtain ⟨so2, sn2, sc2, co2, cn2, cc2, rfl, hb1, hb2⟩ := hb
  have ha : IsArr P W (.agg #[.slice so sn sc, .slice co cn cc]) a := ⟨_, _, _, _, _, _, rfl, ha1, ha2⟩
  have hcn2 := Jf hb2
  have hsn2 := Jf hb1
  simp at hsn2
  obtain ⟨W1, hW1⟩ : ∃ W1, ((W.alloc (.cells #[.slice so sn sc, .slice co cn cc] 57)).alloc (.cells #[.slice so2 sn2 sc2, .slice co2 cn2 cc2] 57)).alloc (.cells #[.slice none 0 0, .slice none 0 0] 57) = W1 := ⟨_, rfl⟩
  have hbW : Below W.heap.size W W1 := by rw [← hW1]; exact (((Below.refl _ _).alloc (Nat.le_refl _) _).alloc (by simp) _).alloc (by simp; omega) _
  have hs1 : W1.heap.size = W.heap.size + 1 + 1 + 1 := by rw [← hW1]; simp
  have k0 : W1.cell? ⟨W.heap.size + 1, 0, none⟩ = some (.slice so2 sn2 sc2) := by
    rw [← hW1, World.cell?_of_block (a := ⟨W.heap.size + 1, 0, none⟩) (RowKit.Below.heap_alloc _ _ _ (by simp))]
    exact (World.cell?_alloc_at _ _ _ _ (by simp)).trans rfl
  have k1 : W1.cell? ⟨W.heap.size + 1, 1, none⟩ = some (.slice co2 cn2 cc2) := by
    rw [← hW1, World.cell?_of_block (a := ⟨W.heap.size + 1, 1, none⟩) (RowKit.Below.heap_alloc _ _ _ (by simp))]
    exact (World.cell?_alloc_at _ _ _ _ (by simp)).trans rfl
  have b0 : W1.cell? ⟨W.heap.size, 0, none⟩ = some (.slice so sn sc) := by
    rw [← hW1, World.cell?_of_block (a := ⟨W.heap.size, 0, none⟩) (RowKit.Below.heap_alloc _ _ _ (by simp; omega)), World.cell?_of_block (a := ⟨W.heap.size, 0, none⟩) (RowKit.Below.heap_alloc _ _ _ (by simp))]
    exact (World.cell?_alloc_at _ _ _ _ rfl).trans rfl
  have b1 : W1.cell? ⟨W.heap.size, 1, none⟩ = some (.slice co cn cc) := by
    rw [← hW1, World.cell?_of_block (a := ⟨W.heap.size, 1, none⟩) (RowKit.Below.heap_alloc _ _ _ (by simp; omega)), World.cell?_of_block (a := ⟨W.heap.size, 1, none⟩) (RowKit.Below.heap_alloc _ _ _ (by simp))]
    exact (World.cell?_alloc_at _ _ _ _ rfl).trans rfl
  have r0 : W1.cell? ⟨W.heap.size + 1 + 1, 0, none⟩ = some (.slice none 0 0) := by rw [← hW1]; exact (World.cell?_alloc_at _ _ _ _ (by simp)).trans rfl
  have r1 : W1.cell? ⟨W.heap.size + 1 + 1, 1, none⟩ = some (.slice none 0 0) := by rw [← hW1]; exact (World.cell?_alloc_at _ _ _ _ (by simp)).trans rfl
  have f0 : ∀ i, W1.frozen? ⟨W.heap.size + 1 + 1, i, none⟩ = false := fun i => by rw [← hW1]; exact World.frozen?_alloc_at _ _ _ _ (by simp)
  have HF : Hid (∀ w', Below W1.heap.size W1 w' → (w'.cell? ⟨W.heap.size, 0, none⟩ = some (.slice so sn sc) ∧ w'.cell? ⟨W.heap.size, 1, none⟩ = some (.slice co cn cc) ∧ w'.cell? ⟨W.heap.size + 1, 0, none⟩ = some (.slice so2 sn2 sc2) ∧ w'.cell? ⟨W.heap.size + 1, 1, none⟩ = some (.slice co2 cn2 cc2) ∧ w'.cell? ⟨W.heap.size + 1 + 1, 0, none⟩ = some (.slice none 0 0) ∧ w'.cell? ⟨W.heap.size + 1 + 1, 1, none⟩ = some (.slice none 0 0)) ∧ w'.frozen? ⟨W.heap.size + 1 + 1, 0, none⟩ = false ∧ w'.frozen? ⟨W.heap.size + 1 + 1, 1, none⟩ = false) := hide (fun w' hb => ⟨⟨(hb.cell (p := ⟨W.heap.size, 0, none⟩) (by show W.heap.size < W1.heap.size; omega)).trans b0, (hb.cell (p := ⟨W.heap.size, 1, none⟩) (by show W.heap.size < W1.heap.size; omega)).trans b1, (hb.cell (p := ⟨W.heap.size + 1, 0, none⟩) (by show W.heap.size + 1 < W1.heap.size; omega)).trans k0, (hb.cell (p := ⟨W.heap.size + 1, 1, none⟩) (by show W.heap.size + 1 < W1.heap.size; omega)).trans k1, (hb.cell (p := ⟨W.heap.size + 1 + 1, 0, none⟩) (by show W.heap.size + 1 + 1 < W1.heap.size; omega)).trans r0, (hb.cell (p := ⟨W.heap.size + 1 + 1, 1, none⟩) (by show W.heap.size + 1 + 1 < W1.heap.size; omega)).trans r1⟩, (hb.frozen (p := ⟨W.heap.size + 1 + 1, 0, none⟩) (by show W.heap.size + 1 + 1 < W1.heap.size; omega)).trans (f0 0), (hb.frozen (p := ⟨W.heap.size + 1 + 1, 1, none⟩) (by show W.heap.size + 1 + 1 < W1.heap.size; omega)).trans (f0 1)⟩)
  have HRow := hide (fun w' => (Zs w' so2 sn2 sc2 co2 cn2 cc2).mono (fun e w'' h => (⟨h.1, by rw [h.2]; exact ((Below.refl _ _).alloc (Nat.le_refl _) _).alloc (by simp) _⟩ : e = .returned (.bool ((sn2 : Int) == 1)) ∧ Below w'.heap.size w' w'')))
  have HSize := hide (fun w' => (J2 w' so2 sn2 sc2 co2 cn2 cc2).mono (fun e w'' h => (⟨h.1, by rw [h.2]; exact (Below.refl _ _).alloc (Nat.le_refl _) _⟩ : e = .returned (.int .i64 cn2) ∧ Below w'.heap.size w' w'')))
  have HHas : Hid (∀ w', Below W1.heap.size W1 w' → ∀ pb, pb < w'.heap.size → w'.cell? ⟨pb, 0, none⟩ = some (.int .i64 cn2) → Calls Tryz.prog 174 #[.agg #[.slice so sn sc, .slice co cn cc], .func (.func 184) #[] #[.pointer (some ⟨pb, 0, none⟩)]] w' fun e w'' => e = .returned (.bool (a.cells.any (outB cn2))) ∧ Below w'.heap.size w' w'') := hide (fun w' hb pb hpb hc => (Jbw P w' w' (Below.refl _ _) 184 _ (outB cn2) (Jjx pb cn2 hpb hc) so sn sc co cn cc a.cells ((ha2.below hbW).below hb) hoa.few).mono (fun e w'' h => ⟨h.1, by rw [h.2]; exact (Below.refl _ _).alloc (Nat.le_refl _) _⟩))
  have HEach : Hid ((∀ c ∈ a.cells, 0 ≤ c ∧ c < b.cells.length) → ∀ w', Below W1.heap.size W1 w' → Calls Tryz.prog 150 #[.agg #[.slice so sn sc, .slice co cn cc], .func (.func 185) #[] #[.pointer (some ⟨W.heap.size + 1, 0, none⟩)]] w' fun e w'' => ∃ c1 c2 c3, e = .returned (.agg #[.slice so sn sc, .slice c1 c2 c3]) ∧ IsArr (fun b => P b ∧ b ≠ W.heap.size + 1 + 1) w'' (.agg #[.slice so sn sc, .slice c1 c2 c3]) ⟨a.shape, a.cells.map (atF b.cells)⟩ ∧ Below w'.heap.size w' w'') := hide (fun hall w' hb => Jc8 (atF b.cells) 185 (W.heap.size + 1) (fun b => P b ∧ b ≠ W.heap.size + 1 + 1) w' _ (Jna (W.heap.size + 1) (by have := hb.size; omega) co2 cn2 cc2 b.cells ((Ja HF w' hb).1.2.2.2.1) ((hb2.below hbW).below hb)) (fun b h' => ⟨hP b (by have := hb.size; omega), by have := hb.size; omega⟩) so sn sc co cn cc a (((ha.imp (fun b hp hl => ⟨hp, by omega⟩)).below hbW).below hb) hoa hall)
  have HBW := hide hbW
  obtain ⟨r, hr⟩ : ∃ r, atP a b = r := ⟨_, rfl⟩
  simp only [hr]
  have HR := hide hr
  have HC2 := hide hcn2
  have HS2 := hide hsn2
  obtain ⟨⟨b0', b1', k0', k1', r0', r1'⟩, q0, q1⟩ := Ja HF W1 (Below.refl _ _)
  clear hP hoa hob ha ha1 ha2 hb1 hb2 hr k0 k1 b0 b1 r0 r1 hbW f0 hcn2 hsn2
  go_enter Tryz.func126, Tryz.ntmps126
  go_wp2_with fail
  try rw [hW1]
  clear hW1
  clear b0' b1' k0' k1' r0' r1' q0 q1
  refine (Ja HRow _).mono ?_
  rintro e w2 ⟨rfl, hb2⟩
  obtain ⟨⟨x0, x1, x2, x3, x4, x5⟩, y0, y1⟩ := Ja HF w2 hb2
  have HB2 := hide hb2
  have hz2 := hb2.size
  have n1 : W.heap.size < w2.heap.size := by omega
  have n2 : W.heap.size + 1 < w2.heap.size := by omega
  have n3 : W.heap.size + 1 + 1 < w2.heap.size := by omega
  clear hb2
  by_cases hrow : sn2 = 1
  · have hrow' : ((sn2 : Int) == 1) = true := by rw [hrow]; rfl
    have HROW := hide hrow
    clear hrow
    go_wp2_with fail
    refine (Ja HSize _).mono ?_
    rintro e w3 ⟨rfl, hb3⟩
    have hb3' := (Ja HB2).trans (hb3.mono (Ja HB2).size)
    have hb4 := hb3'.alloc hb3'.size (.cells #[.int .i64 cn2] 2)
    obtain ⟨w4, hw4⟩ : ∃ w4, w3.alloc (.cells #[.int .i64 cn2] 2) = w4 := ⟨_, rfl⟩
    rw [hw4] at hb4
    have hz4 : w4.heap.size = w3.heap.size + 1 := by rw [← hw4]; simp
    have hpc : w4.cell? ⟨w3.heap.size, 0, none⟩ = some (.int .i64 cn2) := by rw [← hw4]; exact (World.cell?_alloc_at _ _ _ _ rfl).trans rfl
    obtain ⟨⟨s0, s1, s2, s3, s4, s5⟩, t0, t1⟩ := Ja HF w4 hb4
    have HH := hide (Ja HHas w4 hb4 w3.heap.size (by omega) hpc)
    have HB4 := hide hb4
    have hz5 := hb4.size
    have m1 : W.heap.size < w4.heap.size := by omega
    have m2 : W.heap.size + 1 < w4.heap.size := by omega
    have m3 : W.heap.size + 1 + 1 < w4.heap.size := by omega
    clear x0 x1 x2 x3 x4 x5 y0 y1 hb3 hb3' hb4 hpc n1 n2 n3
    go_wp2_with fail
    try rw [hw4]
    clear hw4
    refine (Ja HH).mono ?_
    rintro e w5 ⟨rfl, hb5⟩
    have hb5' := (Ja HB4).trans (hb5.mono (Ja HB4).size)
    obtain ⟨⟨x0, x1, x2, x3, x4, x5⟩, y0, y1⟩ := Ja HF w5 hb5'
    have HB5 := hide hb5'
    have hz6 := hb5.size
    have n1 : W.heap.size < w5.heap.size := by omega
    have n2 : W.heap.size + 1 < w5.heap.size := by omega
    have n3 : W.heap.size + 1 + 1 < w5.heap.size := by omega
    have HBz : Hid (Below W.heap.size W w5) := hide ((Ja HBW).trans ((Ja HB5).mono (Ja HBW).size))
    clear s0 s1 s2 s3 s4 s5 t0 t1 hb5 hb5' m1 m2 m3
    cases hany : a.cells.any (outB cn2)
    · have hall : ∀ c ∈ a.cells, 0 ≤ c ∧ c < b.cells.length := by
        intro c hc
        have := List.any_eq_false.1 hany c hc
        rw [← Ja HC2]
        simp [outB] at this
        omega
      have hr' : r = (⟨a.shape, a.cells.map (atF b.cells)⟩, 0) := by
        rw [← Ja HR]
        unfold atP
        rw [if_neg (by rw [← Ja HS2, Ja HROW]; decide), if_neg (by rw [← Ja HC2, hany]; decide)]
      have HE := hide (Ja HEach hall w5 (Ja HB5))
      obtain ⟨q, hq⟩ : ∃ q : Arr, (⟨a.shape, a.cells.map (atF b.cells)⟩ : Arr) = q := ⟨_, rfl⟩
      rw [hq] at hr'
      simp only [hq] at HE
      subst hr'
      clear hall hany hq
      go_wp2_with fail
      refine (Ja HE).mono ?_
      rintro e w6 ⟨c1, c2, c3, rfl, hA, hb6⟩
      have HA := hide hA
      have d0 := (hb6.cell (p := ⟨W.heap.size + 1 + 1, 0, none⟩) n3).trans x4
      have d1 := (hb6.cell (p := ⟨W.heap.size + 1 + 1, 1, none⟩) n3).trans x5
      have g0 := (hb6.frozen (p := ⟨W.heap.size + 1 + 1, 0, none⟩) n3).trans y0
      have g1 := (hb6.frozen (p := ⟨W.heap.size + 1 + 1, 1, none⟩) n3).trans y1
      have hz7 := hb6.size
      have n4 : W.heap.size + 1 + 1 < w6.heap.size := by omega
      have HB6 : Hid (Below W.heap.size W w6) := hide ((Ja HBz).trans (hb6.mono (Ja HBz).size))
      clear x0 x1 x2 x3 x4 x5 y0 y1 hA hb6
      go_wp2_with fail
      refine bodyPost_ret (v := .tuple #[.agg #[.slice so sn sc, .slice c1 c2 c3], .int .i64 0]) (by simp [results, Tryz.results126, go_sem, d0, d1]) rfl ⟨_, _, _, _, _, _, rfl, ?_, ?_⟩
      · exact (((Ja HA).set (fun h => h.2 rfl) 0 _).set (fun h => h.2 rfl) 1 _).imp (fun b h _ => h.1)
      · exact ((Ja HB6).setCell (p := ⟨W.heap.size + 1 + 1, 0, none⟩) (by show W.heap.size ≤ W.heap.size + 1 + 1; omega) _).setCell (p := ⟨W.heap.size + 1 + 1, 1, none⟩) (by show W.heap.size ≤ W.heap.size + 1 + 1; omega) _
    · have hr' : r = (eArr, 8) := by
        rw [← Ja HR]
        unfold atP
        rw [if_neg (by rw [← Ja HS2, Ja HROW]; decide), if_pos (by rw [← Ja HC2, hany])]
      subst hr'
      clear hany
      go_wp2_with fail
      refine bodyPost_ret (v := .tuple #[.agg #[.slice none 0 0, .slice none 0 0], .int .i64 8]) (by simp [results, Tryz.results126, go_sem, x4, x5]) rfl ⟨_, _, _, _, _, _, rfl, Yb _ _, ?_⟩
      exact ((Ja HBz).setCell (p := ⟨W.heap.size + 1 + 1, 0, none⟩) (by show W.heap.size ≤ W.heap.size + 1 + 1; omega) _).setCell (p := ⟨W.heap.size + 1 + 1, 1, none⟩) (by show W.heap.size ≤ W.heap.size + 1 + 1; omega) _
  · have hrow' : ((sn2 : Int) == 1) = false := by
      rw [beq_eq_false_iff_ne]
      omega
    have hr' : r = (eArr, 5) := by
      rw [← Ja HR]
      unfold atP
      rw [if_pos (by rw [← Ja HS2]; exact hrow)]
    subst hr'
    clear hrow
    have HBz : Hid (Below W.heap.size W w2) := hide ((Ja HBW).trans ((Ja HB2).mono (Ja HBW).size))
    go_wp2_with fail
    refine bodyPost_ret (v := .tuple #[.agg #[.slice none 0 0, .slice none 0 0], .int .i64 5]) (by simp [results, Tryz.results126, go_sem, x4, x5]) rfl ⟨_, _, _, _, _, _, rfl, Yb _ _, ?_⟩
    exact ((Ja HBz).setCell (p := ⟨W.heap.size + 1 + 1, 0, none⟩) (by show W.heap.size ≤ W.heap.size + 1 + 1; omega) _).setCell (p := ⟨W.heap.size + 1 + 1, 1, none⟩) (by show W.heap.size ≤ W.heap.size + 1 + 1; omega) _
theorem Jog : TwoC ⟨#[97, 116]⟩ atP := ⟨fun w => (Z3 (t := ⟨#[97, 116]⟩) (k1 := .string [116]) (k2 := .string [97, 116]) (f := 126) (by decide) (by kernel_rfl) (by kernel_rfl) (by kernel_rfl) (by kernel_rfl) (by kernel_rfl) w).mono (by rintro e w' ⟨rfl, hb⟩; exact ⟨126, #[], rfl, Tryz.enters126, hb, Jox w'⟩), fun a b ha hb => by
  unfold atP
  split
  · exact ⟨by simp [eArr], fun h => absurd h (by decide)⟩
  · split
    · exact ⟨by simp [eArr], fun h => absurd h (by decide)⟩
    · refine ⟨by simpa using ha.few, fun _ => ⟨ha.rank, ha.lens, by simpa using ha.size, by simpa using ha.few, ?_⟩⟩
      intro c hc
      obtain ⟨x, _, rfl⟩ := List.mem_map.1 hc
      unfold atF
      by_cases hx : x.toNat < b.cells.length
      · rw [List.getD_eq_getElem?_getD, List.getElem?_eq_getElem hx]
        exact hb.fits _ (List.getElem_mem hx)
      · rw [List.getD_eq_getElem?_getD, List.getElem?_eq_none (by omega)]
        simp [Jg]⟩
end Go.Proofs.YtjobgpahajhbnabGreatDoor
