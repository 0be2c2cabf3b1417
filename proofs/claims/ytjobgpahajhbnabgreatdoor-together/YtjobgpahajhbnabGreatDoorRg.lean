import Derived.Test.YtjobgpahajhbnabGreatDoorRb
import Derived.Deep.RegionHeld3
namespace Go.Proofs.YtjobgpahajhbnabGreatDoor
open Go.RowKit Go.Proofs
attribute [local go_sem ↓] Go.wp_at_zero Go.wp_at_succ
theorem Jgk {f : Int → Int → Int × Int} {a b : Arr} {x0 : Int} (hx : b.cells = [x0]) (hs : b.shape = []) (ha : a.shape ≠ []) : Je f a b = zipA f a.shape a.cells (List.replicate a.cells.length x0) := by
  unfold Je
  rw [if_neg ha, if_pos hs, hx]
  rfl
theorem Jgn {P : Nat → Prop} {w W3 w2 : World} {b0 b1 : Value} {so2 : Option Addr} {sn2 sc2 : Nat} {co2 : Option Addr} {cn2 cc2 : Nat} {co5 : Option Addr} {cn5 cc5 : Nat} {b : Arr} {x0 : Int} (h3 : Box3 w W3 (.slice so2 sn2 sc2) (.slice co2 cn2 cc2) b0 b1) (h5 : Below W3.heap.size W3 w2)
    (h : IsArr (fun b' => P b' ∧ (b' < w.heap.size ∨ w.heap.size + 2 < b')) w2 (.agg #[.slice so2 sn2 sc2, .slice co5 cn5 cc5]) ⟨b.shape, List.replicate b.cells.length x0⟩) (hb : IsArr P w (.agg #[.slice so2 sn2 sc2, .slice co2 cn2 cc2]) b) (hok : b.ok) (hx0 : Jg x0) :
    PairS w.heap.size ((w2.setCell ⟨w.heap.size + 1, 0, none⟩ (.slice so2 sn2 sc2)).setCell ⟨w.heap.size + 1, 1, none⟩ (.slice co5 b.cells.length cc5)) so2 sn2 sc2 co2 cc2 (.slice so2 sn2 sc2) co5 cc5 b.cells.length b.cells (List.replicate b.cells.length x0) := by
  have hsz := h3.sz
  have hs5 := h5.size
  have hl5 : cn5 = b.cells.length := by have := (Jc h).1; simpa using this
  have hl2 := (Jc hb).1
  subst hl5
  obtain ⟨_, _, _, _, _, _, hv1, _, hn1⟩ := h
  injection hv1 with hv1
  simp at hv1
  obtain ⟨_, rfl, rfl, rfl⟩ := hv1
  obtain ⟨_, _, _, _, _, _, hv2, _, hn2⟩ := hb
  injection hv2 with hv2
  simp at hv2
  obtain ⟨_, rfl, rfl, rfl⟩ := hv2
  have ot : ∀ (c i : Nat), c ≠ w.heap.size + 1 → ((w2.setCell ⟨w.heap.size + 1, 0, none⟩ (.slice so2 sn2 sc2)).setCell ⟨w.heap.size + 1, 1, none⟩ (.slice co5 b.cells.length cc5)).cell? ⟨c, i, none⟩ = w2.cell? ⟨c, i, none⟩ := fun c i hc => by
    rw [World.cell?_setCell_other, World.cell?_setCell_other] <;> (intro e; injection e; omega)
  have k2 : ∀ (c i : Nat), c < W3.heap.size → w2.cell? ⟨c, i, none⟩ = W3.cell? ⟨c, i, none⟩ := fun c i hc => h5.cell (p := ⟨c, i, none⟩) hc
  have kf : ∀ (c i : Nat), c < W3.heap.size → ((w2.setCell ⟨w.heap.size + 1, 0, none⟩ (.slice so2 sn2 sc2)).setCell ⟨w.heap.size + 1, 1, none⟩ (.slice co5 b.cells.length cc5)).frozen? ⟨c, i, none⟩ = W3.frozen? ⟨c, i, none⟩ := fun c i hc => by
    rw [World.frozen?_setCell, World.frozen?_setCell]
    exact h5.frozen (p := ⟨c, i, none⟩) hc
  refine ⟨?_, ?_, ?_, ?_, ?_, ?_, ?_, ?_, by simp; omega, rfl, by simp, hok.few, hok.fits, fun c hc => by rw [(List.mem_replicate.1 hc).2]; exact hx0, ?_, ?_⟩
  · rw [ot _ _ (by omega), k2 _ _ (by omega)]; exact h3.c0
  · rw [ot _ _ (by omega), k2 _ _ (by omega)]; rw [hl2] at h3; exact h3.c1
  · exact World.cell?_setCell_same _ _ _ ((World.cell?_setCell_other _ _ _ _ (by simp)).trans ((k2 _ _ (by omega)).trans h3.d1))
  · rw [World.cell?_setCell_other _ _ _ _ (by simp)]
    exact World.cell?_setCell_same _ _ _ ((k2 _ _ (by omega)).trans h3.d0)
  · rw [ot _ _ (by omega), k2 _ _ (by omega)]; exact h3.r0
  · rw [ot _ _ (by omega), k2 _ _ (by omega)]; exact h3.r1
  · rw [kf _ _ (by omega)]; exact h3.fr0
  · rw [kf _ _ (by omega)]; exact h3.fr1
  · intro h0
    obtain ⟨ao, cap, hv, _, hc, _⟩ := hn2
    obtain ⟨yb, yf, rfl, hp, hl, hcell⟩ := hc h0
    injection hv with hv
    refine ⟨yb, yf, hv, by simp; omega, fun i hi => ?_⟩
    rw [ot _ _ (by omega), k2 _ _ (by omega)]
    exact (h3.bel.cell (p := ⟨yb, yf + i, none⟩) hl).trans (hcell i hi)
  · intro h0
    obtain ⟨ao, cap, hv, _, hc, _⟩ := hn1
    obtain ⟨xb, xf, rfl, hp, hl, hcell⟩ := hc (by simpa using h0)
    injection hv with hv
    refine ⟨xb, xf, hv, by simpa using hl, fun i hi => ?_⟩
    rw [ot _ _ (by rcases hp.2 with h | h <;> omega)]
    exact hcell i hi
set_option maxRecDepth 20000 in
set_option maxHeartbeats 2000000 in
theorem Jd3 (f : Int → Int → Int × Int) (g : Nat) (hrule : RuleC g f) (P : Nat → Prop) (w : World) (hP : ∀ b, w.heap.size ≤ b → P b) (so : Option Addr) (sn sc : Nat) (co : Option Addr) (cn cc : Nat) (so2 : Option Addr) (sc2 : Nat) (co2 : Option Addr) (cn2 cc2 : Nat) (a b : Arr) (ha : IsArr P w (.agg #[.slice so sn sc, .slice co cn cc]) a) (hb : IsArr P w (.agg #[.slice so2 0 sc2, .slice co2 cn2 cc2]) b) (hsn : ((sn : Int) == 0) = false) (hoa : a.ok) (hob : b.ok) :
    Calls Tryz.prog 163 #[.agg #[.slice so sn sc, .slice co cn cc], .agg #[.slice so2 0 sc2, .slice co2 cn2 cc2], .func (.func g) #[] #[]] w fun e w' => ∃ s1 s2 s3 c1 c2 c3, e = .returned (.tuple #[.agg #[.slice s1 s2 s3, .slice c1 c2 c3], .int .i64 (Je f a b).2]) ∧ IsArr P w' (.agg #[.slice s1 s2 s3, .slice c1 c2 c3]) (Je f a b).1 ∧ Below w.heap.size w w' := by
  obtain ⟨i0, hi, hz0, hz1, hz2⟩ := info_parts Tryz.info2
  have HI := hide hi
  have HZ0 := hide hz0
  have HZ1 := hide hz1
  have HZ2 := hide hz2
  have hen2 : ∀ args w, (callFunc g args).run Tryz.prog w = .ok (.enter g args) w := hrule.enters
  have HP : Hid (∀ b, w.heap.size ≤ b → P b) := hP
  have HA := hide ha
  have HB := hide hb
  obtain ⟨hcl, hsl⟩ := Jc hb
  have hsh : b.shape = [] := List.eq_nil_of_length_eq_zero hsl.symm
  have hsa : a.shape ≠ [] := by
    intro h
    have := (Jc ha).2
    rw [h] at this
    subst this
    simp at hsn
  have hc1 : b.cells.length = 1 := by have := hob.size; rw [hsh] at this; simpa [Jj] using this
  obtain ⟨x0, hx0⟩ : ∃ x, b.cells = [x] := by
    match h : b.cells, hc1 with
    | [x], _ => exact ⟨x, rfl⟩
  obtain ⟨cb, cf, rfl, hcb, hcc0⟩ := Jc9 hb hx0
  have hcn : cn2 = 1 := by omega
  subst hcn
  have HOA := hide hoa
  have HX0 := hide hx0
  have HSH := hide hsh
  have HSA := hide hsa
  have HF0 := hide (hob.fits x0 (by rw [hx0]; simp))
  have HCC := hide hcc0
  clear hi hz0 hz1 hz2 hP ha hb hcl hsl hc1 hx0 hsh hoa hob hsa
  have hcb1 : cb < w.heap.size + 1 := by omega
  have hcb2 : cb < w.heap.size + 1 + 1 := by omega
  have hcb3 : cb < w.heap.size + 1 + 1 + 1 := by omega
  go_enter Tryz.func163, Tryz.ntmps163
  go_wp2_with (go_at_call 143; refine (Ji _ _ _ _ _ _ _).mono ?_; rintro e w' ⟨rfl, rfl⟩)
  have hX3 := X9 (w := w) (a0 := .slice so sn sc) (a1 := .slice co cn cc) (b0 := .slice so2 0 sc2) (b1 := .slice (some ⟨cb, cf, none⟩) 1 cc2) (((((Below.refl (w.heap.size + 3) _).alloc (by simp) (.cells #[.slice so sn sc, .slice co cn cc] 57)).alloc (by simp) (.cells #[.slice so sn sc, .slice co cn cc] 57)).alloc (by simp <;> omega) (.cells #[.slice so2 0 sc2, .slice (some ⟨cb, cf, none⟩) 1 cc2] 57)).alloc (by simp <;> omega) (.cells #[.slice so2 0 sc2, .slice (some ⟨cb, cf, none⟩) 1 cc2] 57))
  have HX3 := hide hX3
  obtain ⟨W3, hW3⟩ : ∃ W3, (((((((w.alloc (.cells #[.slice so sn sc, .slice co cn cc] 57)).alloc (.cells #[.slice so2 0 sc2, .slice (some ⟨cb, cf, none⟩) 1 cc2] 57)).alloc (.cells #[.slice none 0 0, .slice none 0 0] 57)).alloc (.cells #[.slice so sn sc, .slice co cn cc] 57)).alloc (.cells #[.slice so sn sc, .slice co cn cc] 57)).alloc (.cells #[.slice so2 0 sc2, .slice (some ⟨cb, cf, none⟩) 1 cc2] 57)).alloc (.cells #[.slice so2 0 sc2, .slice (some ⟨cb, cf, none⟩) 1 cc2] 57)) = W3 := ⟨_, rfl⟩
  rw [hW3] at HX3 ⊢
  clear hX3 hW3
  have z0 := (Ja HX3).c0
  have z1 := (Ja HX3).c1
  have z2 := (Ja HX3).d0
  have z3 := (Ja HX3).d1
  have zc := ((Ja HX3).bel.cell (p := ⟨cb, cf, none⟩) hcb).trans (Ja HCC)
  have hfb := (Ja HOA).few
  have hsz0 : w.heap.size + 1 < W3.heap.size := by have := (Ja HX3).sz; omega
  go_region_with (first | (go_at_call 186; refine (Vn (fun b' => P b' ∧ (b' < w.heap.size ∨ w.heap.size + 2 < b')) _ (fun b' h => ⟨Ja HP b' (by have := (Ja HX3).sz; simp at h; omega), Or.inr (by have := (Ja HX3).sz; simp at h; omega)⟩) so sn sc co cn cc a ?_ hfb x0).mono ?_; exact (((Ja HA).imp (fun _ h hl => ⟨h, Or.inl hl⟩)).below (Ja HX3).bel).below (Below.refl _ _).drew; rintro e w2 ⟨co5, cn5, cc5, rfl, ha5, hb5⟩; have HA5 := hide ha5; have HB5 : Hid (Below W3.heap.size W3 w2) := hide ((Below.refl W3.heap.size W3).drew.trans hb5); have u0 := ((Ja HB5).cell (p := ⟨w.heap.size + 1, 0, none⟩) hsz0).trans (Ja HX3).d0; have u1 := ((Ja HB5).cell (p := ⟨w.heap.size + 1, 1, none⟩) hsz0).trans (Ja HX3).d1; have u2 := ((Ja HB5).frozen (p := ⟨w.heap.size + 1, 0, none⟩) hsz0).trans (Ja HX3).fd0; have u3 := ((Ja HB5).frozen (p := ⟨w.heap.size + 1, 1, none⟩) hsz0).trans (Ja HX3).fd1; clear ha5 hb5))
  all_goals
    have hPS := Jgn (Ja HX3) (Ja HB5) (Ja HA5) (Ja HA) (Ja HOA) (Ja HF0)
    obtain ⟨N, hN⟩ : ∃ N, a.cells.length = N := ⟨_, rfl⟩
    have hcn5 : cn5 = N := by rw [← hN]; have := (Jc (Ja HA5)).1; simpa using this
    have hcn2 : cn = N := by rw [← hN]; exact (Jc (Ja HA)).1
    rw [hN] at hPS
    have HFin := hide (Jgk (f := f) (x0 := x0) (Ja HX0) (Ja HSH) (Ja HSA))
    rw [hN] at HFin
    subst hcn5 hcn2
    have HPS := hide hPS
    obtain ⟨xs, hxs⟩ : ∃ xs, a.cells = xs := ⟨_, rfl⟩
    obtain ⟨ys, hys⟩ : ∃ ys, List.replicate cn x0 = ys := ⟨_, rfl⟩
    rw [hxs, hys] at HPS HFin
    obtain ⟨wS, hwS⟩ : ∃ wS, (w2.setCell ⟨w.heap.size + 1, 0, none⟩ (.slice so sn sc)).setCell ⟨w.heap.size + 1, 1, none⟩ (.slice co5 cn cc5) = wS := ⟨_, rfl⟩
    have HBS : Hid (Below w.heap.size w wS) := hide (by rw [← hwS]; exact ((((Ja HX3).bel.trans ((Ja HB5).mono (Ja HX3).bel.size)).setCell (p := ⟨w.heap.size + 1, 0, none⟩) (Nat.le_succ _) _).setCell (p := ⟨w.heap.size + 1, 1, none⟩) (Nat.le_succ _) _))
    rw [hwS] at HPS ⊢
    clear hPS hwS hxs hys hN u0 u1 u2 u3 z0 z1 z2 z3 zc hcb hcb1 hcb2 hcb3 hcc0 hsz0 hfb
    obtain ⟨a0, a1, b1, b0, r0, r1, q0, q1, hlt, hxl, hyl, hfew, hxf, hyf, hX, hY⟩ := Ja HPS
    have HXL := hide hxl
    have HYL := hide hyl
    have HXF := hide hxf
    have HYF := hide hyf
    have HX := hide hX
    have HY := hide hY
    have hrc := hrule.call
    have HRC := hide hrc
    clear hxl hyl hxf hyf hX hY hrc hrule
    go_wp2_with fail
    go_loopw [8, 48] (fun v8 v48 wr => ∃ (k : Nat) (l : List Int), v48 = .int .i64 k ∧ k ≤ cn ∧ zipF f (xs.take k) (ys.take k) = .inr l ∧ l.length = k ∧ wr.ownsRow wS.heap.size 2 1 v8 k (l.map (Value.int .i64)) ∧ Below wS.heap.size wS wr) (fun _ v48 _ => cn - (intOf v48).toNat)
    case atStart => exact ⟨0, [], rfl, Nat.zero_le _, by simp [zipF], rfl, World.ownsRow_nil _ _ _ _, Below.refl _ _⟩
    case round =>
      obtain ⟨k, l, rfl, hkN, hz, hll, hown, hbel⟩ := hrel
      have a0' := (hbel.cell (p := ⟨w.heap.size, 0, none⟩) (show w.heap.size < wS.heap.size by omega)).trans a0
      have a1' := (hbel.cell (p := ⟨w.heap.size, 1, none⟩) (show w.heap.size < wS.heap.size by omega)).trans a1
      have b1' := (hbel.cell (p := ⟨w.heap.size + 1, 1, none⟩) (show w.heap.size + 1 < wS.heap.size by omega)).trans b1
      have r0' := (hbel.cell (p := ⟨w.heap.size + 1 + 1, 0, none⟩) hlt).trans r0
      have r1' := (hbel.cell (p := ⟨w.heap.size + 1 + 1, 1, none⟩) hlt).trans r1
      have q0' := (hbel.frozen (p := ⟨w.heap.size + 1 + 1, 0, none⟩) hlt).trans q0
      have q1' := (hbel.frozen (p := ⟨w.heap.size + 1 + 1, 1, none⟩) hlt).trans q1
      have HZ := hide hz
      have HLL := hide hll
      have HOw := hide hown
      have HBe := hide hbel
      by_cases hkn : k < cn
      · obtain ⟨xb, xf, rfl, hxb, hxc⟩ := Ja HX (by omega)
        obtain ⟨yb, yf, rfl, hyb, hyc⟩ := Ja HY (by omega)
        have hkx : k < xs.length := by rw [Ja HXL]; exact hkn
        have hky : k < ys.length := by rw [Ja HYL]; exact hkn
        have cx := (hbel.cell (p := ⟨xb, xf + k, none⟩) hxb).trans (hxc k hkx)
        have cy := (hbel.cell (p := ⟨yb, yf + k, none⟩) hyb).trans (hyc k hky)
        have hzt := Vy (f := f) k xs ys (by rw [Ja HXL, Ja HYL]) hkx hky l hz
        have hfx := Ja HXF _ (List.getElem_mem hkx)
        have hfy := Ja HYF _ (List.getElem_mem hky)
        obtain ⟨x, hx⟩ : ∃ x, xs[k] = x := ⟨_, rfl⟩
        obtain ⟨y, hy⟩ : ∃ y, ys[k] = y := ⟨_, rfl⟩
        rw [hx] at cx hfx
        rw [hy] at cy hfy
        rw [hx, hy] at hzt
        have HRule := hide (fun w => Ja HRC x y w hfx hfy)
        obtain ⟨u, hu⟩ : ∃ u, (f x y).1 = u := ⟨_, rfl⟩
        obtain ⟨er, her⟩ : ∃ er, (f x y).2 = er := ⟨_, rfl⟩
        simp only [hu, her] at HRule hzt
        have HZT := hide hzt
        have hk0 : (0 : Int) ≤ (k : Int) := by omega
        have hk1 : (k : Int) < (cn : Int) := by omega
        clear hz hll hown hbel hxc hyc hzt hx hy hu her hfx hfy hxb hyb
        cases hee : (er != 0)
        · have he0 : er = 0 := by simpa using hee
          subst he0
          clear hee
          go_wp2_with fail
          go_quiet ((go_at_fn g; exact Calls.quiet_of_same (Ja HRule _)))
          go_wp2_with (at_builtin; refine wpList_append_own _ rfl _ _ 32 rfl wS.heap.size 2 i0 (.int .i64 0) 1 8 Tryz.underlying32 (Ja HI) (Ja HZ0) (Ja HZ1) (Ja HZ2) rfl (by decide) _ _ _ rfl (((Xs (Ja HOw) _)).alloc _) ⟨wr.heap.size, 0, none⟩ 1 1 [.int .i64 u] rfl rfl ?c1 ?c2 ?c3 ?c4 ?c5 ?_)
          case c1 => intro j v hj; match j, hj with | 0, hj => simp at hj; subst hj; exact (World.cell?_alloc_at _ _ _ _ rfl).trans rfl
          case c2 => intro v hv; simp at hv; subst hv; rfl
          case c3 => unfold maxLen; omega
          case c4 => omega
          case c5 => have := (Ja HBe).size; simp; omega
          · intro v' w4 hown4 hgrow4 _
            have HB4 : Hid (Below wS.heap.size wS w4) := hide ((Ys (Ja HBe) _ |>.alloc (by have := (Ja HBe).size; simpa using this) _).grown hgrow4 (by have := (Ja HBe).size; simp; omega) (fun q hq => ((Ja HOw).lt q hq).1))
            have HO4 := hide hown4
            clear hown4 hgrow4
            go_wp2_with fail
            go_roundw
            case rel => exact ⟨k + 1, l ++ [u], by go_num, by omega, (Ja HZT).2 trivial, by simp [Ja HLL], by rw [List.map_append]; exact Ja HO4, Ja HB4⟩
            case measure => simp [intOf]; omega
        · have hne : er ≠ 0 := by simpa using hee
          go_wp2_with fail
          go_quiet ((go_at_fn g; exact Calls.quiet_of_same (Ja HRule _)))
          go_wp2_with fail
          refine bodyPost_ret (v := .tuple #[.agg #[.slice none 0 0, .slice none 0 0], .int .i64 er]) (by simp [results, Tryz.results163, go_sem, r0', r1']) rfl ⟨none, 0, 0, none, 0, 0, ?_, ?_, ?_⟩
          · rw [Ja HFin, K2 ((Ja HZT).1 hne)]
          · rw [Ja HFin, K2 ((Ja HZT).1 hne)]
            exact ⟨_, _, _, _, _, _, rfl, Jn _ _, Jn _ _⟩
          · exact (((Ja HBS).trans ((Ys (Ja HBe) _).mono (Ja HBS).size)).setCell (p := ⟨w.heap.size + 1 + 1, 0, none⟩) (by show w.heap.size ≤ w.heap.size + 1 + 1; omega) _).setCell (p := ⟨w.heap.size + 1 + 1, 1, none⟩) (by show w.heap.size ≤ w.heap.size + 1 + 1; omega) _
      · have hkN' : k = cn := by omega
        subst hkN'
        have hz2 : zipF f xs ys = .inr l := by have := Ja HZ; rwa [List.take_of_length_le (by rw [Ja HXL]; omega), List.take_of_length_le (by rw [Ja HYL]; omega)] at this
        have HZ2 := hide hz2
        obtain ⟨vo, vc, hv8, hvle, hcells⟩ := J9 (Ja HOw)
        subst hv8
        clear hz hll hown hbel hz2 hcells
        go_wp2_with fail
        refine bodyPost_ret (v := .tuple #[.agg #[.slice so sn sc, .slice vo k vc], .int .i64 0]) (by simp [results, Tryz.results163, go_sem, r0', r1']) rfl ⟨so, sn, sc, vo, k, vc, ?_, ?_, ?_⟩
        · rw [Ja HFin, Vc (Ja HZ2)]
        · rw [Ja HFin, Vc (Ja HZ2)]
          exact Fr (Ja HA) ((Ja HBS).trans ((Ja HBe).mono (Ja HBS).size)) (Ja HOw) (Ja HP) hlt
        · exact (((Ja HBS).trans ((Ja HBe).mono (Ja HBS).size)).setCell (p := ⟨w.heap.size + 1 + 1, 0, none⟩) (by show w.heap.size ≤ w.heap.size + 1 + 1; omega) _).setCell (p := ⟨w.heap.size + 1 + 1, 1, none⟩) (by show w.heap.size ≤ w.heap.size + 1 + 1; omega) _
end Go.Proofs.YtjobgpahajhbnabGreatDoor
namespace Go.Proofs.YtjobgpahajhbnabGreatDoor
open Go.RowKit Go.Proofs
attribute [local go_sem ↓] Go.wp_at_zero Go.wp_at_succ
theorem Box3.keep {w W W' : World} {a0 a1 b0 b1 : Value} (h : Box3 w W a0 a1 b0 b1) (hb : Below W.heap.size W W') : Box3 w W' a0 a1 b0 b1 := by
  have hs := h.sz
  have hz := hb.size
  have k : ∀ c i, c < W.heap.size → W'.cell? ⟨c, i, none⟩ = W.cell? ⟨c, i, none⟩ := fun c i hc => hb.cell (p := ⟨c, i, none⟩) hc
  have kf : ∀ c i, c < W.heap.size → W'.frozen? ⟨c, i, none⟩ = W.frozen? ⟨c, i, none⟩ := fun c i hc => hb.frozen (p := ⟨c, i, none⟩) hc
  exact ⟨h.bel.trans (hb.mono h.bel.size), by omega, (k _ _ (by omega)).trans h.c0, (k _ _ (by omega)).trans h.c1, (k _ _ (by omega)).trans h.d0, (k _ _ (by omega)).trans h.d1, (k _ _ (by omega)).trans h.r0, (k _ _ (by omega)).trans h.r1, (kf _ _ (by omega)).trans h.fc0, (kf _ _ (by omega)).trans h.fc1, (kf _ _ (by omega)).trans h.fd0, (kf _ _ (by omega)).trans h.fd1, (kf _ _ (by omega)).trans h.fr0, (kf _ _ (by omega)).trans h.fr1⟩
theorem K5 {P : Nat → Prop} {w : World} {so : Option Addr} {sn sc : Nat} {co : Option Addr} {cn cc : Nat} {a : Arr} (h : IsArr P w (.agg #[.slice so sn sc, .slice co cn cc]) a) (hsn : ((sn : Int) == 0) = false) : ∃ b off, so = some ⟨b, off, none⟩ ∧ b < w.heap.size ∧ ∀ j, j < (a.shape.map Int.ofNat).length → w.cell? ⟨b, off + j, none⟩ = some (.int .i64 ((a.shape.map Int.ofNat).getD j 0)) := by
  have hl := (Jc h).2
  obtain ⟨so', sn', sc', co', cn', cc', hv, ⟨ao, cap, h2, _, hc, _⟩, _⟩ := h
  injection hv with hv
  simp at hv
  obtain ⟨⟨rfl, rfl, rfl⟩, _⟩ := hv
  have h0 : 0 < (a.shape.map Int.ofNat).length := by
    simp at hsn ⊢
    apply Nat.pos_of_ne_zero
    intro h0
    simp at h0
    rw [h0] at hl
    simp at hl
    omega
  obtain ⟨b, off, h3, _, h4, h5⟩ := hc h0
  injection h2 with h2
  refine ⟨b, off, h2.trans h3, h4, fun j hj => ?_⟩
  rw [h5 j hj]
  simp [List.getD_eq_getElem?_getD, List.getElem?_eq_getElem (show j < a.shape.length by simpa using hj)]
theorem Qs : ∀ {a b : List Nat}, a.map Int.ofNat = b.map Int.ofNat → a = b
  | [], [], _ => rfl
  | x :: xs, y :: ys, h => by
    simp only [List.map_cons] at h
    injection h with h1 h2
    injection h1 with h1
    rw [h1, Qs h2]
  | [], y :: ys, h => by simp at h
  | x :: xs, [], h => by simp at h
theorem Qt {a b : List Nat} : ((a.map Int.ofNat) == (b.map Int.ofNat)) = decide (a = b) := by
  by_cases h : a = b
  · subst h; simp
  · have : ¬ (a.map Int.ofNat = b.map Int.ofNat) := fun e => h (Qs e)
    simp only [h, decide_false]
    exact beq_eq_false_iff_ne.2 this
theorem Jgm {P : Nat → Prop} {w W : World} {so : Option Addr} {sn sc : Nat} {co : Option Addr} {cn cc : Nat} {so2 : Option Addr} {sn2 sc2 : Nat} {co2 : Option Addr} {cn2 cc2 : Nat} {a b : Arr} (h3 : Box3 w W (.slice so sn sc) (.slice co cn cc) (.slice so2 sn2 sc2) (.slice co2 cn2 cc2))
    (ha : IsArr P w (.agg #[.slice so sn sc, .slice co cn cc]) a) (hb : IsArr P w (.agg #[.slice so2 sn2 sc2, .slice co2 cn2 cc2]) b) (hoa : a.ok) (hob : b.ok) (hs : a.shape = b.shape) :
    PairS w.heap.size W so sn sc co cc (.slice so2 sn2 sc2) co2 cc2 cn a.cells b.cells ∧ cn2 = cn := by
  have hsz := h3.sz
  have hl1 := (Jc ha).1
  have hl2 := (Jc hb).1
  have hab : a.cells.length = b.cells.length := by rw [hoa.size, hob.size, hs]
  have hcc : cn2 = cn := by omega
  subst hcc
  obtain ⟨_, _, _, _, _, _, hv1, _, hn1⟩ := ha
  injection hv1 with hv1
  simp at hv1
  obtain ⟨_, rfl, rfl, rfl⟩ := hv1
  obtain ⟨_, _, _, _, _, _, hv2, _, hn2⟩ := hb
  injection hv2 with hv2
  simp at hv2
  obtain ⟨_, rfl, rfl, rfl⟩ := hv2
  refine ⟨⟨h3.c0, h3.c1, h3.d1, h3.d0, h3.r0, h3.r1, h3.fr0, h3.fr1, h3.sz, hl1.symm, hl2.symm, by rw [hl1]; exact hoa.few, hoa.fits, hob.fits, ?_, ?_⟩, rfl⟩
  · intro h0
    obtain ⟨ao, cap, hv, _, hc, _⟩ := hn1
    obtain ⟨yb, yf, rfl, hp, hl, hcell⟩ := hc (by omega)
    injection hv with hv
    exact ⟨yb, yf, hv, by omega, fun i hi => (h3.bel.cell (p := ⟨yb, yf + i, none⟩) hl).trans (hcell i hi)⟩
  · intro h0
    obtain ⟨ao, cap, hv, _, hc, _⟩ := hn2
    obtain ⟨yb, yf, rfl, hp, hl, hcell⟩ := hc (by omega)
    injection hv with hv
    exact ⟨yb, yf, hv, by omega, fun i hi => (h3.bel.cell (p := ⟨yb, yf + i, none⟩) hl).trans (hcell i hi)⟩
set_option maxRecDepth 20000 in
set_option maxHeartbeats 2000000 in
theorem Jd4 (f : Int → Int → Int × Int) (g : Nat) (P : Nat → Prop) (w : World) (so : Option Addr) (sn sc : Nat) (co : Option Addr) (cn cc : Nat) (so2 : Option Addr) (sn2 sc2 : Nat) (co2 : Option Addr) (cn2 cc2 : Nat) (a b : Arr) (ha : IsArr P w (.agg #[.slice so sn sc, .slice co cn cc]) a) (hb : IsArr P w (.agg #[.slice so2 sn2 sc2, .slice co2 cn2 cc2]) b) (hsn : ((sn : Int) == 0) = false) (hsn2 : ((sn2 : Int) == 0) = false) (hne : ((sn : Int) != (sn2 : Int)) = true) :
    Calls Tryz.prog 163 #[.agg #[.slice so sn sc, .slice co cn cc], .agg #[.slice so2 sn2 sc2, .slice co2 cn2 cc2], .func (.func g) #[] #[]] w fun e w' => ∃ s1 s2 s3 c1 c2 c3, e = .returned (.tuple #[.agg #[.slice s1 s2 s3, .slice c1 c2 c3], .int .i64 (Je f a b).2]) ∧ IsArr P w' (.agg #[.slice s1 s2 s3, .slice c1 c2 c3]) (Je f a b).1 ∧ Below w.heap.size w w' := by
  have hfin : Je f a b = (eArr, 5) := by
    have h1 := (Jc ha).2
    have h2 := (Jc hb).2
    unfold Je
    rw [if_neg, if_neg, if_pos]
    · intro h; rw [← h1, ← h2] at h; simp [h] at hne
    · intro h; rw [h] at h2; subst h2; simp at hsn2
    · intro h; rw [h] at h1; subst h1; simp at hsn
  have HFin := hide hfin
  clear hfin ha hb
  go_enter Tryz.func163, Tryz.ntmps163
  go_wp2_with (go_at_call 143; refine (Ji _ _ _ _ _ _ _).mono ?_; rintro e w' ⟨rfl, rfl⟩)
  have hX3 := X9 (w := w) (a0 := .slice so sn sc) (a1 := .slice co cn cc) (b0 := .slice so2 sn2 sc2) (b1 := .slice co2 cn2 cc2) (((((Below.refl (w.heap.size + 3) _).alloc (by simp) (.cells #[.slice so sn sc, .slice co cn cc] 57)).alloc (by simp <;> omega) (.cells #[.slice so sn sc, .slice co cn cc] 57)).alloc (by simp <;> omega) (.cells #[.slice so2 sn2 sc2, .slice co2 cn2 cc2] 57)).alloc (by simp <;> omega) (.cells #[.slice so2 sn2 sc2, .slice co2 cn2 cc2] 57))
  have HX3 := hide hX3
  obtain ⟨W3, hW3⟩ : ∃ W3, (((((((w.alloc (.cells #[.slice so sn sc, .slice co cn cc] 57)).alloc (.cells #[.slice so2 sn2 sc2, .slice co2 cn2 cc2] 57)).alloc (.cells #[.slice none 0 0, .slice none 0 0] 57)).alloc (.cells #[.slice so sn sc, .slice co cn cc] 57)).alloc (.cells #[.slice so sn sc, .slice co cn cc] 57)).alloc (.cells #[.slice so2 sn2 sc2, .slice co2 cn2 cc2] 57)).alloc (.cells #[.slice so2 sn2 sc2, .slice co2 cn2 cc2] 57)) = W3 := ⟨_, rfl⟩
  rw [hW3] at HX3 ⊢
  clear hX3 hW3
  have HS : Hid (∀ w', Below W3.heap.size W3 w' → w'.cell? ⟨w.heap.size, 0, none⟩ = some (.slice so sn sc) ∧ w'.cell? ⟨w.heap.size, 1, none⟩ = some (.slice co cn cc) ∧ w'.cell? ⟨w.heap.size + 1, 0, none⟩ = some (.slice so2 sn2 sc2) ∧ w'.cell? ⟨w.heap.size + 1, 1, none⟩ = some (.slice co2 cn2 cc2)) := by
    intro w' hb
    have h := (Ja HX3).keep hb
    exact ⟨h.c0, h.c1, h.d0, h.d1⟩
  go_region_held3 (fun w' => w'.cell? ⟨w.heap.size, 0, none⟩ = some (.slice so sn sc) ∧ w'.cell? ⟨w.heap.size, 1, none⟩ = some (.slice co cn cc) ∧ w'.cell? ⟨w.heap.size + 1, 0, none⟩ = some (.slice so2 sn2 sc2) ∧ w'.cell? ⟨w.heap.size + 1, 1, none⟩ = some (.slice co2 cn2 cc2))
    (first | exact Ja HS _ (Below.refl _ _).drew | exact Ja HS _ ((Below.refl _ _).drew.alloc (Nat.le_refl _) _) | exact Ja HS _ (((Below.refl _ _).drew.alloc (Nat.le_refl _) _).alloc (by simp) _) | (trace_state; fail))
    ((go_at_call 144; refine (Yi _ _ _ _ _ _ _).mono ?_; rintro e w' ⟨rfl, rfl⟩))
  rename_i hHeld
  clear hHeld
  have hX4 := (Ja HX3).keep (((Below.refl _ _).alloc (Nat.le_refl _) (.cells #[.slice so sn sc, .slice co cn cc] 57)).alloc (by simp) (.cells #[.slice so2 sn2 sc2, .slice co2 cn2 cc2] 57)).drew
  have HX4 := hide hX4
  obtain ⟨W4, hW4⟩ : ∃ W4, ((W3.alloc (.cells #[.slice so sn sc, .slice co cn cc] 57)).alloc (.cells #[.slice so2 sn2 sc2, .slice co2 cn2 cc2] 57)).drew = W4 := ⟨_, rfl⟩
  rw [hW4] at HX4 ⊢
  clear hX4 hW4 HS HX3
  have a0 := (Ja HX4).c0
  have a1 := (Ja HX4).c1
  have b0 := (Ja HX4).d0
  have b1 := (Ja HX4).d1
  have r0 := (Ja HX4).r0
  have r1 := (Ja HX4).r1
  have q0 := (Ja HX4).fr0
  have q1 := (Ja HX4).fr1
  go_wp2_with fail
  refine bodyPost_ret (v := .tuple #[.agg #[.slice none 0 0, .slice none 0 0], .int .i64 5]) (by simp [results, Tryz.results163, go_sem, r0, r1]) rfl ⟨none, 0, 0, none, 0, 0, ?_, ?_, ?_⟩
  · rw [Ja HFin]
  · rw [Ja HFin]
    exact ⟨_, _, _, _, _, _, rfl, Jn _ _, Jn _ _⟩
  · exact (Ja HX4).bel.setCell (p := ⟨w.heap.size + 1 + 1, 0, none⟩) (by show w.heap.size ≤ w.heap.size + 1 + 1; omega) _ |>.setCell (p := ⟨w.heap.size + 1 + 1, 1, none⟩) (by show w.heap.size ≤ w.heap.size + 1 + 1; omega) _
set_option maxRecDepth 20000 in
set_option maxHeartbeats 2000000 in
theorem Jgi (f : Int → Int → Int × Int) (g : Nat) (P : Nat → Prop) (w : World) (so : Option Addr) (sn sc : Nat) (co : Option Addr) (cn cc : Nat) (so2 : Option Addr) (sn2 sc2 : Nat) (co2 : Option Addr) (cn2 cc2 : Nat) (a b : Arr) (ha : IsArr P w (.agg #[.slice so sn sc, .slice co cn cc]) a) (hb : IsArr P w (.agg #[.slice so2 sn2 sc2, .slice co2 cn2 cc2]) b) (hsn : ((sn : Int) == 0) = false) (hsn2 : ((sn2 : Int) == 0) = false) (hoa : a.ok) (hob : b.ok) (hne : ((sn : Int) != (sn2 : Int)) = false) (hsh : a.shape ≠ b.shape) :
    Calls Tryz.prog 163 #[.agg #[.slice so sn sc, .slice co cn cc], .agg #[.slice so2 sn2 sc2, .slice co2 cn2 cc2], .func (.func g) #[] #[]] w fun e w' => ∃ s1 s2 s3 c1 c2 c3, e = .returned (.tuple #[.agg #[.slice s1 s2 s3, .slice c1 c2 c3], .int .i64 (Je f a b).2]) ∧ IsArr P w' (.agg #[.slice s1 s2 s3, .slice c1 c2 c3]) (Je f a b).1 ∧ Below w.heap.size w w' := by
  obtain ⟨sb, sf, rfl, hsb, hsc1⟩ := K5 ha hsn
  obtain ⟨sb2, sf2, rfl, hsb2, hsc2⟩ := K5 hb hsn2
  have HSC1 := hide hsc1
  have HSC2 := hide hsc2
  have h1 := (Jc ha).2
  have h2 := (Jc hb).2
  have hfin : Je f a b = (eArr, 6) := by
    unfold Je
    rw [if_neg, if_neg, if_neg, if_pos hsh]
    · simp only [← h1, ← h2, ne_eq, Decidable.not_not]
      simp at hne
      omega
    · intro h; rw [h] at h2; subst h2; simp at hsn2
    · intro h; rw [h] at h1; subst h1; simp at hsn
  have HFin := hide hfin
  have HL1 := hide h1
  have HL2 := hide h2
  have HDec : Hid (decide (a.shape = b.shape) = false) := hide (by simp [hsh])
  have HBig : Hid (sn ≤ 9223372036854775807) := hide (by rw [h1]; exact Nat.le_trans hoa.rank (by decide))
  have HBig2 : Hid (sn2 ≤ 9223372036854775807) := hide (by rw [h2]; exact Nat.le_trans hob.rank (by decide))
  clear hfin ha hb hsc1 hsc2 h1 h2 hoa hob hsh
  go_enter Tryz.func163, Tryz.ntmps163
  go_wp2_with (go_at_call 143; refine (Ji _ _ _ _ _ _ _).mono ?_; rintro e w' ⟨rfl, rfl⟩)
  have hX3 := X9 (w := w) (a0 := .slice (some ⟨sb, sf, none⟩) sn sc) (a1 := .slice co cn cc) (b0 := .slice (some ⟨sb2, sf2, none⟩) sn2 sc2) (b1 := .slice co2 cn2 cc2) (((((Below.refl (w.heap.size + 3) _).alloc (by simp) (.cells #[.slice (some ⟨sb, sf, none⟩) sn sc, .slice co cn cc] 57)).alloc (by simp <;> omega) (.cells #[.slice (some ⟨sb, sf, none⟩) sn sc, .slice co cn cc] 57)).alloc (by simp <;> omega) (.cells #[.slice (some ⟨sb2, sf2, none⟩) sn2 sc2, .slice co2 cn2 cc2] 57)).alloc (by simp <;> omega) (.cells #[.slice (some ⟨sb2, sf2, none⟩) sn2 sc2, .slice co2 cn2 cc2] 57))
  have HX3 := hide hX3
  obtain ⟨W3, hW3⟩ : ∃ W3, (((((((w.alloc (.cells #[.slice (some ⟨sb, sf, none⟩) sn sc, .slice co cn cc] 57)).alloc (.cells #[.slice (some ⟨sb2, sf2, none⟩) sn2 sc2, .slice co2 cn2 cc2] 57)).alloc (.cells #[.slice none 0 0, .slice none 0 0] 57)).alloc (.cells #[.slice (some ⟨sb, sf, none⟩) sn sc, .slice co cn cc] 57)).alloc (.cells #[.slice (some ⟨sb, sf, none⟩) sn sc, .slice co cn cc] 57)).alloc (.cells #[.slice (some ⟨sb2, sf2, none⟩) sn2 sc2, .slice co2 cn2 cc2] 57)).alloc (.cells #[.slice (some ⟨sb2, sf2, none⟩) sn2 sc2, .slice co2 cn2 cc2] 57)) = W3 := ⟨_, rfl⟩
  rw [hW3] at HX3 ⊢
  clear hX3 hW3
  have HS : Hid (∀ w', Below W3.heap.size W3 w' → w'.cell? ⟨w.heap.size, 0, none⟩ = some (.slice (some ⟨sb, sf, none⟩) sn sc) ∧ w'.cell? ⟨w.heap.size, 1, none⟩ = some (.slice co cn cc) ∧ w'.cell? ⟨w.heap.size + 1, 0, none⟩ = some (.slice (some ⟨sb2, sf2, none⟩) sn2 sc2) ∧ w'.cell? ⟨w.heap.size + 1, 1, none⟩ = some (.slice co2 cn2 cc2)) := by
    intro w' hb
    have h := (Ja HX3).keep hb
    exact ⟨h.c0, h.c1, h.d0, h.d1⟩
  go_region_held3 (fun w' => w'.cell? ⟨w.heap.size, 0, none⟩ = some (.slice (some ⟨sb, sf, none⟩) sn sc) ∧ w'.cell? ⟨w.heap.size, 1, none⟩ = some (.slice co cn cc) ∧ w'.cell? ⟨w.heap.size + 1, 0, none⟩ = some (.slice (some ⟨sb2, sf2, none⟩) sn2 sc2) ∧ w'.cell? ⟨w.heap.size + 1, 1, none⟩ = some (.slice co2 cn2 cc2))
    (first | exact Ja HS _ (Below.refl _ _).drew | exact Ja HS _ ((Below.refl _ _).drew.alloc (Nat.le_refl _) _) | exact Ja HS _ (((Below.refl _ _).drew.alloc (Nat.le_refl _) _).alloc (by simp) _) | (trace_state; fail))
    ((go_at_call 144; refine (Yi _ _ _ _ _ _ _).mono ?_; rintro e w' ⟨rfl, rfl⟩))
  rename_i hHeld
  clear hHeld
  have hX4 := (Ja HX3).keep (((Below.refl _ _).alloc (Nat.le_refl _) (.cells #[.slice (some ⟨sb, sf, none⟩) sn sc, .slice co cn cc] 57)).alloc (by simp) (.cells #[.slice (some ⟨sb2, sf2, none⟩) sn2 sc2, .slice co2 cn2 cc2] 57)).drew
  have HX4 := hide hX4
  obtain ⟨W4, hW4⟩ : ∃ W4, ((W3.alloc (.cells #[.slice (some ⟨sb, sf, none⟩) sn sc, .slice co cn cc] 57)).alloc (.cells #[.slice (some ⟨sb2, sf2, none⟩) sn2 sc2, .slice co2 cn2 cc2] 57)).drew = W4 := ⟨_, rfl⟩
  rw [hW4] at HX4 ⊢
  clear hX4 hW4 HS HX3
  have a0 := (Ja HX4).c0
  have a1 := (Ja HX4).c1
  have b0 := (Ja HX4).d0
  have b1 := (Ja HX4).d1
  have r0 := (Ja HX4).r0
  have r1 := (Ja HX4).r1
  have q0 := (Ja HX4).fr0
  have q1 := (Ja HX4).fr1
  have hbig : sn ≤ 9223372036854775807 := Ja HBig
  have hbig2 : sn2 ≤ 9223372036854775807 := Ja HBig2
  have HQ := hide (Tryz.slices_Equal_int sb sf sn sc sb2 sf2 sn2 sc2 (a.shape.map Int.ofNat) (b.shape.map Int.ofNat) W4 (by simp [Ja HL1]) (by simp [Ja HL2]) hbig hbig2 (fun j hj => ((Ja HX4).bel.cell (p := ⟨sb, sf + j, none⟩) hsb).trans (Ja HSC1 j hj)) (fun j hj => ((Ja HX4).bel.cell (p := ⟨sb2, sf2 + j, none⟩) hsb2).trans (Ja HSC2 j hj)))
  rw [List.take_of_length_le (by simp [Ja HL1]), List.take_of_length_le (by simp [Ja HL2]), Qt, Ja HDec] at HQ
  clear hbig hbig2
  go_wp2_with (go_at_call 179; refine (Ja HQ).mono ?_; rintro e w' ⟨rfl, q, rfl⟩)
  refine bodyPost_ret (v := .tuple #[.agg #[.slice none 0 0, .slice none 0 0], .int .i64 6]) (by simp [results, Tryz.results163, go_sem, r0, r1]) rfl ⟨none, 0, 0, none, 0, 0, ?_, ?_, ?_⟩
  · rw [Ja HFin]
  · rw [Ja HFin]
    exact ⟨_, _, _, _, _, _, rfl, Jn _ _, Jn _ _⟩
  · exact (Ys (Ja HX4).bel q).setCell (p := ⟨w.heap.size + 1 + 1, 0, none⟩) (by show w.heap.size ≤ w.heap.size + 1 + 1; omega) _ |>.setCell (p := ⟨w.heap.size + 1 + 1, 1, none⟩) (by show w.heap.size ≤ w.heap.size + 1 + 1; omega) _
end Go.Proofs.YtjobgpahajhbnabGreatDoor
