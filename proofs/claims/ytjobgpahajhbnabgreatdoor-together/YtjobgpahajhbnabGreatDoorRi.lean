import Derived.Test.YtjobgpahajhbnabGreatDoorRg
import Derived.Test.YtjobgpahajhbnabGreatDoorEa
import Derived.Deep.DrawnRows
namespace Go.Proofs.YtjobgpahajhbnabGreatDoor
open Go.RowKit Go.Proofs
attribute [local go_sem ↓] Go.wp_at_zero Go.wp_at_succ
set_option maxRecDepth 20000 in
set_option maxHeartbeats 2000000 in
theorem Jgh (f : Int → Int → Int × Int) (g : Nat) (hrule : RuleC g f) (P : Nat → Prop) (w : World) (hP : ∀ b, w.heap.size ≤ b → P b) (so : Option Addr) (sn sc : Nat) (co : Option Addr) (cn cc : Nat) (so2 : Option Addr) (sn2 sc2 : Nat) (co2 : Option Addr) (cn2 cc2 : Nat) (a b : Arr) (ha : IsArr P w (.agg #[.slice so sn sc, .slice co cn cc]) a) (hb : IsArr P w (.agg #[.slice so2 sn2 sc2, .slice co2 cn2 cc2]) b) (hsn : ((sn : Int) == 0) = false) (hsn2 : ((sn2 : Int) == 0) = false) (hoa : a.ok) (hob : b.ok) (hne : ((sn : Int) != (sn2 : Int)) = false) (hsh : a.shape = b.shape) :
    Calls Tryz.prog 163 #[.agg #[.slice so sn sc, .slice co cn cc], .agg #[.slice so2 sn2 sc2, .slice co2 cn2 cc2], .func (.func g) #[] #[]] w fun e w' => ∃ s1 s2 s3 c1 c2 c3, e = .returned (.tuple #[.agg #[.slice s1 s2 s3, .slice c1 c2 c3], .int .i64 (Je f a b).2]) ∧ IsArr P w' (.agg #[.slice s1 s2 s3, .slice c1 c2 c3]) (Je f a b).1 ∧ Below w.heap.size w w' := by
  obtain ⟨i0, hi, hz0, hz1, hz2⟩ := info_parts Tryz.info2
  have HI := hide hi
  have HZ0 := hide hz0
  have HZ1 := hide hz1
  have HZ2 := hide hz2
  have hen2 : ∀ args w, (callFunc g args).run Tryz.prog w = .ok (.enter g args) w := hrule.enters
  have HP : Hid (∀ b, w.heap.size ≤ b → P b) := hP
  obtain ⟨sb, sf, rfl, hsb, hsc1⟩ := K5 ha hsn
  obtain ⟨sb2, sf2, rfl, hsb2, hsc2⟩ := K5 hb hsn2
  have HSC1 := hide hsc1
  have HSC2 := hide hsc2
  have h1 := (Jc ha).2
  have h2 := (Jc hb).2
  have hfin : Je f a b = zipA f a.shape a.cells b.cells := by
    unfold Je
    rw [if_neg, if_neg, if_neg, if_neg]
    · simpa using hsh
    · simp only [← h1, ← h2, ne_eq, Decidable.not_not]
      simp at hne
      omega
    · intro h; rw [h] at h2; subst h2; simp at hsn2
    · intro h; rw [h] at h1; subst h1; simp at hsn
  have HFin := hide hfin
  have HA := hide ha
  have HB := hide hb
  have HOA := hide hoa
  have HOB := hide hob
  have HSH := hide hsh
  have HL1 := hide h1
  have HL2 := hide h2
  have HDec : Hid (decide (a.shape = b.shape) = true) := hide (by simp [hsh])
  have HBig : Hid (sn ≤ 9223372036854775807) := hide (by rw [h1]; exact Nat.le_trans hoa.rank (by decide))
  have HBig2 : Hid (sn2 ≤ 9223372036854775807) := hide (by rw [h2]; exact Nat.le_trans hob.rank (by decide))
  clear hfin ha hb hsc1 hsc2 h1 h2 hoa hob hsh hi hz0 hz1 hz2 hP
  go_enter Tryz.func163, Tryz.ntmps163
  go_wp2_with (go_at_call 143; refine (Ji _ _ _ _ _ _ _).mono ?_; rintro e w' ⟨rfl, rfl⟩)
  have hX3 := X9 (w := w) (a0 := .slice (some ⟨sb, sf, none⟩) sn sc) (a1 := .slice co cn cc) (b0 := .slice (some ⟨sb2, sf2, none⟩) sn2 sc2) (b1 := .slice co2 cn2 cc2) (((((Below.refl (w.heap.size + 3) _).alloc (by simp) (.cells #[.slice (some ⟨sb, sf, none⟩) sn sc, .slice co cn cc] 57)).alloc (by simp <;> omega) (.cells #[.slice (some ⟨sb, sf, none⟩) sn sc, .slice co cn cc] 57)).alloc (by simp <;> omega) (.cells #[.slice (some ⟨sb2, sf2, none⟩) sn2 sc2, .slice co2 cn2 cc2] 57)).alloc (by simp <;> omega) (.cells #[.slice (some ⟨sb2, sf2, none⟩) sn2 sc2, .slice co2 cn2 cc2] 57))
  have HX3 := hide hX3
  obtain ⟨W3, hW3⟩ : ∃ W3, (((((((w.alloc (.cells #[.slice (some ⟨sb, sf, none⟩) sn sc, .slice co cn cc] 57)).alloc (.cells #[.slice (some ⟨sb2, sf2, none⟩) sn2 sc2, .slice co2 cn2 cc2] 57)).alloc (.cells #[.slice none 0 0, .slice none 0 0] 57)).alloc (.cells #[.slice (some ⟨sb, sf, none⟩) sn sc, .slice co cn cc] 57)).alloc (.cells #[.slice (some ⟨sb, sf, none⟩) sn sc, .slice co cn cc] 57)).alloc (.cells #[.slice (some ⟨sb2, sf2, none⟩) sn2 sc2, .slice co2 cn2 cc2] 57)).alloc (.cells #[.slice (some ⟨sb2, sf2, none⟩) sn2 sc2, .slice co2 cn2 cc2] 57)) = W3 := ⟨_, rfl⟩
  rw [hW3] at HX3 ⊢
  clear hX3 hW3
  have HS : Hid (∀ w', Below W3.heap.size W3 w' → w'.cell? ⟨w.heap.size, 0, none⟩ = some (.slice (some ⟨sb, sf, none⟩) sn sc) ∧ w'.cell? ⟨w.heap.size, 1, none⟩ = some (.slice co cn cc) ∧ w'.cell? ⟨w.heap.size + 1, 0, none⟩ = some (.slice (some ⟨sb2, sf2, none⟩) sn2 sc2) ∧ w'.cell? ⟨w.heap.size + 1, 1, none⟩ = some (.slice co2 cn2 cc2)) := by
    intro w' hb
    have h := (Ja HX3).keep hb
    exact ⟨h.c0, h.c1, h.d0, h.d1⟩
  go_region_held3 (fun w' => w'.cell? ⟨w.heap.size, 0, none⟩ = some (.slice (some ⟨sb, sf, none⟩) sn sc) ∧ w'.cell? ⟨w.heap.size, 1, none⟩ = some (.slice co cn cc) ∧ w'.cell? ⟨w.heap.size + 1, 0, none⟩ = some (.slice (some ⟨sb2, sf2, none⟩) sn2 sc2) ∧ w'.cell? ⟨w.heap.size + 1, 1, none⟩ = some (.slice co2 cn2 cc2))
    (first | exact Ja HS _ (Below.refl _ _).drew | exact Ja HS _ ((Below.refl _ _).drew.alloc (Nat.le_refl _) _) | exact Ja HS _ (((Below.refl _ _).drew.alloc (Nat.le_refl _) _).alloc (by simp) _) | (trace_state; fail))
    ((go_at_call 144; refine (Yi _ _ _ _ _ _ _).mono ?_; rintro e w' ⟨rfl, rfl⟩))
  rename_i hHeld
  clear hHeld
  have hX4 := (Ja HX3).keep (((Below.refl _ _).alloc (Nat.le_refl _) (.cells #[.slice (some ⟨sb, sf, none⟩) sn sc, .slice co cn cc] 57)).alloc (by simp) (.cells #[.slice (some ⟨sb2, sf2, none⟩) sn2 sc2, .slice co2 cn2 cc2] 57)).drew
  have HX4 := hide hX4
  obtain ⟨W4, hW4⟩ : ∃ W4, ((W3.alloc (.cells #[.slice (some ⟨sb, sf, none⟩) sn sc, .slice co cn cc] 57)).alloc (.cells #[.slice (some ⟨sb2, sf2, none⟩) sn2 sc2, .slice co2 cn2 cc2] 57)).drew = W4 := ⟨_, rfl⟩
  rw [hW4] at HX4 ⊢
  clear hX4 hW4 HS HX3
  have a0 := (Ja HX4).c0
  have a1 := (Ja HX4).c1
  have b0 := (Ja HX4).d0
  have b1 := (Ja HX4).d1
  have r0 := (Ja HX4).r0
  have r1 := (Ja HX4).r1
  have q0 := (Ja HX4).fr0
  have q1 := (Ja HX4).fr1
  have hbig : sn ≤ 9223372036854775807 := Ja HBig
  have hbig2 : sn2 ≤ 9223372036854775807 := Ja HBig2
  have HQ := hide (Tryz.slices_Equal_int sb sf sn sc sb2 sf2 sn2 sc2 (a.shape.map Int.ofNat) (b.shape.map Int.ofNat) W4 (by simp [Ja HL1]) (by simp [Ja HL2]) hbig hbig2 (fun j hj => ((Ja HX4).bel.cell (p := ⟨sb, sf + j, none⟩) hsb).trans (Ja HSC1 j hj)) (fun j hj => ((Ja HX4).bel.cell (p := ⟨sb2, sf2 + j, none⟩) hsb2).trans (Ja HSC2 j hj)))
  rw [List.take_of_length_le (by simp [Ja HL1]), List.take_of_length_le (by simp [Ja HL2]), Qt, Ja HDec] at HQ
  clear hbig hbig2
  go_wp2_with (go_at_call 179; refine (Ja HQ).mono ?_; rintro e w' ⟨rfl, q, rfl⟩; have HX5 := hide ((Ja HX4).keep (Ys (Below.refl _ _) q)); obtain ⟨wS, hwS⟩ : ∃ wS, W4.drewN q = wS := ⟨_, rfl⟩; rw [hwS] at HX5 ⊢; clear a0 a1 b0 b1 r0 r1 q0 q1 HQ hwS HX4; obtain ⟨hPS, hcn⟩ := Jgm (Ja HX5) (Ja HA) (Ja HB) (Ja HOA) (Ja HOB) (Ja HSH); subst hcn; have HPS := hide hPS; have HBS := hide (Ja HX5).bel; clear hPS HX5; have a1 := (Ja HPS).a1)
  obtain ⟨xs, hxs⟩ : ∃ xs, a.cells = xs := ⟨_, rfl⟩
  obtain ⟨ys, hys⟩ : ∃ ys, b.cells = ys := ⟨_, rfl⟩
  rw [hxs, hys] at HPS HFin
  clear hxs hys a1 hsb hsb2
  obtain ⟨a0, a1, b1, b0, r0, r1, q0, q1, hlt, hxl, hyl, hfew, hxf, hyf, hX, hY⟩ := Ja HPS
  have HXL := hide hxl
  have HYL := hide hyl
  have HXF := hide hxf
  have HYF := hide hyf
  have HX := hide hX
  have HY := hide hY
  have hrc := hrule.call
  have HRC := hide hrc
  clear hxl hyl hxf hyf hX hY hrc hrule
  go_wp2_with fail
  go_loopw [8, 48] (fun v8 v48 wr => ∃ (k : Nat) (l : List Int), v48 = .int .i64 k ∧ k ≤ cn2 ∧ zipF f (xs.take k) (ys.take k) = .inr l ∧ l.length = k ∧ wr.ownsRow wS.heap.size 2 1 v8 k (l.map (Value.int .i64)) ∧ Below wS.heap.size wS wr) (fun _ v48 _ => cn2 - (intOf v48).toNat)
  case atStart => exact ⟨0, [], rfl, Nat.zero_le _, by simp [zipF], rfl, World.ownsRow_nil _ _ _ _, Below.refl _ _⟩
  case round =>
    obtain ⟨k, l, rfl, hkN, hz, hll, hown, hbel⟩ := hrel
    have a0' := (hbel.cell (p := ⟨w.heap.size, 0, none⟩) (show w.heap.size < wS.heap.size by omega)).trans a0
    have a1' := (hbel.cell (p := ⟨w.heap.size, 1, none⟩) (show w.heap.size < wS.heap.size by omega)).trans a1
    have b1' := (hbel.cell (p := ⟨w.heap.size + 1, 1, none⟩) (show w.heap.size + 1 < wS.heap.size by omega)).trans b1
    have r0' := (hbel.cell (p := ⟨w.heap.size + 1 + 1, 0, none⟩) hlt).trans r0
    have r1' := (hbel.cell (p := ⟨w.heap.size + 1 + 1, 1, none⟩) hlt).trans r1
    have q0' := (hbel.frozen (p := ⟨w.heap.size + 1 + 1, 0, none⟩) hlt).trans q0
    have q1' := (hbel.frozen (p := ⟨w.heap.size + 1 + 1, 1, none⟩) hlt).trans q1
    have HZ := hide hz
    have HLL := hide hll
    have HOw := hide hown
    have HBe := hide hbel
    by_cases hkn : k < cn2
    · obtain ⟨xb, xf, rfl, hxb, hxc⟩ := Ja HX (by omega)
      obtain ⟨yb, yf, rfl, hyb, hyc⟩ := Ja HY (by omega)
      have hkx : k < xs.length := by rw [Ja HXL]; exact hkn
      have hky : k < ys.length := by rw [Ja HYL]; exact hkn
      have cx := (hbel.cell (p := ⟨xb, xf + k, none⟩) hxb).trans (hxc k hkx)
      have cy := (hbel.cell (p := ⟨yb, yf + k, none⟩) hyb).trans (hyc k hky)
      have hzt := Vy (f := f) k xs ys (by rw [Ja HXL, Ja HYL]) hkx hky l hz
      have hfx := Ja HXF _ (List.getElem_mem hkx)
      have hfy := Ja HYF _ (List.getElem_mem hky)
      obtain ⟨x, hx⟩ : ∃ x, xs[k] = x := ⟨_, rfl⟩
      obtain ⟨y, hy⟩ : ∃ y, ys[k] = y := ⟨_, rfl⟩
      rw [hx] at cx hfx
      rw [hy] at cy hfy
      rw [hx, hy] at hzt
      have HRule := hide (fun w => Ja HRC x y w hfx hfy)
      obtain ⟨u, hu⟩ : ∃ u, (f x y).1 = u := ⟨_, rfl⟩
      obtain ⟨er, her⟩ : ∃ er, (f x y).2 = er := ⟨_, rfl⟩
      simp only [hu, her] at HRule hzt
      have HZT := hide hzt
      have hk0 : (0 : Int) ≤ (k : Int) := by omega
      have hk1 : (k : Int) < (cn2 : Int) := by omega
      clear hz hll hown hbel hxc hyc hzt hx hy hu her hfx hfy hxb hyb
      cases hee : (er != 0)
      · have he0 : er = 0 := by simpa using hee
        subst he0
        clear hee
        go_wp2_with fail
        go_quiet ((go_at_fn g; exact Calls.quiet_of_same (Ja HRule _)))
        go_wp2_with (at_builtin; refine wpList_append_own _ rfl _ _ 32 rfl wS.heap.size 2 i0 (.int .i64 0) 1 8 Tryz.underlying32 (Ja HI) (Ja HZ0) (Ja HZ1) (Ja HZ2) rfl (by decide) _ _ _ rfl (((Xs (Ja HOw) _)).alloc _) ⟨wr.heap.size, 0, none⟩ 1 1 [.int .i64 u] rfl rfl ?c1 ?c2 ?c3 ?c4 ?c5 ?_)
        case c1 => intro j v hj; match j, hj with | 0, hj => simp at hj; subst hj; exact (World.cell?_alloc_at _ _ _ _ rfl).trans rfl
        case c2 => intro v hv; simp at hv; subst hv; rfl
        case c3 => unfold maxLen; omega
        case c4 => omega
        case c5 => have := (Ja HBe).size; simp; omega
        · intro v' w4 hown4 hgrow4 _
          have HB4 : Hid (Below wS.heap.size wS w4) := hide ((Ys (Ja HBe) _ |>.alloc (by have := (Ja HBe).size; simpa using this) _).grown hgrow4 (by have := (Ja HBe).size; simp; omega) (fun q hq => ((Ja HOw).lt q hq).1))
          have HO4 := hide hown4
          clear hown4 hgrow4
          go_wp2_with fail
          go_roundw
          case rel => exact ⟨k + 1, l ++ [u], by go_num, by omega, (Ja HZT).2 trivial, by simp [Ja HLL], by rw [List.map_append]; exact Ja HO4, Ja HB4⟩
          case measure => simp [intOf]; omega
      · have hne : er ≠ 0 := by simpa using hee
        go_wp2_with fail
        go_quiet ((go_at_fn g; exact Calls.quiet_of_same (Ja HRule _)))
        go_wp2_with fail
        refine bodyPost_ret (v := .tuple #[.agg #[.slice none 0 0, .slice none 0 0], .int .i64 er]) (by simp [results, Tryz.results163, go_sem, r0', r1']) rfl ⟨none, 0, 0, none, 0, 0, ?_, ?_, ?_⟩
        · rw [Ja HFin, K2 ((Ja HZT).1 hne)]
        · rw [Ja HFin, K2 ((Ja HZT).1 hne)]
          exact ⟨_, _, _, _, _, _, rfl, Jn _ _, Jn _ _⟩
        · exact (((Ja HBS).trans ((Ys (Ja HBe) _).mono (Ja HBS).size)).setCell (p := ⟨w.heap.size + 1 + 1, 0, none⟩) (by show w.heap.size ≤ w.heap.size + 1 + 1; omega) _).setCell (p := ⟨w.heap.size + 1 + 1, 1, none⟩) (by show w.heap.size ≤ w.heap.size + 1 + 1; omega) _
    · have hkN' : k = cn2 := by omega
      subst hkN'
      have hz2 : zipF f xs ys = .inr l := by have := Ja HZ; rwa [List.take_of_length_le (by rw [Ja HXL]; omega), List.take_of_length_le (by rw [Ja HYL]; omega)] at this
      have HZ2 := hide hz2
      obtain ⟨vo, vc, hv8, hvle, hcells⟩ := J9 (Ja HOw)
      subst hv8
      clear hz hll hown hbel hz2 hcells
      go_wp2_with fail
      refine bodyPost_ret (v := .tuple #[.agg #[.slice (some ⟨sb, sf, none⟩) sn sc, .slice vo k vc], .int .i64 0]) (by simp [results, Tryz.results163, go_sem, r0', r1']) rfl ⟨some ⟨sb, sf, none⟩, sn, sc, vo, k, vc, ?_, ?_, ?_⟩
      · rw [Ja HFin, Vc (Ja HZ2)]
      · rw [Ja HFin, Vc (Ja HZ2)]
        exact Fr (Ja HA) ((Ja HBS).trans ((Ja HBe).mono (Ja HBS).size)) (Ja HOw) (Ja HP) hlt
      · exact (((Ja HBS).trans ((Ja HBe).mono (Ja HBS).size)).setCell (p := ⟨w.heap.size + 1 + 1, 0, none⟩) (by show w.heap.size ≤ w.heap.size + 1 + 1; omega) _).setCell (p := ⟨w.heap.size + 1 + 1, 1, none⟩) (by show w.heap.size ≤ w.heap.size + 1 + 1; omega) _
end Go.Proofs.YtjobgpahajhbnabGreatDoor
namespace Go.Proofs.YtjobgpahajhbnabGreatDoor
open Go.RowKit
attribute [local go_sem ↓] Go.wp_at_zero Go.wp_at_succ
def Look (P : Nat → Prop) (W0 : World) (mv : Value) (env : ByteArray → Option Arr) : Prop :=
  ∀ t : ByteArray, t.size ≤ 200 → ∃ v, (∀ w, Below W0.heap.size W0 w → (Instr.lookup 55 mv (.string t) true).run Tryz.prog w = .ok (.tuple #[v, .bool (env t).isSome]) w) ∧
    match env t with
    | none => v = zArr
    | some a => IsArr P W0 v a
set_option maxHeartbeats 1000000 in
theorem Jiq (P : Nat → Prop) (W0 : World) (mv : Value) (fuel : Int) (c : Nat) (w : World) (hw : Wk W0 mv fuel c w) (k r x : Int) (t : ByteArray) (p : Nat)
    (hl : ∀ w, Below W0.heap.size W0 w → (Instr.lookup 55 mv (.string t) true).run Tryz.prog w = .ok (.tuple #[zArr, .bool false]) w) :
    Calls Tryz.prog 46 #[.pointer (some ⟨W0.heap.size, 0, none⟩), .agg #[.int .i64 k, .int .i64 r, .int .i64 x, .string t, .int .i64 p]] w (Gc P W0 mv fuel w (.inl (4, p))) := by
  have HW := hide hw
  have hlt := hw.lt
  have c0 := hw.vals
  have HL := hide hl
  have hne : W0.heap.size ≠ w.heap.size := by omega
  have hlt1 : W0.heap.size < w.heap.size + 1 := by omega
  have hlt2 : W0.heap.size < w.heap.size + 1 + 1 := by omega
  have hlt3 : W0.heap.size < w.heap.size + 1 + 1 + 1 := by omega
  unfold zArr at HL
  clear hw hl
  have HS : Hid (∀ w', Below (((w.alloc (.cells #[.int .i64 k, .int .i64 r, .int .i64 x, .string t, .int .i64 p] 84)).alloc (.cells #[.slice none 0 0, .slice none 0 0] 57)).alloc (.cells #[.int .i64 0, .int .i64 0] 67)).heap.size (((w.alloc (.cells #[.int .i64 k, .int .i64 r, .int .i64 x, .string t, .int .i64 p] 84)).alloc (.cells #[.slice none 0 0, .slice none 0 0] 57)).alloc (.cells #[.int .i64 0, .int .i64 0] 67)) w' → w'.cell? ⟨W0.heap.size, 0, none⟩ = some mv ∧ w'.cell? ⟨w.heap.size, 3, none⟩ = some (.string t) ∧ w'.cell? ⟨w.heap.size, 4, none⟩ = some (.int .i64 p) ∧ (Instr.lookup 55 mv (.string t) true).run Tryz.prog w' = .ok (.tuple #[.agg #[.slice none 0 0, .slice none 0 0], .bool false]) w') := by
    intro w' hb
    have h3 := (((Ja HW).alloc (.cells #[.int .i64 k, .int .i64 r, .int .i64 x, .string t, .int .i64 p] 84)).alloc (.cells #[.slice none 0 0, .slice none 0 0] 57)).alloc (.cells #[.int .i64 0, .int .i64 0] 67)
    have hq := ((Below.refl (w.heap.size + 1) (w.alloc (.cells #[.int .i64 k, .int .i64 r, .int .i64 x, .string t, .int .i64 p] 84))).alloc (by simp) (.cells #[.slice none 0 0, .slice none 0 0] 57)).alloc (by simp) (.cells #[.int .i64 0, .int .i64 0] 67)
    refine ⟨(h3.keep hb).vals, ?_, ?_, Ja HL _ (h3.keep hb).below⟩
    · exact (hb.cell (p := ⟨w.heap.size, 3, none⟩) (by simp; omega)).trans ((hq.cell (p := ⟨w.heap.size, 3, none⟩) (by simp)).trans (by simp))
    · exact (hb.cell (p := ⟨w.heap.size, 4, none⟩) (by simp; omega)).trans ((hq.cell (p := ⟨w.heap.size, 4, none⟩) (by simp)).trans (by simp))
  go_enter Tryz.func46, Tryz.ntmps46
  go_wp2_with fail
  go_region_held3 (fun w' => w'.cell? ⟨W0.heap.size, 0, none⟩ = some mv ∧ w'.cell? ⟨w.heap.size, 3, none⟩ = some (.string t) ∧ w'.cell? ⟨w.heap.size, 4, none⟩ = some (.int .i64 p) ∧ (Instr.lookup 55 mv (.string t) true).run Tryz.prog w' = .ok (.tuple #[.agg #[.slice none 0 0, .slice none 0 0], .bool false]) w')
    (first | exact Ja HS _ (Below.refl _ _).drew | exact Ja HS _ ((Below.refl _ _).alloc (Nat.le_refl _) _).drew)
    (fail)
  all_goals
    have hS := Ja HS _ ((Below.refl _ _).alloc (Nat.le_refl _) (.cells #[.slice none 0 0, .slice none 0 0] 57)).drew
    obtain ⟨_, _, s4, _⟩ := hS
    go_wp2_with fail
    go_region
    all_goals
      go_wp2_with fail
      refine bodyPost_ret (v := .tuple #[zArr, .agg #[.int .i64 4, .int .i64 p]]) (by simp [results, Tryz.results46, go_sem, zArr]) rfl ?_
      exact ⟨(((((Kp.refl W0 w).alloc _).alloc _).alloc _).alloc _).drew.drew, rfl, (show (4 : Int) ≠ 0 by decide), c, (((((Ja HW).alloc _).alloc _).alloc _).alloc _).drew.drew⟩
set_option maxHeartbeats 1000000 in
theorem Je0 (P : Nat → Prop) (W0 : World) (mv : Value) (fuel : Int) (c : Nat) (w : World) (hw : Wk W0 mv fuel c w) (k r x : Int) (t : ByteArray) (p : Nat)
    (so : Option Addr) (sn sc : Nat) (co : Option Addr) (cn cc : Nat) (a : Arr) (ha : IsArr P w (.agg #[.slice so sn sc, .slice co cn cc]) a) (hP : ¬ P W0.heap.size) (hc : (c : Int) ≤ fuel)
    (hl : ∀ w, Below W0.heap.size W0 w → (Instr.lookup 55 mv (.string t) true).run Tryz.prog w = .ok (.tuple #[.agg #[.slice so sn sc, .slice co cn cc], .bool true]) w) :
    Calls Tryz.prog 46 #[.pointer (some ⟨W0.heap.size, 0, none⟩), .agg #[.int .i64 k, .int .i64 r, .int .i64 x, .string t, .int .i64 p]] w (Gc P W0 mv fuel w (.inr (a, c))) := by
  have HW := hide hw
  have hlt := hw.lt
  have c0 := hw.vals
  have HL := hide hl
  have hne : W0.heap.size ≠ w.heap.size := by omega
  have hlt1 : W0.heap.size < w.heap.size + 1 := by omega
  have hlt2 : W0.heap.size < w.heap.size + 1 + 1 := by omega
  have hlt3 : W0.heap.size < w.heap.size + 1 + 1 + 1 := by omega
  have HA := hide ha
  clear hw hl ha
  have HS : Hid (∀ w', Below (((w.alloc (.cells #[.int .i64 k, .int .i64 r, .int .i64 x, .string t, .int .i64 p] 84)).alloc (.cells #[.slice none 0 0, .slice none 0 0] 57)).alloc (.cells #[.int .i64 0, .int .i64 0] 67)).heap.size (((w.alloc (.cells #[.int .i64 k, .int .i64 r, .int .i64 x, .string t, .int .i64 p] 84)).alloc (.cells #[.slice none 0 0, .slice none 0 0] 57)).alloc (.cells #[.int .i64 0, .int .i64 0] 67)) w' → w'.cell? ⟨W0.heap.size, 0, none⟩ = some mv ∧ w'.cell? ⟨w.heap.size, 3, none⟩ = some (.string t) ∧ w'.cell? ⟨w.heap.size, 4, none⟩ = some (.int .i64 p) ∧ (Instr.lookup 55 mv (.string t) true).run Tryz.prog w' = .ok (.tuple #[.agg #[.slice so sn sc, .slice co cn cc], .bool true]) w') := by
    intro w' hb
    have h3 := (((Ja HW).alloc (.cells #[.int .i64 k, .int .i64 r, .int .i64 x, .string t, .int .i64 p] 84)).alloc (.cells #[.slice none 0 0, .slice none 0 0] 57)).alloc (.cells #[.int .i64 0, .int .i64 0] 67)
    have hq := ((Below.refl (w.heap.size + 1) (w.alloc (.cells #[.int .i64 k, .int .i64 r, .int .i64 x, .string t, .int .i64 p] 84))).alloc (by simp) (.cells #[.slice none 0 0, .slice none 0 0] 57)).alloc (by simp) (.cells #[.int .i64 0, .int .i64 0] 67)
    refine ⟨(h3.keep hb).vals, ?_, ?_, Ja HL _ (h3.keep hb).below⟩
    · exact (hb.cell (p := ⟨w.heap.size, 3, none⟩) (by simp; omega)).trans ((hq.cell (p := ⟨w.heap.size, 3, none⟩) (by simp)).trans (by simp))
    · exact (hb.cell (p := ⟨w.heap.size, 4, none⟩) (by simp; omega)).trans ((hq.cell (p := ⟨w.heap.size, 4, none⟩) (by simp)).trans (by simp))
  go_enter Tryz.func46, Tryz.ntmps46
  go_wp2_with fail
  go_region_held3 (fun w' => w'.cell? ⟨W0.heap.size, 0, none⟩ = some mv ∧ w'.cell? ⟨w.heap.size, 3, none⟩ = some (.string t) ∧ w'.cell? ⟨w.heap.size, 4, none⟩ = some (.int .i64 p) ∧ (Instr.lookup 55 mv (.string t) true).run Tryz.prog w' = .ok (.tuple #[.agg #[.slice so sn sc, .slice co cn cc], .bool true]) w')
    (first | exact Ja HS _ (Below.refl _ _).drew | exact Ja HS _ ((Below.refl _ _).alloc (Nat.le_refl _) _).drew)
    (fail)
  all_goals
    go_wp2_with fail
    refine bodyPost_ret (v := .tuple #[.agg #[.slice so sn sc, .slice co cn cc], .agg #[.int .i64 0, .int .i64 0]]) (by simp [results, Tryz.results46, go_sem]) rfl ?_
    exact Jnd (((((Kp.refl W0 w).alloc _).alloc _).alloc _).alloc _).drew (((((Ja HW).alloc _).alloc _).alloc _).alloc _).drew (Ja HA) hP hc
theorem Je1 (P : Nat → Prop) (W0 : World) (mv : Value) (fuel : Int) (c : Nat) (w : World) (hw : Wk W0 mv fuel c w) (k r x : Int) (t : ByteArray) (ht : t.size ≤ 200) (p : Nat) (env : ByteArray → Option Arr) (hl : Look P W0 mv env) (hP : ¬ P W0.heap.size) (hc : (c : Int) ≤ fuel) :
    Calls Tryz.prog 46 #[.pointer (some ⟨W0.heap.size, 0, none⟩), .agg #[.int .i64 k, .int .i64 r, .int .i64 x, .string t, .int .i64 p]] w (Gc P W0 mv fuel w (match env t with | none => .inl (4, p) | some a => .inr (a, c))) := by
  obtain ⟨v, h1, h2⟩ := hl t ht
  cases he : env t with
  | none =>
    rw [he] at h1 h2
    simp only at h2
    subst h2
    exact Jiq P W0 mv fuel c w hw k r x t p h1
  | some a =>
    rw [he] at h1 h2
    simp only at h2
    have h3 : IsArr P w v a := h2.below hw.below
    have h4 := h3
    obtain ⟨so, sn, sc, co, cn, cc, rfl, _, _⟩ := h3
    exact Je0 P W0 mv fuel c w hw k r x t p so sn sc co cn cc a h4 hP hc h1
end Go.Proofs.YtjobgpahajhbnabGreatDoor
namespace Go.Proofs.YtjobgpahajhbnabGreatDoor
open Go.RowKit Go.Proofs
attribute [local go_sem ↓] Go.wp_at_zero Go.wp_at_succ
def FnOne (g : Nat) (lb : Array Value) (w : World) (f : Arr → Arr × Int) : Prop := ∀ (W : World) (P : Nat → Prop) (v : Value) (a : Arr), Below w.heap.size w W → (∀ b, W.heap.size ≤ b → P b) → IsArr P W v a → a.ok →
  Calls Tryz.prog g (#[v] ++ lb) W fun e W' => ∃ so sn sc co cn cc, e = .returned (.tuple #[.agg #[.slice so sn sc, .slice co cn cc], .int .i64 (f a).2]) ∧ IsArr P W' (.agg #[.slice so sn sc, .slice co cn cc]) (f a).1 ∧ Below W.heap.size W W'
def FnTwo (g : Nat) (lb : Array Value) (w : World) (f : Arr → Arr → Arr × Int) : Prop := ∀ (W : World) (P : Nat → Prop) (u v : Value) (a b : Arr), Below w.heap.size w W → (∀ b, W.heap.size ≤ b → P b) → IsArr P W u a → IsArr P W v b → a.ok → b.ok →
  Calls Tryz.prog g (#[u, v] ++ lb) W fun e W' => ∃ so sn sc co cn cc, e = .returned (.tuple #[.agg #[.slice so sn sc, .slice co cn cc], .int .i64 (f a b).2]) ∧ IsArr P W' (.agg #[.slice so sn sc, .slice co cn cc]) (f a b).1 ∧ Below W.heap.size W W'
structure OneC (t : ByteArray) (f : Arr → Arr × Int) : Prop where
  finds : ∀ w, Calls Tryz.prog 47 #[.string t] w fun e w' => ∃ g lb, e = .returned (.func (.func g) #[] lb) ∧ Enters Tryz.prog g ∧ Below w.heap.size w w' ∧ FnOne g lb w' f
  ok : ∀ a, a.ok → (f a).1.cells.length ≤ 200 ∧ ((f a).2 = 0 → (f a).1.ok)
structure TwoC (t : ByteArray) (f : Arr → Arr → Arr × Int) : Prop where
  finds : ∀ w, Calls Tryz.prog 49 #[.string t] w fun e w' => ∃ g lb, e = .returned (.func (.func g) #[] lb) ∧ Enters Tryz.prog g ∧ Below w.heap.size w w' ∧ FnTwo g lb w' f
  ok : ∀ a b, a.ok → b.ok → (f a b).1.cells.length ≤ 200 ∧ ((f a b).2 = 0 → (f a b).1.ok)
def Good (f1 : ByteArray → Arr → Arr × Int) (f2 : ByteArray → Arr → Arr → Arr × Int) : Ex → Prop
  | .num ws => 0 < ws.length ∧ ws.length ≤ 200 ∧ ∀ c ∈ ws, Jg c
  | .name t _ => t.size ≤ 200
  | .one t _ r => OneC t (f1 t) ∧ Good f1 f2 r
  | .two t _ l r => TwoC t (f2 t) ∧ Good f1 f2 l ∧ Good f1 f2 r
theorem Jk7 {ws : List Int} (h1 : ws.length ≤ 200) (hf : ∀ c ∈ ws, Jg c) : (Jim ws).ok := by
  unfold Jim
  by_cases h : ws.length = 1
  · rw [if_pos h]
    exact ⟨by simp, by simp, by simpa [Jj] using h, h1, hf⟩
  · rw [if_neg h]
    exact ⟨by simp, by simp; omega, by simp [Jj], h1, hf⟩
theorem Jgg {fuel : Int} {r : Arr × Int} {p c : Nat} {x : Arr × Nat} (h : payP fuel r p c = .inr x) : x.1 = r.1 ∧ (x.2 : Int) ≤ fuel ∧ r.2 = 0 := by
  unfold payP at h
  split at h
  · cases h
  · rename_i h0
    split at h
    · cases h
    · cases h
      exact ⟨rfl, by omega, by simpa using h0⟩
theorem Ql {env : ByteArray → Option Arr} {fuel : Int} {f1 : ByteArray → Arr → Arr × Int} {f2 : ByteArray → Arr → Arr → Arr × Int} (he : ∀ t a, env t = some a → a.ok) : ∀ (x : Ex) (c : Nat) (r : Arr × Nat), Good f1 f2 x → (c : Int) ≤ fuel → Jt env fuel f1 f2 x c = .inr r → r.1.ok ∧ (r.2 : Int) ≤ fuel
  | .num ws, c, r, hg, hc, h => by
    simp only [Jt] at h
    cases h
    exact ⟨Jk7 hg.2.1 hg.2.2, hc⟩
  | .name t p, c, r, hg, hc, h => by
    simp only [Jt] at h
    cases ht : env t with
    | none => rw [ht] at h; cases h
    | some a => rw [ht] at h; cases h; exact ⟨he t a ht, hc⟩
  | .one t p e, c, r, hg, hc, h => by
    simp only [Jt] at h
    cases h1 : Jt env fuel f1 f2 e c with
    | inl e => rw [h1] at h; cases h
    | inr y =>
      rw [h1] at h
      obtain ⟨k1, _⟩ := Ql he e c y hg.2 hc h1
      obtain ⟨k3, k4, k5⟩ := Jgg h
      exact ⟨by rw [k3]; exact (hg.1.ok _ k1).2 k5, k4⟩
  | .two t p l e, c, r, hg, hc, h => by
    simp only [Jt] at h
    cases h1 : Jt env fuel f1 f2 e c with
    | inl e => rw [h1] at h; cases h
    | inr y =>
      rw [h1] at h
      simp only at h
      obtain ⟨k1, k2⟩ := Ql he e c y hg.2.2 hc h1
      cases h2 : Jt env fuel f1 f2 l y.2 with
      | inl e => rw [h2] at h; cases h
      | inr z =>
        rw [h2] at h
        obtain ⟨m1, _⟩ := Ql he l y.2 z hg.2.1 k2 h2
        obtain ⟨k3, k4, k5⟩ := Jgg h
        exact ⟨by rw [k3]; exact (hg.1.ok _ _ m1 k1).2 k5, k4⟩
theorem Look.imp {P Q : Nat → Prop} {W0 : World} {mv : Value} {env : ByteArray → Option Arr} (h : Look P W0 mv env) (hq : ∀ b, P b → b < W0.heap.size → Q b) : Look Q W0 mv env := by
  intro t ht
  obtain ⟨v, h1, h2⟩ := h t ht
  refine ⟨v, h1, ?_⟩
  cases he : env t with
  | none => rw [he] at h2; exact h2
  | some a => rw [he] at h2; exact IsArr.imp h2 hq
def ExC (env : ByteArray → Option Arr) (fuel : Int) (f1 : ByteArray → Arr → Arr × Int) (f2 : ByteArray → Arr → Arr → Arr × Int) (B : Nat) (W0 : World) (mv : Value) (x : Ex) : Prop :=
  ∀ (P : Nat → Prop) (w : World) (c : Nat) (q : Option Addr), Wk W0 mv fuel c w → (c : Int) ≤ fuel → (∀ b, w.heap.size ≤ b → P b) → ¬ P W0.heap.size → Look P W0 mv env → IsEx B W0 q x →
    Calls Tryz.prog 35 #[.pointer (some ⟨W0.heap.size, 0, none⟩), .pointer q] w (Gc P W0 mv fuel w (Jt env fuel f1 f2 x c))
set_option maxHeartbeats 1000000 in
theorem Jn9 (env : ByteArray → Option Arr) (fuel : Int) (f1 : ByteArray → Arr → Arr × Int) (f2 : ByteArray → Arr → Arr → Arr × Int) (B : Nat) (W0 : World) (mv : Value) (ws : List Int) : ExC env fuel f1 f2 B W0 mv (.num ws) := by
  intro P w c q hw hc hP hR hL hx
  obtain ⟨b, n, rfl, h1, h2, c0, c7, hi, h0, h200⟩ := hx
  have hlt := hw.lt
  have hb := hw.below
  have d0 := (hb.cell (p := ⟨b, 0, none⟩) h2).trans c0
  have d7 := (hb.cell (p := ⟨b, 7, none⟩) h2).trans c7
  have hbl : b < w.heap.size := Nat.lt_of_lt_of_le h2 hb.size
  have HN := hide (Jgy (P := fun _ => True) (hi.keep (Behind.of_below hb)) (fun _ _ _ => trivial))
  have hn := Ja HN
  obtain ⟨nb, ncap, rfl, _, _, _, _⟩ := hi
  have HW := hide hw
  have HP : Hid (∀ b, w.heap.size ≤ b → P b) := hP
  clear hw hP hL c0 c7 hb hn h2
  go_enter Tryz.func35, Tryz.ntmps35
  go_wp2_with fail
  refine (Jnq (fun b => P b ∧ b ≠ w.heap.size ∧ b ≠ w.heap.size + 1) _ (fun b h => ⟨Ja HP b (by simp at h; omega), by simp at h; omega, by simp at h; omega⟩) _ ws ((Ja HN).below (((Below.refl w.heap.size w).alloc (Nat.le_refl _) _).alloc (by simp) _)) h0 h200).mono ?_
  rintro e w1 ⟨so, sn, sc, co, cn, cc, rfl, ha, hb1⟩
  have HA := hide ha
  obtain ⟨hcc, hff⟩ := Jr hb1
  have e0 := hcc w.heap.size 0 (by simp; omega)
  have e1 := hcc w.heap.size 1 (by simp; omega)
  have e2 := hcc (w.heap.size + 1) 0 (by simp)
  have e3 := hcc (w.heap.size + 1) 1 (by simp)
  have g0 := hff w.heap.size 0 (by simp; omega)
  have g1 := hff w.heap.size 1 (by simp; omega)
  have g2 := hff (w.heap.size + 1) 0 (by simp)
  have g3 := hff (w.heap.size + 1) 1 (by simp)
  simp at e0 e1 e2 e3 g0 g1 g2 g3
  have HB := hide hb1
  clear ha hb1 hcc hff
  go_wp2_with fail
  refine bodyPost_ret (v := .tuple #[.agg #[.slice so sn sc, .slice co cn cc], .agg #[.int .i64 0, .int .i64 0]]) (by simp [results, Tryz.results35, go_sem, e0, e1, e2, e3]) rfl ?_
  have hb2 : Below w.heap.size w w1 := (((Below.refl w.heap.size w).alloc (Nat.le_refl _) _).alloc (by simp) _).trans ((Ja HB).mono (by simp; omega))
  refine ⟨(Kp.of_below hb2).four (Nat.le_refl _) _ _ _ _, _, rfl, ?_, ((Ja HW).keep hb2).four hlt _ _ _ _, hc⟩
  exact (((((Ja HA).set (fun h => h.2.1 rfl) 0 _).set (fun h => h.2.1 rfl) 1 _).set (fun h => h.2.2 rfl) 0 _).set (fun h => h.2.2 rfl) 1 _).imp (fun b h _ => h.1)
end Go.Proofs.YtjobgpahajhbnabGreatDoor
