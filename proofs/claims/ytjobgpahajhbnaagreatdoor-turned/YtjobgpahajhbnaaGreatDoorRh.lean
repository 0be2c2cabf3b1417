import Derived.Test.YtjobgpahajhbnaaGreatDoorRg
import Derived.Deep.RegionHeld3
namespace Go.Proofs.YtjobgpahajhbnaaGreatDoor
open Go.RowKit Go.Proofs
attribute [local go_sem ↓] Go.wp_at_zero Go.wp_at_succ

theorem Box3.keep {w W W' : World} {a0 a1 b0 b1 : Value} (h : Box3 w W a0 a1 b0 b1) (hb : Below W.heap.size W W') : Box3 w W' a0 a1 b0 b1 := by
  have hs := h.sz
  have hz := hb.size
  have k : ∀ c i, c < W.heap.size → W'.cell? ⟨c, i, none⟩ = W.cell? ⟨c, i, none⟩ := fun c i hc => hb.cell (p := ⟨c, i, none⟩) hc
  have kf : ∀ c i, c < W.heap.size → W'.frozen? ⟨c, i, none⟩ = W.frozen? ⟨c, i, none⟩ := fun c i hc => hb.frozen (p := ⟨c, i, none⟩) hc
  exact ⟨h.bel.trans (hb.mono h.bel.size), by omega, (k _ _ (by omega)).trans h.c0, (k _ _ (by omega)).trans h.c1, (k _ _ (by omega)).trans h.d0, (k _ _ (by omega)).trans h.d1, (k _ _ (by omega)).trans h.r0, (k _ _ (by omega)).trans h.r1, (kf _ _ (by omega)).trans h.fc0, (kf _ _ (by omega)).trans h.fc1, (kf _ _ (by omega)).trans h.fd0, (kf _ _ (by omega)).trans h.fd1, (kf _ _ (by omega)).trans h.fr0, (kf _ _ (by omega)).trans h.fr1⟩

theorem shape_at {P : Nat → Prop} {w : World} {so : Option Addr} {sn sc : Nat} {co : Option Addr} {cn cc : Nat} {a : Arr} (h : IsArr P w (.agg #[.slice so sn sc, .slice co cn cc]) a) (hsn : ((sn : Int) == 0) = false) : ∃ b off, so = some ⟨b, off, none⟩ ∧ b < w.heap.size ∧ ∀ j, j < (a.shape.map Int.ofNat).length → w.cell? ⟨b, off + j, none⟩ = some (.int .i64 ((a.shape.map Int.ofNat).getD j 0)) := by
  have hl := (isArr_len h).2
  obtain ⟨so', sn', sc', co', cn', cc', hv, ⟨ao, cap, h2, _, hc, _⟩, _⟩ := h
  injection hv with hv
  simp at hv
  obtain ⟨⟨rfl, rfl, rfl⟩, _⟩ := hv
  have h0 : 0 < (a.shape.map Int.ofNat).length := by
    simp at hsn ⊢
    apply Nat.pos_of_ne_zero
    intro h0
    simp at h0
    rw [h0] at hl
    simp at hl
    omega
  obtain ⟨b, off, h3, _, h4, h5⟩ := hc h0
  injection h2 with h2
  refine ⟨b, off, h2.trans h3, h4, fun j hj => ?_⟩
  rw [h5 j hj]
  simp [List.getD_eq_getElem?_getD, List.getElem?_eq_getElem (show j < a.shape.length by simpa using hj)]
theorem map_ofNat_inj : ∀ {a b : List Nat}, a.map Int.ofNat = b.map Int.ofNat → a = b
  | [], [], _ => rfl
  | x :: xs, y :: ys, h => by
    simp only [List.map_cons] at h
    injection h with h1 h2
    injection h1 with h1
    rw [h1, map_ofNat_inj h2]
  | [], y :: ys, h => by simp at h
  | x :: xs, [], h => by simp at h
theorem map_ofNat_beq {a b : List Nat} : ((a.map Int.ofNat) == (b.map Int.ofNat)) = decide (a = b) := by
  by_cases h : a = b
  · subst h; simp
  · have : ¬ (a.map Int.ofNat = b.map Int.ofNat) := fun e => h (map_ofNat_inj e)
    simp only [h, decide_false]
    exact beq_eq_false_iff_ne.2 this
theorem pairS_mk3 {P : Nat → Prop} {w W : World} {so : Option Addr} {sn sc : Nat} {co : Option Addr} {cn cc : Nat} {so2 : Option Addr} {sn2 sc2 : Nat} {co2 : Option Addr} {cn2 cc2 : Nat} {a b : Arr} (h3 : Box3 w W (.slice so sn sc) (.slice co cn cc) (.slice so2 sn2 sc2) (.slice co2 cn2 cc2))
    (ha : IsArr P w (.agg #[.slice so sn sc, .slice co cn cc]) a) (hb : IsArr P w (.agg #[.slice so2 sn2 sc2, .slice co2 cn2 cc2]) b) (hoa : a.ok) (hob : b.ok) (hs : a.shape = b.shape) :
    PairS w.heap.size W so sn sc co cc (.slice so2 sn2 sc2) co2 cc2 cn a.cells b.cells ∧ cn2 = cn := by
  have hsz := h3.sz
  have hl1 := (isArr_len ha).1
  have hl2 := (isArr_len hb).1
  have hab : a.cells.length = b.cells.length := by rw [hoa.size, hob.size, hs]
  have hcc : cn2 = cn := by omega
  subst hcc
  obtain ⟨_, _, _, _, _, _, hv1, _, hn1⟩ := ha
  injection hv1 with hv1
  simp at hv1
  obtain ⟨_, rfl, rfl, rfl⟩ := hv1
  obtain ⟨_, _, _, _, _, _, hv2, _, hn2⟩ := hb
  injection hv2 with hv2
  simp at hv2
  obtain ⟨_, rfl, rfl, rfl⟩ := hv2
  refine ⟨⟨h3.c0, h3.c1, h3.d1, h3.d0, h3.r0, h3.r1, h3.fr0, h3.fr1, h3.sz, hl1.symm, hl2.symm, by rw [hl1]; exact hoa.few, hoa.fits, hob.fits, ?_, ?_⟩, rfl⟩
  · intro h0
    obtain ⟨ao, cap, hv, _, hc, _⟩ := hn1
    obtain ⟨yb, yf, rfl, hp, hl, hcell⟩ := hc (by omega)
    injection hv with hv
    exact ⟨yb, yf, hv, by omega, fun i hi => (h3.bel.cell (p := ⟨yb, yf + i, none⟩) hl).trans (hcell i hi)⟩
  · intro h0
    obtain ⟨ao, cap, hv, _, hc, _⟩ := hn2
    obtain ⟨yb, yf, rfl, hp, hl, hcell⟩ := hc (by omega)
    injection hv with hv
    exact ⟨yb, yf, hv, by omega, fun i hi => (h3.bel.cell (p := ⟨yb, yf + i, none⟩) hl).trans (hcell i hi)⟩
set_option maxRecDepth 20000 in
set_option maxHeartbeats 2000000 in
theorem pair_ranks (f : Int → Int → Int × Int) (g : Nat) (P : Nat → Prop) (w : World) (so : Option Addr) (sn sc : Nat) (co : Option Addr) (cn cc : Nat) (so2 : Option Addr) (sn2 sc2 : Nat) (co2 : Option Addr) (cn2 cc2 : Nat) (a b : Arr) (ha : IsArr P w (.agg #[.slice so sn sc, .slice co cn cc]) a) (hb : IsArr P w (.agg #[.slice so2 sn2 sc2, .slice co2 cn2 cc2]) b) (hsn : ((sn : Int) == 0) = false) (hsn2 : ((sn2 : Int) == 0) = false) (hne : ((sn : Int) != (sn2 : Int)) = true) :
    Calls Tryz.prog 240 #[.agg #[.slice so sn sc, .slice co cn cc], .agg #[.slice so2 sn2 sc2, .slice co2 cn2 cc2], .func (.func g) #[] #[]] w fun e w' => ∃ s1 s2 s3 c1 c2 c3, e = .returned (.tuple #[.agg #[.slice s1 s2 s3, .slice c1 c2 c3], .int .i64 (pairP f a b).2]) ∧ IsArr P w' (.agg #[.slice s1 s2 s3, .slice c1 c2 c3]) (pairP f a b).1 ∧ Below w.heap.size w w' := by
  have hfin : pairP f a b = (eArr, 5) := by
    have h1 := (isArr_len ha).2
    have h2 := (isArr_len hb).2
    unfold pairP
    rw [if_neg, if_neg, if_pos]
    · intro h; rw [← h1, ← h2] at h; simp [h] at hne
    · intro h; rw [h] at h2; subst h2; simp at hsn2
    · intro h; rw [h] at h1; subst h1; simp at hsn
  have HFin := hide hfin
  clear hfin ha hb
  go_enter Tryz.func240, Tryz.ntmps240
  go_wp2_with (go_at_call 220; refine (isScalar_any _ _ _ _ _ _ _).mono ?_; rintro e w' ⟨rfl, rfl⟩)
  have hX3 := box3_mk (w := w) (a0 := .slice so sn sc) (a1 := .slice co cn cc) (b0 := .slice so2 sn2 sc2) (b1 := .slice co2 cn2 cc2) (((((Below.refl (w.heap.size + 3) _).alloc (by simp) (.cells #[.slice so sn sc, .slice co cn cc] 89)).alloc (by simp <;> omega) (.cells #[.slice so sn sc, .slice co cn cc] 89)).alloc (by simp <;> omega) (.cells #[.slice so2 sn2 sc2, .slice co2 cn2 cc2] 89)).alloc (by simp <;> omega) (.cells #[.slice so2 sn2 sc2, .slice co2 cn2 cc2] 89))
  have HX3 := hide hX3
  obtain ⟨W3, hW3⟩ : ∃ W3, (((((((w.alloc (.cells #[.slice so sn sc, .slice co cn cc] 89)).alloc (.cells #[.slice so2 sn2 sc2, .slice co2 cn2 cc2] 89)).alloc (.cells #[.slice none 0 0, .slice none 0 0] 89)).alloc (.cells #[.slice so sn sc, .slice co cn cc] 89)).alloc (.cells #[.slice so sn sc, .slice co cn cc] 89)).alloc (.cells #[.slice so2 sn2 sc2, .slice co2 cn2 cc2] 89)).alloc (.cells #[.slice so2 sn2 sc2, .slice co2 cn2 cc2] 89)) = W3 := ⟨_, rfl⟩
  rw [hW3] at HX3 ⊢
  clear hX3 hW3
  have HS : Hid (∀ w', Below W3.heap.size W3 w' → w'.cell? ⟨w.heap.size, 0, none⟩ = some (.slice so sn sc) ∧ w'.cell? ⟨w.heap.size, 1, none⟩ = some (.slice co cn cc) ∧ w'.cell? ⟨w.heap.size + 1, 0, none⟩ = some (.slice so2 sn2 sc2) ∧ w'.cell? ⟨w.heap.size + 1, 1, none⟩ = some (.slice co2 cn2 cc2)) := by
    intro w' hb
    have h := (unhide HX3).keep hb
    exact ⟨h.c0, h.c1, h.d0, h.d1⟩
  go_region_held3 (fun w' => w'.cell? ⟨w.heap.size, 0, none⟩ = some (.slice so sn sc) ∧ w'.cell? ⟨w.heap.size, 1, none⟩ = some (.slice co cn cc) ∧ w'.cell? ⟨w.heap.size + 1, 0, none⟩ = some (.slice so2 sn2 sc2) ∧ w'.cell? ⟨w.heap.size + 1, 1, none⟩ = some (.slice co2 cn2 cc2))
    (first | exact unhide HS _ (Below.refl _ _).drew | exact unhide HS _ ((Below.refl _ _).drew.alloc (Nat.le_refl _) _) | exact unhide HS _ (((Below.refl _ _).drew.alloc (Nat.le_refl _) _).alloc (by simp) _) | (trace_state; fail))
    ((go_at_call 221; refine (rank_any _ _ _ _ _ _ _).mono ?_; rintro e w' ⟨rfl, rfl⟩))
  rename_i hHeld
  clear hHeld
  have hX4 := (unhide HX3).keep (((Below.refl _ _).alloc (Nat.le_refl _) (.cells #[.slice so sn sc, .slice co cn cc] 89)).alloc (by simp) (.cells #[.slice so2 sn2 sc2, .slice co2 cn2 cc2] 89)).drew
  have HX4 := hide hX4
  obtain ⟨W4, hW4⟩ : ∃ W4, ((W3.alloc (.cells #[.slice so sn sc, .slice co cn cc] 89)).alloc (.cells #[.slice so2 sn2 sc2, .slice co2 cn2 cc2] 89)).drew = W4 := ⟨_, rfl⟩
  rw [hW4] at HX4 ⊢
  clear hX4 hW4 HS HX3
  have a0 := (unhide HX4).c0
  have a1 := (unhide HX4).c1
  have b0 := (unhide HX4).d0
  have b1 := (unhide HX4).d1
  have r0 := (unhide HX4).r0
  have r1 := (unhide HX4).r1
  have q0 := (unhide HX4).fr0
  have q1 := (unhide HX4).fr1
  go_wp2_with fail
  refine bodyPost_ret (v := .tuple #[.agg #[.slice none 0 0, .slice none 0 0], .int .i64 5]) (by simp [results, Tryz.results240, go_sem, r0, r1]) rfl ⟨none, 0, 0, none, 0, 0, ?_, ?_, ?_⟩
  · rw [unhide HFin]
  · rw [unhide HFin]
    exact ⟨_, _, _, _, _, _, rfl, nums_nil _ _, nums_nil _ _⟩
  · exact (unhide HX4).bel.setCell (p := ⟨w.heap.size + 1 + 1, 0, none⟩) (by show w.heap.size ≤ w.heap.size + 1 + 1; omega) _ |>.setCell (p := ⟨w.heap.size + 1 + 1, 1, none⟩) (by show w.heap.size ≤ w.heap.size + 1 + 1; omega) _
set_option maxRecDepth 20000 in
set_option maxHeartbeats 2000000 in
theorem pair_lens (f : Int → Int → Int × Int) (g : Nat) (P : Nat → Prop) (w : World) (so : Option Addr) (sn sc : Nat) (co : Option Addr) (cn cc : Nat) (so2 : Option Addr) (sn2 sc2 : Nat) (co2 : Option Addr) (cn2 cc2 : Nat) (a b : Arr) (ha : IsArr P w (.agg #[.slice so sn sc, .slice co cn cc]) a) (hb : IsArr P w (.agg #[.slice so2 sn2 sc2, .slice co2 cn2 cc2]) b) (hsn : ((sn : Int) == 0) = false) (hsn2 : ((sn2 : Int) == 0) = false) (hoa : a.ok) (hob : b.ok) (hne : ((sn : Int) != (sn2 : Int)) = false) (hsh : a.shape ≠ b.shape) :
    Calls Tryz.prog 240 #[.agg #[.slice so sn sc, .slice co cn cc], .agg #[.slice so2 sn2 sc2, .slice co2 cn2 cc2], .func (.func g) #[] #[]] w fun e w' => ∃ s1 s2 s3 c1 c2 c3, e = .returned (.tuple #[.agg #[.slice s1 s2 s3, .slice c1 c2 c3], .int .i64 (pairP f a b).2]) ∧ IsArr P w' (.agg #[.slice s1 s2 s3, .slice c1 c2 c3]) (pairP f a b).1 ∧ Below w.heap.size w w' := by
  obtain ⟨sb, sf, rfl, hsb, hsc1⟩ := shape_at ha hsn
  obtain ⟨sb2, sf2, rfl, hsb2, hsc2⟩ := shape_at hb hsn2
  have HSC1 := hide hsc1
  have HSC2 := hide hsc2
  have h1 := (isArr_len ha).2
  have h2 := (isArr_len hb).2
  have hfin : pairP f a b = (eArr, 6) := by
    unfold pairP
    rw [if_neg, if_neg, if_neg, if_pos hsh]
    · simp only [← h1, ← h2, ne_eq, Decidable.not_not]
      simp at hne
      omega
    · intro h; rw [h] at h2; subst h2; simp at hsn2
    · intro h; rw [h] at h1; subst h1; simp at hsn
  have HFin := hide hfin
  have HL1 := hide h1
  have HL2 := hide h2
  have HDec : Hid (decide (a.shape = b.shape) = false) := hide (by simp [hsh])
  have HBig : Hid (sn ≤ 9223372036854775807) := hide (by rw [h1]; exact Nat.le_trans hoa.rank (by decide))
  have HBig2 : Hid (sn2 ≤ 9223372036854775807) := hide (by rw [h2]; exact Nat.le_trans hob.rank (by decide))
  clear hfin ha hb hsc1 hsc2 h1 h2 hoa hob hsh
  go_enter Tryz.func240, Tryz.ntmps240
  go_wp2_with (go_at_call 220; refine (isScalar_any _ _ _ _ _ _ _).mono ?_; rintro e w' ⟨rfl, rfl⟩)
  have hX3 := box3_mk (w := w) (a0 := .slice (some ⟨sb, sf, none⟩) sn sc) (a1 := .slice co cn cc) (b0 := .slice (some ⟨sb2, sf2, none⟩) sn2 sc2) (b1 := .slice co2 cn2 cc2) (((((Below.refl (w.heap.size + 3) _).alloc (by simp) (.cells #[.slice (some ⟨sb, sf, none⟩) sn sc, .slice co cn cc] 89)).alloc (by simp <;> omega) (.cells #[.slice (some ⟨sb, sf, none⟩) sn sc, .slice co cn cc] 89)).alloc (by simp <;> omega) (.cells #[.slice (some ⟨sb2, sf2, none⟩) sn2 sc2, .slice co2 cn2 cc2] 89)).alloc (by simp <;> omega) (.cells #[.slice (some ⟨sb2, sf2, none⟩) sn2 sc2, .slice co2 cn2 cc2] 89))
  have HX3 := hide hX3
  obtain ⟨W3, hW3⟩ : ∃ W3, (((((((w.alloc (.cells #[.slice (some ⟨sb, sf, none⟩) sn sc, .slice co cn cc] 89)).alloc (.cells #[.slice (some ⟨sb2, sf2, none⟩) sn2 sc2, .slice co2 cn2 cc2] 89)).alloc (.cells #[.slice none 0 0, .slice none 0 0] 89)).alloc (.cells #[.slice (some ⟨sb, sf, none⟩) sn sc, .slice co cn cc] 89)).alloc (.cells #[.slice (some ⟨sb, sf, none⟩) sn sc, .slice co cn cc] 89)).alloc (.cells #[.slice (some ⟨sb2, sf2, none⟩) sn2 sc2, .slice co2 cn2 cc2] 89)).alloc (.cells #[.slice (some ⟨sb2, sf2, none⟩) sn2 sc2, .slice co2 cn2 cc2] 89)) = W3 := ⟨_, rfl⟩
  rw [hW3] at HX3 ⊢
  clear hX3 hW3
  have HS : Hid (∀ w', Below W3.heap.size W3 w' → w'.cell? ⟨w.heap.size, 0, none⟩ = some (.slice (some ⟨sb, sf, none⟩) sn sc) ∧ w'.cell? ⟨w.heap.size, 1, none⟩ = some (.slice co cn cc) ∧ w'.cell? ⟨w.heap.size + 1, 0, none⟩ = some (.slice (some ⟨sb2, sf2, none⟩) sn2 sc2) ∧ w'.cell? ⟨w.heap.size + 1, 1, none⟩ = some (.slice co2 cn2 cc2)) := by
    intro w' hb
    have h := (unhide HX3).keep hb
    exact ⟨h.c0, h.c1, h.d0, h.d1⟩
  go_region_held3 (fun w' => w'.cell? ⟨w.heap.size, 0, none⟩ = some (.slice (some ⟨sb, sf, none⟩) sn sc) ∧ w'.cell? ⟨w.heap.size, 1, none⟩ = some (.slice co cn cc) ∧ w'.cell? ⟨w.heap.size + 1, 0, none⟩ = some (.slice (some ⟨sb2, sf2, none⟩) sn2 sc2) ∧ w'.cell? ⟨w.heap.size + 1, 1, none⟩ = some (.slice co2 cn2 cc2))
    (first | exact unhide HS _ (Below.refl _ _).drew | exact unhide HS _ ((Below.refl _ _).drew.alloc (Nat.le_refl _) _) | exact unhide HS _ (((Below.refl _ _).drew.alloc (Nat.le_refl _) _).alloc (by simp) _) | (trace_state; fail))
    ((go_at_call 221; refine (rank_any _ _ _ _ _ _ _).mono ?_; rintro e w' ⟨rfl, rfl⟩))
  rename_i hHeld
  clear hHeld
  have hX4 := (unhide HX3).keep (((Below.refl _ _).alloc (Nat.le_refl _) (.cells #[.slice (some ⟨sb, sf, none⟩) sn sc, .slice co cn cc] 89)).alloc (by simp) (.cells #[.slice (some ⟨sb2, sf2, none⟩) sn2 sc2, .slice co2 cn2 cc2] 89)).drew
  have HX4 := hide hX4
  obtain ⟨W4, hW4⟩ : ∃ W4, ((W3.alloc (.cells #[.slice (some ⟨sb, sf, none⟩) sn sc, .slice co cn cc] 89)).alloc (.cells #[.slice (some ⟨sb2, sf2, none⟩) sn2 sc2, .slice co2 cn2 cc2] 89)).drew = W4 := ⟨_, rfl⟩
  rw [hW4] at HX4 ⊢
  clear hX4 hW4 HS HX3
  have a0 := (unhide HX4).c0
  have a1 := (unhide HX4).c1
  have b0 := (unhide HX4).d0
  have b1 := (unhide HX4).d1
  have r0 := (unhide HX4).r0
  have r1 := (unhide HX4).r1
  have q0 := (unhide HX4).fr0
  have q1 := (unhide HX4).fr1
  have hbig : sn ≤ 9223372036854775807 := unhide HBig
  have hbig2 : sn2 ≤ 9223372036854775807 := unhide HBig2
  have HQ := hide (Tryz.slices_Equal_int sb sf sn sc sb2 sf2 sn2 sc2 (a.shape.map Int.ofNat) (b.shape.map Int.ofNat) W4 (by simp [unhide HL1]) (by simp [unhide HL2]) hbig hbig2 (fun j hj => ((unhide HX4).bel.cell (p := ⟨sb, sf + j, none⟩) hsb).trans (unhide HSC1 j hj)) (fun j hj => ((unhide HX4).bel.cell (p := ⟨sb2, sf2 + j, none⟩) hsb2).trans (unhide HSC2 j hj)))
  rw [List.take_of_length_le (by simp [unhide HL1]), List.take_of_length_le (by simp [unhide HL2]), map_ofNat_beq, unhide HDec] at HQ
  clear hbig hbig2
  go_wp2_with (go_at_call 256; refine (unhide HQ).mono ?_; rintro e w' ⟨rfl, q, rfl⟩)
  refine bodyPost_ret (v := .tuple #[.agg #[.slice none 0 0, .slice none 0 0], .int .i64 6]) (by simp [results, Tryz.results240, go_sem, r0, r1]) rfl ⟨none, 0, 0, none, 0, 0, ?_, ?_, ?_⟩
  · rw [unhide HFin]
  · rw [unhide HFin]
    exact ⟨_, _, _, _, _, _, rfl, nums_nil _ _, nums_nil _ _⟩
  · exact (below_nn (unhide HX4).bel q).setCell (p := ⟨w.heap.size + 1 + 1, 0, none⟩) (by show w.heap.size ≤ w.heap.size + 1 + 1; omega) _ |>.setCell (p := ⟨w.heap.size + 1 + 1, 1, none⟩) (by show w.heap.size ≤ w.heap.size + 1 + 1; omega) _
end Go.Proofs.YtjobgpahajhbnaaGreatDoor
