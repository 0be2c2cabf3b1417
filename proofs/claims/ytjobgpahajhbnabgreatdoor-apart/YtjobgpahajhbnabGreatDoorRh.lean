import Derived.Test.YtjobgpahajhbnabGreatDoorRc
import Derived.Deep.RegionHeld3
import Derived.Test.YtjobgpahajhbnabGreatDoorEa
import Derived.Deep.DrawnRows
namespace Go.Proofs.YtjobgpahajhbnabGreatDoor
open Go.RowKit Go.Proofs
attribute [local go_sem ↓] Go.wp_at_zero Go.wp_at_succ
theorem Box3.keep {w W W' : World} {a0 a1 b0 b1 : Value} (h : Box3 w W a0 a1 b0 b1) (hb : Below W.heap.size W W') : Box3 w W' a0 a1 b0 b1 := by
  have hs := h.sz; have hz := hb.size; have k : ∀ c i, c < W.heap.size → W'.cell? ⟨c, i, none⟩ = W.cell? ⟨c, i, none⟩ := fun c i hc => hb.cell (p := ⟨c, i, none⟩) hc
  have kf : ∀ c i, c < W.heap.size → W'.frozen? ⟨c, i, none⟩ = W.frozen? ⟨c, i, none⟩ := fun c i hc => hb.frozen (p := ⟨c, i, none⟩) hc
  exact ⟨h.bel.trans (hb.mono h.bel.size), by omega, (k _ _ (by omega)).trans h.c0, (k _ _ (by omega)).trans h.c1, (k _ _ (by omega)).trans h.d0, (k _ _ (by omega)).trans h.d1, (k _ _ (by omega)).trans h.r0, (k _ _ (by omega)).trans h.r1, (kf _ _ (by omega)).trans h.fc0, (kf _ _ (by omega)).trans h.fc1, (kf _ _ (by omega)).trans h.fd0, (kf _ _ (by omega)).trans h.fd1, (kf _ _ (by omega)).trans h.fr0, (kf _ _ (by omega)).trans h.fr1⟩
theorem K8 {P : Nat → Prop} {w : World} {so : Option Addr} {sn sc : Nat} {co : Option Addr} {cn cc : Nat} {a : Arr} (h : IsArr P w (.agg #[.slice so sn sc, .slice co cn cc]) a) (hsn : ((sn : Int) == 0) = false) : ∃ b off, so = some ⟨b, off, none⟩ ∧ b < w.heap.size ∧ ∀ j, j < (a.shape.map Int.ofNat).length → w.cell? ⟨b, off + j, none⟩ = some (.int .i64 ((a.shape.map Int.ofNat).getD j 0)) := by
  have hl := (Jc h).2; obtain ⟨so', sn', sc', co', cn', cc', hv, ⟨ao, cap, h2, _, hc, _⟩, _⟩ := h; injection hv with hv; simp at hv; obtain ⟨⟨rfl, rfl, rfl⟩, _⟩ := hv; have h0 : 0 < (a.shape.map Int.ofNat).length := by
    simp at hsn ⊢; apply Nat.pos_of_ne_zero; intro h0; simp at h0; rw [h0] at hl; simp at hl; omega
  obtain ⟨b, off, h3, _, h4, h5⟩ := hc h0; injection h2 with h2; refine ⟨b, off, h2.trans h3, h4, fun j hj => ?_⟩; rw [h5 j hj]; simp [List.getD_eq_getElem?_getD, List.getElem?_eq_getElem (show j < a.shape.length by simpa using hj)]
theorem Qz : ∀ {a b : List Nat}, a.map Int.ofNat = b.map Int.ofNat → a = b
  | [], [], _ => rfl
  | x :: xs, y :: ys, h => by
    simp only [List.map_cons] at h; injection h with h1 h2; injection h1 with h1; rw [h1, Qz h2]
  | [], y :: ys, h => by simp at h
  | x :: xs, [], h => by simp at h
theorem Q0 {a b : List Nat} : ((a.map Int.ofNat) == (b.map Int.ofNat)) = decide (a = b) := by
  by_cases h : a = b
  · subst h; simp
  · have : ¬ (a.map Int.ofNat = b.map Int.ofNat) := fun e => h (Qz e)
    simp only [h, decide_false]; exact beq_eq_false_iff_ne.2 this
theorem Jgw {P : Nat → Prop} {w W : World} {so : Option Addr} {sn sc : Nat} {co : Option Addr} {cn cc : Nat} {so2 : Option Addr} {sn2 sc2 : Nat} {co2 : Option Addr} {cn2 cc2 : Nat} {a b : Arr} (h3 : Box3 w W (.slice so sn sc) (.slice co cn cc) (.slice so2 sn2 sc2) (.slice co2 cn2 cc2))
    (ha : IsArr P w (.agg #[.slice so sn sc, .slice co cn cc]) a) (hb : IsArr P w (.agg #[.slice so2 sn2 sc2, .slice co2 cn2 cc2]) b) (hoa : a.ok) (hob : b.ok) (hs : a.shape = b.shape) :
    PairS w.heap.size W so sn sc co cc (.slice so2 sn2 sc2) co2 cc2 cn a.cells b.cells ∧ cn2 = cn := by
  have hsz := h3.sz; have hl1 := (Jc ha).1; have hl2 := (Jc hb).1; have hab : a.cells.length = b.cells.length := by rw [hoa.size, hob.size, hs]
  have hcc : cn2 = cn := by omega
  subst hcc; obtain ⟨_, _, _, _, _, _, hv1, _, hn1⟩ := ha; injection hv1 with hv1; simp at hv1; obtain ⟨_, rfl, rfl, rfl⟩ := hv1; obtain ⟨_, _, _, _, _, _, hv2, _, hn2⟩ := hb; injection hv2 with hv2; simp at hv2; obtain ⟨_, rfl, rfl, rfl⟩ := hv2; refine ⟨⟨h3.c0, h3.c1, h3.d1, h3.d0, h3.r0, h3.r1, h3.fr0, h3.fr1, h3.sz, hl1.symm, hl2.symm, by rw [hl1]; exact hoa.few, hoa.fits, hob.fits, ?_, ?_⟩, rfl⟩
  · intro h0; obtain ⟨ao, cap, hv, _, hc, _⟩ := hn1; obtain ⟨yb, yf, rfl, hp, hl, hcell⟩ := hc (by omega); injection hv with hv; exact ⟨yb, yf, hv, by omega, fun i hi => (h3.bel.cell (p := ⟨yb, yf + i, none⟩) hl).trans (hcell i hi)⟩
  · intro h0; obtain ⟨ao, cap, hv, _, hc, _⟩ := hn2; obtain ⟨yb, yf, rfl, hp, hl, hcell⟩ := hc (by omega); injection hv with hv; exact ⟨yb, yf, hv, by omega, fun i hi => (h3.bel.cell (p := ⟨yb, yf + i, none⟩) hl).trans (hcell i hi)⟩
set_option maxRecDepth 20000 in
set_option maxHeartbeats 2000000 in
theorem Jeb (f : Int → Int → Int × Int) (g : Nat) (P : Nat → Prop) (w : World) (so : Option Addr) (sn sc : Nat) (co : Option Addr) (cn cc : Nat) (so2 : Option Addr) (sn2 sc2 : Nat) (co2 : Option Addr) (cn2 cc2 : Nat) (a b : Arr) (ha : IsArr P w (.agg #[.slice so sn sc, .slice co cn cc]) a) (hb : IsArr P w (.agg #[.slice so2 sn2 sc2, .slice co2 cn2 cc2]) b) (hsn : ((sn : Int) == 0) = false) (hsn2 : ((sn2 : Int) == 0) = false) (hne : ((sn : Int) != (sn2 : Int)) = true) :
    Calls Tryz.prog 163 #[.agg #[.slice so sn sc, .slice co cn cc], .agg #[.slice so2 sn2 sc2, .slice co2 cn2 cc2], .func (.func g) #[] #[]] w fun e w' => ∃ s1 s2 s3 c1 c2 c3, e = .returned (.tuple #[.agg #[.slice s1 s2 s3, .slice c1 c2 c3], .int .i64 (Je f a b).2]) ∧ IsArr P w' (.agg #[.slice s1 s2 s3, .slice c1 c2 c3]) (Je f a b).1 ∧ Below w.heap.size w w' := by
  have hfin : Je f a b = (eArr, 5) := by
    have h1 := (Jc ha).2; have h2 := (Jc hb).2; unfold Je; rw [if_neg, if_neg, if_pos]
    · intro h; rw [← h1, ← h2] at h; simp [h] at hne
    · intro h; rw [h] at h2; subst h2; simp at hsn2
    · intro h; rw [h] at h1; subst h1; simp at hsn
  have HFin := hide hfin; clear hfin ha hb; go_enter Tryz.func163, Tryz.ntmps163; go_wp2_with (go_at_call 143; refine (Ji _ _ _ _ _ _ _).mono ?_; rintro e w' ⟨rfl, rfl⟩); have hX3 := Ge (w := w) (a0 := .slice so sn sc) (a1 := .slice co cn cc) (b0 := .slice so2 sn2 sc2) (b1 := .slice co2 cn2 cc2) (((((Below.refl (w.heap.size + 3) _).alloc (by simp) (.cells #[.slice so sn sc, .slice co cn cc] 57)).alloc (by simp <;> omega) (.cells #[.slice so sn sc, .slice co cn cc] 57)).alloc (by simp <;> omega) (.cells #[.slice so2 sn2 sc2, .slice co2 cn2 cc2] 57)).alloc (by simp <;> omega) (.cells #[.slice so2 sn2 sc2, .slice co2 cn2 cc2] 57)); have HX3 := hide hX3; obtain ⟨W3, hW3⟩ : ∃ W3, (((((((w.alloc (.cells #[.slice so sn sc, .slice co cn cc] 57)).alloc (.cells #[.slice so2 sn2 sc2, .slice co2 cn2 cc2] 57)).alloc (.cells #[.slice none 0 0, .slice none 0 0] 57)).alloc (.cells #[.slice so sn sc, .slice co cn cc] 57)).alloc (.cells #[.slice so sn sc, .slice co cn cc] 57)).alloc (.cells #[.slice so2 sn2 sc2, .slice co2 cn2 cc2] 57)).alloc (.cells #[.slice so2 sn2 sc2, .slice co2 cn2 cc2] 57)) = W3 := ⟨_, rfl⟩; rw [hW3] at HX3 ⊢; clear hX3 hW3; have HS : Hid (∀ w', Below W3.heap.size W3 w' → w'.cell? ⟨w.heap.size, 0, none⟩ = some (.slice so sn sc) ∧ w'.cell? ⟨w.heap.size, 1, none⟩ = some (.slice co cn cc) ∧ w'.cell? ⟨w.heap.size + 1, 0, none⟩ = some (.slice so2 sn2 sc2) ∧ w'.cell? ⟨w.heap.size + 1, 1, none⟩ = some (.slice co2 cn2 cc2)) := by
    intro w' hb; have h := (Ja HX3).keep hb; exact ⟨h.c0, h.c1, h.d0, h.d1⟩
  go_region_held3 (fun w' => w'.cell? ⟨w.heap.size, 0, none⟩ = some (.slice so sn sc) ∧ w'.cell? ⟨w.heap.size, 1, none⟩ = some (.slice co cn cc) ∧ w'.cell? ⟨w.heap.size + 1, 0, none⟩ = some (.slice so2 sn2 sc2) ∧ w'.cell? ⟨w.heap.size + 1, 1, none⟩ = some (.slice co2 cn2 cc2))
    (first | exact Ja HS _ (Below.refl _ _).drew | exact Ja HS _ ((Below.refl _ _).drew.alloc (Nat.le_refl _) _) | exact Ja HS _ (((Below.refl _ _).drew.alloc (Nat.le_refl _) _).alloc (by simp) _) | (trace_state; fail))
    ((go_at_call 144; refine (Yk _ _ _ _ _ _ _).mono ?_; rintro e w' ⟨rfl, rfl⟩))
  rename_i hHeld
  clear hHeld; have hX4 := (Ja HX3).keep (((Below.refl _ _).alloc (Nat.le_refl _) (.cells #[.slice so sn sc, .slice co cn cc] 57)).alloc (by simp) (.cells #[.slice so2 sn2 sc2, .slice co2 cn2 cc2] 57)).drew; have HX4 := hide hX4; obtain ⟨W4, hW4⟩ : ∃ W4, ((W3.alloc (.cells #[.slice so sn sc, .slice co cn cc] 57)).alloc (.cells #[.slice so2 sn2 sc2, .slice co2 cn2 cc2] 57)).drew = W4 := ⟨_, rfl⟩; rw [hW4] at HX4 ⊢; clear hX4 hW4 HS HX3; have a0 := (Ja HX4).c0; have a1 := (Ja HX4).c1; have b0 := (Ja HX4).d0; have b1 := (Ja HX4).d1; have r0 := (Ja HX4).r0; have r1 := (Ja HX4).r1; have q0 := (Ja HX4).fr0; have q1 := (Ja HX4).fr1; go_wp2_with fail; refine bodyPost_ret (v := .tuple #[.agg #[.slice none 0 0, .slice none 0 0], .int .i64 5]) (by simp [results, Tryz.results163, go_sem, r0, r1]) rfl ⟨none, 0, 0, none, 0, 0, ?_, ?_, ?_⟩
  · rw [Ja HFin]
  · rw [Ja HFin]; exact ⟨_, _, _, _, _, _, rfl, Jo _ _, Jo _ _⟩
  · exact (Ja HX4).bel.setCell (p := ⟨w.heap.size + 1 + 1, 0, none⟩) (by show w.heap.size ≤ w.heap.size + 1 + 1; omega) _ |>.setCell (p := ⟨w.heap.size + 1 + 1, 1, none⟩) (by show w.heap.size ≤ w.heap.size + 1 + 1; omega) _
set_option maxRecDepth 20000 in
set_option maxHeartbeats 2000000 in
theorem Jgs (f : Int → Int → Int × Int) (g : Nat) (P : Nat → Prop) (w : World) (so : Option Addr) (sn sc : Nat) (co : Option Addr) (cn cc : Nat) (so2 : Option Addr) (sn2 sc2 : Nat) (co2 : Option Addr) (cn2 cc2 : Nat) (a b : Arr) (ha : IsArr P w (.agg #[.slice so sn sc, .slice co cn cc]) a) (hb : IsArr P w (.agg #[.slice so2 sn2 sc2, .slice co2 cn2 cc2]) b) (hsn : ((sn : Int) == 0) = false) (hsn2 : ((sn2 : Int) == 0) = false) (hoa : a.ok) (hob : b.ok) (hne : ((sn : Int) != (sn2 : Int)) = false) (hsh : a.shape ≠ b.shape) :
    Calls Tryz.prog 163 #[.agg #[.slice so sn sc, .slice co cn cc], .agg #[.slice so2 sn2 sc2, .slice co2 cn2 cc2], .func (.func g) #[] #[]] w fun e w' => ∃ s1 s2 s3 c1 c2 c3, e = .returned (.tuple #[.agg #[.slice s1 s2 s3, .slice c1 c2 c3], .int .i64 (Je f a b).2]) ∧ IsArr P w' (.agg #[.slice s1 s2 s3, .slice c1 c2 c3]) (Je f a b).1 ∧ Below w.heap.size w w' := by
  obtain ⟨sb, sf, rfl, hsb, hsc1⟩ := K8 ha hsn; obtain ⟨sb2, sf2, rfl, hsb2, hsc2⟩ := K8 hb hsn2; have HSC1 := hide hsc1; have HSC2 := hide hsc2; have h1 := (Jc ha).2; have h2 := (Jc hb).2; have hfin : Je f a b = (eArr, 6) := by
    unfold Je; rw [if_neg, if_neg, if_neg, if_pos hsh]
    · simp only [← h1, ← h2, ne_eq, Decidable.not_not]; simp at hne; omega
    · intro h; rw [h] at h2; subst h2; simp at hsn2
    · intro h; rw [h] at h1; subst h1; simp at hsn
  have HFin := hide hfin; have HL1 := hide h1; have HL2 := hide h2; have HDec : Hid (decide (a.shape = b.shape) = false) := hide (by simp [hsh]); have HBig : Hid (sn ≤ 9223372036854775807) := hide (by rw [h1]; exact Nat.le_trans hoa.rank (by decide)); have HBig2 : Hid (sn2 ≤ 9223372036854775807) := hide (by rw [h2]; exact Nat.le_trans hob.rank (by decide)); clear hfin ha hb hsc1 hsc2 h1 h2 hoa hob hsh; go_enter Tryz.func163, Tryz.ntmps163; go_wp2_with (go_at_call 143; refine (Ji _ _ _ _ _ _ _).mono ?_; rintro e w' ⟨rfl, rfl⟩); have hX3 := Ge (w := w) (a0 := .slice (some ⟨sb, sf, none⟩) sn sc) (a1 := .slice co cn cc) (b0 := .slice (some ⟨sb2, sf2, none⟩) sn2 sc2) (b1 := .slice co2 cn2 cc2) (((((Below.refl (w.heap.size + 3) _).alloc (by simp) (.cells #[.slice (some ⟨sb, sf, none⟩) sn sc, .slice co cn cc] 57)).alloc (by simp <;> omega) (.cells #[.slice (some ⟨sb, sf, none⟩) sn sc, .slice co cn cc] 57)).alloc (by simp <;> omega) (.cells #[.slice (some ⟨sb2, sf2, none⟩) sn2 sc2, .slice co2 cn2 cc2] 57)).alloc (by simp <;> omega) (.cells #[.slice (some ⟨sb2, sf2, none⟩) sn2 sc2, .slice co2 cn2 cc2] 57)); have HX3 := hide hX3; obtain ⟨W3, hW3⟩ : ∃ W3, (((((((w.alloc (.cells #[.slice (some ⟨sb, sf, none⟩) sn sc, .slice co cn cc] 57)).alloc (.cells #[.slice (some ⟨sb2, sf2, none⟩) sn2 sc2, .slice co2 cn2 cc2] 57)).alloc (.cells #[.slice none 0 0, .slice none 0 0] 57)).alloc (.cells #[.slice (some ⟨sb, sf, none⟩) sn sc, .slice co cn cc] 57)).alloc (.cells #[.slice (some ⟨sb, sf, none⟩) sn sc, .slice co cn cc] 57)).alloc (.cells #[.slice (some ⟨sb2, sf2, none⟩) sn2 sc2, .slice co2 cn2 cc2] 57)).alloc (.cells #[.slice (some ⟨sb2, sf2, none⟩) sn2 sc2, .slice co2 cn2 cc2] 57)) = W3 := ⟨_, rfl⟩; rw [hW3] at HX3 ⊢; clear hX3 hW3; have HS : Hid (∀ w', Below W3.heap.size W3 w' → w'.cell? ⟨w.heap.size, 0, none⟩ = some (.slice (some ⟨sb, sf, none⟩) sn sc) ∧ w'.cell? ⟨w.heap.size, 1, none⟩ = some (.slice co cn cc) ∧ w'.cell? ⟨w.heap.size + 1, 0, none⟩ = some (.slice (some ⟨sb2, sf2, none⟩) sn2 sc2) ∧ w'.cell? ⟨w.heap.size + 1, 1, none⟩ = some (.slice co2 cn2 cc2)) := by
    intro w' hb; have h := (Ja HX3).keep hb; exact ⟨h.c0, h.c1, h.d0, h.d1⟩
  go_region_held3 (fun w' => w'.cell? ⟨w.heap.size, 0, none⟩ = some (.slice (some ⟨sb, sf, none⟩) sn sc) ∧ w'.cell? ⟨w.heap.size, 1, none⟩ = some (.slice co cn cc) ∧ w'.cell? ⟨w.heap.size + 1, 0, none⟩ = some (.slice (some ⟨sb2, sf2, none⟩) sn2 sc2) ∧ w'.cell? ⟨w.heap.size + 1, 1, none⟩ = some (.slice co2 cn2 cc2))
    (first | exact Ja HS _ (Below.refl _ _).drew | exact Ja HS _ ((Below.refl _ _).drew.alloc (Nat.le_refl _) _) | exact Ja HS _ (((Below.refl _ _).drew.alloc (Nat.le_refl _) _).alloc (by simp) _) | (trace_state; fail))
    ((go_at_call 144; refine (Yk _ _ _ _ _ _ _).mono ?_; rintro e w' ⟨rfl, rfl⟩))
  rename_i hHeld
  clear hHeld; have hX4 := (Ja HX3).keep (((Below.refl _ _).alloc (Nat.le_refl _) (.cells #[.slice (some ⟨sb, sf, none⟩) sn sc, .slice co cn cc] 57)).alloc (by simp) (.cells #[.slice (some ⟨sb2, sf2, none⟩) sn2 sc2, .slice co2 cn2 cc2] 57)).drew; have HX4 := hide hX4; obtain ⟨W4, hW4⟩ : ∃ W4, ((W3.alloc (.cells #[.slice (some ⟨sb, sf, none⟩) sn sc, .slice co cn cc] 57)).alloc (.cells #[.slice (some ⟨sb2, sf2, none⟩) sn2 sc2, .slice co2 cn2 cc2] 57)).drew = W4 := ⟨_, rfl⟩; rw [hW4] at HX4 ⊢; clear hX4 hW4 HS HX3; have a0 := (Ja HX4).c0; have a1 := (Ja HX4).c1; have b0 := (Ja HX4).d0; have b1 := (Ja HX4).d1; have r0 := (Ja HX4).r0; have r1 := (Ja HX4).r1; have q0 := (Ja HX4).fr0; have q1 := (Ja HX4).fr1; have hbig : sn ≤ 9223372036854775807 := Ja HBig; have hbig2 : sn2 ≤ 9223372036854775807 := Ja HBig2; have HQ := hide (Tryz.slices_Equal_int sb sf sn sc sb2 sf2 sn2 sc2 (a.shape.map Int.ofNat) (b.shape.map Int.ofNat) W4 (by simp [Ja HL1]) (by simp [Ja HL2]) hbig hbig2 (fun j hj => ((Ja HX4).bel.cell (p := ⟨sb, sf + j, none⟩) hsb).trans (Ja HSC1 j hj)) (fun j hj => ((Ja HX4).bel.cell (p := ⟨sb2, sf2 + j, none⟩) hsb2).trans (Ja HSC2 j hj))); rw [List.take_of_length_le (by simp [Ja HL1]), List.take_of_length_le (by simp [Ja HL2]), Q0, Ja HDec] at HQ; clear hbig hbig2; go_wp2_with (go_at_call 179; refine (Ja HQ).mono ?_; rintro e w' ⟨rfl, q, rfl⟩); refine bodyPost_ret (v := .tuple #[.agg #[.slice none 0 0, .slice none 0 0], .int .i64 6]) (by simp [results, Tryz.results163, go_sem, r0, r1]) rfl ⟨none, 0, 0, none, 0, 0, ?_, ?_, ?_⟩
  · rw [Ja HFin]
  · rw [Ja HFin]; exact ⟨_, _, _, _, _, _, rfl, Jo _ _, Jo _ _⟩
  · exact (Yw (Ja HX4).bel q).setCell (p := ⟨w.heap.size + 1 + 1, 0, none⟩) (by show w.heap.size ≤ w.heap.size + 1 + 1; omega) _ |>.setCell (p := ⟨w.heap.size + 1 + 1, 1, none⟩) (by show w.heap.size ≤ w.heap.size + 1 + 1; omega) _
end Go.Proofs.YtjobgpahajhbnabGreatDoor
namespace Go.Proofs.YtjobgpahajhbnabGreatDoor
open Go.RowKit Go.Proofs
attribute [local go_sem ↓] Go.wp_at_zero Go.wp_at_succ
set_option maxRecDepth 20000 in
set_option maxHeartbeats 2000000 in
theorem Jgr (f : Int → Int → Int × Int) (g : Nat) (hrule : RuleC g f) (P : Nat → Prop) (w : World) (hP : ∀ b, w.heap.size ≤ b → P b) (so : Option Addr) (sn sc : Nat) (co : Option Addr) (cn cc : Nat) (so2 : Option Addr) (sn2 sc2 : Nat) (co2 : Option Addr) (cn2 cc2 : Nat) (a b : Arr) (ha : IsArr P w (.agg #[.slice so sn sc, .slice co cn cc]) a) (hb : IsArr P w (.agg #[.slice so2 sn2 sc2, .slice co2 cn2 cc2]) b) (hsn : ((sn : Int) == 0) = false) (hsn2 : ((sn2 : Int) == 0) = false) (hoa : a.ok) (hob : b.ok) (hne : ((sn : Int) != (sn2 : Int)) = false) (hsh : a.shape = b.shape) :
    Calls Tryz.prog 163 #[.agg #[.slice so sn sc, .slice co cn cc], .agg #[.slice so2 sn2 sc2, .slice co2 cn2 cc2], .func (.func g) #[] #[]] w fun e w' => ∃ s1 s2 s3 c1 c2 c3, e = .returned (.tuple #[.agg #[.slice s1 s2 s3, .slice c1 c2 c3], .int .i64 (Je f a b).2]) ∧ IsArr P w' (.agg #[.slice s1 s2 s3, .slice c1 c2 c3]) (Je f a b).1 ∧ Below w.heap.size w w' := by
  obtain ⟨i0, hi, hz0, hz1, hz2⟩ := info_parts Tryz.info2; have HI := hide hi; have HZ0 := hide hz0; have HZ1 := hide hz1; have HZ2 := hide hz2; have hen2 : ∀ args w, (callFunc g args).run Tryz.prog w = .ok (.enter g args) w := hrule.enters; have HP : Hid (∀ b, w.heap.size ≤ b → P b) := hP; obtain ⟨sb, sf, rfl, hsb, hsc1⟩ := K8 ha hsn; obtain ⟨sb2, sf2, rfl, hsb2, hsc2⟩ := K8 hb hsn2; have HSC1 := hide hsc1; have HSC2 := hide hsc2; have h1 := (Jc ha).2; have h2 := (Jc hb).2; have hfin : Je f a b = zipA f a.shape a.cells b.cells := by
    unfold Je; rw [if_neg, if_neg, if_neg, if_neg]
    · simpa using hsh
    · simp only [← h1, ← h2, ne_eq, Decidable.not_not]; simp at hne; omega
    · intro h; rw [h] at h2; subst h2; simp at hsn2
    · intro h; rw [h] at h1; subst h1; simp at hsn
  have HFin := hide hfin; have HA := hide ha; have HB := hide hb; have HOA := hide hoa; have HOB := hide hob; have HSH := hide hsh; have HL1 := hide h1; have HL2 := hide h2; have HDec : Hid (decide (a.shape = b.shape) = true) := hide (by simp [hsh]); have HBig : Hid (sn ≤ 9223372036854775807) := hide (by rw [h1]; exact Nat.le_trans hoa.rank (by decide)); have HBig2 : Hid (sn2 ≤ 9223372036854775807) := hide (by rw [h2]; exact Nat.le_trans hob.rank (by decide)); clear hfin ha hb hsc1 hsc2 h1 h2 hoa hob hsh hi hz0 hz1 hz2 hP; go_enter Tryz.func163, Tryz.ntmps163; go_wp2_with (go_at_call 143; refine (Ji _ _ _ _ _ _ _).mono ?_; rintro e w' ⟨rfl, rfl⟩); have hX3 := Ge (w := w) (a0 := .slice (some ⟨sb, sf, none⟩) sn sc) (a1 := .slice co cn cc) (b0 := .slice (some ⟨sb2, sf2, none⟩) sn2 sc2) (b1 := .slice co2 cn2 cc2) (((((Below.refl (w.heap.size + 3) _).alloc (by simp) (.cells #[.slice (some ⟨sb, sf, none⟩) sn sc, .slice co cn cc] 57)).alloc (by simp <;> omega) (.cells #[.slice (some ⟨sb, sf, none⟩) sn sc, .slice co cn cc] 57)).alloc (by simp <;> omega) (.cells #[.slice (some ⟨sb2, sf2, none⟩) sn2 sc2, .slice co2 cn2 cc2] 57)).alloc (by simp <;> omega) (.cells #[.slice (some ⟨sb2, sf2, none⟩) sn2 sc2, .slice co2 cn2 cc2] 57)); have HX3 := hide hX3; obtain ⟨W3, hW3⟩ : ∃ W3, (((((((w.alloc (.cells #[.slice (some ⟨sb, sf, none⟩) sn sc, .slice co cn cc] 57)).alloc (.cells #[.slice (some ⟨sb2, sf2, none⟩) sn2 sc2, .slice co2 cn2 cc2] 57)).alloc (.cells #[.slice none 0 0, .slice none 0 0] 57)).alloc (.cells #[.slice (some ⟨sb, sf, none⟩) sn sc, .slice co cn cc] 57)).alloc (.cells #[.slice (some ⟨sb, sf, none⟩) sn sc, .slice co cn cc] 57)).alloc (.cells #[.slice (some ⟨sb2, sf2, none⟩) sn2 sc2, .slice co2 cn2 cc2] 57)).alloc (.cells #[.slice (some ⟨sb2, sf2, none⟩) sn2 sc2, .slice co2 cn2 cc2] 57)) = W3 := ⟨_, rfl⟩; rw [hW3] at HX3 ⊢; clear hX3 hW3; have HS : Hid (∀ w', Below W3.heap.size W3 w' → w'.cell? ⟨w.heap.size, 0, none⟩ = some (.slice (some ⟨sb, sf, none⟩) sn sc) ∧ w'.cell? ⟨w.heap.size, 1, none⟩ = some (.slice co cn cc) ∧ w'.cell? ⟨w.heap.size + 1, 0, none⟩ = some (.slice (some ⟨sb2, sf2, none⟩) sn2 sc2) ∧ w'.cell? ⟨w.heap.size + 1, 1, none⟩ = some (.slice co2 cn2 cc2)) := by
    intro w' hb; have h := (Ja HX3).keep hb; exact ⟨h.c0, h.c1, h.d0, h.d1⟩
  go_region_held3 (fun w' => w'.cell? ⟨w.heap.size, 0, none⟩ = some (.slice (some ⟨sb, sf, none⟩) sn sc) ∧ w'.cell? ⟨w.heap.size, 1, none⟩ = some (.slice co cn cc) ∧ w'.cell? ⟨w.heap.size + 1, 0, none⟩ = some (.slice (some ⟨sb2, sf2, none⟩) sn2 sc2) ∧ w'.cell? ⟨w.heap.size + 1, 1, none⟩ = some (.slice co2 cn2 cc2))
    (first | exact Ja HS _ (Below.refl _ _).drew | exact Ja HS _ ((Below.refl _ _).drew.alloc (Nat.le_refl _) _) | exact Ja HS _ (((Below.refl _ _).drew.alloc (Nat.le_refl _) _).alloc (by simp) _) | (trace_state; fail))
    ((go_at_call 144; refine (Yk _ _ _ _ _ _ _).mono ?_; rintro e w' ⟨rfl, rfl⟩))
  rename_i hHeld
  clear hHeld; have hX4 := (Ja HX3).keep (((Below.refl _ _).alloc (Nat.le_refl _) (.cells #[.slice (some ⟨sb, sf, none⟩) sn sc, .slice co cn cc] 57)).alloc (by simp) (.cells #[.slice (some ⟨sb2, sf2, none⟩) sn2 sc2, .slice co2 cn2 cc2] 57)).drew; have HX4 := hide hX4; obtain ⟨W4, hW4⟩ : ∃ W4, ((W3.alloc (.cells #[.slice (some ⟨sb, sf, none⟩) sn sc, .slice co cn cc] 57)).alloc (.cells #[.slice (some ⟨sb2, sf2, none⟩) sn2 sc2, .slice co2 cn2 cc2] 57)).drew = W4 := ⟨_, rfl⟩; rw [hW4] at HX4 ⊢; clear hX4 hW4 HS HX3; have a0 := (Ja HX4).c0; have a1 := (Ja HX4).c1; have b0 := (Ja HX4).d0; have b1 := (Ja HX4).d1; have r0 := (Ja HX4).r0; have r1 := (Ja HX4).r1; have q0 := (Ja HX4).fr0; have q1 := (Ja HX4).fr1; have hbig : sn ≤ 9223372036854775807 := Ja HBig; have hbig2 : sn2 ≤ 9223372036854775807 := Ja HBig2; have HQ := hide (Tryz.slices_Equal_int sb sf sn sc sb2 sf2 sn2 sc2 (a.shape.map Int.ofNat) (b.shape.map Int.ofNat) W4 (by simp [Ja HL1]) (by simp [Ja HL2]) hbig hbig2 (fun j hj => ((Ja HX4).bel.cell (p := ⟨sb, sf + j, none⟩) hsb).trans (Ja HSC1 j hj)) (fun j hj => ((Ja HX4).bel.cell (p := ⟨sb2, sf2 + j, none⟩) hsb2).trans (Ja HSC2 j hj))); rw [List.take_of_length_le (by simp [Ja HL1]), List.take_of_length_le (by simp [Ja HL2]), Q0, Ja HDec] at HQ; clear hbig hbig2; go_wp2_with (go_at_call 179; refine (Ja HQ).mono ?_; rintro e w' ⟨rfl, q, rfl⟩; have HX5 := hide ((Ja HX4).keep (Yw (Below.refl _ _) q)); obtain ⟨wS, hwS⟩ : ∃ wS, W4.drewN q = wS := ⟨_, rfl⟩; rw [hwS] at HX5 ⊢; clear a0 a1 b0 b1 r0 r1 q0 q1 HQ hwS HX4; obtain ⟨hPS, hcn⟩ := Jgw (Ja HX5) (Ja HA) (Ja HB) (Ja HOA) (Ja HOB) (Ja HSH); subst hcn; have HPS := hide hPS; have HBS := hide (Ja HX5).bel; clear hPS HX5; have a1 := (Ja HPS).a1); obtain ⟨xs, hxs⟩ : ∃ xs, a.cells = xs := ⟨_, rfl⟩; obtain ⟨ys, hys⟩ : ∃ ys, b.cells = ys := ⟨_, rfl⟩; rw [hxs, hys] at HPS HFin; clear hxs hys a1 hsb hsb2; obtain ⟨a0, a1, b1, b0, r0, r1, q0, q1, hlt, hxl, hyl, hfew, hxf, hyf, hX, hY⟩ := Ja HPS; have HXL := hide hxl; have HYL := hide hyl; have HXF := hide hxf; have HYF := hide hyf; have HX := hide hX; have HY := hide hY; have hrc := hrule.call; have HRC := hide hrc; clear hxl hyl hxf hyf hX hY hrc hrule; go_wp2_with fail; go_loopw [8, 48] (fun v8 v48 wr => ∃ (k : Nat) (l : List Int), v48 = .int .i64 k ∧ k ≤ cn2 ∧ zipF f (xs.take k) (ys.take k) = .inr l ∧ l.length = k ∧ wr.ownsRow wS.heap.size 2 1 v8 k (l.map (Value.int .i64)) ∧ Below wS.heap.size wS wr) (fun _ v48 _ => cn2 - (intOf v48).toNat)
  case atStart => exact ⟨0, [], rfl, Nat.zero_le _, by simp [zipF], rfl, World.ownsRow_nil _ _ _ _, Below.refl _ _⟩
  case round =>
    obtain ⟨k, l, rfl, hkN, hz, hll, hown, hbel⟩ := hrel; have a0' := (hbel.cell (p := ⟨w.heap.size, 0, none⟩) (show w.heap.size < wS.heap.size by omega)).trans a0; have a1' := (hbel.cell (p := ⟨w.heap.size, 1, none⟩) (show w.heap.size < wS.heap.size by omega)).trans a1; have b1' := (hbel.cell (p := ⟨w.heap.size + 1, 1, none⟩) (show w.heap.size + 1 < wS.heap.size by omega)).trans b1; have r0' := (hbel.cell (p := ⟨w.heap.size + 1 + 1, 0, none⟩) hlt).trans r0; have r1' := (hbel.cell (p := ⟨w.heap.size + 1 + 1, 1, none⟩) hlt).trans r1; have q0' := (hbel.frozen (p := ⟨w.heap.size + 1 + 1, 0, none⟩) hlt).trans q0; have q1' := (hbel.frozen (p := ⟨w.heap.size + 1 + 1, 1, none⟩) hlt).trans q1; have HZ := hide hz; have HLL := hide hll; have HOw := hide hown; have HBe := hide hbel; by_cases hkn : k < cn2
    · obtain ⟨xb, xf, rfl, hxb, hxc⟩ := Ja HX (by omega); obtain ⟨yb, yf, rfl, hyb, hyc⟩ := Ja HY (by omega); have hkx : k < xs.length := by rw [Ja HXL]; exact hkn
      have hky : k < ys.length := by rw [Ja HYL]; exact hkn
      have cx := (hbel.cell (p := ⟨xb, xf + k, none⟩) hxb).trans (hxc k hkx); have cy := (hbel.cell (p := ⟨yb, yf + k, none⟩) hyb).trans (hyc k hky); have hzt := V1 (f := f) k xs ys (by rw [Ja HXL, Ja HYL]) hkx hky l hz; have hfx := Ja HXF _ (List.getElem_mem hkx); have hfy := Ja HYF _ (List.getElem_mem hky); obtain ⟨x, hx⟩ : ∃ x, xs[k] = x := ⟨_, rfl⟩; obtain ⟨y, hy⟩ : ∃ y, ys[k] = y := ⟨_, rfl⟩; rw [hx] at cx hfx; rw [hy] at cy hfy; rw [hx, hy] at hzt; have HRule := hide (fun w => Ja HRC x y w hfx hfy); obtain ⟨u, hu⟩ : ∃ u, (f x y).1 = u := ⟨_, rfl⟩; obtain ⟨er, her⟩ : ∃ er, (f x y).2 = er := ⟨_, rfl⟩; simp only [hu, her] at HRule hzt; have HZT := hide hzt; have hk0 : (0 : Int) ≤ (k : Int) := by omega
      have hk1 : (k : Int) < (cn2 : Int) := by omega
      clear hz hll hown hbel hxc hyc hzt hx hy hu her hfx hfy hxb hyb; cases hee : (er != 0)
      · have he0 : er = 0 := by simpa using hee
        subst he0; clear hee; go_wp2_with fail; go_quiet ((go_at_fn g; exact Calls.quiet_of_same (Ja HRule _)))
        go_wp2_with (at_builtin; refine wpList_append_own _ rfl _ _ 32 rfl wS.heap.size 2 i0 (.int .i64 0) 1 8 Tryz.underlying32 (Ja HI) (Ja HZ0) (Ja HZ1) (Ja HZ2) rfl (by decide) _ _ _ rfl (((Xx (Ja HOw) _)).alloc _) ⟨wr.heap.size, 0, none⟩ 1 1 [.int .i64 u] rfl rfl ?c1 ?c2 ?c3 ?c4 ?c5 ?_)
        case c1 => intro j v hj; match j, hj with | 0, hj => simp at hj; subst hj; exact (World.cell?_alloc_at _ _ _ _ rfl).trans rfl
        case c2 => intro v hv; simp at hv; subst hv; rfl
        case c3 => unfold maxLen; omega
        case c4 => omega
        case c5 => have := (Ja HBe).size; simp; omega
        · intro v' w4 hown4 hgrow4 _; have HB4 : Hid (Below wS.heap.size wS w4) := hide ((Yw (Ja HBe) _ |>.alloc (by have := (Ja HBe).size; simpa using this) _).grown hgrow4 (by have := (Ja HBe).size; simp; omega) (fun q hq => ((Ja HOw).lt q hq).1)); have HO4 := hide hown4; clear hown4 hgrow4; go_wp2_with fail; go_roundw
          case rel => exact ⟨k + 1, l ++ [u], by go_num, by omega, (Ja HZT).2 trivial, by simp [Ja HLL], by rw [List.map_append]; exact Ja HO4, Ja HB4⟩
          case measure => simp [intOf]; omega
      · have hne : er ≠ 0 := by simpa using hee
        go_wp2_with fail; go_quiet ((go_at_fn g; exact Calls.quiet_of_same (Ja HRule _)))
        go_wp2_with fail; refine bodyPost_ret (v := .tuple #[.agg #[.slice none 0 0, .slice none 0 0], .int .i64 er]) (by simp [results, Tryz.results163, go_sem, r0', r1']) rfl ⟨none, 0, 0, none, 0, 0, ?_, ?_, ?_⟩
        · rw [Ja HFin, K6 ((Ja HZT).1 hne)]
        · rw [Ja HFin, K6 ((Ja HZT).1 hne)]; exact ⟨_, _, _, _, _, _, rfl, Jo _ _, Jo _ _⟩
        · exact (((Ja HBS).trans ((Yw (Ja HBe) _).mono (Ja HBS).size)).setCell (p := ⟨w.heap.size + 1 + 1, 0, none⟩) (by show w.heap.size ≤ w.heap.size + 1 + 1; omega) _).setCell (p := ⟨w.heap.size + 1 + 1, 1, none⟩) (by show w.heap.size ≤ w.heap.size + 1 + 1; omega) _
    · have hkN' : k = cn2 := by omega
      subst hkN'; have hz2 : zipF f xs ys = .inr l := by have := Ja HZ; rwa [List.take_of_length_le (by rw [Ja HXL]; omega), List.take_of_length_le (by rw [Ja HYL]; omega)] at this
      have HZ2 := hide hz2; obtain ⟨vo, vc, hv8, hvle, hcells⟩ := Yb (Ja HOw); subst hv8; clear hz hll hown hbel hz2 hcells; go_wp2_with fail; refine bodyPost_ret (v := .tuple #[.agg #[.slice (some ⟨sb, sf, none⟩) sn sc, .slice vo k vc], .int .i64 0]) (by simp [results, Tryz.results163, go_sem, r0', r1']) rfl ⟨some ⟨sb, sf, none⟩, sn, sc, vo, k, vc, ?_, ?_, ?_⟩
      · rw [Ja HFin, Vh (Ja HZ2)]
      · rw [Ja HFin, Vh (Ja HZ2)]; exact Fu (Ja HA) ((Ja HBS).trans ((Ja HBe).mono (Ja HBS).size)) (Ja HOw) (Ja HP) hlt
      · exact (((Ja HBS).trans ((Ja HBe).mono (Ja HBS).size)).setCell (p := ⟨w.heap.size + 1 + 1, 0, none⟩) (by show w.heap.size ≤ w.heap.size + 1 + 1; omega) _).setCell (p := ⟨w.heap.size + 1 + 1, 1, none⟩) (by show w.heap.size ≤ w.heap.size + 1 + 1; omega) _
end Go.Proofs.YtjobgpahajhbnabGreatDoor
namespace Go.Proofs.YtjobgpahajhbnabGreatDoor
open Go.RowKit
attribute [local go_sem ↓] Go.wp_at_zero Go.wp_at_succ
def Look (P : Nat → Prop) (W0 : World) (mv : Value) (env : ByteArray → Option Arr) : Prop :=
  ∀ t : ByteArray, t.size ≤ 200 → ∃ v, (∀ w, Below W0.heap.size W0 w → (Instr.lookup 55 mv (.string t) true).run Tryz.prog w = .ok (.tuple #[v, .bool (env t).isSome]) w) ∧
    match env t with
    | none => v = zArr
    | some a => IsArr P W0 v a
set_option maxHeartbeats 1000000 in
theorem Ji2 (P : Nat → Prop) (W0 : World) (mv : Value) (fuel : Int) (c : Nat) (w : World) (hw : Wk W0 mv fuel c w) (k r x : Int) (t : ByteArray) (p : Nat)
    (hl : ∀ w, Below W0.heap.size W0 w → (Instr.lookup 55 mv (.string t) true).run Tryz.prog w = .ok (.tuple #[zArr, .bool false]) w) :
    Calls Tryz.prog 46 #[.pointer (some ⟨W0.heap.size, 0, none⟩), .agg #[.int .i64 k, .int .i64 r, .int .i64 x, .string t, .int .i64 p]] w (Gh P W0 mv fuel w (.inl (4, p))) := by
  have HW := hide hw; have hlt := hw.lt; have c0 := hw.vals; have HL := hide hl; have hne : W0.heap.size ≠ w.heap.size := by omega
  have hlt1 : W0.heap.size < w.heap.size + 1 := by omega
  have hlt2 : W0.heap.size < w.heap.size + 1 + 1 := by omega
  have hlt3 : W0.heap.size < w.heap.size + 1 + 1 + 1 := by omega
  unfold zArr at HL; clear hw hl; have HS : Hid (∀ w', Below (((w.alloc (.cells #[.int .i64 k, .int .i64 r, .int .i64 x, .string t, .int .i64 p] 84)).alloc (.cells #[.slice none 0 0, .slice none 0 0] 57)).alloc (.cells #[.int .i64 0, .int .i64 0] 67)).heap.size (((w.alloc (.cells #[.int .i64 k, .int .i64 r, .int .i64 x, .string t, .int .i64 p] 84)).alloc (.cells #[.slice none 0 0, .slice none 0 0] 57)).alloc (.cells #[.int .i64 0, .int .i64 0] 67)) w' → w'.cell? ⟨W0.heap.size, 0, none⟩ = some mv ∧ w'.cell? ⟨w.heap.size, 3, none⟩ = some (.string t) ∧ w'.cell? ⟨w.heap.size, 4, none⟩ = some (.int .i64 p) ∧ (Instr.lookup 55 mv (.string t) true).run Tryz.prog w' = .ok (.tuple #[.agg #[.slice none 0 0, .slice none 0 0], .bool false]) w') := by
    intro w' hb; have h3 := (((Ja HW).alloc (.cells #[.int .i64 k, .int .i64 r, .int .i64 x, .string t, .int .i64 p] 84)).alloc (.cells #[.slice none 0 0, .slice none 0 0] 57)).alloc (.cells #[.int .i64 0, .int .i64 0] 67); have hq := ((Below.refl (w.heap.size + 1) (w.alloc (.cells #[.int .i64 k, .int .i64 r, .int .i64 x, .string t, .int .i64 p] 84))).alloc (by simp) (.cells #[.slice none 0 0, .slice none 0 0] 57)).alloc (by simp) (.cells #[.int .i64 0, .int .i64 0] 67); refine ⟨(h3.keep hb).vals, ?_, ?_, Ja HL _ (h3.keep hb).below⟩
    · exact (hb.cell (p := ⟨w.heap.size, 3, none⟩) (by simp; omega)).trans ((hq.cell (p := ⟨w.heap.size, 3, none⟩) (by simp)).trans (by simp))
    · exact (hb.cell (p := ⟨w.heap.size, 4, none⟩) (by simp; omega)).trans ((hq.cell (p := ⟨w.heap.size, 4, none⟩) (by simp)).trans (by simp))
  go_enter Tryz.func46, Tryz.ntmps46; go_wp2_with fail; go_region_held3 (fun w' => w'.cell? ⟨W0.heap.size, 0, none⟩ = some mv ∧ w'.cell? ⟨w.heap.size, 3, none⟩ = some (.string t) ∧ w'.cell? ⟨w.heap.size, 4, none⟩ = some (.int .i64 p) ∧ (Instr.lookup 55 mv (.string t) true).run Tryz.prog w' = .ok (.tuple #[.agg #[.slice none 0 0, .slice none 0 0], .bool false]) w')
    (first | exact Ja HS _ (Below.refl _ _).drew | exact Ja HS _ ((Below.refl _ _).alloc (Nat.le_refl _) _).drew)
    (fail)
  all_goals
    have hS := Ja HS _ ((Below.refl _ _).alloc (Nat.le_refl _) (.cells #[.slice none 0 0, .slice none 0 0] 57)).drew; obtain ⟨_, _, s4, _⟩ := hS; go_wp2_with fail; go_region
    all_goals
      go_wp2_with fail; refine bodyPost_ret (v := .tuple #[zArr, .agg #[.int .i64 4, .int .i64 p]]) (by simp [results, Tryz.results46, go_sem, zArr]) rfl ?_; exact ⟨(((((Kp.refl W0 w).alloc _).alloc _).alloc _).alloc _).drew.drew, rfl, (show (4 : Int) ≠ 0 by decide), c, (((((Ja HW).alloc _).alloc _).alloc _).alloc _).drew.drew⟩
set_option maxHeartbeats 1000000 in
theorem Je8 (P : Nat → Prop) (W0 : World) (mv : Value) (fuel : Int) (c : Nat) (w : World) (hw : Wk W0 mv fuel c w) (k r x : Int) (t : ByteArray) (p : Nat)
    (so : Option Addr) (sn sc : Nat) (co : Option Addr) (cn cc : Nat) (a : Arr) (ha : IsArr P w (.agg #[.slice so sn sc, .slice co cn cc]) a) (hP : ¬ P W0.heap.size) (hc : (c : Int) ≤ fuel)
    (hl : ∀ w, Below W0.heap.size W0 w → (Instr.lookup 55 mv (.string t) true).run Tryz.prog w = .ok (.tuple #[.agg #[.slice so sn sc, .slice co cn cc], .bool true]) w) :
    Calls Tryz.prog 46 #[.pointer (some ⟨W0.heap.size, 0, none⟩), .agg #[.int .i64 k, .int .i64 r, .int .i64 x, .string t, .int .i64 p]] w (Gh P W0 mv fuel w (.inr (a, c))) := by
  have HW := hide hw; have hlt := hw.lt; have c0 := hw.vals; have HL := hide hl; have hne : W0.heap.size ≠ w.heap.size := by omega
  have hlt1 : W0.heap.size < w.heap.size + 1 := by omega
  have hlt2 : W0.heap.size < w.heap.size + 1 + 1 := by omega
  have hlt3 : W0.heap.size < w.heap.size + 1 + 1 + 1 := by omega
  have HA := hide ha; clear hw hl ha; have HS : Hid (∀ w', Below (((w.alloc (.cells #[.int .i64 k, .int .i64 r, .int .i64 x, .string t, .int .i64 p] 84)).alloc (.cells #[.slice none 0 0, .slice none 0 0] 57)).alloc (.cells #[.int .i64 0, .int .i64 0] 67)).heap.size (((w.alloc (.cells #[.int .i64 k, .int .i64 r, .int .i64 x, .string t, .int .i64 p] 84)).alloc (.cells #[.slice none 0 0, .slice none 0 0] 57)).alloc (.cells #[.int .i64 0, .int .i64 0] 67)) w' → w'.cell? ⟨W0.heap.size, 0, none⟩ = some mv ∧ w'.cell? ⟨w.heap.size, 3, none⟩ = some (.string t) ∧ w'.cell? ⟨w.heap.size, 4, none⟩ = some (.int .i64 p) ∧ (Instr.lookup 55 mv (.string t) true).run Tryz.prog w' = .ok (.tuple #[.agg #[.slice so sn sc, .slice co cn cc], .bool true]) w') := by
    intro w' hb; have h3 := (((Ja HW).alloc (.cells #[.int .i64 k, .int .i64 r, .int .i64 x, .string t, .int .i64 p] 84)).alloc (.cells #[.slice none 0 0, .slice none 0 0] 57)).alloc (.cells #[.int .i64 0, .int .i64 0] 67); have hq := ((Below.refl (w.heap.size + 1) (w.alloc (.cells #[.int .i64 k, .int .i64 r, .int .i64 x, .string t, .int .i64 p] 84))).alloc (by simp) (.cells #[.slice none 0 0, .slice none 0 0] 57)).alloc (by simp) (.cells #[.int .i64 0, .int .i64 0] 67); refine ⟨(h3.keep hb).vals, ?_, ?_, Ja HL _ (h3.keep hb).below⟩
    · exact (hb.cell (p := ⟨w.heap.size, 3, none⟩) (by simp; omega)).trans ((hq.cell (p := ⟨w.heap.size, 3, none⟩) (by simp)).trans (by simp))
    · exact (hb.cell (p := ⟨w.heap.size, 4, none⟩) (by simp; omega)).trans ((hq.cell (p := ⟨w.heap.size, 4, none⟩) (by simp)).trans (by simp))
  go_enter Tryz.func46, Tryz.ntmps46; go_wp2_with fail; go_region_held3 (fun w' => w'.cell? ⟨W0.heap.size, 0, none⟩ = some mv ∧ w'.cell? ⟨w.heap.size, 3, none⟩ = some (.string t) ∧ w'.cell? ⟨w.heap.size, 4, none⟩ = some (.int .i64 p) ∧ (Instr.lookup 55 mv (.string t) true).run Tryz.prog w' = .ok (.tuple #[.agg #[.slice so sn sc, .slice co cn cc], .bool true]) w')
    (first | exact Ja HS _ (Below.refl _ _).drew | exact Ja HS _ ((Below.refl _ _).alloc (Nat.le_refl _) _).drew)
    (fail)
  all_goals
    go_wp2_with fail; refine bodyPost_ret (v := .tuple #[.agg #[.slice so sn sc, .slice co cn cc], .agg #[.int .i64 0, .int .i64 0]]) (by simp [results, Tryz.results46, go_sem]) rfl ?_; exact Jn7 (((((Kp.refl W0 w).alloc _).alloc _).alloc _).alloc _).drew (((((Ja HW).alloc _).alloc _).alloc _).alloc _).drew (Ja HA) hP hc
theorem Je9 (P : Nat → Prop) (W0 : World) (mv : Value) (fuel : Int) (c : Nat) (w : World) (hw : Wk W0 mv fuel c w) (k r x : Int) (t : ByteArray) (ht : t.size ≤ 200) (p : Nat) (env : ByteArray → Option Arr) (hl : Look P W0 mv env) (hP : ¬ P W0.heap.size) (hc : (c : Int) ≤ fuel) :
    Calls Tryz.prog 46 #[.pointer (some ⟨W0.heap.size, 0, none⟩), .agg #[.int .i64 k, .int .i64 r, .int .i64 x, .string t, .int .i64 p]] w (Gh P W0 mv fuel w (match env t with | none => .inl (4, p) | some a => .inr (a, c))) := by
  obtain ⟨v, h1, h2⟩ := hl t ht; cases he : env t with
  | none =>
    rw [he] at h1 h2; simp only at h2; subst h2; exact Ji2 P W0 mv fuel c w hw k r x t p h1
  | some a =>
    rw [he] at h1 h2; simp only at h2; have h3 : IsArr P w v a := h2.below hw.below; have h4 := h3; obtain ⟨so, sn, sc, co, cn, cc, rfl, _, _⟩ := h3; exact Je8 P W0 mv fuel c w hw k r x t p so sn sc co cn cc a h4 hP hc h1
end Go.Proofs.YtjobgpahajhbnabGreatDoor
