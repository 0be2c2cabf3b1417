import Derived.Test.YtjobgpahajhbnabGreatDoorRi
import Derived.Test.YtjobgpahajhbnabGreatDoorTa
import Derived.Test.YtjobgpahajhbnabGreatDoorSh
namespace Go.Proofs.YtjobgpahajhbnabGreatDoor
open Go.RowKit Go.Proofs Go.Maps
attribute [local go_sem ↓] Go.wp_at_zero Go.wp_at_succ
theorem Zj (f : Int → Int → Int × Int) (g : Nat) (hrule : RuleC g f) (P : Nat → Prop) (w : World) (hP : ∀ b, w.heap.size ≤ b → P b) (u v : Value) (a b : Arr) (ha : IsArr P w u a) (hb : IsArr P w v b) (hoa : a.ok) (hob : b.ok) :
    Calls Tryz.prog 163 #[u, v, .func (.func g) #[] #[]] w fun e w' => ∃ s1 s2 s3 c1 c2 c3, e = .returned (.tuple #[.agg #[.slice s1 s2 s3, .slice c1 c2 c3], .int .i64 (Je f a b).2]) ∧ IsArr P w' (.agg #[.slice s1 s2 s3, .slice c1 c2 c3]) (Je f a b).1 ∧ Below w.heap.size w w' := by
  obtain ⟨so, sn, sc, co, cn, cc, rfl, ha1, ha2⟩ := ha
  obtain ⟨so2, sn2, sc2, co2, cn2, cc2, rfl, hb1, hb2⟩ := hb
  have ha : IsArr P w (.agg #[.slice so sn sc, .slice co cn cc]) a := ⟨_, _, _, _, _, _, rfl, ha1, ha2⟩
  have hb : IsArr P w (.agg #[.slice so2 sn2 sc2, .slice co2 cn2 cc2]) b := ⟨_, _, _, _, _, _, rfl, hb1, hb2⟩
  by_cases h1 : sn = 0
  · subst h1
    exact Jgj f g hrule P w hP so sc co cn cc so2 sn2 sc2 co2 cn2 cc2 a b ha hb hoa hob
  · have h1' : ((sn : Int) == 0) = false := by simpa using h1
    by_cases h2 : sn2 = 0
    · subst h2
      exact Jd3 f g hrule P w hP so sn sc co cn cc so2 sc2 co2 cn2 cc2 a b ha hb h1' hoa hob
    · have h2' : ((sn2 : Int) == 0) = false := by simpa using h2
      by_cases h3 : sn = sn2
      · have h3' : ((sn : Int) != (sn2 : Int)) = false := by subst h3; simp
        by_cases h4 : a.shape = b.shape
        · exact Jgh f g hrule P w hP so sn sc co cn cc so2 sn2 sc2 co2 cn2 cc2 a b ha hb h1' h2' hoa hob h3' h4
        · exact Jgi f g P w so sn sc co cn cc so2 sn2 sc2 co2 cn2 cc2 a b ha hb h1' h2' hoa hob h3' h4
      · have h3' : ((sn : Int) != (sn2 : Int)) = true := bne_iff_ne.2 (fun h => h3 (Int.ofNat_inj.1 h))
        exact Jd4 f g P w so sn sc co cn cc so2 sn2 sc2 co2 cn2 cc2 a b ha hb h1' h2' h3'
theorem Jcd {f : Int → Int → Int × Int} (hf : ∀ x y, Jg x → Jg y → Jg (f x y).1) : ∀ {xs ys l : List Int}, zipF f xs ys = .inr l → (∀ c ∈ xs, Jg c) → (∀ c ∈ ys, Jg c) → ∀ c ∈ l, Jg c
  | [], _, l, h, _, _ => by simp [zipF] at h; subst h; intro c hc; cases hc
  | x :: xs, [], l, h, _, _ => by simp [zipF] at h; subst h; intro c hc; cases hc
  | x :: xs, y :: ys, l, h, hx, hy => by
    unfold zipF at h
    split at h
    · cases h
    · cases hz : zipF f xs ys with
      | inl e => rw [hz] at h; cases h
      | inr m =>
        rw [hz] at h
        cases h
        intro c hc
        rcases List.mem_cons.1 hc with rfl | hc
        · exact hf _ _ (hx _ (by simp)) (hy _ (by simp))
        · exact Jcd hf hz (fun c h => hx c (by simp [h])) (fun c h => hy c (by simp [h])) c hc
theorem Fb {f : Int → Int → Int × Int} : ∀ {xs ys : List Int} {e : Int}, zipF f xs ys = .inl e → e ≠ 0
  | [], _, e, h => by simp [zipF] at h
  | x :: xs, [], e, h => by simp [zipF] at h
  | x :: xs, y :: ys, e, h => by
    unfold zipF at h
    split at h
    · rename_i h0
      cases h
      exact h0
    · cases hz : zipF f xs ys with
      | inl e' => rw [hz] at h; cases h; exact Fb hz
      | inr m => rw [hz] at h; cases h
theorem Xd {f : Int → Int → Int × Int} (hf : ∀ x y, Jg x → Jg y → Jg (f x y).1) {a : Arr} (ha : a.ok) {xs ys : List Int} (hx : xs.length = a.cells.length) (hy : ys.length = a.cells.length) (fx : ∀ c ∈ xs, Jg c) (fy : ∀ c ∈ ys, Jg c) :
    (zipA f a.shape xs ys).1.cells.length ≤ 200 ∧ ((zipA f a.shape xs ys).2 = 0 → (zipA f a.shape xs ys).1.ok) := by
  unfold zipA
  cases hz : zipF f xs ys with
  | inl e => exact ⟨by simp [eArr], fun h => absurd h (Fb hz)⟩
  | inr l =>
    have hl := Ja1 hz (by omega)
    have h2 := ha.few
    exact ⟨by simp only []; omega, fun _ => ⟨ha.rank, ha.lens, by rw [hl, hx]; exact ha.size, by simp only []; omega, Jcd hf hz fx fy⟩⟩
theorem Y5 {f : Int → Int → Int × Int} (hf : ∀ x y, Jg x → Jg y → Jg (f x y).1) {a b : Arr} (ha : a.ok) (hb : b.ok) : (Je f a b).1.cells.length ≤ 200 ∧ ((Je f a b).2 = 0 → (Je f a b).1.ok) := by
  have head : ∀ {a : Arr}, a.ok → Jg (a.cells.headD 0) := by
    intro a h
    cases hc : a.cells with
    | nil => unfold Jg; simp
    | cons x r => exact h.fits x (by rw [hc]; simp)
  unfold Je
  split
  · exact Xd hf hb (by simp) rfl (fun c hc => by rw [(List.mem_replicate.1 hc).2]; exact head ha) hb.fits
  · split
    · exact Xd hf ha rfl (by simp) ha.fits (fun c hc => by rw [(List.mem_replicate.1 hc).2]; exact head hb)
    · split
      · exact ⟨by simp [eArr], fun h => absurd h (by decide)⟩
      · split
        · exact ⟨by simp [eArr], fun h => absurd h (by decide)⟩
        · rename_i hs
          have hs' : a.shape = b.shape := by simpa using hs
          exact Xd hf ha rfl (by rw [ha.size, hb.size, hs']) ha.fits hb.fits
theorem Tryz.enters110 : Enters Tryz.prog 110 := Go.Proofs.enters_of Tryz.func110 (by decide) rfl
set_option maxHeartbeats 400000 in
theorem Fp (w : World) : FnTwo 110 #[] w (Je Qr) := by
  intro W P u v a b _ hP ha hb hoa hob
  have HC := hide (fun W' (h : Below W.heap.size W W') (hs : W.heap.size + 2 < W'.heap.size) => Zj Qr 164 plus_rule (fun b => P b ∧ b ≠ W.heap.size + 2) W' (fun b h' => ⟨hP b (by omega), by omega⟩) u v a b ((ha.imp (fun b hp hl => ⟨hp, by omega⟩)).below h) ((hb.imp (fun b hp hl => ⟨hp, by omega⟩)).below h) hoa hob)
  obtain ⟨so, sn, sc, co, cn, cc, rfl, ha1, ha2⟩ := ha
  obtain ⟨so2, sn2, sc2, co2, cn2, cc2, rfl, hb1, hb2⟩ := hb
  clear hP hoa hob ha1 ha2 hb1 hb2
  obtain ⟨r, hr⟩ : ∃ r, Je Qr a b = r := ⟨_, rfl⟩
  rw [hr] at HC ⊢
  clear hr
  go_enter Tryz.func110, Tryz.ntmps110
  go_wp2_with (go_at_call 163; refine (Ja HC _ ((((Below.refl W.heap.size W).alloc (Nat.le_refl _) _).alloc (by simp) _).alloc (by simp <;> omega) _) (by simp)).mono ?_; rintro e w1 ⟨s1, s2, s3, c1, c2, c3, rfl, h1, hb1⟩; have HA := hide h1; have HB := hide hb1; obtain ⟨hc, hf⟩ := Jr hb1; have d0 := ((hc (W.heap.size + 1 + 1) 0 (by simp)).trans (World.cell?_alloc_at _ _ _ _ (by simp))).trans rfl; have d1 := ((hc (W.heap.size + 1 + 1) 1 (by simp)).trans (World.cell?_alloc_at _ _ _ _ (by simp))).trans rfl; have g0 := (hf (W.heap.size + 1 + 1) 0 (by simp)).trans (World.frozen?_alloc_at _ _ _ _ (by simp)); have g1 := (hf (W.heap.size + 1 + 1) 1 (by simp)).trans (World.frozen?_alloc_at _ _ _ _ (by simp)); clear h1 hb1 hc hf)
  refine bodyPost_ret (v := .tuple #[.agg #[.slice s1 s2 s3, .slice c1 c2 c3], .int .i64 r.2]) (by simp [results, Tryz.results110, go_sem, d0, d1]) rfl ⟨_, _, _, _, _, _, rfl, ?_, ?_⟩
  · exact (((Ja HA).set (fun h => h.2 rfl) 0 _).set (fun h => h.2 rfl) 1 _).imp (fun b h _ => h.1)
  · exact (((((Below.refl W.heap.size W).alloc (Nat.le_refl _) _).alloc (by simp) _).alloc (by simp <;> omega) _).trans ((Ja HB).mono (by simp <;> omega))).setCell (p := ⟨W.heap.size + 1 + 1, 0, none⟩) (by show W.heap.size ≤ W.heap.size + 1 + 1; omega) _ |>.setCell (p := ⟨W.heap.size + 1 + 1, 1, none⟩) (by show W.heap.size ≤ W.heap.size + 1 + 1; omega) _
theorem Jjp : TwoC ⟨#[43]⟩ (Je Qr) := ⟨fun w => (Y9 (t := ⟨#[43]⟩) (kl := .string [43]) (f := 110) (z := 0) (by kernel_rfl) (by kernel_rfl) (by kernel_rfl) w).mono (by rintro e w' ⟨rfl, hb⟩; exact ⟨110, #[], rfl, Tryz.enters110, hb, Fp w'⟩), fun a b ha hb => Y5 plus_rule.fits ha hb⟩
theorem Tryz.enters111 : Enters Tryz.prog 111 := Go.Proofs.enters_of Tryz.func111 (by decide) rfl
set_option maxHeartbeats 400000 in
theorem V3 (w : World) : FnTwo 111 #[] w (Je Zz) := by
  intro W P u v a b _ hP ha hb hoa hob
  have HC := hide (fun W' (h : Below W.heap.size W W') (hs : W.heap.size + 2 < W'.heap.size) => Zj Zz 165 minus_rule (fun b => P b ∧ b ≠ W.heap.size + 2) W' (fun b h' => ⟨hP b (by omega), by omega⟩) u v a b ((ha.imp (fun b hp hl => ⟨hp, by omega⟩)).below h) ((hb.imp (fun b hp hl => ⟨hp, by omega⟩)).below h) hoa hob)
  obtain ⟨so, sn, sc, co, cn, cc, rfl, ha1, ha2⟩ := ha
  obtain ⟨so2, sn2, sc2, co2, cn2, cc2, rfl, hb1, hb2⟩ := hb
  clear hP hoa hob ha1 ha2 hb1 hb2
  obtain ⟨r, hr⟩ : ∃ r, Je Zz a b = r := ⟨_, rfl⟩
  rw [hr] at HC ⊢
  clear hr
  go_enter Tryz.func111, Tryz.ntmps111
  go_wp2_with (go_at_call 163; refine (Ja HC _ ((((Below.refl W.heap.size W).alloc (Nat.le_refl _) _).alloc (by simp) _).alloc (by simp <;> omega) _) (by simp)).mono ?_; rintro e w1 ⟨s1, s2, s3, c1, c2, c3, rfl, h1, hb1⟩; have HA := hide h1; have HB := hide hb1; obtain ⟨hc, hf⟩ := Jr hb1; have d0 := ((hc (W.heap.size + 1 + 1) 0 (by simp)).trans (World.cell?_alloc_at _ _ _ _ (by simp))).trans rfl; have d1 := ((hc (W.heap.size + 1 + 1) 1 (by simp)).trans (World.cell?_alloc_at _ _ _ _ (by simp))).trans rfl; have g0 := (hf (W.heap.size + 1 + 1) 0 (by simp)).trans (World.frozen?_alloc_at _ _ _ _ (by simp)); have g1 := (hf (W.heap.size + 1 + 1) 1 (by simp)).trans (World.frozen?_alloc_at _ _ _ _ (by simp)); clear h1 hb1 hc hf)
  refine bodyPost_ret (v := .tuple #[.agg #[.slice s1 s2 s3, .slice c1 c2 c3], .int .i64 r.2]) (by simp [results, Tryz.results111, go_sem, d0, d1]) rfl ⟨_, _, _, _, _, _, rfl, ?_, ?_⟩
  · exact (((Ja HA).set (fun h => h.2 rfl) 0 _).set (fun h => h.2 rfl) 1 _).imp (fun b h _ => h.1)
  · exact (((((Below.refl W.heap.size W).alloc (Nat.le_refl _) _).alloc (by simp) _).alloc (by simp <;> omega) _).trans ((Ja HB).mono (by simp <;> omega))).setCell (p := ⟨W.heap.size + 1 + 1, 0, none⟩) (by show W.heap.size ≤ W.heap.size + 1 + 1; omega) _ |>.setCell (p := ⟨W.heap.size + 1 + 1, 1, none⟩) (by show W.heap.size ≤ W.heap.size + 1 + 1; omega) _
theorem Jg4 : TwoC ⟨#[45]⟩ (Je Zz) := ⟨fun w => (Y9 (t := ⟨#[45]⟩) (kl := .string [45]) (f := 111) (z := 0) (by kernel_rfl) (by kernel_rfl) (by kernel_rfl) w).mono (by rintro e w' ⟨rfl, hb⟩; exact ⟨111, #[], rfl, Tryz.enters111, hb, V3 w'⟩), fun a b ha hb => Y5 minus_rule.fits ha hb⟩
theorem Tryz.enters112 : Enters Tryz.prog 112 := Go.Proofs.enters_of Tryz.func112 (by decide) rfl
set_option maxHeartbeats 400000 in
theorem Vz (w : World) : FnTwo 112 #[] w (Je Zw) := by
  intro W P u v a b _ hP ha hb hoa hob
  have HC := hide (fun W' (h : Below W.heap.size W W') (hs : W.heap.size + 2 < W'.heap.size) => Zj Zw 166 times_rule (fun b => P b ∧ b ≠ W.heap.size + 2) W' (fun b h' => ⟨hP b (by omega), by omega⟩) u v a b ((ha.imp (fun b hp hl => ⟨hp, by omega⟩)).below h) ((hb.imp (fun b hp hl => ⟨hp, by omega⟩)).below h) hoa hob)
  obtain ⟨so, sn, sc, co, cn, cc, rfl, ha1, ha2⟩ := ha
  obtain ⟨so2, sn2, sc2, co2, cn2, cc2, rfl, hb1, hb2⟩ := hb
  clear hP hoa hob ha1 ha2 hb1 hb2
  obtain ⟨r, hr⟩ : ∃ r, Je Zw a b = r := ⟨_, rfl⟩
  rw [hr] at HC ⊢
  clear hr
  go_enter Tryz.func112, Tryz.ntmps112
  go_wp2_with (go_at_call 163; refine (Ja HC _ ((((Below.refl W.heap.size W).alloc (Nat.le_refl _) _).alloc (by simp) _).alloc (by simp <;> omega) _) (by simp)).mono ?_; rintro e w1 ⟨s1, s2, s3, c1, c2, c3, rfl, h1, hb1⟩; have HA := hide h1; have HB := hide hb1; obtain ⟨hc, hf⟩ := Jr hb1; have d0 := ((hc (W.heap.size + 1 + 1) 0 (by simp)).trans (World.cell?_alloc_at _ _ _ _ (by simp))).trans rfl; have d1 := ((hc (W.heap.size + 1 + 1) 1 (by simp)).trans (World.cell?_alloc_at _ _ _ _ (by simp))).trans rfl; have g0 := (hf (W.heap.size + 1 + 1) 0 (by simp)).trans (World.frozen?_alloc_at _ _ _ _ (by simp)); have g1 := (hf (W.heap.size + 1 + 1) 1 (by simp)).trans (World.frozen?_alloc_at _ _ _ _ (by simp)); clear h1 hb1 hc hf)
  refine bodyPost_ret (v := .tuple #[.agg #[.slice s1 s2 s3, .slice c1 c2 c3], .int .i64 r.2]) (by simp [results, Tryz.results112, go_sem, d0, d1]) rfl ⟨_, _, _, _, _, _, rfl, ?_, ?_⟩
  · exact (((Ja HA).set (fun h => h.2 rfl) 0 _).set (fun h => h.2 rfl) 1 _).imp (fun b h _ => h.1)
  · exact (((((Below.refl W.heap.size W).alloc (Nat.le_refl _) _).alloc (by simp) _).alloc (by simp <;> omega) _).trans ((Ja HB).mono (by simp <;> omega))).setCell (p := ⟨W.heap.size + 1 + 1, 0, none⟩) (by show W.heap.size ≤ W.heap.size + 1 + 1; omega) _ |>.setCell (p := ⟨W.heap.size + 1 + 1, 1, none⟩) (by show W.heap.size ≤ W.heap.size + 1 + 1; omega) _
theorem Je9 : TwoC ⟨#[42]⟩ (Je Zw) := ⟨fun w => (Y9 (t := ⟨#[42]⟩) (kl := .string [42]) (f := 112) (z := 1) (by kernel_rfl) (by kernel_rfl) (by kernel_rfl) w).mono (by rintro e w' ⟨rfl, hb⟩; exact ⟨112, #[], rfl, Tryz.enters112, hb, Vz w'⟩), fun a b ha hb => Y5 times_rule.fits ha hb⟩
theorem Tryz.enters113 : Enters Tryz.prog 113 := Go.Proofs.enters_of Tryz.func113 (by decide) rfl
set_option maxHeartbeats 400000 in
theorem Fs (w : World) : FnTwo 113 #[] w (Je Y6) := by
  intro W P u v a b _ hP ha hb hoa hob
  have HC := hide (fun W' (h : Below W.heap.size W W') (hs : W.heap.size + 2 < W'.heap.size) => Zj Y6 167 over_rule (fun b => P b ∧ b ≠ W.heap.size + 2) W' (fun b h' => ⟨hP b (by omega), by omega⟩) u v a b ((ha.imp (fun b hp hl => ⟨hp, by omega⟩)).below h) ((hb.imp (fun b hp hl => ⟨hp, by omega⟩)).below h) hoa hob)
  obtain ⟨so, sn, sc, co, cn, cc, rfl, ha1, ha2⟩ := ha
  obtain ⟨so2, sn2, sc2, co2, cn2, cc2, rfl, hb1, hb2⟩ := hb
  clear hP hoa hob ha1 ha2 hb1 hb2
  obtain ⟨r, hr⟩ : ∃ r, Je Y6 a b = r := ⟨_, rfl⟩
  rw [hr] at HC ⊢
  clear hr
  go_enter Tryz.func113, Tryz.ntmps113
  go_wp2_with (go_at_call 163; refine (Ja HC _ ((((Below.refl W.heap.size W).alloc (Nat.le_refl _) _).alloc (by simp) _).alloc (by simp <;> omega) _) (by simp)).mono ?_; rintro e w1 ⟨s1, s2, s3, c1, c2, c3, rfl, h1, hb1⟩; have HA := hide h1; have HB := hide hb1; obtain ⟨hc, hf⟩ := Jr hb1; have d0 := ((hc (W.heap.size + 1 + 1) 0 (by simp)).trans (World.cell?_alloc_at _ _ _ _ (by simp))).trans rfl; have d1 := ((hc (W.heap.size + 1 + 1) 1 (by simp)).trans (World.cell?_alloc_at _ _ _ _ (by simp))).trans rfl; have g0 := (hf (W.heap.size + 1 + 1) 0 (by simp)).trans (World.frozen?_alloc_at _ _ _ _ (by simp)); have g1 := (hf (W.heap.size + 1 + 1) 1 (by simp)).trans (World.frozen?_alloc_at _ _ _ _ (by simp)); clear h1 hb1 hc hf)
  refine bodyPost_ret (v := .tuple #[.agg #[.slice s1 s2 s3, .slice c1 c2 c3], .int .i64 r.2]) (by simp [results, Tryz.results113, go_sem, d0, d1]) rfl ⟨_, _, _, _, _, _, rfl, ?_, ?_⟩
  · exact (((Ja HA).set (fun h => h.2 rfl) 0 _).set (fun h => h.2 rfl) 1 _).imp (fun b h _ => h.1)
  · exact (((((Below.refl W.heap.size W).alloc (Nat.le_refl _) _).alloc (by simp) _).alloc (by simp <;> omega) _).trans ((Ja HB).mono (by simp <;> omega))).setCell (p := ⟨W.heap.size + 1 + 1, 0, none⟩) (by show W.heap.size ≤ W.heap.size + 1 + 1; omega) _ |>.setCell (p := ⟨W.heap.size + 1 + 1, 1, none⟩) (by show W.heap.size ≤ W.heap.size + 1 + 1; omega) _
theorem Jju : TwoC ⟨#[37]⟩ (Je Y6) := ⟨fun w => (Y9 (t := ⟨#[37]⟩) (kl := .string [37]) (f := 113) (z := 1) (by kernel_rfl) (by kernel_rfl) (by kernel_rfl) w).mono (by rintro e w' ⟨rfl, hb⟩; exact ⟨113, #[], rfl, Tryz.enters113, hb, Fs w'⟩), fun a b ha hb => Y5 over_rule.fits ha hb⟩
theorem Tryz.enters114 : Enters Tryz.prog 114 := Go.Proofs.enters_of Tryz.func114 (by decide) rfl
set_option maxHeartbeats 400000 in
theorem Fl (w : World) : FnTwo 114 #[] w (Je Kr) := by
  intro W P u v a b _ hP ha hb hoa hob
  have HC := hide (fun W' (h : Below W.heap.size W W') (hs : W.heap.size + 2 < W'.heap.size) => Zj Kr 168 rest_rule (fun b => P b ∧ b ≠ W.heap.size + 2) W' (fun b h' => ⟨hP b (by omega), by omega⟩) u v a b ((ha.imp (fun b hp hl => ⟨hp, by omega⟩)).below h) ((hb.imp (fun b hp hl => ⟨hp, by omega⟩)).below h) hoa hob)
  obtain ⟨so, sn, sc, co, cn, cc, rfl, ha1, ha2⟩ := ha
  obtain ⟨so2, sn2, sc2, co2, cn2, cc2, rfl, hb1, hb2⟩ := hb
  clear hP hoa hob ha1 ha2 hb1 hb2
  obtain ⟨r, hr⟩ : ∃ r, Je Kr a b = r := ⟨_, rfl⟩
  rw [hr] at HC ⊢
  clear hr
  go_enter Tryz.func114, Tryz.ntmps114
  go_wp2_with (go_at_call 163; refine (Ja HC _ ((((Below.refl W.heap.size W).alloc (Nat.le_refl _) _).alloc (by simp) _).alloc (by simp <;> omega) _) (by simp)).mono ?_; rintro e w1 ⟨s1, s2, s3, c1, c2, c3, rfl, h1, hb1⟩; have HA := hide h1; have HB := hide hb1; obtain ⟨hc, hf⟩ := Jr hb1; have d0 := ((hc (W.heap.size + 1 + 1) 0 (by simp)).trans (World.cell?_alloc_at _ _ _ _ (by simp))).trans rfl; have d1 := ((hc (W.heap.size + 1 + 1) 1 (by simp)).trans (World.cell?_alloc_at _ _ _ _ (by simp))).trans rfl; have g0 := (hf (W.heap.size + 1 + 1) 0 (by simp)).trans (World.frozen?_alloc_at _ _ _ _ (by simp)); have g1 := (hf (W.heap.size + 1 + 1) 1 (by simp)).trans (World.frozen?_alloc_at _ _ _ _ (by simp)); clear h1 hb1 hc hf)
  refine bodyPost_ret (v := .tuple #[.agg #[.slice s1 s2 s3, .slice c1 c2 c3], .int .i64 r.2]) (by simp [results, Tryz.results114, go_sem, d0, d1]) rfl ⟨_, _, _, _, _, _, rfl, ?_, ?_⟩
  · exact (((Ja HA).set (fun h => h.2 rfl) 0 _).set (fun h => h.2 rfl) 1 _).imp (fun b h _ => h.1)
  · exact (((((Below.refl W.heap.size W).alloc (Nat.le_refl _) _).alloc (by simp) _).alloc (by simp <;> omega) _).trans ((Ja HB).mono (by simp <;> omega))).setCell (p := ⟨W.heap.size + 1 + 1, 0, none⟩) (by show W.heap.size ≤ W.heap.size + 1 + 1; omega) _ |>.setCell (p := ⟨W.heap.size + 1 + 1, 1, none⟩) (by show W.heap.size ≤ W.heap.size + 1 + 1; omega) _
theorem Jjd : TwoC ⟨#[124]⟩ (Je Kr) := ⟨fun w => (Y9 (t := ⟨#[124]⟩) (kl := .string [124]) (f := 114) (z := 0) (by kernel_rfl) (by kernel_rfl) (by kernel_rfl) w).mono (by rintro e w' ⟨rfl, hb⟩; exact ⟨114, #[], rfl, Tryz.enters114, hb, Fl w'⟩), fun a b ha hb => Y5 rest_rule.fits ha hb⟩
theorem Tryz.enters115 : Enters Tryz.prog 115 := Go.Proofs.enters_of Tryz.func115 (by decide) rfl
set_option maxHeartbeats 400000 in
theorem Qv (w : World) : FnTwo 115 #[] w (Je Y7) := by
  intro W P u v a b _ hP ha hb hoa hob
  have HC := hide (fun W' (h : Below W.heap.size W W') (hs : W.heap.size + 2 < W'.heap.size) => Zj Y7 169 lesser_rule (fun b => P b ∧ b ≠ W.heap.size + 2) W' (fun b h' => ⟨hP b (by omega), by omega⟩) u v a b ((ha.imp (fun b hp hl => ⟨hp, by omega⟩)).below h) ((hb.imp (fun b hp hl => ⟨hp, by omega⟩)).below h) hoa hob)
  obtain ⟨so, sn, sc, co, cn, cc, rfl, ha1, ha2⟩ := ha
  obtain ⟨so2, sn2, sc2, co2, cn2, cc2, rfl, hb1, hb2⟩ := hb
  clear hP hoa hob ha1 ha2 hb1 hb2
  obtain ⟨r, hr⟩ : ∃ r, Je Y7 a b = r := ⟨_, rfl⟩
  rw [hr] at HC ⊢
  clear hr
  go_enter Tryz.func115, Tryz.ntmps115
  go_wp2_with (go_at_call 163; refine (Ja HC _ ((((Below.refl W.heap.size W).alloc (Nat.le_refl _) _).alloc (by simp) _).alloc (by simp <;> omega) _) (by simp)).mono ?_; rintro e w1 ⟨s1, s2, s3, c1, c2, c3, rfl, h1, hb1⟩; have HA := hide h1; have HB := hide hb1; obtain ⟨hc, hf⟩ := Jr hb1; have d0 := ((hc (W.heap.size + 1 + 1) 0 (by simp)).trans (World.cell?_alloc_at _ _ _ _ (by simp))).trans rfl; have d1 := ((hc (W.heap.size + 1 + 1) 1 (by simp)).trans (World.cell?_alloc_at _ _ _ _ (by simp))).trans rfl; have g0 := (hf (W.heap.size + 1 + 1) 0 (by simp)).trans (World.frozen?_alloc_at _ _ _ _ (by simp)); have g1 := (hf (W.heap.size + 1 + 1) 1 (by simp)).trans (World.frozen?_alloc_at _ _ _ _ (by simp)); clear h1 hb1 hc hf)
  refine bodyPost_ret (v := .tuple #[.agg #[.slice s1 s2 s3, .slice c1 c2 c3], .int .i64 r.2]) (by simp [results, Tryz.results115, go_sem, d0, d1]) rfl ⟨_, _, _, _, _, _, rfl, ?_, ?_⟩
  · exact (((Ja HA).set (fun h => h.2 rfl) 0 _).set (fun h => h.2 rfl) 1 _).imp (fun b h _ => h.1)
  · exact (((((Below.refl W.heap.size W).alloc (Nat.le_refl _) _).alloc (by simp) _).alloc (by simp <;> omega) _).trans ((Ja HB).mono (by simp <;> omega))).setCell (p := ⟨W.heap.size + 1 + 1, 0, none⟩) (by show W.heap.size ≤ W.heap.size + 1 + 1; omega) _ |>.setCell (p := ⟨W.heap.size + 1 + 1, 1, none⟩) (by show W.heap.size ≤ W.heap.size + 1 + 1; omega) _
theorem Jed : TwoC ⟨#[38]⟩ (Je Y7) := ⟨fun w => (Y9 (t := ⟨#[38]⟩) (kl := .string [38]) (f := 115) (z := 9223372036854775807) (by kernel_rfl) (by kernel_rfl) (by kernel_rfl) w).mono (by rintro e w' ⟨rfl, hb⟩; exact ⟨115, #[], rfl, Tryz.enters115, hb, Qv w'⟩), fun a b ha hb => Y5 lesser_rule.fits ha hb⟩
theorem Tryz.enters116 : Enters Tryz.prog 116 := Go.Proofs.enters_of Tryz.func116 (by decide) rfl
set_option maxHeartbeats 400000 in
theorem Qb (w : World) : FnTwo 116 #[] w (Je Yj) := by
  intro W P u v a b _ hP ha hb hoa hob
  have HC := hide (fun W' (h : Below W.heap.size W W') (hs : W.heap.size + 2 < W'.heap.size) => Zj Yj 170 greater_rule (fun b => P b ∧ b ≠ W.heap.size + 2) W' (fun b h' => ⟨hP b (by omega), by omega⟩) u v a b ((ha.imp (fun b hp hl => ⟨hp, by omega⟩)).below h) ((hb.imp (fun b hp hl => ⟨hp, by omega⟩)).below h) hoa hob)
  obtain ⟨so, sn, sc, co, cn, cc, rfl, ha1, ha2⟩ := ha
  obtain ⟨so2, sn2, sc2, co2, cn2, cc2, rfl, hb1, hb2⟩ := hb
  clear hP hoa hob ha1 ha2 hb1 hb2
  obtain ⟨r, hr⟩ : ∃ r, Je Yj a b = r := ⟨_, rfl⟩
  rw [hr] at HC ⊢
  clear hr
  go_enter Tryz.func116, Tryz.ntmps116
  go_wp2_with (go_at_call 163; refine (Ja HC _ ((((Below.refl W.heap.size W).alloc (Nat.le_refl _) _).alloc (by simp) _).alloc (by simp <;> omega) _) (by simp)).mono ?_; rintro e w1 ⟨s1, s2, s3, c1, c2, c3, rfl, h1, hb1⟩; have HA := hide h1; have HB := hide hb1; obtain ⟨hc, hf⟩ := Jr hb1; have d0 := ((hc (W.heap.size + 1 + 1) 0 (by simp)).trans (World.cell?_alloc_at _ _ _ _ (by simp))).trans rfl; have d1 := ((hc (W.heap.size + 1 + 1) 1 (by simp)).trans (World.cell?_alloc_at _ _ _ _ (by simp))).trans rfl; have g0 := (hf (W.heap.size + 1 + 1) 0 (by simp)).trans (World.frozen?_alloc_at _ _ _ _ (by simp)); have g1 := (hf (W.heap.size + 1 + 1) 1 (by simp)).trans (World.frozen?_alloc_at _ _ _ _ (by simp)); clear h1 hb1 hc hf)
  refine bodyPost_ret (v := .tuple #[.agg #[.slice s1 s2 s3, .slice c1 c2 c3], .int .i64 r.2]) (by simp [results, Tryz.results116, go_sem, d0, d1]) rfl ⟨_, _, _, _, _, _, rfl, ?_, ?_⟩
  · exact (((Ja HA).set (fun h => h.2 rfl) 0 _).set (fun h => h.2 rfl) 1 _).imp (fun b h _ => h.1)
  · exact (((((Below.refl W.heap.size W).alloc (Nat.le_refl _) _).alloc (by simp) _).alloc (by simp <;> omega) _).trans ((Ja HB).mono (by simp <;> omega))).setCell (p := ⟨W.heap.size + 1 + 1, 0, none⟩) (by show W.heap.size ≤ W.heap.size + 1 + 1; omega) _ |>.setCell (p := ⟨W.heap.size + 1 + 1, 1, none⟩) (by show W.heap.size ≤ W.heap.size + 1 + 1; omega) _
theorem Jbx : TwoC ⟨#[33]⟩ (Je Yj) := ⟨fun w => (Y9 (t := ⟨#[33]⟩) (kl := .string [33]) (f := 116) (z := -9223372036854775808) (by kernel_rfl) (by kernel_rfl) (by kernel_rfl) w).mono (by rintro e w' ⟨rfl, hb⟩; exact ⟨116, #[], rfl, Tryz.enters116, hb, Qb w'⟩), fun a b ha hb => Y5 greater_rule.fits ha hb⟩
theorem Tryz.enters117 : Enters Tryz.prog 117 := Go.Proofs.enters_of Tryz.func117 (by decide) rfl
set_option maxHeartbeats 400000 in
theorem Fi (w : World) : FnTwo 117 #[] w (Je Qq) := by
  intro W P u v a b _ hP ha hb hoa hob
  have HC := hide (fun W' (h : Below W.heap.size W W') (hs : W.heap.size + 2 < W'.heap.size) => Zj Qq 171 same_rule (fun b => P b ∧ b ≠ W.heap.size + 2) W' (fun b h' => ⟨hP b (by omega), by omega⟩) u v a b ((ha.imp (fun b hp hl => ⟨hp, by omega⟩)).below h) ((hb.imp (fun b hp hl => ⟨hp, by omega⟩)).below h) hoa hob)
  obtain ⟨so, sn, sc, co, cn, cc, rfl, ha1, ha2⟩ := ha
  obtain ⟨so2, sn2, sc2, co2, cn2, cc2, rfl, hb1, hb2⟩ := hb
  clear hP hoa hob ha1 ha2 hb1 hb2
  obtain ⟨r, hr⟩ : ∃ r, Je Qq a b = r := ⟨_, rfl⟩
  rw [hr] at HC ⊢
  clear hr
  go_enter Tryz.func117, Tryz.ntmps117
  go_wp2_with (go_at_call 163; refine (Ja HC _ ((((Below.refl W.heap.size W).alloc (Nat.le_refl _) _).alloc (by simp) _).alloc (by simp <;> omega) _) (by simp)).mono ?_; rintro e w1 ⟨s1, s2, s3, c1, c2, c3, rfl, h1, hb1⟩; have HA := hide h1; have HB := hide hb1; obtain ⟨hc, hf⟩ := Jr hb1; have d0 := ((hc (W.heap.size + 1 + 1) 0 (by simp)).trans (World.cell?_alloc_at _ _ _ _ (by simp))).trans rfl; have d1 := ((hc (W.heap.size + 1 + 1) 1 (by simp)).trans (World.cell?_alloc_at _ _ _ _ (by simp))).trans rfl; have g0 := (hf (W.heap.size + 1 + 1) 0 (by simp)).trans (World.frozen?_alloc_at _ _ _ _ (by simp)); have g1 := (hf (W.heap.size + 1 + 1) 1 (by simp)).trans (World.frozen?_alloc_at _ _ _ _ (by simp)); clear h1 hb1 hc hf)
  refine bodyPost_ret (v := .tuple #[.agg #[.slice s1 s2 s3, .slice c1 c2 c3], .int .i64 r.2]) (by simp [results, Tryz.results117, go_sem, d0, d1]) rfl ⟨_, _, _, _, _, _, rfl, ?_, ?_⟩
  · exact (((Ja HA).set (fun h => h.2 rfl) 0 _).set (fun h => h.2 rfl) 1 _).imp (fun b h _ => h.1)
  · exact (((((Below.refl W.heap.size W).alloc (Nat.le_refl _) _).alloc (by simp) _).alloc (by simp <;> omega) _).trans ((Ja HB).mono (by simp <;> omega))).setCell (p := ⟨W.heap.size + 1 + 1, 0, none⟩) (by show W.heap.size ≤ W.heap.size + 1 + 1; omega) _ |>.setCell (p := ⟨W.heap.size + 1 + 1, 1, none⟩) (by show W.heap.size ≤ W.heap.size + 1 + 1; omega) _
theorem Ji9 : TwoC ⟨#[61]⟩ (Je Qq) := ⟨fun w => (Y9 (t := ⟨#[61]⟩) (kl := .string [61]) (f := 117) (z := 1) (by kernel_rfl) (by kernel_rfl) (by kernel_rfl) w).mono (by rintro e w' ⟨rfl, hb⟩; exact ⟨117, #[], rfl, Tryz.enters117, hb, Fi w'⟩), fun a b ha hb => Y5 same_rule.fits ha hb⟩
theorem Tryz.enters118 : Enters Tryz.prog 118 := Go.Proofs.enters_of Tryz.func118 (by decide) rfl
set_option maxHeartbeats 400000 in
theorem Xa (w : World) : FnTwo 118 #[] w (Je Z4) := by
  intro W P u v a b _ hP ha hb hoa hob
  have HC := hide (fun W' (h : Below W.heap.size W W') (hs : W.heap.size + 2 < W'.heap.size) => Zj Z4 172 below_rule (fun b => P b ∧ b ≠ W.heap.size + 2) W' (fun b h' => ⟨hP b (by omega), by omega⟩) u v a b ((ha.imp (fun b hp hl => ⟨hp, by omega⟩)).below h) ((hb.imp (fun b hp hl => ⟨hp, by omega⟩)).below h) hoa hob)
  obtain ⟨so, sn, sc, co, cn, cc, rfl, ha1, ha2⟩ := ha
  obtain ⟨so2, sn2, sc2, co2, cn2, cc2, rfl, hb1, hb2⟩ := hb
  clear hP hoa hob ha1 ha2 hb1 hb2
  obtain ⟨r, hr⟩ : ∃ r, Je Z4 a b = r := ⟨_, rfl⟩
  rw [hr] at HC ⊢
  clear hr
  go_enter Tryz.func118, Tryz.ntmps118
  go_wp2_with (go_at_call 163; refine (Ja HC _ ((((Below.refl W.heap.size W).alloc (Nat.le_refl _) _).alloc (by simp) _).alloc (by simp <;> omega) _) (by simp)).mono ?_; rintro e w1 ⟨s1, s2, s3, c1, c2, c3, rfl, h1, hb1⟩; have HA := hide h1; have HB := hide hb1; obtain ⟨hc, hf⟩ := Jr hb1; have d0 := ((hc (W.heap.size + 1 + 1) 0 (by simp)).trans (World.cell?_alloc_at _ _ _ _ (by simp))).trans rfl; have d1 := ((hc (W.heap.size + 1 + 1) 1 (by simp)).trans (World.cell?_alloc_at _ _ _ _ (by simp))).trans rfl; have g0 := (hf (W.heap.size + 1 + 1) 0 (by simp)).trans (World.frozen?_alloc_at _ _ _ _ (by simp)); have g1 := (hf (W.heap.size + 1 + 1) 1 (by simp)).trans (World.frozen?_alloc_at _ _ _ _ (by simp)); clear h1 hb1 hc hf)
  refine bodyPost_ret (v := .tuple #[.agg #[.slice s1 s2 s3, .slice c1 c2 c3], .int .i64 r.2]) (by simp [results, Tryz.results118, go_sem, d0, d1]) rfl ⟨_, _, _, _, _, _, rfl, ?_, ?_⟩
  · exact (((Ja HA).set (fun h => h.2 rfl) 0 _).set (fun h => h.2 rfl) 1 _).imp (fun b h _ => h.1)
  · exact (((((Below.refl W.heap.size W).alloc (Nat.le_refl _) _).alloc (by simp) _).alloc (by simp <;> omega) _).trans ((Ja HB).mono (by simp <;> omega))).setCell (p := ⟨W.heap.size + 1 + 1, 0, none⟩) (by show W.heap.size ≤ W.heap.size + 1 + 1; omega) _ |>.setCell (p := ⟨W.heap.size + 1 + 1, 1, none⟩) (by show W.heap.size ≤ W.heap.size + 1 + 1; omega) _
theorem Jij : TwoC ⟨#[60]⟩ (Je Z4) := ⟨fun w => (Y9 (t := ⟨#[60]⟩) (kl := .string [60]) (f := 118) (z := 0) (by kernel_rfl) (by kernel_rfl) (by kernel_rfl) w).mono (by rintro e w' ⟨rfl, hb⟩; exact ⟨118, #[], rfl, Tryz.enters118, hb, Xa w'⟩), fun a b ha hb => Y5 below_rule.fits ha hb⟩
end Go.Proofs.YtjobgpahajhbnabGreatDoor
namespace Go.Proofs.YtjobgpahajhbnabGreatDoor
open Go.RowKit Go.Proofs
attribute [local go_sem ↓] Go.wp_at_zero Go.wp_at_succ
set_option maxHeartbeats 400000 in
theorem Jjq (c n : Int) (hc : Jg c) (hn : 0 < n) (w : World) : Calls Tryz.prog 8 #[.int .i64 c, .int .i64 n] w fun e w' => (∃ r, e = .returned (.int .i64 r) ∧ 0 ≤ r ∧ r < n) ∧ w' = w := by
  unfold Jg at hc
  have hn0 : (n == 0) = false := by simp; omega
  by_cases h0 : c < 0
  · have e1 : wrap64 (c + 1) = c + 1 := by unfold wrap64; omega
    have e2 : wrap64 (-(c + 1)) = -(c + 1) := by unfold wrap64; omega
    have HM := hide (show 0 ≤ (-(c + 1)).tmod n ∧ (-(c + 1)).tmod n < n by
      rw [Int.tmod_eq_emod_of_nonneg (by omega)]
      exact ⟨Int.emod_nonneg _ (by omega), Int.emod_lt_of_pos _ hn⟩)
    go_enter Tryz.func8, Tryz.ntmps8
    go_wp2
    exact bodyPost_ret (v := .int .i64 (-((c + 1).tmod n))) (by simp [results, Tryz.results8, go_sem]) rfl ⟨⟨_, rfl, by have := Ja HM; rw [Int.neg_tmod] at this; exact this⟩, rfl⟩
  · have HM := hide (show 0 ≤ c.tmod n ∧ c.tmod n < n by
      rw [Int.tmod_eq_emod_of_nonneg (by omega)]
      exact ⟨Int.emod_nonneg _ (by omega), Int.emod_lt_of_pos _ hn⟩)
    go_enter Tryz.func8, Tryz.ntmps8
    go_wp2
    exact bodyPost_ret (v := .int .i64 (c % n)) (by simp [results, Tryz.results8, go_sem]) rfl ⟨⟨_, rfl, Int.emod_nonneg _ (by omega), Int.emod_lt_of_pos _ hn⟩, rfl⟩
end Go.Proofs.YtjobgpahajhbnabGreatDoor
