import Derived.Test.YtjobgpahajhbnaaGreatDoorRi
import Derived.Test.YtjobgpahajhbnaaGreatDoorTa
import Derived.Test.YtjobgpahajhbnaaGreatDoorSi
namespace Go.Proofs.YtjobgpahajhbnaaGreatDoor
open Go.RowKit Go.Proofs Go.Maps
attribute [local go_sem ↓] Go.wp_at_zero Go.wp_at_succ

theorem pair_any (f : Int → Int → Int × Int) (g : Nat) (hrule : RuleC g f) (P : Nat → Prop) (w : World) (hP : ∀ b, w.heap.size ≤ b → P b) (u v : Value) (a b : Arr) (ha : IsArr P w u a) (hb : IsArr P w v b) (hoa : a.ok) (hob : b.ok) :
    Calls Tryz.prog 240 #[u, v, .func (.func g) #[] #[]] w fun e w' => ∃ s1 s2 s3 c1 c2 c3, e = .returned (.tuple #[.agg #[.slice s1 s2 s3, .slice c1 c2 c3], .int .i64 (pairP f a b).2]) ∧ IsArr P w' (.agg #[.slice s1 s2 s3, .slice c1 c2 c3]) (pairP f a b).1 ∧ Below w.heap.size w w' := by
  obtain ⟨so, sn, sc, co, cn, cc, rfl, ha1, ha2⟩ := ha
  obtain ⟨so2, sn2, sc2, co2, cn2, cc2, rfl, hb1, hb2⟩ := hb
  have ha : IsArr P w (.agg #[.slice so sn sc, .slice co cn cc]) a := ⟨_, _, _, _, _, _, rfl, ha1, ha2⟩
  have hb : IsArr P w (.agg #[.slice so2 sn2 sc2, .slice co2 cn2 cc2]) b := ⟨_, _, _, _, _, _, rfl, hb1, hb2⟩
  by_cases h1 : sn = 0
  · subst h1
    exact pair_left f g hrule P w hP so sc co cn cc so2 sn2 sc2 co2 cn2 cc2 a b ha hb hoa hob
  · have h1' : ((sn : Int) == 0) = false := by simpa using h1
    by_cases h2 : sn2 = 0
    · subst h2
      exact pair_right f g hrule P w hP so sn sc co cn cc so2 sc2 co2 cn2 cc2 a b ha hb h1' hoa hob
    · have h2' : ((sn2 : Int) == 0) = false := by simpa using h2
      by_cases h3 : sn = sn2
      · have h3' : ((sn : Int) != (sn2 : Int)) = false := by subst h3; simp
        by_cases h4 : a.shape = b.shape
        · exact pair_same f g hrule P w hP so sn sc co cn cc so2 sn2 sc2 co2 cn2 cc2 a b ha hb h1' h2' hoa hob h3' h4
        · exact pair_lens f g P w so sn sc co cn cc so2 sn2 sc2 co2 cn2 cc2 a b ha hb h1' h2' hoa hob h3' h4
      · have h3' : ((sn : Int) != (sn2 : Int)) = true := bne_iff_ne.2 (fun h => h3 (Int.ofNat_inj.1 h))
        exact pair_ranks f g P w so sn sc co cn cc so2 sn2 sc2 co2 cn2 cc2 a b ha hb h1' h2' h3'
theorem zip_fits {f : Int → Int → Int × Int} (hf : ∀ x y, fit64 x → fit64 y → fit64 (f x y).1) : ∀ {xs ys l : List Int}, zipF f xs ys = .inr l → (∀ c ∈ xs, fit64 c) → (∀ c ∈ ys, fit64 c) → ∀ c ∈ l, fit64 c
  | [], _, l, h, _, _ => by simp [zipF] at h; subst h; intro c hc; cases hc
  | x :: xs, [], l, h, _, _ => by simp [zipF] at h; subst h; intro c hc; cases hc
  | x :: xs, y :: ys, l, h, hx, hy => by
    unfold zipF at h
    split at h
    · cases h
    · cases hz : zipF f xs ys with
      | inl e => rw [hz] at h; cases h
      | inr m =>
        rw [hz] at h
        cases h
        intro c hc
        rcases List.mem_cons.1 hc with rfl | hc
        · exact hf _ _ (hx _ (by simp)) (hy _ (by simp))
        · exact zip_fits hf hz (fun c h => hx c (by simp [h])) (fun c h => hy c (by simp [h])) c hc
theorem zip_err {f : Int → Int → Int × Int} : ∀ {xs ys : List Int} {e : Int}, zipF f xs ys = .inl e → e ≠ 0
  | [], _, e, h => by simp [zipF] at h
  | x :: xs, [], e, h => by simp [zipF] at h
  | x :: xs, y :: ys, e, h => by
    unfold zipF at h
    split at h
    · rename_i h0
      cases h
      exact h0
    · cases hz : zipF f xs ys with
      | inl e' => rw [hz] at h; cases h; exact zip_err hz
      | inr m => rw [hz] at h; cases h
theorem zipA_good {f : Int → Int → Int × Int} (hf : ∀ x y, fit64 x → fit64 y → fit64 (f x y).1) {a : Arr} (ha : a.ok) {xs ys : List Int} (hx : xs.length = a.cells.length) (hy : ys.length = a.cells.length) (fx : ∀ c ∈ xs, fit64 c) (fy : ∀ c ∈ ys, fit64 c) :
    (zipA f a.shape xs ys).1.cells.length ≤ 200 ∧ ((zipA f a.shape xs ys).2 = 0 → (zipA f a.shape xs ys).1.ok) := by
  unfold zipA
  cases hz : zipF f xs ys with
  | inl e => exact ⟨by simp [eArr], fun h => absurd h (zip_err hz)⟩
  | inr l =>
    have hl := zip_len hz (by omega)
    have h2 := ha.few
    exact ⟨by simp only []; omega, fun _ => ⟨ha.rank, ha.lens, by rw [hl, hx]; exact ha.size, by simp only []; omega, zip_fits hf hz fx fy⟩⟩
theorem pairP_ok {f : Int → Int → Int × Int} (hf : ∀ x y, fit64 x → fit64 y → fit64 (f x y).1) {a b : Arr} (ha : a.ok) (hb : b.ok) : (pairP f a b).1.cells.length ≤ 200 ∧ ((pairP f a b).2 = 0 → (pairP f a b).1.ok) := by
  have head : ∀ {a : Arr}, a.ok → fit64 (a.cells.headD 0) := by
    intro a h
    cases hc : a.cells with
    | nil => unfold fit64; simp
    | cons x r => exact h.fits x (by rw [hc]; simp)
  unfold pairP
  split
  · exact zipA_good hf hb (by simp) rfl (fun c hc => by rw [(List.mem_replicate.1 hc).2]; exact head ha) hb.fits
  · split
    · exact zipA_good hf ha rfl (by simp) ha.fits (fun c hc => by rw [(List.mem_replicate.1 hc).2]; exact head hb)
    · split
      · exact ⟨by simp [eArr], fun h => absurd h (by decide)⟩
      · split
        · exact ⟨by simp [eArr], fun h => absurd h (by decide)⟩
        · rename_i hs
          have hs' : a.shape = b.shape := by simpa using hs
          exact zipA_good hf ha rfl (by rw [ha.size, hb.size, hs']) ha.fits hb.fits

theorem Tryz.enters190 : Enters Tryz.prog 190 := Go.Proofs.enters_of Tryz.func190 (by decide) rfl
set_option maxHeartbeats 400000 in
theorem plus_fn (w : World) : FnTwo 190 #[] w (pairP plusF) := by
  intro W P u v a b _ hP ha hb hoa hob
  have HC := hide (fun W' (h : Below W.heap.size W W') (hs : W.heap.size + 2 < W'.heap.size) => pair_any plusF 241 plus_rule (fun b => P b ∧ b ≠ W.heap.size + 2) W' (fun b h' => ⟨hP b (by omega), by omega⟩) u v a b ((ha.imp (fun b hp hl => ⟨hp, by omega⟩)).below h) ((hb.imp (fun b hp hl => ⟨hp, by omega⟩)).below h) hoa hob)
  obtain ⟨so, sn, sc, co, cn, cc, rfl, ha1, ha2⟩ := ha
  obtain ⟨so2, sn2, sc2, co2, cn2, cc2, rfl, hb1, hb2⟩ := hb
  clear hP hoa hob ha1 ha2 hb1 hb2
  obtain ⟨r, hr⟩ : ∃ r, pairP plusF a b = r := ⟨_, rfl⟩
  rw [hr] at HC ⊢
  clear hr
  go_enter Tryz.func190, Tryz.ntmps190
  go_wp2_with (go_at_call 240; refine (unhide HC _ ((((Below.refl W.heap.size W).alloc (Nat.le_refl _) _).alloc (by simp) _).alloc (by simp <;> omega) _) (by simp)).mono ?_; rintro e w1 ⟨s1, s2, s3, c1, c2, c3, rfl, h1, hb1⟩; have HA := hide h1; have HB := hide hb1; obtain ⟨hc, hf⟩ := bcell hb1; have d0 := ((hc (W.heap.size + 1 + 1) 0 (by simp)).trans (World.cell?_alloc_at _ _ _ _ (by simp))).trans rfl; have d1 := ((hc (W.heap.size + 1 + 1) 1 (by simp)).trans (World.cell?_alloc_at _ _ _ _ (by simp))).trans rfl; have g0 := (hf (W.heap.size + 1 + 1) 0 (by simp)).trans (World.frozen?_alloc_at _ _ _ _ (by simp)); have g1 := (hf (W.heap.size + 1 + 1) 1 (by simp)).trans (World.frozen?_alloc_at _ _ _ _ (by simp)); clear h1 hb1 hc hf)
  refine bodyPost_ret (v := .tuple #[.agg #[.slice s1 s2 s3, .slice c1 c2 c3], .int .i64 r.2]) (by simp [results, Tryz.results190, go_sem, d0, d1]) rfl ⟨_, _, _, _, _, _, rfl, ?_, ?_⟩
  · exact (((unhide HA).set (fun h => h.2 rfl) 0 _).set (fun h => h.2 rfl) 1 _).imp (fun b h _ => h.1)
  · exact (((((Below.refl W.heap.size W).alloc (Nat.le_refl _) _).alloc (by simp) _).alloc (by simp <;> omega) _).trans ((unhide HB).mono (by simp <;> omega))).setCell (p := ⟨W.heap.size + 1 + 1, 0, none⟩) (by show W.heap.size ≤ W.heap.size + 1 + 1; omega) _ |>.setCell (p := ⟨W.heap.size + 1 + 1, 1, none⟩) (by show W.heap.size ≤ W.heap.size + 1 + 1; omega) _
theorem plus_two : TwoC ⟨#[43]⟩ (pairP plusF) := ⟨fun w => (find_sign (t := ⟨#[43]⟩) (kl := .string [43]) (f := 190) (z := 0) (by kernel_rfl) (by kernel_rfl) (by kernel_rfl) w).mono (by rintro e w' ⟨rfl, hb⟩; exact ⟨190, #[], rfl, Tryz.enters190, hb, plus_fn w'⟩), fun a b ha hb => pairP_ok plus_rule.fits ha hb⟩

theorem Tryz.enters191 : Enters Tryz.prog 191 := Go.Proofs.enters_of Tryz.func191 (by decide) rfl
set_option maxHeartbeats 400000 in
theorem minus_fn (w : World) : FnTwo 191 #[] w (pairP minusF) := by
  intro W P u v a b _ hP ha hb hoa hob
  have HC := hide (fun W' (h : Below W.heap.size W W') (hs : W.heap.size + 2 < W'.heap.size) => pair_any minusF 242 minus_rule (fun b => P b ∧ b ≠ W.heap.size + 2) W' (fun b h' => ⟨hP b (by omega), by omega⟩) u v a b ((ha.imp (fun b hp hl => ⟨hp, by omega⟩)).below h) ((hb.imp (fun b hp hl => ⟨hp, by omega⟩)).below h) hoa hob)
  obtain ⟨so, sn, sc, co, cn, cc, rfl, ha1, ha2⟩ := ha
  obtain ⟨so2, sn2, sc2, co2, cn2, cc2, rfl, hb1, hb2⟩ := hb
  clear hP hoa hob ha1 ha2 hb1 hb2
  obtain ⟨r, hr⟩ : ∃ r, pairP minusF a b = r := ⟨_, rfl⟩
  rw [hr] at HC ⊢
  clear hr
  go_enter Tryz.func191, Tryz.ntmps191
  go_wp2_with (go_at_call 240; refine (unhide HC _ ((((Below.refl W.heap.size W).alloc (Nat.le_refl _) _).alloc (by simp) _).alloc (by simp <;> omega) _) (by simp)).mono ?_; rintro e w1 ⟨s1, s2, s3, c1, c2, c3, rfl, h1, hb1⟩; have HA := hide h1; have HB := hide hb1; obtain ⟨hc, hf⟩ := bcell hb1; have d0 := ((hc (W.heap.size + 1 + 1) 0 (by simp)).trans (World.cell?_alloc_at _ _ _ _ (by simp))).trans rfl; have d1 := ((hc (W.heap.size + 1 + 1) 1 (by simp)).trans (World.cell?_alloc_at _ _ _ _ (by simp))).trans rfl; have g0 := (hf (W.heap.size + 1 + 1) 0 (by simp)).trans (World.frozen?_alloc_at _ _ _ _ (by simp)); have g1 := (hf (W.heap.size + 1 + 1) 1 (by simp)).trans (World.frozen?_alloc_at _ _ _ _ (by simp)); clear h1 hb1 hc hf)
  refine bodyPost_ret (v := .tuple #[.agg #[.slice s1 s2 s3, .slice c1 c2 c3], .int .i64 r.2]) (by simp [results, Tryz.results191, go_sem, d0, d1]) rfl ⟨_, _, _, _, _, _, rfl, ?_, ?_⟩
  · exact (((unhide HA).set (fun h => h.2 rfl) 0 _).set (fun h => h.2 rfl) 1 _).imp (fun b h _ => h.1)
  · exact (((((Below.refl W.heap.size W).alloc (Nat.le_refl _) _).alloc (by simp) _).alloc (by simp <;> omega) _).trans ((unhide HB).mono (by simp <;> omega))).setCell (p := ⟨W.heap.size + 1 + 1, 0, none⟩) (by show W.heap.size ≤ W.heap.size + 1 + 1; omega) _ |>.setCell (p := ⟨W.heap.size + 1 + 1, 1, none⟩) (by show W.heap.size ≤ W.heap.size + 1 + 1; omega) _
theorem minus_two : TwoC ⟨#[45]⟩ (pairP minusF) := ⟨fun w => (find_sign (t := ⟨#[45]⟩) (kl := .string [45]) (f := 191) (z := 0) (by kernel_rfl) (by kernel_rfl) (by kernel_rfl) w).mono (by rintro e w' ⟨rfl, hb⟩; exact ⟨191, #[], rfl, Tryz.enters191, hb, minus_fn w'⟩), fun a b ha hb => pairP_ok minus_rule.fits ha hb⟩

theorem Tryz.enters192 : Enters Tryz.prog 192 := Go.Proofs.enters_of Tryz.func192 (by decide) rfl
set_option maxHeartbeats 400000 in
theorem times_fn (w : World) : FnTwo 192 #[] w (pairP timesF) := by
  intro W P u v a b _ hP ha hb hoa hob
  have HC := hide (fun W' (h : Below W.heap.size W W') (hs : W.heap.size + 2 < W'.heap.size) => pair_any timesF 243 times_rule (fun b => P b ∧ b ≠ W.heap.size + 2) W' (fun b h' => ⟨hP b (by omega), by omega⟩) u v a b ((ha.imp (fun b hp hl => ⟨hp, by omega⟩)).below h) ((hb.imp (fun b hp hl => ⟨hp, by omega⟩)).below h) hoa hob)
  obtain ⟨so, sn, sc, co, cn, cc, rfl, ha1, ha2⟩ := ha
  obtain ⟨so2, sn2, sc2, co2, cn2, cc2, rfl, hb1, hb2⟩ := hb
  clear hP hoa hob ha1 ha2 hb1 hb2
  obtain ⟨r, hr⟩ : ∃ r, pairP timesF a b = r := ⟨_, rfl⟩
  rw [hr] at HC ⊢
  clear hr
  go_enter Tryz.func192, Tryz.ntmps192
  go_wp2_with (go_at_call 240; refine (unhide HC _ ((((Below.refl W.heap.size W).alloc (Nat.le_refl _) _).alloc (by simp) _).alloc (by simp <;> omega) _) (by simp)).mono ?_; rintro e w1 ⟨s1, s2, s3, c1, c2, c3, rfl, h1, hb1⟩; have HA := hide h1; have HB := hide hb1; obtain ⟨hc, hf⟩ := bcell hb1; have d0 := ((hc (W.heap.size + 1 + 1) 0 (by simp)).trans (World.cell?_alloc_at _ _ _ _ (by simp))).trans rfl; have d1 := ((hc (W.heap.size + 1 + 1) 1 (by simp)).trans (World.cell?_alloc_at _ _ _ _ (by simp))).trans rfl; have g0 := (hf (W.heap.size + 1 + 1) 0 (by simp)).trans (World.frozen?_alloc_at _ _ _ _ (by simp)); have g1 := (hf (W.heap.size + 1 + 1) 1 (by simp)).trans (World.frozen?_alloc_at _ _ _ _ (by simp)); clear h1 hb1 hc hf)
  refine bodyPost_ret (v := .tuple #[.agg #[.slice s1 s2 s3, .slice c1 c2 c3], .int .i64 r.2]) (by simp [results, Tryz.results192, go_sem, d0, d1]) rfl ⟨_, _, _, _, _, _, rfl, ?_, ?_⟩
  · exact (((unhide HA).set (fun h => h.2 rfl) 0 _).set (fun h => h.2 rfl) 1 _).imp (fun b h _ => h.1)
  · exact (((((Below.refl W.heap.size W).alloc (Nat.le_refl _) _).alloc (by simp) _).alloc (by simp <;> omega) _).trans ((unhide HB).mono (by simp <;> omega))).setCell (p := ⟨W.heap.size + 1 + 1, 0, none⟩) (by show W.heap.size ≤ W.heap.size + 1 + 1; omega) _ |>.setCell (p := ⟨W.heap.size + 1 + 1, 1, none⟩) (by show W.heap.size ≤ W.heap.size + 1 + 1; omega) _
theorem times_two : TwoC ⟨#[42]⟩ (pairP timesF) := ⟨fun w => (find_sign (t := ⟨#[42]⟩) (kl := .string [42]) (f := 192) (z := 1) (by kernel_rfl) (by kernel_rfl) (by kernel_rfl) w).mono (by rintro e w' ⟨rfl, hb⟩; exact ⟨192, #[], rfl, Tryz.enters192, hb, times_fn w'⟩), fun a b ha hb => pairP_ok times_rule.fits ha hb⟩

theorem Tryz.enters193 : Enters Tryz.prog 193 := Go.Proofs.enters_of Tryz.func193 (by decide) rfl
set_option maxHeartbeats 400000 in
theorem over_fn (w : World) : FnTwo 193 #[] w (pairP overF) := by
  intro W P u v a b _ hP ha hb hoa hob
  have HC := hide (fun W' (h : Below W.heap.size W W') (hs : W.heap.size + 2 < W'.heap.size) => pair_any overF 244 over_rule (fun b => P b ∧ b ≠ W.heap.size + 2) W' (fun b h' => ⟨hP b (by omega), by omega⟩) u v a b ((ha.imp (fun b hp hl => ⟨hp, by omega⟩)).below h) ((hb.imp (fun b hp hl => ⟨hp, by omega⟩)).below h) hoa hob)
  obtain ⟨so, sn, sc, co, cn, cc, rfl, ha1, ha2⟩ := ha
  obtain ⟨so2, sn2, sc2, co2, cn2, cc2, rfl, hb1, hb2⟩ := hb
  clear hP hoa hob ha1 ha2 hb1 hb2
  obtain ⟨r, hr⟩ : ∃ r, pairP overF a b = r := ⟨_, rfl⟩
  rw [hr] at HC ⊢
  clear hr
  go_enter Tryz.func193, Tryz.ntmps193
  go_wp2_with (go_at_call 240; refine (unhide HC _ ((((Below.refl W.heap.size W).alloc (Nat.le_refl _) _).alloc (by simp) _).alloc (by simp <;> omega) _) (by simp)).mono ?_; rintro e w1 ⟨s1, s2, s3, c1, c2, c3, rfl, h1, hb1⟩; have HA := hide h1; have HB := hide hb1; obtain ⟨hc, hf⟩ := bcell hb1; have d0 := ((hc (W.heap.size + 1 + 1) 0 (by simp)).trans (World.cell?_alloc_at _ _ _ _ (by simp))).trans rfl; have d1 := ((hc (W.heap.size + 1 + 1) 1 (by simp)).trans (World.cell?_alloc_at _ _ _ _ (by simp))).trans rfl; have g0 := (hf (W.heap.size + 1 + 1) 0 (by simp)).trans (World.frozen?_alloc_at _ _ _ _ (by simp)); have g1 := (hf (W.heap.size + 1 + 1) 1 (by simp)).trans (World.frozen?_alloc_at _ _ _ _ (by simp)); clear h1 hb1 hc hf)
  refine bodyPost_ret (v := .tuple #[.agg #[.slice s1 s2 s3, .slice c1 c2 c3], .int .i64 r.2]) (by simp [results, Tryz.results193, go_sem, d0, d1]) rfl ⟨_, _, _, _, _, _, rfl, ?_, ?_⟩
  · exact (((unhide HA).set (fun h => h.2 rfl) 0 _).set (fun h => h.2 rfl) 1 _).imp (fun b h _ => h.1)
  · exact (((((Below.refl W.heap.size W).alloc (Nat.le_refl _) _).alloc (by simp) _).alloc (by simp <;> omega) _).trans ((unhide HB).mono (by simp <;> omega))).setCell (p := ⟨W.heap.size + 1 + 1, 0, none⟩) (by show W.heap.size ≤ W.heap.size + 1 + 1; omega) _ |>.setCell (p := ⟨W.heap.size + 1 + 1, 1, none⟩) (by show W.heap.size ≤ W.heap.size + 1 + 1; omega) _
theorem over_two : TwoC ⟨#[37]⟩ (pairP overF) := ⟨fun w => (find_sign (t := ⟨#[37]⟩) (kl := .string [37]) (f := 193) (z := 1) (by kernel_rfl) (by kernel_rfl) (by kernel_rfl) w).mono (by rintro e w' ⟨rfl, hb⟩; exact ⟨193, #[], rfl, Tryz.enters193, hb, over_fn w'⟩), fun a b ha hb => pairP_ok over_rule.fits ha hb⟩

theorem Tryz.enters194 : Enters Tryz.prog 194 := Go.Proofs.enters_of Tryz.func194 (by decide) rfl
set_option maxHeartbeats 400000 in
theorem rest_fn (w : World) : FnTwo 194 #[] w (pairP restF) := by
  intro W P u v a b _ hP ha hb hoa hob
  have HC := hide (fun W' (h : Below W.heap.size W W') (hs : W.heap.size + 2 < W'.heap.size) => pair_any restF 245 rest_rule (fun b => P b ∧ b ≠ W.heap.size + 2) W' (fun b h' => ⟨hP b (by omega), by omega⟩) u v a b ((ha.imp (fun b hp hl => ⟨hp, by omega⟩)).below h) ((hb.imp (fun b hp hl => ⟨hp, by omega⟩)).below h) hoa hob)
  obtain ⟨so, sn, sc, co, cn, cc, rfl, ha1, ha2⟩ := ha
  obtain ⟨so2, sn2, sc2, co2, cn2, cc2, rfl, hb1, hb2⟩ := hb
  clear hP hoa hob ha1 ha2 hb1 hb2
  obtain ⟨r, hr⟩ : ∃ r, pairP restF a b = r := ⟨_, rfl⟩
  rw [hr] at HC ⊢
  clear hr
  go_enter Tryz.func194, Tryz.ntmps194
  go_wp2_with (go_at_call 240; refine (unhide HC _ ((((Below.refl W.heap.size W).alloc (Nat.le_refl _) _).alloc (by simp) _).alloc (by simp <;> omega) _) (by simp)).mono ?_; rintro e w1 ⟨s1, s2, s3, c1, c2, c3, rfl, h1, hb1⟩; have HA := hide h1; have HB := hide hb1; obtain ⟨hc, hf⟩ := bcell hb1; have d0 := ((hc (W.heap.size + 1 + 1) 0 (by simp)).trans (World.cell?_alloc_at _ _ _ _ (by simp))).trans rfl; have d1 := ((hc (W.heap.size + 1 + 1) 1 (by simp)).trans (World.cell?_alloc_at _ _ _ _ (by simp))).trans rfl; have g0 := (hf (W.heap.size + 1 + 1) 0 (by simp)).trans (World.frozen?_alloc_at _ _ _ _ (by simp)); have g1 := (hf (W.heap.size + 1 + 1) 1 (by simp)).trans (World.frozen?_alloc_at _ _ _ _ (by simp)); clear h1 hb1 hc hf)
  refine bodyPost_ret (v := .tuple #[.agg #[.slice s1 s2 s3, .slice c1 c2 c3], .int .i64 r.2]) (by simp [results, Tryz.results194, go_sem, d0, d1]) rfl ⟨_, _, _, _, _, _, rfl, ?_, ?_⟩
  · exact (((unhide HA).set (fun h => h.2 rfl) 0 _).set (fun h => h.2 rfl) 1 _).imp (fun b h _ => h.1)
  · exact (((((Below.refl W.heap.size W).alloc (Nat.le_refl _) _).alloc (by simp) _).alloc (by simp <;> omega) _).trans ((unhide HB).mono (by simp <;> omega))).setCell (p := ⟨W.heap.size + 1 + 1, 0, none⟩) (by show W.heap.size ≤ W.heap.size + 1 + 1; omega) _ |>.setCell (p := ⟨W.heap.size + 1 + 1, 1, none⟩) (by show W.heap.size ≤ W.heap.size + 1 + 1; omega) _
theorem rest_two : TwoC ⟨#[124]⟩ (pairP restF) := ⟨fun w => (find_sign (t := ⟨#[124]⟩) (kl := .string [124]) (f := 194) (z := 0) (by kernel_rfl) (by kernel_rfl) (by kernel_rfl) w).mono (by rintro e w' ⟨rfl, hb⟩; exact ⟨194, #[], rfl, Tryz.enters194, hb, rest_fn w'⟩), fun a b ha hb => pairP_ok rest_rule.fits ha hb⟩

theorem Tryz.enters195 : Enters Tryz.prog 195 := Go.Proofs.enters_of Tryz.func195 (by decide) rfl
set_option maxHeartbeats 400000 in
theorem lesser_fn (w : World) : FnTwo 195 #[] w (pairP lesserF) := by
  intro W P u v a b _ hP ha hb hoa hob
  have HC := hide (fun W' (h : Below W.heap.size W W') (hs : W.heap.size + 2 < W'.heap.size) => pair_any lesserF 246 lesser_rule (fun b => P b ∧ b ≠ W.heap.size + 2) W' (fun b h' => ⟨hP b (by omega), by omega⟩) u v a b ((ha.imp (fun b hp hl => ⟨hp, by omega⟩)).below h) ((hb.imp (fun b hp hl => ⟨hp, by omega⟩)).below h) hoa hob)
  obtain ⟨so, sn, sc, co, cn, cc, rfl, ha1, ha2⟩ := ha
  obtain ⟨so2, sn2, sc2, co2, cn2, cc2, rfl, hb1, hb2⟩ := hb
  clear hP hoa hob ha1 ha2 hb1 hb2
  obtain ⟨r, hr⟩ : ∃ r, pairP lesserF a b = r := ⟨_, rfl⟩
  rw [hr] at HC ⊢
  clear hr
  go_enter Tryz.func195, Tryz.ntmps195
  go_wp2_with (go_at_call 240; refine (unhide HC _ ((((Below.refl W.heap.size W).alloc (Nat.le_refl _) _).alloc (by simp) _).alloc (by simp <;> omega) _) (by simp)).mono ?_; rintro e w1 ⟨s1, s2, s3, c1, c2, c3, rfl, h1, hb1⟩; have HA := hide h1; have HB := hide hb1; obtain ⟨hc, hf⟩ := bcell hb1; have d0 := ((hc (W.heap.size + 1 + 1) 0 (by simp)).trans (World.cell?_alloc_at _ _ _ _ (by simp))).trans rfl; have d1 := ((hc (W.heap.size + 1 + 1) 1 (by simp)).trans (World.cell?_alloc_at _ _ _ _ (by simp))).trans rfl; have g0 := (hf (W.heap.size + 1 + 1) 0 (by simp)).trans (World.frozen?_alloc_at _ _ _ _ (by simp)); have g1 := (hf (W.heap.size + 1 + 1) 1 (by simp)).trans (World.frozen?_alloc_at _ _ _ _ (by simp)); clear h1 hb1 hc hf)
  refine bodyPost_ret (v := .tuple #[.agg #[.slice s1 s2 s3, .slice c1 c2 c3], .int .i64 r.2]) (by simp [results, Tryz.results195, go_sem, d0, d1]) rfl ⟨_, _, _, _, _, _, rfl, ?_, ?_⟩
  · exact (((unhide HA).set (fun h => h.2 rfl) 0 _).set (fun h => h.2 rfl) 1 _).imp (fun b h _ => h.1)
  · exact (((((Below.refl W.heap.size W).alloc (Nat.le_refl _) _).alloc (by simp) _).alloc (by simp <;> omega) _).trans ((unhide HB).mono (by simp <;> omega))).setCell (p := ⟨W.heap.size + 1 + 1, 0, none⟩) (by show W.heap.size ≤ W.heap.size + 1 + 1; omega) _ |>.setCell (p := ⟨W.heap.size + 1 + 1, 1, none⟩) (by show W.heap.size ≤ W.heap.size + 1 + 1; omega) _
theorem lesser_two : TwoC ⟨#[38]⟩ (pairP lesserF) := ⟨fun w => (find_sign (t := ⟨#[38]⟩) (kl := .string [38]) (f := 195) (z := 9223372036854775807) (by kernel_rfl) (by kernel_rfl) (by kernel_rfl) w).mono (by rintro e w' ⟨rfl, hb⟩; exact ⟨195, #[], rfl, Tryz.enters195, hb, lesser_fn w'⟩), fun a b ha hb => pairP_ok lesser_rule.fits ha hb⟩

theorem Tryz.enters196 : Enters Tryz.prog 196 := Go.Proofs.enters_of Tryz.func196 (by decide) rfl
set_option maxHeartbeats 400000 in
theorem greater_fn (w : World) : FnTwo 196 #[] w (pairP greaterF) := by
  intro W P u v a b _ hP ha hb hoa hob
  have HC := hide (fun W' (h : Below W.heap.size W W') (hs : W.heap.size + 2 < W'.heap.size) => pair_any greaterF 247 greater_rule (fun b => P b ∧ b ≠ W.heap.size + 2) W' (fun b h' => ⟨hP b (by omega), by omega⟩) u v a b ((ha.imp (fun b hp hl => ⟨hp, by omega⟩)).below h) ((hb.imp (fun b hp hl => ⟨hp, by omega⟩)).below h) hoa hob)
  obtain ⟨so, sn, sc, co, cn, cc, rfl, ha1, ha2⟩ := ha
  obtain ⟨so2, sn2, sc2, co2, cn2, cc2, rfl, hb1, hb2⟩ := hb
  clear hP hoa hob ha1 ha2 hb1 hb2
  obtain ⟨r, hr⟩ : ∃ r, pairP greaterF a b = r := ⟨_, rfl⟩
  rw [hr] at HC ⊢
  clear hr
  go_enter Tryz.func196, Tryz.ntmps196
  go_wp2_with (go_at_call 240; refine (unhide HC _ ((((Below.refl W.heap.size W).alloc (Nat.le_refl _) _).alloc (by simp) _).alloc (by simp <;> omega) _) (by simp)).mono ?_; rintro e w1 ⟨s1, s2, s3, c1, c2, c3, rfl, h1, hb1⟩; have HA := hide h1; have HB := hide hb1; obtain ⟨hc, hf⟩ := bcell hb1; have d0 := ((hc (W.heap.size + 1 + 1) 0 (by simp)).trans (World.cell?_alloc_at _ _ _ _ (by simp))).trans rfl; have d1 := ((hc (W.heap.size + 1 + 1) 1 (by simp)).trans (World.cell?_alloc_at _ _ _ _ (by simp))).trans rfl; have g0 := (hf (W.heap.size + 1 + 1) 0 (by simp)).trans (World.frozen?_alloc_at _ _ _ _ (by simp)); have g1 := (hf (W.heap.size + 1 + 1) 1 (by simp)).trans (World.frozen?_alloc_at _ _ _ _ (by simp)); clear h1 hb1 hc hf)
  refine bodyPost_ret (v := .tuple #[.agg #[.slice s1 s2 s3, .slice c1 c2 c3], .int .i64 r.2]) (by simp [results, Tryz.results196, go_sem, d0, d1]) rfl ⟨_, _, _, _, _, _, rfl, ?_, ?_⟩
  · exact (((unhide HA).set (fun h => h.2 rfl) 0 _).set (fun h => h.2 rfl) 1 _).imp (fun b h _ => h.1)
  · exact (((((Below.refl W.heap.size W).alloc (Nat.le_refl _) _).alloc (by simp) _).alloc (by simp <;> omega) _).trans ((unhide HB).mono (by simp <;> omega))).setCell (p := ⟨W.heap.size + 1 + 1, 0, none⟩) (by show W.heap.size ≤ W.heap.size + 1 + 1; omega) _ |>.setCell (p := ⟨W.heap.size + 1 + 1, 1, none⟩) (by show W.heap.size ≤ W.heap.size + 1 + 1; omega) _
theorem greater_two : TwoC ⟨#[33]⟩ (pairP greaterF) := ⟨fun w => (find_sign (t := ⟨#[33]⟩) (kl := .string [33]) (f := 196) (z := -9223372036854775808) (by kernel_rfl) (by kernel_rfl) (by kernel_rfl) w).mono (by rintro e w' ⟨rfl, hb⟩; exact ⟨196, #[], rfl, Tryz.enters196, hb, greater_fn w'⟩), fun a b ha hb => pairP_ok greater_rule.fits ha hb⟩

theorem Tryz.enters197 : Enters Tryz.prog 197 := Go.Proofs.enters_of Tryz.func197 (by decide) rfl
set_option maxHeartbeats 400000 in
theorem same_fn (w : World) : FnTwo 197 #[] w (pairP sameF) := by
  intro W P u v a b _ hP ha hb hoa hob
  have HC := hide (fun W' (h : Below W.heap.size W W') (hs : W.heap.size + 2 < W'.heap.size) => pair_any sameF 248 same_rule (fun b => P b ∧ b ≠ W.heap.size + 2) W' (fun b h' => ⟨hP b (by omega), by omega⟩) u v a b ((ha.imp (fun b hp hl => ⟨hp, by omega⟩)).below h) ((hb.imp (fun b hp hl => ⟨hp, by omega⟩)).below h) hoa hob)
  obtain ⟨so, sn, sc, co, cn, cc, rfl, ha1, ha2⟩ := ha
  obtain ⟨so2, sn2, sc2, co2, cn2, cc2, rfl, hb1, hb2⟩ := hb
  clear hP hoa hob ha1 ha2 hb1 hb2
  obtain ⟨r, hr⟩ : ∃ r, pairP sameF a b = r := ⟨_, rfl⟩
  rw [hr] at HC ⊢
  clear hr
  go_enter Tryz.func197, Tryz.ntmps197
  go_wp2_with (go_at_call 240; refine (unhide HC _ ((((Below.refl W.heap.size W).alloc (Nat.le_refl _) _).alloc (by simp) _).alloc (by simp <;> omega) _) (by simp)).mono ?_; rintro e w1 ⟨s1, s2, s3, c1, c2, c3, rfl, h1, hb1⟩; have HA := hide h1; have HB := hide hb1; obtain ⟨hc, hf⟩ := bcell hb1; have d0 := ((hc (W.heap.size + 1 + 1) 0 (by simp)).trans (World.cell?_alloc_at _ _ _ _ (by simp))).trans rfl; have d1 := ((hc (W.heap.size + 1 + 1) 1 (by simp)).trans (World.cell?_alloc_at _ _ _ _ (by simp))).trans rfl; have g0 := (hf (W.heap.size + 1 + 1) 0 (by simp)).trans (World.frozen?_alloc_at _ _ _ _ (by simp)); have g1 := (hf (W.heap.size + 1 + 1) 1 (by simp)).trans (World.frozen?_alloc_at _ _ _ _ (by simp)); clear h1 hb1 hc hf)
  refine bodyPost_ret (v := .tuple #[.agg #[.slice s1 s2 s3, .slice c1 c2 c3], .int .i64 r.2]) (by simp [results, Tryz.results197, go_sem, d0, d1]) rfl ⟨_, _, _, _, _, _, rfl, ?_, ?_⟩
  · exact (((unhide HA).set (fun h => h.2 rfl) 0 _).set (fun h => h.2 rfl) 1 _).imp (fun b h _ => h.1)
  · exact (((((Below.refl W.heap.size W).alloc (Nat.le_refl _) _).alloc (by simp) _).alloc (by simp <;> omega) _).trans ((unhide HB).mono (by simp <;> omega))).setCell (p := ⟨W.heap.size + 1 + 1, 0, none⟩) (by show W.heap.size ≤ W.heap.size + 1 + 1; omega) _ |>.setCell (p := ⟨W.heap.size + 1 + 1, 1, none⟩) (by show W.heap.size ≤ W.heap.size + 1 + 1; omega) _
theorem same_two : TwoC ⟨#[61]⟩ (pairP sameF) := ⟨fun w => (find_sign (t := ⟨#[61]⟩) (kl := .string [61]) (f := 197) (z := 1) (by kernel_rfl) (by kernel_rfl) (by kernel_rfl) w).mono (by rintro e w' ⟨rfl, hb⟩; exact ⟨197, #[], rfl, Tryz.enters197, hb, same_fn w'⟩), fun a b ha hb => pairP_ok same_rule.fits ha hb⟩

theorem Tryz.enters198 : Enters Tryz.prog 198 := Go.Proofs.enters_of Tryz.func198 (by decide) rfl
set_option maxHeartbeats 400000 in
theorem below_fn (w : World) : FnTwo 198 #[] w (pairP belowF) := by
  intro W P u v a b _ hP ha hb hoa hob
  have HC := hide (fun W' (h : Below W.heap.size W W') (hs : W.heap.size + 2 < W'.heap.size) => pair_any belowF 249 below_rule (fun b => P b ∧ b ≠ W.heap.size + 2) W' (fun b h' => ⟨hP b (by omega), by omega⟩) u v a b ((ha.imp (fun b hp hl => ⟨hp, by omega⟩)).below h) ((hb.imp (fun b hp hl => ⟨hp, by omega⟩)).below h) hoa hob)
  obtain ⟨so, sn, sc, co, cn, cc, rfl, ha1, ha2⟩ := ha
  obtain ⟨so2, sn2, sc2, co2, cn2, cc2, rfl, hb1, hb2⟩ := hb
  clear hP hoa hob ha1 ha2 hb1 hb2
  obtain ⟨r, hr⟩ : ∃ r, pairP belowF a b = r := ⟨_, rfl⟩
  rw [hr] at HC ⊢
  clear hr
  go_enter Tryz.func198, Tryz.ntmps198
  go_wp2_with (go_at_call 240; refine (unhide HC _ ((((Below.refl W.heap.size W).alloc (Nat.le_refl _) _).alloc (by simp) _).alloc (by simp <;> omega) _) (by simp)).mono ?_; rintro e w1 ⟨s1, s2, s3, c1, c2, c3, rfl, h1, hb1⟩; have HA := hide h1; have HB := hide hb1; obtain ⟨hc, hf⟩ := bcell hb1; have d0 := ((hc (W.heap.size + 1 + 1) 0 (by simp)).trans (World.cell?_alloc_at _ _ _ _ (by simp))).trans rfl; have d1 := ((hc (W.heap.size + 1 + 1) 1 (by simp)).trans (World.cell?_alloc_at _ _ _ _ (by simp))).trans rfl; have g0 := (hf (W.heap.size + 1 + 1) 0 (by simp)).trans (World.frozen?_alloc_at _ _ _ _ (by simp)); have g1 := (hf (W.heap.size + 1 + 1) 1 (by simp)).trans (World.frozen?_alloc_at _ _ _ _ (by simp)); clear h1 hb1 hc hf)
  refine bodyPost_ret (v := .tuple #[.agg #[.slice s1 s2 s3, .slice c1 c2 c3], .int .i64 r.2]) (by simp [results, Tryz.results198, go_sem, d0, d1]) rfl ⟨_, _, _, _, _, _, rfl, ?_, ?_⟩
  · exact (((unhide HA).set (fun h => h.2 rfl) 0 _).set (fun h => h.2 rfl) 1 _).imp (fun b h _ => h.1)
  · exact (((((Below.refl W.heap.size W).alloc (Nat.le_refl _) _).alloc (by simp) _).alloc (by simp <;> omega) _).trans ((unhide HB).mono (by simp <;> omega))).setCell (p := ⟨W.heap.size + 1 + 1, 0, none⟩) (by show W.heap.size ≤ W.heap.size + 1 + 1; omega) _ |>.setCell (p := ⟨W.heap.size + 1 + 1, 1, none⟩) (by show W.heap.size ≤ W.heap.size + 1 + 1; omega) _
theorem below_two : TwoC ⟨#[60]⟩ (pairP belowF) := ⟨fun w => (find_sign (t := ⟨#[60]⟩) (kl := .string [60]) (f := 198) (z := 0) (by kernel_rfl) (by kernel_rfl) (by kernel_rfl) w).mono (by rintro e w' ⟨rfl, hb⟩; exact ⟨198, #[], rfl, Tryz.enters198, hb, below_fn w'⟩), fun a b ha hb => pairP_ok below_rule.fits ha hb⟩

end Go.Proofs.YtjobgpahajhbnaaGreatDoor
namespace Go.Proofs.YtjobgpahajhbnaaGreatDoor
open Go.RowKit Go.Proofs
attribute [local go_sem ↓] Go.wp_at_zero Go.wp_at_succ

set_option maxHeartbeats 400000 in
theorem pick_any (c n : Int) (hc : fit64 c) (hn : 0 < n) (w : World) : Calls Tryz.prog 25 #[.int .i64 c, .int .i64 n] w fun e w' => (∃ r, e = .returned (.int .i64 r) ∧ 0 ≤ r ∧ r < n) ∧ w' = w := by
  unfold fit64 at hc
  have hn0 : (n == 0) = false := by simp; omega
  by_cases h0 : c < 0
  · have e1 : wrap64 (c + 1) = c + 1 := by unfold wrap64; omega
    have e2 : wrap64 (-(c + 1)) = -(c + 1) := by unfold wrap64; omega
    have HM := hide (show 0 ≤ (-(c + 1)).tmod n ∧ (-(c + 1)).tmod n < n by
      rw [Int.tmod_eq_emod_of_nonneg (by omega)]
      exact ⟨Int.emod_nonneg _ (by omega), Int.emod_lt_of_pos _ hn⟩)
    go_enter Tryz.func25, Tryz.ntmps25
    go_wp2
    exact bodyPost_ret (v := .int .i64 (-((c + 1).tmod n))) (by simp [results, Tryz.results25, go_sem]) rfl ⟨⟨_, rfl, by have := unhide HM; rw [Int.neg_tmod] at this; exact this⟩, rfl⟩
  · have HM := hide (show 0 ≤ c.tmod n ∧ c.tmod n < n by
      rw [Int.tmod_eq_emod_of_nonneg (by omega)]
      exact ⟨Int.emod_nonneg _ (by omega), Int.emod_lt_of_pos _ hn⟩)
    go_enter Tryz.func25, Tryz.ntmps25
    go_wp2
    exact bodyPost_ret (v := .int .i64 (c % n)) (by simp [results, Tryz.results25, go_sem]) rfl ⟨⟨_, rfl, Int.emod_nonneg _ (by omega), Int.emod_lt_of_pos _ hn⟩, rfl⟩
end Go.Proofs.YtjobgpahajhbnaaGreatDoor
