import Derived.Test.YtjobgpahajhbnaaGreatDoorUa
import Derived.Test.YtjobgpahajhbnaaGreatDoorTb
import Derived.Lib.LaidTab
import Derived.Lib.AppendIntMem
namespace Go.Proofs.YtjobgpahajhbnaaGreatDoor
open Go.RowKit

/-- what a SIGN makes of two cells -/
def sgF (sg : UInt8) : Int → Int → Int × Int :=
  if sg = 43 then plusF else if sg = 45 then minusF else if sg = 42 then timesF else if sg = 37 then overF else if sg = 124 then restF else if sg = 38 then lesserF else if sg = 33 then greaterF else if sg = 61 then sameF else belowF
theorem sg_two {sg : UInt8} (h : gU sg = true) : TwoC ⟨#[sg]⟩ (pairP (sgF sg)) := by
  have hm := (sgn_mem sg).1 h
  simp at hm
  rcases hm with rfl | rfl | rfl | rfl | rfl | rfl | rfl | rfl | rfl
  · exact plus_two
  · exact minus_two
  · exact times_two
  · exact over_two
  · exact rest_two
  · exact lesser_two
  · exact greater_two
  · exact same_two
  · exact below_two
def Gr.val : Gr → Int
  | .lit n => n
  | .br g => g.val
  | .two sg l r => (sgF sg l.val r.val).1
/-- nothing fails in it -/
def Gr.fine : Gr → Prop
  | .lit n => fit64 n
  | .br g => g.fine
  | .two sg l r => gU sg = true ∧ l.fine ∧ r.fine ∧ (sgF sg l.val r.val).2 = 0
def Gr.cost : Gr → Nat
  | .lit _ => 0
  | .br g => g.cost
  | .two _ l r => r.cost + l.cost + 2
theorem pair_scalars {f : Int → Int → Int × Int} {x y : Int} (h : (f x y).2 = 0) : pairP f ⟨[], [x]⟩ ⟨[], [y]⟩ = (⟨[], [(f x y).1]⟩, 0) := by
  simp [pairP, zipA, zipF, h]
theorem gr_eval {env : ByteArray → Option Arr} {fuel : Int} {f1 : ByteArray → Arr → Arr × Int} {f2 : ByteArray → Arr → Arr → Arr × Int} (hf : ∀ sg, gU sg = true → f2 ⟨#[sg]⟩ = pairP (sgF sg)) :
    ∀ (g : Gr) (x : Ex) (c : Nat), IsG g x → g.fine → ((c + g.cost : Nat) : Int) ≤ fuel → Good f1 f2 x ∧ evalE env fuel f1 f2 x c = .inr (⟨[], [g.val]⟩, c + g.cost)
  | .lit n, .num ws, c, hi, hfine, hc => by
    simp only [IsG] at hi
    subst hi
    exact ⟨⟨by simp, by simp, by intro c hc; simp at hc; subst hc; exact hfine⟩, rfl⟩
  | .br g, x, c, hi, hfine, hc => gr_eval (env := env) (fuel := fuel) hf g x c (by simpa [IsG] using hi) hfine hc
  | .two sg l r, .two t p a b, c, hi, hfine, hc => by
    obtain ⟨rfl, hl, hr⟩ := hi
    obtain ⟨hg, fl, fr, h0⟩ := hfine
    simp only [Gr.cost] at hc
    obtain ⟨g1, e1⟩ := gr_eval (env := env) (fuel := fuel) (f1 := f1) hf r b c hr fr (by omega)
    obtain ⟨g2, e2⟩ := gr_eval (env := env) (fuel := fuel) (f1 := f1) hf l a (c + r.cost) hl fl (by omega)
    refine ⟨⟨by rw [hf sg hg]; exact sg_two hg, g2, g1⟩, ?_⟩
    simp only [evalE, e1, e2]
    rw [hf sg hg, pair_scalars h0]
    unfold payP
    simp only [List.length_cons, List.length_nil]
    rw [if_neg (by simp), if_neg (by omega)]
    simp [Gr.val, Gr.cost]
    omega
end Go.Proofs.YtjobgpahajhbnaaGreatDoor
namespace Go.Proofs.YtjobgpahajhbnaaGreatDoor
open Go.RowKit

/-- the same text, but for how many blanks stand where one stood -/
inductive Od : List UInt8 → List UInt8 → Prop where
  | nil : Od [] []
  | cons (c : UInt8) (l m : List UInt8) : c ≠ 32 → Od l m → Od (c :: l) (c :: m)
  | blank (k : Nat) (l m : List UInt8) : Od l m → Od (32 :: l) (List.replicate k 32 ++ m)
theorem Od.split : ∀ {a b t : List UInt8}, Od (a ++ b) t → ∃ a' b', t = a' ++ b' ∧ Od a a' ∧ Od b b'
  | [], b, t, h => ⟨[], t, rfl, Od.nil, h⟩
  | c :: a, b, t, h => by
    cases h with
    | cons _ _ m hc h =>
      obtain ⟨a', b', rfl, h1, h2⟩ := Od.split h
      exact ⟨c :: a', b', rfl, Od.cons c a a' hc h1, h2⟩
    | blank k _ m h =>
      obtain ⟨a', b', rfl, h1, h2⟩ := Od.split h
      exact ⟨List.replicate k 32 ++ a', b', by rw [List.append_assoc], Od.blank k a a' h1, h2⟩
theorem Od.same : ∀ {a t : List UInt8}, Od a t → (∀ c ∈ a, c ≠ 32) → t = a
  | _, _, .nil, _ => rfl
  | _, _, .cons c l m hc h, hn => by rw [Od.same h (fun d hd => hn d (by simp [hd]))]
  | _, _, .blank k l m h, hn => absurd rfl (hn 32 (by simp))
theorem Od.blanks : ∀ {i : Nat} {t : List UInt8}, Od (List.replicate i 32) t → ∃ j, t = List.replicate j 32
  | 0, t, h => by cases h; exact ⟨0, rfl⟩
  | i + 1, t, h => by
    rw [List.replicate_succ] at h
    cases h with
    | cons _ _ _ hc _ => exact absurd rfl hc
    | blank k _ m h =>
      obtain ⟨j, rfl⟩ := Od.blanks h
      exact ⟨k + j, by rw [List.replicate_append_replicate]⟩
theorem nm_solid {n : Int} {t : List UInt8} (h : Nm n t) : ∀ c ∈ t, c ≠ 32 ∧ c ≠ 45 ∧ c ≠ 42 := by
  have key : ∀ c : UInt8, dU c = true → c ≠ 32 ∧ c ≠ 45 ∧ c ≠ 42 := by
    intro c h
    refine ⟨?_, ?_, ?_⟩ <;> (rintro rfl; exact absurd h (by decide))
  cases h with
  | pos _ a b c d => intro x hx; exact key x (List.all_eq_true.1 a x hx)
  | neg D a b c d =>
    intro x hx
    rcases List.mem_cons.1 hx with rfl | hx
    · decide
    · exact key x (List.all_eq_true.1 a x hx)
theorem tx_od {b : Bool} {g : Gr} {t : List UInt8} (h : Tx b g t) : ∀ {t' : List UInt8}, Od t t' → Tx b g t' := by
  induction h with
  | lit n t hn =>
    intro t' ho
    rw [Od.same ho (fun c hc => (nm_solid hn c hc).1)]
    exact Tx.lit n t hn
  | br g t h ih =>
    intro t' ho
    cases ho with
    | cons _ _ m hc ho =>
      obtain ⟨a', b', rfl, h1, h2⟩ := Od.split ho
      have := Od.same h2 (by intro c hc; simp at hc; subst hc; decide)
      subst this
      exact Tx.br g a' (ih h1)
  | only g t h ih => intro t' ho; exact Tx.only g t' (ih ho)
  | two sg l r a b i k hg h1 h2 ih1 ih2 =>
    intro t' ho
    obtain ⟨a', u, rfl, o1, o2⟩ := Od.split ho
    obtain ⟨v, u, rfl, o3, o4⟩ := Od.split o2
    obtain ⟨i', rfl⟩ := Od.blanks o3
    cases o4 with
    | cons _ _ m hc o4 =>
      obtain ⟨v, b', rfl, o5, o6⟩ := Od.split o4
      obtain ⟨k', rfl⟩ := Od.blanks o5
      exact Tx.two sg l r a' b' i' k' hg (ih1 o1) (ih2 o6)
    | blank _ _ _ _ => exact absurd hg (by decide)
/-- only minus and times -/
def Gr.mt : Gr → Prop
  | .lit _ => True
  | .br g => g.mt
  | .two sg l r => (sg = 45 ∨ sg = 42) ∧ l.mt ∧ r.mt
def cnt (t : List UInt8) : Nat := t.countP fun c => c == 45 || c == 42
theorem cnt_solid {t : List UInt8} (h : ∀ c ∈ t, c ≠ 45 ∧ c ≠ 42) : cnt t = 0 := by
  unfold cnt
  rw [List.countP_eq_zero]
  intro c hc
  have := h c hc
  simp [this.1, this.2]
theorem cnt_app (a b : List UInt8) : cnt (a ++ b) = cnt a + cnt b := by simp [cnt]
theorem cnt_blanks (k : Nat) : cnt (List.replicate k 32) = 0 := cnt_solid (by intro c hc; rw [(List.mem_replicate.1 hc).2]; decide)
theorem cnt_cons (c : UInt8) (l : List UInt8) : cnt (c :: l) = cnt l + if (c == 45 || c == 42) = true then 1 else 0 := by simp [cnt, List.countP_cons]
theorem tx_cost {b : Bool} {g : Gr} {t : List UInt8} (h : Tx b g t) : g.mt → g.cost = 2 * cnt t := by
  induction h with
  | lit n t hn => intro _; rw [cnt_solid (fun c hc => (nm_solid hn c hc).2)]; rfl
  | br g t h ih =>
    intro hm
    have := ih hm
    rw [cnt_cons, cnt_app, cnt_cons, if_neg (by decide), if_neg (by decide)]
    simp only [Gr.cost, cnt, List.countP_nil] at this ⊢
    omega
  | only g t h ih => exact ih
  | two sg l r a b i k hg h1 h2 ih1 ih2 =>
    intro hm
    obtain ⟨hs, hl, hr⟩ := hm
    have e1 := ih1 hl
    have e2 := ih2 hr
    have e3 : (sg == 45 || sg == 42) = true := by rcases hs with rfl | rfl <;> decide
    rw [cnt_app, cnt_app, cnt_cons, cnt_app, cnt_blanks, cnt_blanks, if_pos e3]
    simp only [Gr.cost]
    omega
end Go.Proofs.YtjobgpahajhbnaaGreatDoor
namespace Go.Proofs.YtjobgpahajhbnaaGreatDoor
open Go.RowKit Go.Proofs
attribute [local go_sem ↓] Go.wp_at_zero Go.wp_at_succ

set_option maxHeartbeats 400000 in
theorem pick_any (c n : Int) (hc : fit64 c) (hn : 0 < n) (w : World) : Calls Tryz.prog 25 #[.int .i64 c, .int .i64 n] w fun e w' => (∃ r, e = .returned (.int .i64 r) ∧ 0 ≤ r ∧ r < n) ∧ w' = w := by
  unfold fit64 at hc
  have hn0 : (n == 0) = false := by simp; omega
  by_cases h0 : c < 0
  · have e1 : wrap64 (c + 1) = c + 1 := by unfold wrap64; omega
    have e2 : wrap64 (-(c + 1)) = -(c + 1) := by unfold wrap64; omega
    have HM := hide (show 0 ≤ (-(c + 1)).tmod n ∧ (-(c + 1)).tmod n < n by
      rw [Int.tmod_eq_emod_of_nonneg (by omega)]
      exact ⟨Int.emod_nonneg _ (by omega), Int.emod_lt_of_pos _ hn⟩)
    go_enter Tryz.func25, Tryz.ntmps25
    go_wp2
    exact bodyPost_ret (v := .int .i64 (-((c + 1).tmod n))) (by simp [results, Tryz.results25, go_sem]) rfl ⟨⟨_, rfl, by have := unhide HM; rw [Int.neg_tmod] at this; exact this⟩, rfl⟩
  · have HM := hide (show 0 ≤ c.tmod n ∧ c.tmod n < n by
      rw [Int.tmod_eq_emod_of_nonneg (by omega)]
      exact ⟨Int.emod_nonneg _ (by omega), Int.emod_lt_of_pos _ hn⟩)
    go_enter Tryz.func25, Tryz.ntmps25
    go_wp2
    exact bodyPost_ret (v := .int .i64 (c % n)) (by simp [results, Tryz.results25, go_sem]) rfl ⟨⟨_, rfl, Int.emod_nonneg _ (by omega), Int.emod_lt_of_pos _ hn⟩, rfl⟩
theorem dec_all : ((List.range 100).all fun i => (Lib.decDigits i).all dU && decide (1 ≤ (Lib.decDigits i).length ∧ (Lib.decDigits i).length ≤ 2) && val (Lib.decDigits i) == i) = true := by kernel_rfl
theorem dec_nm {i : Nat} (h : i < 100) : (Lib.decDigits i).all dU = true ∧ 1 ≤ (Lib.decDigits i).length ∧ (Lib.decDigits i).length ≤ 2 ∧ val (Lib.decDigits i) = i := by
  have := List.all_eq_true.1 dec_all i (List.mem_range.2 h)
  simp only [Bool.and_eq_true, decide_eq_true_eq, beq_iff_eq] at this
  exact ⟨this.1.1, this.1.2.1, this.1.2.2, this.2⟩
set_option maxHeartbeats 400000 in
theorem num_any (n : Int) (h : -100 < n ∧ n < 100) (w : World) : Calls Tryz.prog 26 #[.int .i64 n] w fun e w' => (∃ t, e = .returned (.string ⟨List.toArray t⟩) ∧ Nm n t ∧ t.length ≤ 3) ∧ w' = w := by
  by_cases h0 : n < 0
  · obtain ⟨i, rfl⟩ : ∃ i : Nat, n = -(i : Int) := ⟨n.natAbs, by omega⟩
    have hi : i < 100 := by omega
    obtain ⟨d1, d2, d3, d4⟩ := dec_nm hi
    have e1 : wrap64 (-(-(i : Int))) = i := by unfold wrap64; omega
    go_enter Tryz.func26, Tryz.ntmps26
    go_wp2_with (go_at_call 39; refine (Tryz.strconv_FormatInt_10_small i hi _).mono ?_; rintro e w' ⟨rfl, rfl⟩)
    refine bodyPost_ret (v := .string ⟨(95 :: Lib.decDigits i).toArray⟩) (by simp [results, Tryz.results26, go_sem]; apply ba_ext; simp) rfl ⟨⟨_, rfl, ?_, by simp; omega⟩, rfl⟩
    have := Nm.neg _ d1 d2 (by omega) (by omega)
    rwa [d4] at this
  · obtain ⟨i, rfl⟩ : ∃ i : Nat, n = (i : Int) := ⟨n.natAbs, by omega⟩
    have hi : i < 100 := by omega
    obtain ⟨d1, d2, d3, d4⟩ := dec_nm hi
    go_enter Tryz.func26, Tryz.ntmps26
    go_wp2_with (go_at_call 39; refine (Tryz.strconv_FormatInt_10_small i hi _).mono ?_; rintro e w' ⟨rfl, rfl⟩)
    refine bodyPost_ret (v := .string ⟨(Lib.decDigits i).toArray⟩) (by simp [results, Tryz.results26, go_sem]) rfl ⟨⟨_, rfl, ?_, by omega⟩, rfl⟩
    have := Nm.pos _ d1 d2 (by omega) (by omega)
    rwa [d4] at this
end Go.Proofs.YtjobgpahajhbnaaGreatDoor
namespace Go.Proofs.YtjobgpahajhbnaaGreatDoor
open Go.RowKit Go.Proofs
attribute [local go_sem ↓] Go.wp_at_zero Go.wp_at_succ

theorem dig_of {k : Nat} (h : k < 10) : dU (UInt8.ofNat (48 + k)) = true ∧ (UInt8.ofNat (48 + k)).toNat - 48 = k := by
  have : ∀ k : Fin 10, dU (UInt8.ofNat (48 + k.val)) = true ∧ (UInt8.ofNat (48 + k.val)).toNat - 48 = k.val := by decide
  exact this ⟨k, h⟩
theorem dec_facts : ∀ (m u : Nat), u < 10 ^ m → 1 ≤ m → (Lib.decDigits u).all dU = true ∧ 1 ≤ (Lib.decDigits u).length ∧ (Lib.decDigits u).length ≤ m ∧ val (Lib.decDigits u) = u
  | 0, u, _, h => absurd h (by omega)
  | m + 1, u, hu, _ => by
    rw [Lib.decDigits]
    by_cases h : u < 10
    · rw [dif_pos h]
      obtain ⟨h1, h2⟩ := dig_of h
      exact ⟨by rw [List.all_cons, h1]; rfl, by simp, by simp, by simpa [val] using h2⟩
    · rw [dif_neg h]
      have hm : 1 ≤ m := by
        cases m with
        | zero => simp at hu; omega
        | succ m => omega
      have hq : u / 10 < 10 ^ m := by rw [Nat.pow_succ] at hu; omega
      obtain ⟨a1, a2, a3, a4⟩ := dec_facts m (u / 10) hq hm
      obtain ⟨h1, h2⟩ := dig_of (k := u % 10) (by omega)
      refine ⟨by rw [List.all_append, a1, List.all_cons, h1]; rfl, by simp, by simp; omega, ?_⟩
      rw [val_snoc, a4, h2]
      omega
theorem nm_dec {u : Nat} (h : u ≤ 9223372036854775807) : Nm (u : Int) (Lib.decDigits u) ∧ Nm (-(u : Int)) (95 :: Lib.decDigits u) ∧ (Lib.decDigits u).length ≤ 19 := by
  have ht : (10 : Nat) ^ 19 = 10000000000000000000 := by decide
  obtain ⟨a1, a2, a3, a4⟩ := dec_facts 19 u (by rw [ht]; omega) (by decide)
  have p := Nm.pos _ a1 a2 a3 (by omega)
  have n := Nm.neg _ a1 a2 a3 (by omega)
  rw [a4] at p n
  exact ⟨p, n, a3⟩
/-- the table that FormatInt reads is as it was laid -/
def Tab (w : World) : Prop := Lib.TabIs Tryz.prog w "internal/strconv.uint64pow10" .u64 Lib.pow10Tab
theorem Tab.below {w w' : World} (h : Tab w) (hb : Below w.heap.size w w') : Tab w' := Lib.tabBelow_of_tabIs h w' hb
set_option maxHeartbeats 400000 in
theorem num_all (n : Int) (h : -9223372036854775807 ≤ n ∧ n ≤ 9223372036854775807) (w : World) (hT : Tab w) : Calls Tryz.prog 26 #[.int .i64 n] w fun e w' => (∃ t, e = .returned (.string ⟨List.toArray t⟩) ∧ Nm n t ∧ t.length ≤ 20) ∧ Below w.heap.size w w' := by
  have HT := hide hT
  clear hT
  by_cases h0 : n < 0
  · obtain ⟨i, rfl⟩ : ∃ i : Nat, n = -(i : Int) := ⟨n.natAbs, by omega⟩
    have hi : i ≤ 9223372036854775807 := by omega
    obtain ⟨_, d1, d2⟩ := nm_dec hi
    have e1 : wrap64 (-(-(i : Int))) = i := by unfold wrap64; omega
    have HD := hide d1
    clear d1
    go_enter Tryz.func26, Tryz.ntmps26
    go_wp2_with (go_at_call 39; refine (Tryz.strconv_FormatInt_10 i (by omega) (by omega) _ (unhide HT)).mono ?_; rintro e w' ⟨rfl, k, os, rfl⟩; rw [Lib.itoa_nonneg])
    refine bodyPost_ret (v := .string ⟨(95 :: Lib.decDigits i).toArray⟩) (by simp [results, Tryz.results26, go_sem]; apply ba_ext; simp) rfl ⟨⟨_, rfl, unhide HD, by simp; omega⟩, Lib.below_grow _ _ (Nat.le_refl _) _ _⟩
  · obtain ⟨i, rfl⟩ : ∃ i : Nat, n = (i : Int) := ⟨n.natAbs, by omega⟩
    have hi : i ≤ 9223372036854775807 := by omega
    obtain ⟨d1, _, d2⟩ := nm_dec hi
    have HD := hide d1
    clear d1
    go_enter Tryz.func26, Tryz.ntmps26
    go_wp2_with (go_at_call 39; refine (Tryz.strconv_FormatInt_10 i (by omega) (by omega) _ (unhide HT)).mono ?_; rintro e w' ⟨rfl, k, os, rfl⟩; rw [Lib.itoa_nonneg])
    refine bodyPost_ret (v := .string ⟨(Lib.decDigits i).toArray⟩) (by simp [results, Tryz.results26, go_sem]) rfl ⟨⟨_, rfl, unhide HD, by omega⟩, Lib.below_grow _ _ (Nat.le_refl _) _ _⟩
end Go.Proofs.YtjobgpahajhbnaaGreatDoor
