import Derived.Test.YtjobgpahajhbnaaGreatDoorGh
import Derived.Test.YtjobgpahajhbnaaGreatDoorJa
namespace Go.Proofs.YtjobgpahajhbnaaGreatDoor
open Go.RowKit Go.Proofs

theorem shUp_len : ∀ (s k : Nat) (d : List Int), (shUp s k d).length = d.length
  | 0, _, _ => rfl
  | s + 1, k, d => by rw [shUp, shUp_len, swapL_len]
theorem shDn_len : ∀ (s k : Nat) (d : List Int), (shDn s k d).length = d.length
  | 0, _, _ => rfl
  | s + 1, k, d => by rw [shDn, shDn_len, swapL_len]
theorem swR_len {a b : Nat} : ∀ (s i : Nat) (d : List Int), (swR a b s i d).length = d.length
  | 0, _, _ => rfl
  | s + 1, i, d => by rw [swR, swR_len, swapL_len]
theorem rotP_len {m : Nat} : ∀ (f i j : Nat) (d : List Int), (rotP m f i j d).length = d.length
  | 0, _, _, _ => swR_len _ _ _
  | f + 1, i, j, d => by
    rw [rotP]
    split
    · exact swR_len _ _ _
    · split
      · rw [rotP_len, swR_len]
      · rw [rotP_len, swR_len]
section
variable {cf : Int → Int → Int} {lt : Int → Int → Prop}
theorem Ord.back (hO : Ord cf lt) {x y : Int} (h : lt x y) (hp : y < x) : cf x y < 0 := by
  by_cases hc : cf x y < 0
  · exact hc
  · exact absurd (hO.trans h (hO.more hc hp)) (hO.irr x)
theorem Ord.not (hO : Ord cf lt) {x y : Int} (h : lt x y) : ¬ cf y x < 0 := fun hc => hO.irr x (hO.trans h (hO.less hc))
theorem symA_ok (hO : Ord cf lt) {a m b : Nat} {d : List Int} (hm : m = a + 1) (hl : b ≤ d.length) (hmb : m < b) (h2 : SortedOn lt d m b) (h3 : CrossOn d a m b) : SortedOn lt (shUp (bsF (fun h => decide (cf (d.getD h 0) (d.getD a 0) < 0)) m b - 1 - a) a d) a b ∧ From d (shUp (bsF (fun h => decide (cf (d.getD h 0) (d.getD a 0) < 0)) m b - 1 - a) a d) a b := by
  have hr := bsF_rng (p := fun h => decide (cf (d.getD h 0) (d.getD a 0) < 0)) (b - m) (i := m) (j := b) (Nat.le_refl _) (by omega)
  obtain ⟨k1, k2⟩ := bsF_ok (p := fun h => decide (cf (d.getD h 0) (d.getD a 0) < 0)) (b - m) (i := m) (j := b) (Nat.le_refl _) (by omega) (by
    intro c c' e1 e2 e3 e4
    have h4 : lt (ix d c') (ix d a) := hO.less (of_decide_eq_true e4)
    have h5 : cf (ix d c) (ix d a) < 0 := hO.back (hO.trans (h2 c c' e1 e2 e3) h4) (h3 a c (by omega) (by omega) e1 (by omega))
    exact decide_eq_true h5)
  obtain ⟨B, hB⟩ : ∃ B, bsF (fun h => decide (cf (d.getD h 0) (d.getD a 0) < 0)) m b = B := ⟨_, rfl⟩
  rw [hB] at hr k1 k2 ⊢
  have k1 : ∀ c, m ≤ c → c < B → lt (ix d c) (ix d a) := fun c e1 e2 => hO.less (of_decide_eq_true (k1 c e1 e2))
  have k2 : ∀ c, B ≤ c → c < b → lt (ix d a) (ix d c) := fun c e1 e2 => hO.more (of_decide_eq_false (k2 c e1 e2)) (h3 a c (by omega) (by omega) (by omega) e2)
  have hx := shUp_ix (B - 1 - a) a d (by omega)
  have w1 : ∀ t, a ≤ t → t < B - 1 → ix (shUp (B - 1 - a) a d) t = ix d (t + 1) := fun t e1 e2 => by rw [hx, if_pos (by omega)]
  have w2 : ix (shUp (B - 1 - a) a d) (B - 1) = ix d a := by rw [hx, if_neg (by omega), if_pos (by omega)]
  have w3 : ∀ t, t < a ∨ B ≤ t → ix (shUp (B - 1 - a) a d) t = ix d t := fun t e => by rw [hx, if_neg (by omega), if_neg (by omega)]
  refine ⟨fun i j e1 e2 e3 => ?_, shUp_len _ _ _, fun k e => w3 k (by omega), fun k e1 e2 => ?_⟩
  · by_cases i1 : i < B - 1
    · rw [w1 i e1 i1]
      by_cases j1 : j < B - 1
      · rw [w1 j (by omega) j1]; exact h2 (i + 1) (j + 1) (by omega) (by omega) (by omega)
      · by_cases j2 : j = B - 1
        · rw [j2, w2]; exact k1 (i + 1) (by omega) (by omega)
        · rw [w3 j (by omega)]; exact h2 (i + 1) j (by omega) (by omega) e3
    · by_cases i2 : i = B - 1
      · rw [i2, w2, w3 j (by omega)]; exact k2 j (by omega) e3
      · rw [w3 i (by omega), w3 j (by omega)]; exact h2 i j (by omega) e2 e3
  · by_cases i1 : k < B - 1
    · exact ⟨k + 1, by omega, by omega, w1 k e1 i1⟩
    · by_cases i2 : k = B - 1
      · exact ⟨a, Nat.le_refl _, by omega, by rw [i2, w2]⟩
      · exact ⟨k, e1, e2, w3 k (by omega)⟩
theorem symB_ok (hO : Ord cf lt) {a m b : Nat} {d : List Int} (hb : b = m + 1) (hl : b ≤ d.length) (ham : a < m) (h1 : SortedOn lt d a m) (h3 : CrossOn d a m b) : SortedOn lt (shDn (m - bsF (fun h => decide (¬ cf (d.getD m 0) (d.getD h 0) < 0)) a m) m d) a b ∧ From d (shDn (m - bsF (fun h => decide (¬ cf (d.getD m 0) (d.getD h 0) < 0)) a m) m d) a b := by
  have hr := bsF_rng (p := fun h => decide (¬ cf (d.getD m 0) (d.getD h 0) < 0)) (m - a) (i := a) (j := m) (Nat.le_refl _) (by omega)
  obtain ⟨k1, k2⟩ := bsF_ok (p := fun h => decide (¬ cf (d.getD m 0) (d.getD h 0) < 0)) (m - a) (i := a) (j := m) (Nat.le_refl _) (by omega) (by
    intro c c' e1 e2 e3 e4
    have h4 : lt (ix d c') (ix d m) := hO.more (of_decide_eq_true e4) (h3 c' m (by omega) e3 (Nat.le_refl _) (by omega))
    exact decide_eq_true (hO.not (hO.trans (h1 c c' e1 e2 e3) h4)))
  obtain ⟨B, hB⟩ : ∃ B, bsF (fun h => decide (¬ cf (d.getD m 0) (d.getD h 0) < 0)) a m = B := ⟨_, rfl⟩
  rw [hB] at hr k1 k2 ⊢
  have k1 : ∀ c, a ≤ c → c < B → lt (ix d c) (ix d m) := fun c e1 e2 => hO.more (of_decide_eq_true (k1 c e1 e2)) (h3 c m e1 (by omega) (Nat.le_refl _) (by omega))
  have k2 : ∀ c, B ≤ c → c < m → lt (ix d m) (ix d c) := fun c e1 e2 => hO.less (Decidable.not_not.1 (of_decide_eq_false (k2 c e1 e2)))
  have hx := shDn_ix (m - B) m d (by omega) (by omega)
  have w1 : ix (shDn (m - B) m d) B = ix d m := by rw [hx, if_pos (by omega)]
  have w2 : ∀ t, B < t → t ≤ m → ix (shDn (m - B) m d) t = ix d (t - 1) := fun t e1 e2 => by rw [hx, if_neg (by omega), if_pos (by omega)]
  have w3 : ∀ t, t < B ∨ m < t → ix (shDn (m - B) m d) t = ix d t := fun t e => by rw [hx, if_neg (by omega), if_neg (by omega)]
  refine ⟨fun i j e1 e2 e3 => ?_, shDn_len _ _ _, fun k e => w3 k (by omega), fun k e1 e2 => ?_⟩
  · by_cases i1 : i < B
    · rw [w3 i (by omega)]
      by_cases j1 : j < B
      · rw [w3 j (by omega)]; exact h1 i j e1 e2 (by omega)
      · by_cases j2 : j = B
        · rw [j2, w1]; exact k1 i e1 i1
        · rw [w2 j (by omega) (by omega)]; exact h1 i (j - 1) e1 (by omega) (by omega)
    · by_cases i2 : i = B
      · rw [i2, w1, w2 j (by omega) (by omega)]; exact k2 (j - 1) (by omega) (by omega)
      · rw [w2 i (by omega) (by omega), w2 j (by omega) (by omega)]; exact h1 (i - 1) (j - 1) (by omega) (by omega) (by omega)
  · by_cases i1 : k < B
    · exact ⟨k, e1, e2, w3 k (by omega)⟩
    · by_cases i2 : k = B
      · exact ⟨m, by omega, by omega, by rw [i2, w1]⟩
      · exact ⟨k - 1, by omega, by omega, w2 k (by omega) (by omega)⟩
/-- what the rotation makes -/
structure RotX (d d1 : List Int) (a s m e mid b : Nat) : Prop where
  len : d1.length = d.length
  lo : ∀ t, t < s ∨ e ≤ t → ix d1 t = ix d t
  one : ∀ t, s ≤ t → t < mid → ix d1 t = ix d (t + m - s)
  two : ∀ t, mid ≤ t → t < e → ix d1 t = ix d (t + s - mid)
theorem rot_x {d : List Int} {a s m e mid b : Nat} (hb : b ≤ d.length) (h1 : s ≤ m) (h2 : m ≤ e) (h3 : e ≤ b) (he : e + s = mid + m) : RotX d (if s < m ∧ m < e then rotF s m e d else d) a s m e mid b := by
  by_cases h : s < m ∧ m < e
  · rw [if_pos h]
    have hx := rotP_ix (m := m) (m - s + (e - m)) (m - s) (e - m) d (Nat.le_refl _) (by omega) (by omega) (by omega) (by omega)
    refine ⟨rotP_len _ _ _ _, fun t ht => ?_, fun t e1 e2 => ?_, fun t e1 e2 => ?_⟩
    · unfold rotF; rw [hx, if_neg (by omega), if_neg (by omega)]
    · unfold rotF; rw [hx, if_pos (by omega)]
      congr 1
      omega
    · unfold rotF; rw [hx, if_neg (by omega), if_pos (by omega)]
      congr 1
      omega
  · rw [if_neg h]
    refine ⟨rfl, fun t _ => rfl, fun t e1 e2 => ?_, fun t e1 e2 => ?_⟩
    · congr 1; omega
    · congr 1; omega
theorem start_ok (hO : Ord cf lt) {a m b : Nat} {d : List Int} (ham : a < m) (hmb : m < b) (h1 : SortedOn lt d a m) (h2 : SortedOn lt d m b) (h3 : CrossOn d a m b) {s e mid : Nat} (hs : startF cf a m b d = s) (hmid : (a + b) / 2 = mid) (he : mid + m - s = e) : (∀ i j, a ≤ i → i < s → e ≤ j → j < b → lt (ix d i) (ix d j)) ∧ (∀ i j, s ≤ i → i < m → m ≤ j → j < e → lt (ix d j) (ix d i)) := by
  have hrng := start_rng (cf := cf) (d := d) ham hmb
  unfold startF at hs
  rw [hmid] at hs
  obtain ⟨lo, hlo⟩ : ∃ lo, (if mid < m then mid + m - b else a) = lo := ⟨_, rfl⟩
  obtain ⟨hi, hhi⟩ : ∃ hi, (if mid < m then mid else m) = hi := ⟨_, rfl⟩
  rw [hlo, hhi] at hs
  have hq : a ≤ lo ∧ lo ≤ hi ∧ hi ≤ m ∧ hi ≤ mid ∧ mid + m ≤ lo + b ∧ (lo = a ∨ lo + b = mid + m) ∧ (hi = m ∨ hi = mid) := by
    by_cases h : mid < m
    · rw [if_pos h] at hlo hhi; omega
    · rw [if_neg h] at hlo hhi; omega
  obtain ⟨q1, q2, q3, q4, q5, q6, q7⟩ := hq
  have hr := bsF_rng (p := fun c => decide (¬ cf (d.getD (mid + m - 1 - c) 0) (d.getD c 0) < 0)) (hi - lo) (i := lo) (j := hi) (Nat.le_refl _) q2
  obtain ⟨k1, k2⟩ := bsF_ok (p := fun c => decide (¬ cf (d.getD (mid + m - 1 - c) 0) (d.getD c 0) < 0)) (hi - lo) (i := lo) (j := hi) (Nat.le_refl _) q2 (by
    intro c c' e1 e2 e3 e4
    have h4 : lt (ix d c') (ix d (mid + m - 1 - c')) := hO.more (of_decide_eq_true e4) (h3 c' (mid + m - 1 - c') (by omega) (by omega) (by omega) (by omega))
    have h5 : lt (ix d (mid + m - 1 - c')) (ix d (mid + m - 1 - c)) := h2 _ _ (by omega) (by omega) (by omega)
    exact decide_eq_true (hO.not (hO.trans (hO.trans (h1 c c' (by omega) e2 (by omega)) h4) h5)))
  rw [hs] at hr k1 k2
  have k1 : ∀ c, lo ≤ c → c < s → lt (ix d c) (ix d (mid + m - 1 - c)) := fun c e1 e2 => hO.more (of_decide_eq_true (k1 c e1 e2)) (h3 c _ (by omega) (by omega) (by omega) (by omega))
  have k2 : ∀ c, s ≤ c → c < hi → lt (ix d (mid + m - 1 - c)) (ix d c) := fun c e1 e2 => hO.less (Decidable.not_not.1 (of_decide_eq_false (k2 c e1 e2)))
  have le_lt : ∀ {i j}, a ≤ i → i ≤ j → j < m → ∀ {z}, lt (ix d j) z → lt (ix d i) z := fun {i j} e1 e2 e3 {z} h => by
    by_cases hij : i = j
    · rw [hij]; exact h
    · exact hO.trans (h1 i j e1 (by omega) e3) h
  have lt_le : ∀ {i j}, m ≤ i → i ≤ j → j < b → ∀ {z}, lt z (ix d i) → lt z (ix d j) := fun {i j} e1 e2 e3 {z} h => by
    by_cases hij : i = j
    · rw [← hij]; exact h
    · exact hO.trans h (h2 i j e1 (by omega) e3)
  constructor
  · intro i j e1 e2 e3 e4
    have hls : lo < s := by omega
    have hk := k1 (s - 1) (by omega) (by omega)
    rw [show mid + m - 1 - (s - 1) = e by omega] at hk
    exact lt_le (by omega) e3 e4 (le_lt e1 (by omega) (by omega) hk)
  · intro i j e1 e2 e3 e4
    have hsh : s < hi := by omega
    have hk := k2 s (Nat.le_refl _) hsh
    rw [show mid + m - 1 - s = e - 1 by omega] at hk
    have h5 : lt (ix d j) (ix d s) := by
      by_cases hj : j = e - 1
      · rw [hj]; exact hk
      · exact hO.trans (h2 j (e - 1) e3 (by omega) (by omega)) hk
    by_cases hi2 : i = s
    · rw [hi2]; exact h5
    · exact hO.trans h5 (h1 s i (by omega) (by omega) e2)
theorem symP_ok (hO : Ord cf lt) : ∀ (f a m b : Nat) (d : List Int), b ≤ d.length → a < m → m < b → b - a ≤ f → SortedOn lt d a m → SortedOn lt d m b → CrossOn d a m b → SortedOn lt (symP cf f a m b d) a b ∧ From d (symP cf f a m b d) a b
  | 0, a, m, b, d, _, h1, h2, h3, _, _, _ => absurd h3 (by omega)
  | f + 1, a, m, b, d, hl, ham, hmb, hf, h1, h2, h3 => by
    by_cases e1 : m = a + 1
    · rw [symP, if_pos e1]
      exact symA_ok hO e1 hl hmb h2 h3
    · by_cases e2 : b = m + 1
      · rw [symP, if_neg e1, if_pos e2]
        exact symB_ok hO e2 hl ham h1 h3
      · rw [symP_big e1 e2]
        have hr := start_rng (cf := cf) (d := d) ham hmb
        obtain ⟨s, hs⟩ : ∃ s, startF cf a m b d = s := ⟨_, rfl⟩
        obtain ⟨mid, hmid⟩ : ∃ mid, (a + b) / 2 = mid := ⟨_, rfl⟩
        obtain ⟨e, he⟩ : ∃ e, mid + m - s = e := ⟨_, rfl⟩
        obtain ⟨g1, g2⟩ := start_ok hO ham hmb h1 h2 h3 hs hmid he
        rw [hs, hmid] at hr ⊢
        simp only
        rw [he]
        have hx := rot_x (a := a) (mid := mid) hl (s := s) (m := m) (e := e) (by omega) (by omega) (by omega) (by omega)
        obtain ⟨d1, hd1⟩ : ∃ d1, (if s < m ∧ m < e then rotF s m e d else d) = d1 := ⟨_, rfl⟩
        rw [hd1] at hx ⊢
        have c1 : ∀ t, a ≤ t → t < s → ix d1 t = ix d t := fun t _ e => hx.lo t (by omega)
        have c4 : ∀ t, e ≤ t → t < b → ix d1 t = ix d t := fun t e _ => hx.lo t (by omega)
        have fr1 : From d d1 a b := ⟨hx.len, fun k hk => hx.lo k (by omega), fun k k1 k2 => by
          by_cases p1 : k < s
          · exact ⟨k, k1, k2, c1 k k1 p1⟩
          · by_cases p2 : k < mid
            · exact ⟨k + m - s, by omega, by omega, hx.one k (by omega) p2⟩
            · by_cases p3 : k < e
              · exact ⟨k + s - mid, by omega, by omega, hx.two k (by omega) p3⟩
              · exact ⟨k, k1, k2, c4 k (by omega) k2⟩⟩
        -- the halves stand right
        have hh : ∀ i j, a ≤ i → i < mid → mid ≤ j → j < b → lt (ix d1 i) (ix d1 j) := by
          intro i j i1 i2 j1 j2
          by_cases p1 : i < s
          · rw [c1 i i1 p1]
            by_cases q1 : j < e
            · rw [hx.two j j1 q1]; exact h1 i _ i1 (by omega) (by omega)
            · rw [c4 j (by omega) j2]; exact g1 i j i1 p1 (by omega) j2
          · rw [hx.one i (by omega) i2]
            by_cases q1 : j < e
            · rw [hx.two j j1 q1]; exact g2 _ _ (by omega) (by omega) (by omega) (by omega)
            · rw [c4 j (by omega) j2]; exact h2 _ j (by omega) (by omega) j2
        have s1 : SortedOn lt d1 a s := fun i j i1 i2 i3 => by rw [c1 i i1 (by omega), c1 j (by omega) i3]; exact h1 i j i1 i2 (by omega)
        have s2 : SortedOn lt d1 s mid := fun i j i1 i2 i3 => by rw [hx.one i i1 (by omega), hx.one j (by omega) i3]; exact h2 _ _ (by omega) (by omega) (by omega)
        have s3 : SortedOn lt d1 mid e := fun i j i1 i2 i3 => by rw [hx.two i i1 (by omega), hx.two j (by omega) i3]; exact h1 _ _ (by omega) (by omega) (by omega)
        have s4 : SortedOn lt d1 e b := fun i j i1 i2 i3 => by rw [c4 i i1 (by omega), c4 j (by omega) i3]; exact h2 i j (by omega) i2 i3
        have x1 : CrossOn d1 a s mid := fun i j i1 i2 i3 i4 => by rw [c1 i i1 i2, hx.one j i3 i4]; exact h3 _ _ i1 (by omega) (by omega) (by omega)
        have x2 : CrossOn d1 mid e b := fun i j i1 i2 i3 i4 => by rw [hx.two i i1 i2, c4 j i3 i4]; exact h3 _ _ (by omega) (by omega) (by omega) i4
        -- the first half
        have t1 : SortedOn lt (if a < s ∧ s < mid then symP cf f a s mid d1 else d1) a mid ∧ From d1 (if a < s ∧ s < mid then symP cf f a s mid d1 else d1) a mid := by
          by_cases hc : a < s ∧ s < mid
          · rw [if_pos hc]
            exact symP_ok hO f a s mid d1 (by rw [hx.len]; omega) hc.1 hc.2 (by omega) s1 s2 x1
          · rw [if_neg hc]
            refine ⟨?_, From.refl _ _ _⟩
            by_cases hs0 : a < s
            · rw [show mid = s by omega]; exact s1
            · have : s = a := by omega
              rw [this] at s2; exact s2
        obtain ⟨d2, hd2⟩ : ∃ d2, (if a < s ∧ s < mid then symP cf f a s mid d1 else d1) = d2 := ⟨_, rfl⟩
        rw [hd2] at t1 ⊢
        obtain ⟨t1, f2⟩ := t1
        have o2 : ∀ k, mid ≤ k → ix d2 k = ix d1 k := fun k hk => f2.out k (Or.inr hk)
        have t2 : SortedOn lt (if mid < e ∧ e < b then symP cf f mid e b d2 else d2) mid b ∧ From d2 (if mid < e ∧ e < b then symP cf f mid e b d2 else d2) mid b := by
          by_cases hc : mid < e ∧ e < b
          · rw [if_pos hc]
            exact symP_ok hO f mid e b d2 (by rw [f2.len, hx.len]; exact hl) hc.1 hc.2 (by omega) (fun i j i1 i2 i3 => by rw [o2 i i1, o2 j (by omega)]; exact s3 i j i1 i2 i3) (fun i j i1 i2 i3 => by rw [o2 i (by omega), o2 j (by omega)]; exact s4 i j i1 i2 i3) (fun i j i1 i2 i3 i4 => by rw [o2 i i1, o2 j (by omega)]; exact x2 i j i1 i2 i3 i4)
          · rw [if_neg hc]
            refine ⟨fun i j i1 i2 i3 => ?_, From.refl _ _ _⟩
            rw [o2 i i1, o2 j (by omega)]
            by_cases hm0 : mid < e
            · exact s3 i j i1 i2 (by omega)
            · exact s4 i j (by omega) i2 i3
        obtain ⟨d3, hd3⟩ : ∃ d3, (if mid < e ∧ e < b then symP cf f mid e b d2 else d2) = d3 := ⟨_, rfl⟩
        rw [hd3] at t2 ⊢
        obtain ⟨t2, f3⟩ := t2
        refine ⟨fun i j i1 i2 i3 => ?_, (fr1.trans (f2.mono (Nat.le_refl _) (by omega))).trans (f3.mono (by omega) (Nat.le_refl _))⟩
        by_cases p1 : i < mid
        · by_cases q1 : j < mid
          · rw [f3.out i (Or.inl p1), f3.out j (Or.inl q1)]; exact t1 i j i1 i2 q1
          · rw [f3.out i (Or.inl p1)]
            obtain ⟨i', u1, u2, u3⟩ := f2.inn i i1 p1
            obtain ⟨j', v1, v2, v3⟩ := f3.inn j (by omega) i3
            rw [u3, v3, o2 j' v1]
            exact hh i' j' u1 u2 v1 v2
        · exact t2 i j (by omega) i2 i3
end
end Go.Proofs.YtjobgpahajhbnaaGreatDoor
namespace Go.Proofs.YtjobgpahajhbnaaGreatDoor
open Go.RowKit Go.Proofs

theorem swap_perm {d : List Int} {i j : Nat} (hi : i < d.length) (hj : j < d.length) : (swapL d i j).Perm d := by
  rw [List.perm_iff_count]
  intro x
  unfold swapL
  have h1 : d.getD i 0 = d[i] := by rw [List.getD_eq_getElem?_getD, List.getElem?_eq_getElem hi]; rfl
  have h2 : d.getD j 0 = d[j] := by rw [List.getD_eq_getElem?_getD, List.getElem?_eq_getElem hj]; rfl
  rw [h1, h2]
  have hj' : j < (d.set i d[j]).length := by simpa using hj
  rw [List.count_set hj', List.count_set hi, List.getElem_set]
  have p1 : 0 < d.count d[i] := List.count_pos_iff.2 (List.getElem_mem hi)
  have p2 : 0 < d.count d[j] := List.count_pos_iff.2 (List.getElem_mem hj)
  by_cases e : i = j
  · subst e
    rw [if_pos rfl]
    by_cases hx : d[i] = x
    · subst hx
      simp
    · simp [hx]
  · rw [if_neg e]
    by_cases hx : d[i] = x
    · by_cases hy : d[j] = x
      · simp [hx, hy]
        rw [hx] at p1
        omega
      · simp [hx, hy]
        rw [hx] at p1
        omega
    · by_cases hy : d[j] = x
      · simp [hx, hy]
      · simp [hx, hy]
theorem insIn_perm {cf : Int → Int → Int} {a : Nat} : ∀ {k : Nat} {d : List Int}, a + k < d.length → (insIn cf a k d).Perm d
  | 0, _, _ => List.Perm.refl _
  | k + 1, d, h => by
    rw [insIn]
    split
    · exact (insIn_perm (by rw [swapL_len]; omega)).trans (swap_perm (by omega) (by omega))
    · exact List.Perm.refl _
theorem insOut_perm {cf : Int → Int → Int} {a : Nat} : ∀ {s i : Nat} {d : List Int}, a ≤ i → i + s ≤ d.length → (insOut cf a s i d).Perm d
  | 0, _, _, _, _ => List.Perm.refl _
  | s + 1, i, d, h1, h2 => by
    rw [insOut]
    have hp := insIn_perm (cf := cf) (a := a) (k := i - a) (d := d) (by omega)
    exact (insOut_perm (by omega) (by rw [hp.length_eq]; omega)).trans hp
theorem shUp_perm : ∀ {s k : Nat} {d : List Int}, k + s < d.length → (shUp s k d).Perm d
  | 0, _, _, _ => List.Perm.refl _
  | s + 1, k, d, h => by rw [shUp]; exact (shUp_perm (by rw [swapL_len]; omega)).trans (swap_perm (by omega) (by omega))
theorem shDn_perm : ∀ {s k : Nat} {d : List Int}, k < d.length → (shDn s k d).Perm d
  | 0, _, _, _ => List.Perm.refl _
  | s + 1, k, d, h => by rw [shDn]; exact (shDn_perm (by rw [swapL_len]; omega)).trans (swap_perm (by omega) (by omega))
theorem swR_perm {a b : Nat} : ∀ {s i : Nat} {d : List Int}, a + i + s ≤ d.length → b + i + s ≤ d.length → (swR a b s i d).Perm d
  | 0, _, _, _, _ => List.Perm.refl _
  | s + 1, i, d, h1, h2 => by rw [swR]; exact (swR_perm (by rw [swapL_len]; omega) (by rw [swapL_len]; omega)).trans (swap_perm (by omega) (by omega))
theorem rotP_perm {m : Nat} : ∀ {f i j : Nat} {d : List Int}, i + j ≤ f → 0 < i → 0 < j → i ≤ m → m + j ≤ d.length → (rotP m f i j d).Perm d
  | 0, i, j, d, h, h1, _, _, _ => absurd h (by omega)
  | f + 1, i, j, d, h, h1, h2, h3, h4 => by
    rw [rotP]
    split
    · exact swR_perm (by omega) (by omega)
    · split
      · exact (rotP_perm (by omega) (by omega) h2 (by omega) (by rw [swR_len]; exact h4)).trans (swR_perm (by omega) (by omega))
      · exact (rotP_perm (by omega) h1 (by omega) h3 (by rw [swR_len]; omega)).trans (swR_perm (by omega) (by omega))
theorem symP_perm {cf : Int → Int → Int} : ∀ {f a m b : Nat} {d : List Int}, b ≤ d.length → a < m → m < b → (symP cf f a m b d).Perm d
  | 0, _, _, _, _, _, _, _ => List.Perm.refl _
  | f + 1, a, m, b, d, hl, h1, h2 => by
    by_cases e1 : m = a + 1
    · rw [symP, if_pos e1]
      have := bsF_rng (p := fun h => decide (cf (d.getD h 0) (d.getD a 0) < 0)) _ (i := m) (j := b) (Nat.le_refl _) (by omega)
      exact shUp_perm (by omega)
    · by_cases e2 : b = m + 1
      · rw [symP, if_neg e1, if_pos e2]
        exact shDn_perm (by omega)
      · rw [symP_big e1 e2]
        have hs := start_rng (cf := cf) (d := d) h1 h2
        obtain ⟨s, hs'⟩ : ∃ s, startF cf a m b d = s := ⟨_, rfl⟩
        rw [hs'] at hs ⊢
        simp only
        obtain ⟨e, he⟩ : ∃ e, (a + b) / 2 + m - s = e := ⟨_, rfl⟩
        rw [he]
        have i1 : (if s < m ∧ m < e then rotF s m e d else d).Perm d := by
          split
          · exact rotP_perm (Nat.le_refl _) (by omega) (by omega) (by omega) (by omega)
          · exact List.Perm.refl _
        obtain ⟨d1, hd1⟩ : ∃ d1, (if s < m ∧ m < e then rotF s m e d else d) = d1 := ⟨_, rfl⟩
        rw [hd1] at i1 ⊢
        have i2 : (if a < s ∧ s < (a + b) / 2 then symP cf f a s ((a + b) / 2) d1 else d1).Perm d := by
          split
          · rename_i hh
            exact (symP_perm (by rw [i1.length_eq]; omega) hh.1 hh.2).trans i1
          · exact i1
        obtain ⟨d2, hd2⟩ : ∃ d2, (if a < s ∧ s < (a + b) / 2 then symP cf f a s ((a + b) / 2) d1 else d1) = d2 := ⟨_, rfl⟩
        rw [hd2] at i2 ⊢
        split
        · rename_i hh
          exact (symP_perm (by rw [i2.length_eq]; exact hl) hh.1 hh.2).trans i2
        · exact i2
section
variable {cf : Int → Int → Int} {lt : Int → Int → Prop}
/-- blocks of s in order, each of its own places; those from a on are of s2 -/
def Blk (lt : Int → Int → Prop) (n s : Nat) (d : List Int) (q : Nat) : Prop := SortedOn lt d (q * s) (min (q * s + s) n) ∧ ∀ k, q * s ≤ k → k < min (q * s + s) n → ((q * s : Nat) : Int) ≤ ix d k ∧ ix d k < ((min (q * s + s) n : Nat) : Int)
theorem Blk.keep {n s q : Nat} {d d' : List Int} (h : Blk lt n s d q) (hk : ∀ k, q * s ≤ k → k < q * s + s → ix d' k = ix d k) : Blk lt n s d' q :=
  ⟨fun i j h1 h2 h3 => by rw [hk i h1 (by omega), hk j (by omega) (by omega)]; exact h.1 i j h1 h2 h3, fun k h1 h2 => by rw [hk k h1 (by omega)]; exact h.2 k h1 h2⟩
/-- the cells from a to b are sorted, and of these places -/
theorem range_of {d d' : List Int} {a b : Nat} (h : From d d' a b) (hv : ∀ k, a ≤ k → k < b → (a : Int) ≤ ix d k ∧ ix d k < (b : Int)) : ∀ k, a ≤ k → k < b → (a : Int) ≤ ix d' k ∧ ix d' k < (b : Int) := fun k h1 h2 => by
  obtain ⟨k', e1, e2, e3⟩ := h.inn k h1 h2
  rw [e3]
  exact hv k' e1 e2
theorem st1_ok (hO : Ord cf lt) {n : Nat} : ∀ (f q : Nat) (d : List Int), d.length = n → n < q * 20 + f → q * 20 ≤ n → (∀ p, p < q → Blk lt n 20 d p) → (∀ k, q * 20 ≤ k → k < n → ix d k = (k : Int)) → (∀ p, Blk lt n 20 (st1 cf n f (q * 20) d) p) ∧ (st1 cf n f (q * 20) d).Perm d
  | 0, q, d, _, h1, h2, _, _ => absurd h1 (by omega)
  | f + 1, q, d, hl, h1, h2, h3, h4 => by
    rw [st1]
    by_cases hb : q * 20 + 20 ≤ n
    · rw [if_pos hb]
      obtain ⟨r1, r2⟩ := insOut_ok hO (a := q * 20) (b := q * 20 + 20) (q * 20 + 20 - (q * 20 + 1)) (q * 20 + 1) d (by omega) (by omega) (by omega) (fun i j e1 e2 e3 => by omega) (fun p t e1 e2 e3 e4 => by rw [h4 p (by omega) (by omega), h4 t (by omega) (by omega)]; omega)
      have hp := insOut_perm (cf := cf) (a := q * 20) (s := q * 20 + 20 - (q * 20 + 1)) (i := q * 20 + 1) (d := d) (by omega) (by omega)
      have hr := range_of r2 (fun k e1 e2 => by rw [h4 k e1 (by omega)]; omega)
      obtain ⟨d1, hd1⟩ : ∃ d1, insOut cf (q * 20) (q * 20 + 20 - (q * 20 + 1)) (q * 20 + 1) d = d1 := ⟨_, rfl⟩
      rw [hd1] at r1 r2 hp hr ⊢
      have hq : q * 20 + 20 = (q + 1) * 20 := by omega
      rw [hq]
      obtain ⟨t1, t2⟩ := st1_ok hO (n := n) f (q + 1) d1 (by rw [hp.length_eq]; exact hl) (by omega) (by omega) (by
        intro p hpq
        by_cases e : p = q
        · subst e
          have hm : min (p * 20 + 20) n = p * 20 + 20 := by omega
          unfold Blk
          rw [hm]
          exact ⟨r1, hr⟩
        · exact (h3 p (by omega)).keep (fun k e1 e2 => r2.out k (Or.inl (by omega)))) (fun k e1 e2 => by rw [r2.out k (Or.inr (by omega))]; exact h4 k (by omega) e2)
      exact ⟨t1, t2.trans hp⟩
    · rw [if_neg hb]
      have key : SortedOn lt (insOut cf (q * 20) (n - (q * 20 + 1)) (q * 20 + 1) d) (q * 20) n ∧ From d (insOut cf (q * 20) (n - (q * 20 + 1)) (q * 20 + 1) d) (q * 20) n ∧ (insOut cf (q * 20) (n - (q * 20 + 1)) (q * 20 + 1) d).Perm d := by
        by_cases e : q * 20 < n
        · obtain ⟨r1, r2⟩ := insOut_ok hO (a := q * 20) (b := n) (n - (q * 20 + 1)) (q * 20 + 1) d (by omega) (by omega) (by omega) (fun i j e1 e2 e3 => by omega) (fun p t e1 e2 e3 e4 => by rw [h4 p (by omega) (by omega), h4 t (by omega) (by omega)]; omega)
          exact ⟨r1, r2, insOut_perm (by omega) (by omega)⟩
        · rw [show n - (q * 20 + 1) = 0 by omega, insOut]
          exact ⟨fun i j e1 e2 e3 => by omega, From.refl _ _ _, List.Perm.refl _⟩
      obtain ⟨r1, r2, r3⟩ := key
      refine ⟨fun p => ?_, r3⟩
      by_cases e : p < q
      · exact (h3 p e).keep (fun k e1 e2 => r2.out k (Or.inl (by omega)))
      · by_cases e' : p = q
        · subst e'
          have hm : min (p * 20 + 20) n = n := by omega
          unfold Blk
          rw [hm]
          exact ⟨r1, range_of r2 (fun k e1 e2 => by rw [h4 k e1 e2]; omega)⟩
        · have hm : min (p * 20 + 20) n ≤ p * 20 := by omega
          exact ⟨fun i j e1 e2 e3 => by omega, fun k e1 e2 => by omega⟩
theorem mrg_ok (hO : Ord cf lt) {n s : Nat} (hs : 0 < s) : ∀ (f q : Nat) (d : List Int), d.length = n → n < q * (2 * s) + f → (∀ p, p < q → Blk lt n (2 * s) d p) → (∀ p, 2 * q ≤ p → Blk lt n s d p) → (∀ p, Blk lt n (2 * s) (mrg cf n s f (q * (2 * s)) d) p) ∧ (mrg cf n s f (q * (2 * s)) d).Perm d
  | 0, q, d, _, h1, h3, _ => ⟨fun p => by
      by_cases e : p < q
      · exact h3 p e
      · have : q * (2 * s) ≤ p * (2 * s) := Nat.mul_le_mul_right _ (by omega)
        exact ⟨fun i j e1 e2 e3 => by omega, fun k e1 e2 => by omega⟩, List.Perm.refl _⟩
  | f + 1, q, d, hl, h1, h3, h4 => by
    rw [mrg]
    obtain ⟨a, ha⟩ : ∃ a, q * (2 * s) = a := ⟨_, rfl⟩
    have ha1 : (2 * q) * s = a := by rw [← ha, Nat.mul_comm 2 q, Nat.mul_assoc]
    have ha2 : (2 * q + 1) * s = a + s := by rw [Nat.add_mul, ha1, Nat.one_mul]
    have ha3 : (q + 1) * (2 * s) = a + 2 * s := by rw [Nat.add_mul, ha, Nat.one_mul]
    have b1 := h4 (2 * q) (by omega)
    have b2 := h4 (2 * q + 1) (by omega)
    unfold Blk at b1 b2
    rw [ha1] at b1
    rw [ha2] at b2
    rw [ha] at h1 ⊢
    by_cases hb : a + 2 * s ≤ n
    · rw [if_pos hb]
      have m1 : min (a + s) n = a + s := by omega
      have m2 : min (a + s + s) n = a + 2 * s := by omega
      rw [m1] at b1
      rw [m2] at b2
      obtain ⟨r1, r2⟩ := symP_ok hO (2 * s) a (a + s) (a + 2 * s) d (by omega) (by omega) (by omega) (by omega) b1.1 b2.1 (fun i j i1 i2 i3 i4 => by have := b1.2 i i1 i2; have := b2.2 j i3 i4; omega)
      have hp := symP_perm (cf := cf) (f := 2 * s) (a := a) (m := a + s) (b := a + 2 * s) (d := d) (by omega) (by omega) (by omega)
      have hr := range_of r2 (fun k e1 e2 => by
        by_cases e : k < a + s
        · have := b1.2 k e1 e; omega
        · have := b2.2 k (by omega) e2; omega)
      obtain ⟨d1, hd1⟩ : ∃ d1, symP cf (2 * s) a (a + s) (a + 2 * s) d = d1 := ⟨_, rfl⟩
      rw [hd1] at r1 r2 hp hr ⊢
      rw [← ha3]
      obtain ⟨t1, t2⟩ := mrg_ok hO (n := n) hs f (q + 1) d1 (by rw [hp.length_eq]; exact hl) (by omega) (by
        intro p hpq
        by_cases e : p = q
        · subst e
          have hm : min (a + 2 * s) n = a + 2 * s := by omega
          unfold Blk
          rw [ha, hm]
          exact ⟨r1, hr⟩
        · have hle : (p + 1) * (2 * s) ≤ q * (2 * s) := Nat.mul_le_mul_right _ (by omega)
          rw [Nat.add_mul, Nat.one_mul] at hle
          exact (h3 p (by omega)).keep (fun k e1 e2 => r2.out k (Or.inl (by omega)))) (by
        intro p hpq
        have hle : (2 * q + 2) * s ≤ p * s := Nat.mul_le_mul_right _ (by omega)
        rw [Nat.add_mul, ha1] at hle
        exact (h4 p (by omega)).keep (fun k e1 e2 => r2.out k (Or.inr (by omega))))
      exact ⟨t1, t2.trans hp⟩
    · rw [if_neg hb]
      have key : SortedOn lt (if a + s < n then symP cf (n - a) a (a + s) n d else d) a n ∧ From d (if a + s < n then symP cf (n - a) a (a + s) n d else d) a n ∧ (if a + s < n then symP cf (n - a) a (a + s) n d else d).Perm d := by
        by_cases e : a + s < n
        · rw [if_pos e]
          have m1 : min (a + s) n = a + s := by omega
          have m2 : min (a + s + s) n = n := by omega
          rw [m1] at b1
          rw [m2] at b2
          obtain ⟨r1, r2⟩ := symP_ok hO (n - a) a (a + s) n d (by omega) (by omega) e (by omega) b1.1 b2.1 (fun i j i1 i2 i3 i4 => by have := b1.2 i i1 i2; have := b2.2 j i3 i4; omega)
          exact ⟨r1, r2, symP_perm (by omega) (by omega) e⟩
        · rw [if_neg e]
          refine ⟨fun i j e1 e2 e3 => b1.1 i j e1 e2 (by omega), From.refl _ _ _, List.Perm.refl _⟩
      have hv : ∀ k, a ≤ k → k < n → (a : Int) ≤ ix d k ∧ ix d k < (n : Int) := fun k e1 e2 => by
        by_cases e : k < a + s
        · have := b1.2 k e1 (by omega); omega
        · have := b2.2 k (by omega) (by omega); omega
      obtain ⟨r1, r2, r3⟩ := key
      refine ⟨fun p => ?_, r3⟩
      by_cases e : p < q
      · have hle : (p + 1) * (2 * s) ≤ q * (2 * s) := Nat.mul_le_mul_right _ (by omega)
        rw [Nat.add_mul, Nat.one_mul] at hle
        exact (h3 p e).keep (fun k e1 e2 => r2.out k (Or.inl (by omega)))
      · by_cases e' : p = q
        · subst e'
          have hm : min (a + 2 * s) n = n := by omega
          unfold Blk
          rw [ha, hm]
          exact ⟨r1, range_of r2 hv⟩
        · have hle : (q + 1) * (2 * s) ≤ p * (2 * s) := Nat.mul_le_mul_right _ (by omega)
          exact ⟨fun i j e1 e2 e3 => by omega, fun k e1 e2 => by omega⟩
theorem mrgs_ok (hO : Ord cf lt) {n : Nat} : ∀ (f s : Nat) (d : List Int), d.length = n → 0 < s → n < s + f → (∀ p, Blk lt n s d p) → SortedOn lt (mrgs cf n f s d) 0 n ∧ (mrgs cf n f s d).Perm d
  | 0, s, d, _, _, h1, h2 => ⟨fun i j e1 e2 e3 => (h2 0).1 i j (by omega) e2 (by omega), List.Perm.refl _⟩
  | f + 1, s, d, hl, hs, h1, h2 => by
    rw [mrgs]
    by_cases hb : s < n
    · rw [if_pos hb]
      have := mrg_ok hO (n := n) hs (n + 1) 0 d hl (by omega) (fun p hp => by omega) (fun p _ => h2 p)
      rw [Nat.zero_mul] at this
      obtain ⟨r1, r2⟩ := this
      obtain ⟨t1, t2⟩ := mrgs_ok hO (n := n) f (2 * s) (mrg cf n s (n + 1) 0 d) (by rw [r2.length_eq]; exact hl) (by omega) (by omega) r1
      exact ⟨t1, t2.trans r2⟩
    · rw [if_neg hb]
      exact ⟨fun i j e1 e2 e3 => (h2 0).1 i j (by omega) e2 (by omega), List.Perm.refl _⟩
theorem stable_ok (hO : Ord cf lt) (n : Nat) : SortedOn lt (stableP cf n (iotaN n)) 0 n ∧ (stableP cf n (iotaN n)).Perm (iotaN n) := by
  have hi : ∀ k, k < n → ix (iotaN n) k = (k : Int) := fun k hk => by simp [ix, iotaN, List.getD_eq_getElem?_getD, hk]
  have h := st1_ok hO (n := n) (n + 1) 0 (iotaN n) (by simp [iotaN]) (by omega) (by omega) (fun p hp => by omega) (fun k _ e => hi k e)
  rw [Nat.zero_mul] at h
  obtain ⟨t1, t2⟩ := mrgs_ok hO (n := n) (n + 1) 20 (st1 cf n (n + 1) 0 (iotaN n)) (by rw [h.2.length_eq]; simp [iotaN]) (by omega) (by omega) h.1
  exact ⟨t1, t2.trans h.2⟩
end
end Go.Proofs.YtjobgpahajhbnaaGreatDoor
namespace Go.Proofs.YtjobgpahajhbnaaGreatDoor
open Go.RowKit Go.Proofs
attribute [local go_sem ↓] Go.wp_at_zero Go.wp_at_succ

theorem NmRow.snoc {ns : List Int} {u : List UInt8} (h : NmRow ns u) {n : Int} {t : List UInt8} (hn : Nm n t) : NmRow (ns ++ [n]) (u ++ (32 :: t)) := by
  induction h with
  | one m s hm => exact NmRow.more m s [n] t hm (NmRow.one n t hn)
  | more m s ms v hm hms ih =>
    have := NmRow.more m s (ms ++ [n]) (v ++ (32 :: t)) hm ih
    simpa using this
/-- numbers, each behind a blank -/
def Tail (l : List Int) (t : List UInt8) : Prop := (l = [] ∧ t = []) ∨ ∃ u, t = 32 :: u ∧ NmRow l u
theorem Tail.snoc {l : List Int} {t : List UInt8} (h : Tail l t) {n : Int} {s : List UInt8} (hn : Nm n s) : Tail (l ++ [n]) (t ++ (32 :: s)) := by
  rcases h with ⟨rfl, rfl⟩ | ⟨u, rfl, hu⟩
  · exact Or.inr ⟨s, rfl, NmRow.one n s hn⟩
  · exact Or.inr ⟨u ++ (32 :: s), rfl, hu.snoc hn⟩
/-- what row writes -/
def RowT (l : List Int) (t : List UInt8) : Prop := (l = [] ∧ t = 40 :: ([105, 111, 116, 97, 32, 48] ++ [41])) ∨ ∃ u, t = 40 :: (([114, 97, 118, 101, 108] ++ (32 :: u)) ++ [41]) ∧ NmRow l u ∧ u.length ≤ 4 * l.length
theorem cat1 (t s : List UInt8) : (⟨t.toArray⟩ : ByteArray) ++ ⟨#[32]⟩ ++ ⟨s.toArray⟩ = ⟨(t ++ (32 :: s)).toArray⟩ := by
  apply ba_ext
  simp
set_option maxHeartbeats 1000000 in
set_option maxRecDepth 20000 in
theorem rowText_any {Q : Nat → Prop} (w : World) (ao : Option Addr) (n cap : Nat) (l : List Int) (hn : Nums Q w (.slice ao n cap) l) (hl : l.length ≤ 30) (hf : Few l) :
    Calls Tryz.prog 27 #[.slice ao n cap] w fun e w' => (∃ t, e = .returned (.string ⟨List.toArray t⟩) ∧ RowT l t) ∧ w' = w := by
  obtain ⟨rfl, _, hc⟩ := nums_at hn
  by_cases h0 : l.length = 0
  · have h0' : ((l.length : Int) == 0) = true := by rw [h0]; rfl
    have HE := hide (List.eq_nil_of_length_eq_zero h0)
    clear hn hc h0
    go_enter Tryz.func27, Tryz.ntmps27
    go_wp2
    exact bodyPost_ret (v := .string ⟨(40 :: ([105, 111, 116, 97, 32, 48] ++ [41])).toArray⟩) (by simp [results, Tryz.results27, go_sem]) rfl ⟨⟨_, rfl, Or.inl ⟨unhide HE, rfl⟩⟩, rfl⟩
  · have h0' : ((l.length : Int) == 0) = false := by rw [beq_eq_false_iff_ne]; omega
    obtain ⟨b, off, rfl, hb, hcell⟩ := hc (by omega)
    have HC := hide hcell
    have HF := hide hf
    clear hn hc hcell hf
    go_enter Tryz.func27, Tryz.ntmps27
    go_wp2_with fail
    go_loopw [3, 4] (fun v3 v4 wr => ∃ (k : Nat) (t : List UInt8), v4 = .int .i64 k ∧ k ≤ l.length ∧ v3 = .string ⟨t.toArray⟩ ∧ Tail (l.take k) t ∧ t.length ≤ 4 * k ∧ wr = w) (fun _ v4 _ => l.length - (intOf v4).toNat)
    case atStart => exact ⟨0, [], rfl, by omega, rfl, Or.inl ⟨rfl, rfl⟩, by simp, rfl⟩
    case round =>
      obtain ⟨k, t, rfl, hk, rfl, hT, htl, rfl⟩ := hrel
      have HT := hide hT
      clear hT
      by_cases hkl : k < l.length
      · have c0 := unhide HC k hkl
        have hx := unhide HF _ (List.getElem_mem hkl)
        have HTk : Hid (l.take (k + 1) = l.take k ++ [l[k]]) := hide (by rw [List.take_succ_eq_append_getElem hkl])
        obtain ⟨x, hxe⟩ : ∃ x, l[k] = x := ⟨_, rfl⟩
        rw [hxe] at c0 hx HTk
        have HN := hide (fun w' => num_any x (by omega) w')
        have hk0 : (0 : Int) ≤ (k : Int) := by omega
        have hk1 : (k : Int) < (l.length : Int) := by omega
        clear hxe hx
        go_wp2_with fail
        refine (unhide HN _).mono ?_
        rintro e w' ⟨⟨s, rfl, hs, hsl⟩, rfl⟩
        have HS := hide hs
        clear hs
        go_wp2_with fail
        go_roundw
        case rel => exact ⟨k + 1, t ++ (32 :: s), by go_num, by omega, by rw [cat1], by rw [unhide HTk]; exact (unhide HT).snoc (unhide HS), by simp; omega, (by first | rfl | trivial)⟩
        case measure => simp [intOf]; omega
      · have hke : k = l.length := by omega
        subst hke
        go_wp2_with fail
        refine bodyPost_ret (v := .string ⟨([40, 114, 97, 118, 101, 108] ++ t ++ [41]).toArray⟩) (by simp [results, Tryz.results27, go_sem]; apply ba_ext; simp) rfl ⟨⟨_, rfl, Or.inr ?_⟩, rfl⟩
        have hT := unhide HT
        rw [List.take_of_length_le (Nat.le_refl _)] at hT
        rcases hT with ⟨rfl, _⟩ | ⟨u, rfl, hu⟩
        · exact absurd rfl h0
        · exact ⟨u, by simp, hu, by simp at htl; omega⟩
theorem tl_iota (r : List UInt8) : tl ([105, 111, 116, 97] ++ (32 :: r)) = some 4 := by
  have h : ([105, 111, 116, 97] ++ (32 :: r)).takeWhile lU = [105, 111, 116, 97] := rfl
  have hf : isFn [105, 111, 116, 97] = true := by decide +kernel
  show wrdE ([105, 111, 116, 97] ++ (32 :: r)) = some 4
  unfold wrdE
  rw [h]
  simp [hf]
theorem fn1_iota : Fn1 [105, 111, 116, 97] := ⟨⟨105, [111, 116, 97], rfl, by decide, by decide⟩, tl_iota, by decide +kernel, by decide +kernel⟩
theorem tl_at (r : List UInt8) : tl ([97, 116] ++ (32 :: r)) = some 2 := by
  have h : ([97, 116] ++ (32 :: r)).takeWhile lU = [97, 116] := rfl
  have hf : isFn [97, 116] = true := by decide +kernel
  show wrdE ([97, 116] ++ (32 :: r)) = some 2
  unfold wrdE
  rw [h]
  simp [hf]
theorem fn2_at : Fn2 [97, 116] := ⟨⟨97, [116], rfl, by decide⟩, tl_at, by decide +kernel, by decide +kernel⟩
theorem stop_take {c : UInt8} (hc : lU c = true) {r : List UInt8} (hr : StopN r) : ([c] ++ r).takeWhile lU = [c] := by
  cases r with
  | nil => simp [hc]
  | cons d r =>
    have : lU d = false := hr d rfl
    simp [hc, this]
theorem name1 {c : UInt8} (hl : lU c = true) (h32 : c ≠ 32) (ht : tailU c = false) (hf : isFn [c] = false) (hk : kindT ⟨#[c]⟩ = 1) (hr : roleT ⟨#[c]⟩ = 0) (htl : ∀ r, tl ([c] ++ r) = wrdE ([c] ++ r)) : NameT [c] := by
  refine ⟨⟨c, [], rfl, h32, ht⟩, fun r hr => ?_, hk, hr⟩
  rw [htl]
  unfold wrdE
  rw [stop_take hl hr]
  simp [hf]
theorem name_x : NameT [120] := name1 (by decide) (by decide) (by decide) (by decide +kernel) (by decide +kernel) (by decide +kernel) (fun _ => rfl)
end Go.Proofs.YtjobgpahajhbnaaGreatDoor
