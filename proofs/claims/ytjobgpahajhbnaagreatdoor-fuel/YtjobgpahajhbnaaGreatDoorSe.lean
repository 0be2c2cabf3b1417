import Derived.Test.YtjobgpahajhbnaaGreatDoorSc
namespace Go.Proofs.YtjobgpahajhbnaaGreatDoor
open Go.RowKit

/-- what thing and inParens come to, from j on with o brackets open -/
def ThR (T : List (Int × Int)) (j o : Nat) (b : Bool) (k p : Nat) : Prop :=
  k ≤ T.length ∧ (b = false → ∃ st op, sc T j 0 o = (k, st, op) ∧ (st = 0 ∨ o < op)) ∧ (b = true → p = o ∧ j < k ∧ ∃ st, (st = 1 ∨ st = 2) ∧ sc T j 0 o = sc T k st o ∧ (st = 1 → kB T k 0 = false))
/-- what a call of thing, inParens (t true) or expr leaves -/
def Left (W0 : World) (ao : Option Addr) (cap : Nat) (S : List Tok) (t : Bool) (j o : Nat) (w : World) (e : Ending) (w' : World) : Prop :=
  ∃ b k p q, e = .returned (.tuple #[.pointer q, .bool b]) ∧ Rd W0 (.slice ao S.length cap) k p w' ∧ Kp W0 w w' ∧ ThR (kr S) j o b k p ∧ (t = false → b = true → fB (kr S) k 2 = false) ∧ (b = true → ∃ x, PX S t j o x k ∧ IsEx (w.heap.size - 1) w' q x)
def ExprC (W0 : World) (ao : Option Addr) (cap : Nat) (S : List Tok) (m : Nat) : Prop := ∀ (j o : Nat) (w : World), S.length - j < m → j ≤ S.length → o ≤ 8 → Rd W0 (.slice ao S.length cap) j o w →
  Calls Tryz.prog 149 #[.pointer (some ⟨W0.heap.size, 0, none⟩)] w (Left W0 ao cap S false j o w)
theorem Left.no {W0 : World} {ao : Option Addr} {cap : Nat} {S : List Tok} {t : Bool} {j o : Nat} {w w' : World} {k p : Nat} (q : Option Addr) (h1 : Rd W0 (.slice ao S.length cap) k p w') (h2 : Kp W0 w w') (hk : k ≤ S.length) (h3 : ∃ st op, sc (kr S) j 0 o = (k, st, op) ∧ (st = 0 ∨ o < op)) :
    Left W0 ao cap S t j o w (.returned (.tuple #[.pointer q, .bool false])) w' :=
  ⟨false, k, p, q, rfl, h1, h2, ⟨by rw [kr_len]; exact hk, fun _ => h3, fun h => (by cases h)⟩, fun _ h => (by cases h), fun h => (by cases h)⟩
theorem Left.yes {W0 : World} {ao : Option Addr} {cap : Nat} {S : List Tok} {t : Bool} {j o : Nat} {w w' : World} {k : Nat} (q : Option Addr) (h1 : Rd W0 (.slice ao S.length cap) k o w') (h2 : Kp W0 w w') (hk : k ≤ S.length) (hj : j < k) (st : Nat) (h3 : st = 1 ∨ st = 2) (h4 : sc (kr S) j 0 o = sc (kr S) k st o) (h5 : st = 1 → kB (kr S) k 0 = false) (h6 : t = false → fB (kr S) k 2 = false) (x : Ex) (h7 : PX S t j o x k) (h8 : IsEx (w.heap.size - 1) w' q x) :
    Left W0 ao cap S t j o w (.returned (.tuple #[.pointer q, .bool true])) w' :=
  ⟨true, k, o, q, rfl, h1, h2, ⟨by rw [kr_len]; exact hk, fun h => (by cases h), fun _ => ⟨rfl, hj, st, h3, h4, h5⟩⟩, fun h _ => h6 h, fun _ => ⟨x, h7, h8⟩⟩

theorem isEx_num {B nb : Nat} {w : World} (hnb : w.heap.size = nb) (hB : B < nb) {r x p : Int} {t : ByteArray} {l rr n : Value} {ws : List Int} (h : IntsIn B w n ws) (h0 : 0 < ws.length) (h1 : ws.length ≤ 200) :
    IsEx B (w.alloc (.cells #[.int .i64 0, .int .i64 r, .int .i64 x, .string t, .int .i64 p, l, rr, n] 196)) (some ⟨nb, 0, none⟩) (.num ws) := by
  subst hnb
  exact ⟨w.heap.size, n, rfl, hB, by simp, by simp, by simp, h.keep (Behind.of_below ((Below.refl _ _).alloc (Nat.le_refl _) _)), h0, h1⟩
theorem isEx_name {B nb : Nat} {w : World} (hnb : w.heap.size = nb) (hB : B < nb) {r x : Int} {p : Nat} {t : ByteArray} {l rr n : Value} :
    IsEx B (w.alloc (.cells #[.int .i64 1, .int .i64 r, .int .i64 x, .string t, .int .i64 p, l, rr, n] 196)) (some ⟨nb, 0, none⟩) (.name t p) := by
  subst hnb
  exact ⟨w.heap.size, r, x, rfl, hB, by simp, by simp, by simp, by simp, by simp, by simp⟩
theorem isEx_one {B nb : Nat} {w : World} (hnb : w.heap.size = nb) (hB : B < nb) {k r x : Int} {p : Nat} {t : ByteArray} {n : Value} {q : Option Addr} {e : Ex} (k0 : k ≠ 0) (k1 : k ≠ 1) (h : IsEx B w q e) :
    IsEx B (w.alloc (.cells #[.int .i64 k, .int .i64 r, .int .i64 x, .string t, .int .i64 p, .pointer none, .pointer q, n] 196)) (some ⟨nb, 0, none⟩) (.one t p e) := by
  subst hnb
  exact ⟨w.heap.size, k, q, rfl, hB, by simp, by simp, k0, k1, by simp, by simp, by simp, by simp, h.keep (Behind.of_below ((Below.refl _ _).alloc (Nat.le_refl _) _))⟩
theorem isEx_two {B nb : Nat} {w : World} (hnb : w.heap.size = nb) (hB : B < nb) {k r x : Int} {p : Nat} {t : ByteArray} {n : Value} {ql q : Option Addr} {l e : Ex} (k0 : k ≠ 0) (k1 : k ≠ 1) (hl : IsEx B w ql l) (h : IsEx B w q e) :
    IsEx B (w.alloc (.cells #[.int .i64 k, .int .i64 r, .int .i64 x, .string t, .int .i64 p, .pointer ql, .pointer q, n] 196)) (some ⟨nb, 0, none⟩) (.two t p l e) := by
  subst hnb
  exact ⟨w.heap.size, k, ql, q, rfl, hB, by simp, by simp, k0, k1, by simp, by simp, by simp, by simp, hl.keep (Behind.of_below ((Below.refl _ _).alloc (Nat.le_refl _) _)), h.keep (Behind.of_below ((Below.refl _ _).alloc (Nat.le_refl _) _))⟩

theorem numbers_in (W0 : World) (ao : Option Addr) (tb cap : Nat) (S : List Tok) (hT : TokIn W0 ao tb S) (j o : Nat) (w : World) (hj0 : j < S.length) (hw : Rd W0 (.slice ao S.length cap) (j + 1) o w) (x : Int) (hx : (tokAt S j).x = x) :
    Calls Tryz.prog 218 #[.pointer (some ⟨W0.heap.size, 0, none⟩), .int .i64 x] w fun e w' => ∃ k b c, e = .returned (.slice (some ⟨b, 0, none⟩) (k - j) c) ∧ j < k ∧ k ≤ S.length ∧ (∀ i, j < i → i < k → kB (kr S) i 0 = true) ∧ kB (kr S) k 0 = false ∧ Rd W0 (.slice ao S.length cap) k o w' ∧ Kp W0 w w' ∧ IntsIn (w.heap.size - 1) w' (.slice (some ⟨b, 0, none⟩) (k - j) c) (worths S j k) := by
  subst hx
  refine (numbers_any W0 ao tb cap S hT j o w hj0 hw).mono ?_
  rintro e w' ⟨k, v, rfl, h1, h2, h3, h4, h5, h6, h7⟩
  have hl := worths_len S j k h2
  have h7' := ints_owns (B := w.heap.size - 1) (ws := worths S j k) (by rw [hl]; exact ownsRow_mono h7 (by have := hw.lt; omega)) (by omega)
  obtain ⟨b, c, hv, r⟩ := h7'
  rw [hl] at hv
  subst hv
  exact ⟨k, b, c, rfl, h1, h2, h3, h4, h5, h6, b, c, by rw [hl], r⟩
theorem sc_nums {T : List (Int × Int)} (o : Nat) : ∀ (n j : Nat), (∀ i, j ≤ i → i < j + (n + 1) → kB T i 0 = true) → sc T j 0 o = sc T (j + (n + 1)) 1 o
  | 0, j, h => (sc_num (op := o) (st := 0) (by decide) (h j (by omega) (by omega))).2
  | n + 1, j, h => by
    rw [sc_nums o n j (fun i h1 h2 => h i h1 (by omega))]
    exact (sc_num (op := o) (st := 1) (by decide) (h (j + (n + 1)) (by omega) (by omega))).2

set_option maxHeartbeats 1000000 in
theorem thing_num (W0 : World) (ao : Option Addr) (tb cap : Nat) (S : List Tok) (hT : TokIn W0 ao tb S) (j o : Nat) (w : World) (hw : Rd W0 (.slice ao S.length cap) j o w) (hk : kB (kr S) j 0 = true) :
    Calls Tryz.prog 176 #[.pointer (some ⟨W0.heap.size, 0, none⟩)] w (Left W0 ao cap S true j o w) := by
  have HW := hide hw
  have HT := hide hT
  have hfew := hT.few
  have hlt := hw.lt
  obtain ⟨hjl, hq0⟩ := kB_lt hk
  rw [kr_len] at hjl
  have HK := hide hk
  obtain ⟨q, hq⟩ : ∃ q, tokAt S j = q := ⟨_, rfl⟩
  have hqk : q.k = 0 := by
    rw [← hq, tokAt_lt hjl]
    simpa [kr] using hq0
  have HQ := hide hq
  obtain ⟨kk, rr, xx, tt, pp⟩ := q
  simp only at hqk
  subst hqk
  clear hw hT hk hq hq0
  go_enter Tryz.func176, Tryz.ntmps176
  go_wp2_with fail
  refine (acc_any W0 ao tb cap S 0 j o _ (unhide HT) (by omega) (unhide HW)).mono ?_
  rintro e w1 ⟨rfl, hw1, hk1⟩
  rw [unhide HK] at hw1 ⊢
  simp only [cond_true, unhide HQ]
  unfold Tok.v tokX
  have HW1 : Hid (Rd W0 (.slice ao S.length cap) (j + 1) o w1) := hw1
  have HK1 := hide hk1
  have hl1 := hw1.lt
  have hne : w1.heap.size ≠ W0.heap.size := by omega
  clear hw1 hk1
  go_wp2_with fail
  go_region_held3 (fun w' => w'.cell? ⟨w1.heap.size, 0, none⟩ = some (.int .i64 0) ∧ w'.cell? ⟨w1.heap.size, 1, none⟩ = some (.int .i64 rr) ∧ w'.cell? ⟨w1.heap.size, 2, none⟩ = some (.int .i64 xx) ∧ w'.cell? ⟨w1.heap.size, 3, none⟩ = some (.string tt) ∧ w'.cell? ⟨w1.heap.size, 4, none⟩ = some (.int .i64 pp))
    (first | go_keep | exact ⟨((unhide HK2).cell (b := w1.heap.size) (by simp) hne 0).trans (by simp), ((unhide HK2).cell (b := w1.heap.size) (by simp) hne 1).trans (by simp), ((unhide HK2).cell (b := w1.heap.size) (by simp) hne 2).trans (by simp), ((unhide HK2).cell (b := w1.heap.size) (by simp) hne 3).trans (by simp), ((unhide HK2).cell (b := w1.heap.size) (by simp) hne 4).trans (by simp)⟩)
    (first | (go_at_call 218; refine (numbers_in W0 ao tb cap S (unhide HT) j o _ hjl ?_ xx ?_).mono ?_; exact ((unhide HW1).alloc _).drew; (rw [unhide HQ]); rintro e w2 ⟨k, b, c, rfl, hjk, hkl, hall, hk0, hw2, hk2, hin⟩; have HW2 := hide hw2; have HK2 := hide hk2; have HIn := hide hin; have HAll := hide hall; have HK0 := hide hk0; clear hw2 hk2 hin hall hk0))
  go_wp2_with fail
  go_ret2
  have hls := worths_len S j k hkl
  have hs1 := (unhide HK1).size
  have hs2 : w1.heap.size + 1 ≤ w2.heap.size := by have := (unhide HK2).size; simpa using this
  refine Left.yes _ ((unhide HW2).alloc _) ((((unhide HK1).alloc _).drew.trans (unhide HK2)).alloc _) hkl hjk 1 (Or.inl rfl) ?_ (fun _ => unhide HK0) (fun h => (by cases h)) _ (PX.nums j o k hjk hkl ?_ (unhide HK0)) (isEx_num rfl (by have := hs2; omega) ((unhide HIn).mono (by have := hs1; simp; omega)) (by omega) (by omega))
  · have := sc_nums (T := kr S) o (k - j - 1) j (fun i h1 h2 => by
      by_cases e : i = j
      · rw [e]; exact unhide HK
      · exact unhide HAll i (by omega) (by omega))
    rwa [show j + (k - j - 1 + 1) = k by omega] at this
  · intro i h1 h2
    by_cases e : i = j
    · rw [e]; exact unhide HK
    · exact unhide HAll i (by omega) h2

set_option maxHeartbeats 1000000 in
theorem thing_name (W0 : World) (ao : Option Addr) (tb cap : Nat) (S : List Tok) (hT : TokIn W0 ao tb S) (j o : Nat) (w : World) (hw : Rd W0 (.slice ao S.length cap) j o w) (hk0 : kB (kr S) j 0 = false) (hk : kB (kr S) j 1 = true) :
    Calls Tryz.prog 176 #[.pointer (some ⟨W0.heap.size, 0, none⟩)] w (Left W0 ao cap S true j o w) := by
  have HW := hide hw
  have HT := hide hT
  have hlt := hw.lt
  obtain ⟨hjl, hq0⟩ := kB_lt hk
  rw [kr_len] at hjl
  have HK := hide hk
  have HK0 := hide hk0
  obtain ⟨q, hq⟩ : ∃ q, tokAt S j = q := ⟨_, rfl⟩
  have hqk : q.k = 1 := by
    rw [← hq, tokAt_lt hjl]
    simpa [kr] using hq0
  have HQ := hide hq
  obtain ⟨kk, rr, xx, tt, pp⟩ := q
  simp only at hqk
  subst hqk
  clear hw hT hk hk0 hq hq0
  go_enter Tryz.func176, Tryz.ntmps176
  go_wp2_with fail
  refine (acc_any W0 ao tb cap S 0 j o _ (unhide HT) (by omega) (unhide HW)).mono ?_
  rintro e w1 ⟨rfl, hw1, hk1⟩
  rw [unhide HK0] at hw1 ⊢
  unfold Tok.v tokX
  have HW1 : Hid (Rd W0 (.slice ao S.length cap) j o w1) := hw1
  have HK1 := hide hk1
  clear hw1 hk1
  go_wp2_with fail
  refine (acc_any W0 ao tb cap S 1 j o _ (unhide HT) (by omega) ((unhide HW1).alloc _)).mono ?_
  rintro e w2 ⟨rfl, hw2, hk2⟩
  rw [unhide HK] at hw2 ⊢
  simp only [cond_true, unhide HQ]
  unfold Tok.v tokX
  have HW2 : Hid (Rd W0 (.slice ao S.length cap) (j + 1) o w2) := hw2
  have HK2 := hide hk2
  have hl2 := hw2.lt
  clear hw2 hk2
  go_wp2_with fail
  go_ret2
  obtain ⟨_, hsc⟩ := sc_name (op := o) (unhide HK)
  have hs2 : w.heap.size ≤ w2.heap.size := by have := (unhide HK1).size; have := (unhide HK2).size; simp at this; omega
  refine Left.yes _ (((unhide HW2).alloc _).alloc _) ((((((unhide HK1).alloc _).trans (unhide HK2)).alloc _)).alloc _) (by omega) (by omega) 2 (Or.inr rfl) hsc (fun h => (by cases h)) (fun h => (by cases h)) (.name tt pp) ?_ (isEx_name (by simp) (by omega))
  have := PX.name (S := S) j o (unhide HK)
  rwa [unhide HQ] at this

set_option maxHeartbeats 1000000 in
theorem parens_any (W0 : World) (ao : Option Addr) (tb cap : Nat) (S : List Tok) (hT : TokIn W0 ao tb S) (m : Nat) (ih : ExprC W0 ao cap S m) (j o : Nat) (w : World) (hm : S.length - j < m + 1) (hjl : j ≤ S.length) (ho : o ≤ 8)
    (hw : Rd W0 (.slice ao S.length cap) j o w) (n1 : fB (kr S) j 1 = false) (n2 : kB (kr S) j 0 = false) (n3 : kB (kr S) j 1 = false) :
    Calls Tryz.prog 219 #[.pointer (some ⟨W0.heap.size, 0, none⟩)] w (Left W0 ao cap S true j o w) := by
  have HW := hide hw
  have N1 := hide n1
  have N2 := hide n2
  have N3 := hide n3
  have HT := hide hT
  have IH := hide ih
  have c2 := hw.opn
  have g2 := hw.fr2
  have hlt := hw.lt
  clear hw n1 n2 n3 hT ih
  by_cases h8 : o = 8
  · subst h8
    go_enter Tryz.func219, Tryz.ntmps219
    go_wp2_with fail
    go_ret2
    exact Left.no _ (unhide HW) (Kp.refl _ _) hjl ⟨0, 8, stuck0 (unhide N1) (unhide N2) (unhide N3) (Or.inr (by omega)), Or.inl rfl⟩
  · have h8' : ((o : Int) == 8) = false := beq_eq_false_iff_ne.2 (by omega)
    have ho7 : o < 8 := by omega
    clear h8
    cases hk : kB (kr S) j 4
    · have HK := hide hk
      clear hk
      go_enter Tryz.func219, Tryz.ntmps219
      go_wp2_with fail
      refine (acc_any W0 ao tb cap S 4 j o _ (unhide HT) hjl (unhide HW)).mono ?_
      rintro e w1 ⟨rfl, hw1, hk1⟩
      rw [unhide HK] at hw1 ⊢
      unfold Tok.v tokX
      have HW1 : Hid (Rd W0 (.slice ao S.length cap) j o w1) := hw1
      have HK1 := hide hk1
      clear hw1 hk1
      go_wp2_with fail
      go_ret2
      exact Left.no _ ((unhide HW1).alloc _) ((unhide HK1).alloc _) hjl ⟨0, o, stuck0 (unhide N1) (unhide N2) (unhide N3) (Or.inl (unhide HK)), Or.inl rfl⟩
    · obtain ⟨hjl', hsc⟩ := sc_open hk ho7
      rw [kr_len] at hjl'
      have HS := hide hsc
      have HK := hide hk
      obtain ⟨q, hq⟩ : ∃ q, tokAt S j = q := ⟨_, rfl⟩
      have HQ := hide hq
      obtain ⟨kk, rr, xx, tt, pp⟩ := q
      clear hk hsc hq
      go_enter Tryz.func219, Tryz.ntmps219
      go_wp2_with fail
      refine (acc_any W0 ao tb cap S 4 j o _ (unhide HT) hjl (unhide HW)).mono ?_
      rintro e w1 ⟨rfl, hw1, hk1⟩
      rw [unhide HK] at hw1 ⊢
      simp only [cond_true, unhide HQ]
      unfold Tok.v tokX
      have HW1 : Hid (Rd W0 (.slice ao S.length cap) (j + 1) o w1) := hw1
      have HK1 := hide hk1
      clear hw1 hk1
      have d2 := (unhide HW1).opn
      have e2 := (unhide HW1).fr2
      have hl1 := (unhide HW1).lt
      have hn1 : W0.heap.size ≠ w1.heap.size := by omega
      go_wp2_with fail
      refine (unhide IH (j + 1) (o + 1) _ (by omega) (by omega) (by omega) (((unhide HW1).opened (o + 1)).alloc _)).mono ?_
      rintro e w2 ⟨b, k, p, qe, rfl, hw2, hk2, ⟨hkl, hno, hyes⟩, hf, hx⟩
      rw [kr_len] at hkl
      have hle : w.heap.size - 1 ≤ ((w1.setCell ⟨W0.heap.size, 2, none⟩ (.int .i64 ((o : Int) + 1))).alloc (Obj.cells #[.int .i64 kk, .int .i64 rr, .int .i64 xx, .string tt, .int .i64 pp] 155)).heap.size - 1 := by have := (unhide HK1).size; simp; omega
      have HLE := hide hle
      clear hle
      have HK2 : Hid (Kp W0 w w2) := (((unhide HK1).trans (Kp.setReader _ _ _ _)).alloc _).trans hk2
      clear hk2
      cases b
      · have HN := hide (hno rfl)
        have HW2 := hide hw2
        clear hno hyes hf hx hw2
        go_wp2_with fail
        go_ret2
        obtain ⟨st, op, hc, ho⟩ := unhide HN
        exact Left.no _ (unhide HW2) (unhide HK2) hkl ⟨st, op, (unhide HS).trans hc, by omega⟩
      · obtain ⟨rfl, hlt2, st, hst, hsc2, hnum⟩ := hyes rfl
        have HX := hide (hx rfl)
        have HW2 := hide hw2
        have HF := hide (hf rfl rfl)
        have HS2 := hide ((unhide HS).trans hsc2)
        have HNU := hide hnum
        have HST := hide hst
        have hl2 := hw2.lt
        clear hno hyes hf hw2 hsc2 hnum hst hx
        cases hk5 : kB (kr S) k 5
        · have HK5 := hide hk5
          clear hk5
          go_wp2_with fail
          refine (acc_any W0 ao tb cap S 5 k (o + 1) _ (unhide HT) hkl (unhide HW2)).mono ?_
          rintro e w3 ⟨rfl, hw3, hk3⟩
          rw [unhide HK5] at hw3 ⊢
          unfold Tok.v tokX
          have HW3 : Hid (Rd W0 (.slice ao S.length cap) k (o + 1) w3) := hw3
          have HK3 := hide hk3
          clear hw3 hk3
          have d3 := (unhide HW3).opn
          have e3 := (unhide HW3).fr2
          go_wp2_with fail
          go_ret2
          exact Left.no _ ((unhide HW3).opened o) (((unhide HK2).trans (unhide HK3)).trans (Kp.setReader _ _ _ _)) hkl ⟨st, o + 1, (unhide HS2).trans (stuck (unhide HST) (unhide HNU) (unhide HF) (Or.inl (unhide HK5))), Or.inr (by omega)⟩
        · have hst0 : st ≠ 0 := by have := unhide HST; omega
          obtain ⟨hlt3, hsc3⟩ := sc_close (op := o) hst0 hk5
          rw [kr_len] at hlt3
          have HS3 := hide ((unhide HS2).trans hsc3)
          have HK5 := hide hk5
          obtain ⟨q5, hq5⟩ : ∃ q, tokAt S k = q := ⟨_, rfl⟩
          have HQ5 := hide hq5
          obtain ⟨k5, r5, x5, t5, p5⟩ := q5
          clear hk5 hsc3 hst0 hq5
          go_wp2_with fail
          refine (acc_any W0 ao tb cap S 5 k (o + 1) _ (unhide HT) hkl (unhide HW2)).mono ?_
          rintro e w3 ⟨rfl, hw3, hk3⟩
          rw [unhide HK5] at hw3 ⊢
          simp only [cond_true, unhide HQ5]
          unfold Tok.v tokX
          have HW3 : Hid (Rd W0 (.slice ao S.length cap) (k + 1) (o + 1) w3) := hw3
          have HK3 := hide hk3
          clear hw3 hk3
          have d3 := (unhide HW3).opn
          have e3 := (unhide HW3).fr2
          go_wp2_with fail
          go_ret2
          obtain ⟨x, hx1, hx2⟩ := unhide HX
          have hk4 := (unhide HK3).trans (Kp.setReader W0 _ 2 (.int .i64 (o : Int)))
          exact Left.yes _ ((unhide HW3).opened o) ((unhide HK2).trans hk4) (by omega) (by omega) 2 (Or.inr rfl) (unhide HS3) (fun h => (by cases h)) (fun h => (by cases h)) x (PX.paren j o x k (unhide HK) ho7 hx1 (unhide HK5)) ((hx2.mono (unhide HLE)).keep (hk4.behind' (by omega)))
end Go.Proofs.YtjobgpahajhbnaaGreatDoor
namespace Go.Proofs.YtjobgpahajhbnaaGreatDoor
open Go.RowKit

set_option maxHeartbeats 1000000 in
theorem thing_paren (W0 : World) (ao : Option Addr) (tb cap : Nat) (S : List Tok) (hT : TokIn W0 ao tb S) (m : Nat) (ih : ExprC W0 ao cap S m) (j o : Nat) (w : World) (hm : S.length - j < m + 1) (hjl : j ≤ S.length) (ho : o ≤ 8)
    (hw : Rd W0 (.slice ao S.length cap) j o w) (n1 : fB (kr S) j 1 = false) (n2 : kB (kr S) j 0 = false) (n3 : kB (kr S) j 1 = false) :
    Calls Tryz.prog 176 #[.pointer (some ⟨W0.heap.size, 0, none⟩)] w (Left W0 ao cap S true j o w) := by
  have HW := hide hw
  have N1 := hide n1
  have N2 := hide n2
  have N3 := hide n3
  have HT := hide hT
  have IH := hide ih
  clear hw n1 n2 n3 hT ih
  go_enter Tryz.func176, Tryz.ntmps176
  go_wp2_with fail
  refine (acc_any W0 ao tb cap S 0 j o _ (unhide HT) hjl (unhide HW)).mono ?_
  rintro e w1 ⟨rfl, hw1, hk1⟩
  rw [unhide N2] at hw1 ⊢
  unfold Tok.v tokX
  have HW1 : Hid (Rd W0 (.slice ao S.length cap) j o w1) := hw1
  have HK1 := hide hk1
  clear hw1 hk1
  go_wp2_with fail
  refine (acc_any W0 ao tb cap S 1 j o _ (unhide HT) hjl ((unhide HW1).alloc _)).mono ?_
  rintro e w2 ⟨rfl, hw2, hk2⟩
  rw [unhide N3] at hw2 ⊢
  unfold Tok.v tokX
  have HW2 : Hid (Rd W0 (.slice ao S.length cap) j o w2) := hw2
  have HK2 : Hid (Kp W0 w w2) := ((unhide HK1).alloc _).trans hk2
  clear hw2 hk2
  go_wp2_with fail
  refine (parens_any W0 ao tb cap S (unhide HT) m (unhide IH) j o _ hm hjl ho ((unhide HW2).alloc _) (unhide N1) (unhide N2) (unhide N3)).mono ?_
  rintro e w3 ⟨b, k, p, q, rfl, h1, h2, h3⟩
  have H1 := hide h1
  have H2 := hide h2
  have H3 := hide h3
  clear h1 h2 h3
  go_wp2_with fail
  go_ret2
  obtain ⟨h3, h4, h5⟩ := unhide H3
  refine ⟨b, k, p, q, rfl, unhide H1, ((unhide HK2).alloc _).trans (unhide H2), h3, h4, fun hb => ?_⟩
  obtain ⟨x, hx1, hx2⟩ := h5 hb
  exact ⟨x, hx1, hx2.mono (by have := (unhide HK2).size; simp; omega)⟩
theorem thing_any (W0 : World) (ao : Option Addr) (tb cap : Nat) (S : List Tok) (hT : TokIn W0 ao tb S) (m : Nat) (ih : ExprC W0 ao cap S m) (j o : Nat) (w : World) (hm : S.length - j < m + 1) (hjl : j ≤ S.length) (ho : o ≤ 8)
    (hw : Rd W0 (.slice ao S.length cap) j o w) (n1 : fB (kr S) j 1 = false) :
    Calls Tryz.prog 176 #[.pointer (some ⟨W0.heap.size, 0, none⟩)] w (Left W0 ao cap S true j o w) := by
  cases h0 : kB (kr S) j 0
  · cases h1 : kB (kr S) j 1
    · exact thing_paren W0 ao tb cap S hT m ih j o w hm hjl ho hw n1 h0 h1
    · exact thing_name W0 ao tb cap S hT j o w hw h0 h1
  · exact thing_num W0 ao tb cap S hT j o w hw h0

theorem fun_kind {S : List Tok} (hwf : Wf (kr S)) {j : Nat} {r : Int} (h : fB (kr S) j r = true) (hr : r = 1 ∨ r = 2) : (tokAt S j).k ≠ 0 ∧ (tokAt S j).k ≠ 1 := by
  obtain ⟨hj, hb⟩ := fB_lt h
  obtain ⟨a, b, _, _⟩ := wf_fun hwf hj hb hr
  rw [kr_len] at hj
  rw [tokAt_lt hj]
  simp [kr] at a b
  exact ⟨a, b⟩

set_option maxHeartbeats 1000000 in
theorem expr_one (W0 : World) (ao : Option Addr) (tb cap : Nat) (S : List Tok) (hT : TokIn W0 ao tb S) (hWf : Wf (kr S)) (m : Nat) (ih : ExprC W0 ao cap S m) (j o : Nat) (w : World) (hm : S.length - j < m + 1) (ho : o ≤ 8)
    (hw : Rd W0 (.slice ao S.length cap) j o w) (hf : fB (kr S) j 1 = true) :
    Calls Tryz.prog 149 #[.pointer (some ⟨W0.heap.size, 0, none⟩)] w (Left W0 ao cap S false j o w) := by
  have HW := hide hw
  have HT := hide hT
  have IH := hide ih
  obtain ⟨hjl, hsc⟩ := sc_ahead (op := o) hWf hf
  rw [kr_len] at hjl
  have HKD := hide (fun_kind hWf hf (Or.inl rfl))
  have HPX := hide (fun r k => PX.one (S := S) j o r k hf)
  have HS := hide hsc
  have HF := hide hf
  obtain ⟨q, hq⟩ : ∃ q, tokAt S j = q := ⟨_, rfl⟩
  have HQ := hide hq
  simp only [hq] at HKD HPX
  obtain ⟨kk, rr, xx, tt, pp⟩ := q
  have hlt0 := hw.lt
  clear hw hT ih hsc hf hq hWf
  go_enter Tryz.func149, Tryz.ntmps149
  go_wp2_with fail
  refine (func_any W0 ao tb cap S 1 j o _ (unhide HT) (by omega) (unhide HW)).mono ?_
  rintro e w1 ⟨rfl, hw1, hk1⟩
  rw [unhide HF] at hw1 ⊢
  simp only [cond_true, unhide HQ]
  unfold Tok.v tokX
  have HW1 : Hid (Rd W0 (.slice ao S.length cap) (j + 1) o w1) := hw1
  have HK1 := hide hk1
  have hne : w1.heap.size ≠ W0.heap.size := by have := hw1.lt; omega
  clear hw1 hk1
  go_wp2_with fail
  refine (unhide IH (j + 1) o _ (by omega) (by omega) ho ((unhide HW1).alloc _)).mono ?_
  rintro e w2 ⟨b, k, p, qe, rfl, hw2, hk2, ⟨hkl, hno, hyes⟩, hf2, hx⟩
  rw [kr_len] at hkl
  have d0 := hk2.cell (b := w1.heap.size) (by simp) hne 0
  have d1 := hk2.cell (b := w1.heap.size) (by simp) hne 1
  have d2 := hk2.cell (b := w1.heap.size) (by simp) hne 2
  have d3 := hk2.cell (b := w1.heap.size) (by simp) hne 3
  have d4 := hk2.cell (b := w1.heap.size) (by simp) hne 4
  simp at d0 d1 d2 d3 d4
  have HK2 : Hid (Kp W0 w w2) := ((unhide HK1).alloc _).trans hk2
  have HW2 := hide hw2
  have hl2 := hw2.lt
  have HNO := hide hno
  have HYES := hide hyes
  have HF2 := hide hf2
  have HX := hide hx
  clear hk2 hw2 hno hyes hf2 hx
  go_wp2_with fail
  go_ret2
  cases b
  · obtain ⟨st, op, hc, ho⟩ := unhide HNO rfl
    exact Left.no _ ((unhide HW2).alloc _) ((unhide HK2).alloc _) hkl ⟨st, op, (unhide HS).trans hc, ho⟩
  · obtain ⟨rfl, hlt2, st, hst, hsc2, hnum⟩ := unhide HYES rfl
    obtain ⟨x, hx1, hx2⟩ := unhide HX rfl
    obtain ⟨k0, k1⟩ := unhide HKD
    exact Left.yes _ ((unhide HW2).alloc _) ((unhide HK2).alloc _) hkl (by omega) st hst ((unhide HS).trans hsc2) hnum (fun _ => unhide HF2 trivial rfl) _ (unhide HPX x k hx1) (isEx_one rfl (by have := (unhide HK2).size; omega) k0 k1 (hx2.mono (by have := (unhide HK1).size; simp; omega)))

set_option maxHeartbeats 1000000 in
theorem expr_two (W0 : World) (ao : Option Addr) (tb cap : Nat) (S : List Tok) (hT : TokIn W0 ao tb S) (hWf : Wf (kr S)) (m : Nat) (ih : ExprC W0 ao cap S m) (j o : Nat) (w : World) (hm : S.length - j < m + 1) (hjl : j ≤ S.length) (ho : o ≤ 8)
    (hw : Rd W0 (.slice ao S.length cap) j o w) (hf : fB (kr S) j 1 = false) :
    Calls Tryz.prog 149 #[.pointer (some ⟨W0.heap.size, 0, none⟩)] w (Left W0 ao cap S false j o w) := by
  have HW := hide hw
  have HT := hide hT
  have IH := hide ih
  have HF := hide hf
  have HWF := hide hWf
  have hlt0 := hw.lt
  clear hw hT ih hf hWf
  go_enter Tryz.func149, Tryz.ntmps149
  go_wp2_with fail
  refine (func_any W0 ao tb cap S 1 j o _ (unhide HT) hjl (unhide HW)).mono ?_
  rintro e w1 ⟨rfl, hw1, hk1⟩
  rw [unhide HF] at hw1 ⊢
  unfold Tok.v tokX
  have HW1 : Hid (Rd W0 (.slice ao S.length cap) j o w1) := hw1
  have HK1 := hide hk1
  clear hw1 hk1
  go_wp2_with fail
  refine (thing_any W0 ao tb cap S (unhide HT) m (unhide IH) j o _ hm hjl ho ((unhide HW1).alloc _) (unhide HF)).mono ?_
  rintro e w2 ⟨b, k, p, qe, rfl, hw2, hk2, ⟨hkl, hno, hyes⟩, _, hx⟩
  rw [kr_len] at hkl
  have HK2 : Hid (Kp W0 w w2) := ((unhide HK1).alloc _).trans hk2
  clear hk2
  cases b
  · have HNO := hide (hno rfl)
    have HW2 := hide hw2
    clear hw2 hno hyes hx
    go_wp2_with fail
    go_ret2
    exact Left.no _ (unhide HW2) (unhide HK2) hkl (unhide HNO)
  · obtain ⟨hpo, hlt2, st, hst, hsc2, hnum⟩ := hyes rfl
    rw [hpo] at hw2
    clear hpo
    have HX := hide (hx rfl)
    have HW2 := hide hw2
    have HS2 := hide hsc2
    have HNU := hide hnum
    have HST := hide hst
    clear hno hyes hw2 hsc2 hnum hst hx
    cases hf2 : fB (kr S) k 2
    · have HF2 := hide hf2
      clear hf2
      go_wp2_with fail
      refine (func_any W0 ao tb cap S 2 k o _ (unhide HT) hkl (unhide HW2)).mono ?_
      rintro e w3 ⟨rfl, hw3, hk3⟩
      rw [unhide HF2] at hw3 ⊢
      unfold Tok.v tokX
      have HW3 : Hid (Rd W0 (.slice ao S.length cap) k o w3) := hw3
      have HK3 := hide hk3
      clear hw3 hk3
      go_wp2_with fail
      go_ret2
      obtain ⟨x, hx1, hx2⟩ := unhide HX
      have hk4 := (unhide HK3).alloc (Obj.cells #[.int .i64 0, .int .i64 0, .int .i64 0, .string ⟨#[]⟩, .int .i64 0] 155)
      exact Left.yes _ ((unhide HW3).alloc _) ((unhide HK2).trans hk4) hkl hlt2 st (unhide HST) (unhide HS2) (unhide HNU) (fun _ => unhide HF2) x (PX.only j o x k (unhide HF) hx1 (unhide HF2)) ((hx2.mono (by have := (unhide HK1).size; simp; omega)).keep (hk4.behind' (by omega)))
    · have hst0 : st ≠ 0 := by have := unhide HST; omega
      obtain ⟨hlt3, hsc3⟩ := sc_between (op := o) (unhide HWF) hst0 hf2
      rw [kr_len] at hlt3
      have HS3 := hide ((unhide HS2).trans hsc3)
      have HKD := hide (fun_kind (unhide HWF) hf2 (Or.inr rfl))
      have HPX := hide (fun l hl r n => PX.two (S := S) j o l k r n (unhide HF) hl hf2)
      have HF2 := hide hf2
      obtain ⟨q, hq⟩ : ∃ q, tokAt S k = q := ⟨_, rfl⟩
      have HQ := hide hq
      simp only [hq] at HKD HPX
      obtain ⟨kk, rr, xx, tt, pp⟩ := q
      clear hf2 hsc3 hst0 hq
      go_wp2_with fail
      refine (func_any W0 ao tb cap S 2 k o _ (unhide HT) hkl (unhide HW2)).mono ?_
      rintro e w3 ⟨rfl, hw3, hk3⟩
      rw [unhide HF2] at hw3 ⊢
      simp only [cond_true, unhide HQ]
      unfold Tok.v tokX
      have HW3 : Hid (Rd W0 (.slice ao S.length cap) (k + 1) o w3) := hw3
      have HK3 := hide hk3
      have hne : w3.heap.size ≠ W0.heap.size := by have := hw3.lt; omega
      clear hw3 hk3
      go_wp2_with fail
      refine (unhide IH (k + 1) o _ (by omega) (by omega) ho ((unhide HW3).alloc _)).mono ?_
      rintro e w4 ⟨b, n, p4, q4, rfl, hw4, hk4, ⟨hnl, hno, hyes⟩, hf4, hx4⟩
      rw [kr_len] at hnl
      have d0 := hk4.cell (b := w3.heap.size) (by simp) hne 0
      have d1 := hk4.cell (b := w3.heap.size) (by simp) hne 1
      have d2 := hk4.cell (b := w3.heap.size) (by simp) hne 2
      have d3 := hk4.cell (b := w3.heap.size) (by simp) hne 3
      have d4 := hk4.cell (b := w3.heap.size) (by simp) hne 4
      simp at d0 d1 d2 d3 d4
      have HK4 : Hid (Kp W0 w2 w4) := ((unhide HK3).alloc _).trans hk4
      have HW4 := hide hw4
      have hl4 := hw4.lt
      have HNO := hide hno
      have HYES := hide hyes
      have HF4 := hide hf4
      have HX4 := hide hx4
      clear hk4 hw4 hno hyes hf4 hx4
      go_wp2_with fail
      go_ret2
      cases b
      · obtain ⟨st, op, hc, ho⟩ := unhide HNO rfl
        exact Left.no _ ((unhide HW4).alloc _) (((unhide HK2).trans (unhide HK4)).alloc _) hnl ⟨st, op, (unhide HS3).trans hc, ho⟩
      · obtain ⟨rfl, hlt4, st4, hst4, hsc4, hnum4⟩ := unhide HYES rfl
        obtain ⟨x, hx1, hx2⟩ := unhide HX
        obtain ⟨y, hy1, hy2⟩ := unhide HX4 rfl
        obtain ⟨k0, k1⟩ := unhide HKD
        exact Left.yes _ ((unhide HW4).alloc _) (((unhide HK2).trans (unhide HK4)).alloc _) hnl (by omega) st4 hst4 ((unhide HS3).trans hsc4) hnum4 (fun _ => unhide HF4 trivial rfl) _ (unhide HPX x hx1 y n hy1) (isEx_two rfl (by have := (unhide HK2).size; have := (unhide HK4).size; omega) k0 k1 ((hx2.mono (by have := (unhide HK1).size; simp; omega)).keep ((unhide HK4).behind' (by omega))) (hy2.mono (by have := (unhide HK2).size; have := (unhide HK3).size; simp; omega)))

theorem expr_any (W0 : World) (ao : Option Addr) (tb cap : Nat) (S : List Tok) (hT : TokIn W0 ao tb S) (hWf : Wf (kr S)) : ∀ m, ExprC W0 ao cap S m
  | 0 => fun _ _ _ h => absurd h (by omega)
  | m + 1 => fun j o w hm hjl ho hw => by
    have ih := expr_any W0 ao tb cap S hT hWf m
    cases hf : fB (kr S) j 1
    · exact expr_two W0 ao tb cap S hT hWf m ih j o w hm hjl ho hw hf
    · exact expr_one W0 ao tb cap S hT hWf m ih j o w hm ho hw hf
end Go.Proofs.YtjobgpahajhbnaaGreatDoor
