import Derived.Test.YtjobgpahajhbnabGreatDoorSc
namespace Go.Proofs.YtjobgpahajhbnabGreatDoor
open Go.RowKit
def ThR (T : List (Int × Int)) (j o : Nat) (b : Bool) (k p : Nat) : Prop :=
  k ≤ T.length ∧ (b = false → ∃ st op, sc T j 0 o = (k, st, op) ∧ (st = 0 ∨ o < op)) ∧ (b = true → p = o ∧ j < k ∧ ∃ st, (st = 1 ∨ st = 2) ∧ sc T j 0 o = sc T k st o ∧ (st = 1 → kB T k 0 = false))
def Left (W0 : World) (ao : Option Addr) (cap : Nat) (S : List Tok) (t : Bool) (j o : Nat) (w : World) (e : Ending) (w' : World) : Prop :=
  ∃ b k p q, e = .returned (.tuple #[.pointer q, .bool b]) ∧ Rd W0 (.slice ao S.length cap) k p w' ∧ Kp W0 w w' ∧ ThR (kr S) j o b k p ∧ (t = false → b = true → fB (kr S) k 2 = false) ∧ (b = true → ∃ x, PX S t j o x k ∧ IsEx (w.heap.size - 1) w' q x)
def Jew (W0 : World) (ao : Option Addr) (cap : Nat) (S : List Tok) (m : Nat) : Prop := ∀ (j o : Nat) (w : World), S.length - j < m → j ≤ S.length → o ≤ 8 → Rd W0 (.slice ao S.length cap) j o w →
  Calls Tryz.prog 69 #[.pointer (some ⟨W0.heap.size, 0, none⟩)] w (Left W0 ao cap S false j o w)
theorem Left.no {W0 : World} {ao : Option Addr} {cap : Nat} {S : List Tok} {t : Bool} {j o : Nat} {w w' : World} {k p : Nat} (q : Option Addr) (h1 : Rd W0 (.slice ao S.length cap) k p w') (h2 : Kp W0 w w') (hk : k ≤ S.length) (h3 : ∃ st op, sc (kr S) j 0 o = (k, st, op) ∧ (st = 0 ∨ o < op)) :
    Left W0 ao cap S t j o w (.returned (.tuple #[.pointer q, .bool false])) w' :=
  ⟨false, k, p, q, rfl, h1, h2, ⟨by rw [Yq]; exact hk, fun _ => h3, fun h => (by cases h)⟩, fun _ h => (by cases h), fun h => (by cases h)⟩
theorem Left.yes {W0 : World} {ao : Option Addr} {cap : Nat} {S : List Tok} {t : Bool} {j o : Nat} {w w' : World} {k : Nat} (q : Option Addr) (h1 : Rd W0 (.slice ao S.length cap) k o w') (h2 : Kp W0 w w') (hk : k ≤ S.length) (hj : j < k) (st : Nat) (h3 : st = 1 ∨ st = 2) (h4 : sc (kr S) j 0 o = sc (kr S) k st o) (h5 : st = 1 → kB (kr S) k 0 = false) (h6 : t = false → fB (kr S) k 2 = false) (x : Ex) (h7 : PX S t j o x k) (h8 : IsEx (w.heap.size - 1) w' q x) :
    Left W0 ao cap S t j o w (.returned (.tuple #[.pointer q, .bool true])) w' :=
  ⟨true, k, o, q, rfl, h1, h2, ⟨by rw [Yq]; exact hk, fun h => (by cases h), fun _ => ⟨rfl, hj, st, h3, h4, h5⟩⟩, fun h _ => h6 h, fun _ => ⟨x, h7, h8⟩⟩
theorem Jkm {B nb : Nat} {w : World} (hnb : w.heap.size = nb) (hB : B < nb) {r x p : Int} {t : ByteArray} {l rr n : Value} {ws : List Int} (h : IntsIn B w n ws) (h0 : 0 < ws.length) (h1 : ws.length ≤ 200) :
    IsEx B (w.alloc (.cells #[.int .i64 0, .int .i64 r, .int .i64 x, .string t, .int .i64 p, l, rr, n] 105)) (some ⟨nb, 0, none⟩) (.num ws) := by
  subst hnb
  exact ⟨w.heap.size, n, rfl, hB, by simp, by simp, by simp, h.keep (Behind.of_below ((Below.refl _ _).alloc (Nat.le_refl _) _)), h0, h1⟩
theorem Jho {B nb : Nat} {w : World} (hnb : w.heap.size = nb) (hB : B < nb) {r x : Int} {p : Nat} {t : ByteArray} {l rr n : Value} :
    IsEx B (w.alloc (.cells #[.int .i64 1, .int .i64 r, .int .i64 x, .string t, .int .i64 p, l, rr, n] 105)) (some ⟨nb, 0, none⟩) (.name t p) := by
  subst hnb
  exact ⟨w.heap.size, r, x, rfl, hB, by simp, by simp, by simp, by simp, by simp, by simp⟩
theorem Jkl {B nb : Nat} {w : World} (hnb : w.heap.size = nb) (hB : B < nb) {k r x : Int} {p : Nat} {t : ByteArray} {n : Value} {q : Option Addr} {e : Ex} (k0 : k ≠ 0) (k1 : k ≠ 1) (h : IsEx B w q e) :
    IsEx B (w.alloc (.cells #[.int .i64 k, .int .i64 r, .int .i64 x, .string t, .int .i64 p, .pointer none, .pointer q, n] 105)) (some ⟨nb, 0, none⟩) (.one t p e) := by
  subst hnb
  exact ⟨w.heap.size, k, q, rfl, hB, by simp, by simp, k0, k1, by simp, by simp, by simp, by simp, h.keep (Behind.of_below ((Below.refl _ _).alloc (Nat.le_refl _) _))⟩
theorem Jkk {B nb : Nat} {w : World} (hnb : w.heap.size = nb) (hB : B < nb) {k r x : Int} {p : Nat} {t : ByteArray} {n : Value} {ql q : Option Addr} {l e : Ex} (k0 : k ≠ 0) (k1 : k ≠ 1) (hl : IsEx B w ql l) (h : IsEx B w q e) :
    IsEx B (w.alloc (.cells #[.int .i64 k, .int .i64 r, .int .i64 x, .string t, .int .i64 p, .pointer ql, .pointer q, n] 105)) (some ⟨nb, 0, none⟩) (.two t p l e) := by
  subst hnb
  exact ⟨w.heap.size, k, ql, q, rfl, hB, by simp, by simp, k0, k1, by simp, by simp, by simp, by simp, hl.keep (Behind.of_below ((Below.refl _ _).alloc (Nat.le_refl _) _)), h.keep (Behind.of_below ((Below.refl _ _).alloc (Nat.le_refl _) _))⟩
theorem Jd7 (W0 : World) (ao : Option Addr) (tb cap : Nat) (S : List Tok) (hT : TokIn W0 ao tb S) (j o : Nat) (w : World) (hj0 : j < S.length) (hw : Rd W0 (.slice ao S.length cap) (j + 1) o w) (x : Int) (hx : (J5 S j).x = x) :
    Calls Tryz.prog 141 #[.pointer (some ⟨W0.heap.size, 0, none⟩), .int .i64 x] w fun e w' => ∃ k b c, e = .returned (.slice (some ⟨b, 0, none⟩) (k - j) c) ∧ j < k ∧ k ≤ S.length ∧ (∀ i, j < i → i < k → kB (kr S) i 0 = true) ∧ kB (kr S) k 0 = false ∧ Rd W0 (.slice ao S.length cap) k o w' ∧ Kp W0 w w' ∧ IntsIn (w.heap.size - 1) w' (.slice (some ⟨b, 0, none⟩) (k - j) c) (Zu S j k) := by
  subst hx
  refine (Jbp W0 ao tb cap S hT j o w hj0 hw).mono ?_
  rintro e w' ⟨k, v, rfl, h1, h2, h3, h4, h5, h6, h7⟩
  have hl := K3 S j k h2
  have h7' := Jhp (B := w.heap.size - 1) (ws := Zu S j k) (by rw [hl]; exact Nw h7 (by have := hw.lt; omega)) (by omega)
  obtain ⟨b, c, hv, r⟩ := h7'
  rw [hl] at hv
  subst hv
  exact ⟨k, b, c, rfl, h1, h2, h3, h4, h5, h6, b, c, by rw [hl], r⟩
theorem Jbh {T : List (Int × Int)} (o : Nat) : ∀ (n j : Nat), (∀ i, j ≤ i → i < j + (n + 1) → kB T i 0 = true) → sc T j 0 o = sc T (j + (n + 1)) 1 o
  | 0, j, h => (Jld (op := o) (st := 0) (by decide) (h j (by omega) (by omega))).2
  | n + 1, j, h => by
    rw [Jbh o n j (fun i h1 h2 => h i h1 (by omega))]
    exact (Jld (op := o) (st := 1) (by decide) (h (j + (n + 1)) (by omega) (by omega))).2
set_option maxHeartbeats 1000000 in
theorem Jfa (W0 : World) (ao : Option Addr) (tb cap : Nat) (S : List Tok) (hT : TokIn W0 ao tb S) (j o : Nat) (w : World) (hw : Rd W0 (.slice ao S.length cap) j o w) (hk : kB (kr S) j 0 = true) :
    Calls Tryz.prog 96 #[.pointer (some ⟨W0.heap.size, 0, none⟩)] w (Left W0 ao cap S true j o w) := by
  have HW := hide hw
  have HT := hide hT
  have hfew := hT.few
  have hlt := hw.lt
  obtain ⟨hjl, hq0⟩ := Vw hk
  rw [Yq] at hjl
  have HK := hide hk
  obtain ⟨q, hq⟩ : ∃ q, J5 S j = q := ⟨_, rfl⟩
  have hqk : q.k = 0 := by
    rw [← hq, Yo hjl]
    simpa [kr] using hq0
  have HQ := hide hq
  obtain ⟨kk, rr, xx, tt, pp⟩ := q
  simp only at hqk
  subst hqk
  clear hw hT hk hq hq0
  go_enter Tryz.func96, Tryz.ntmps96
  go_wp2_with fail
  refine (Zt W0 ao tb cap S 0 j o _ (Ja HT) (by omega) (Ja HW)).mono ?_
  rintro e w1 ⟨rfl, hw1, hk1⟩
  rw [Ja HK] at hw1 ⊢
  simp only [cond_true, Ja HQ]
  unfold Tok.v tokX
  have HW1 : Hid (Rd W0 (.slice ao S.length cap) (j + 1) o w1) := hw1
  have HK1 := hide hk1
  have hl1 := hw1.lt
  have hne : w1.heap.size ≠ W0.heap.size := by omega
  clear hw1 hk1
  go_wp2_with fail
  go_region_held3 (fun w' => w'.cell? ⟨w1.heap.size, 0, none⟩ = some (.int .i64 0) ∧ w'.cell? ⟨w1.heap.size, 1, none⟩ = some (.int .i64 rr) ∧ w'.cell? ⟨w1.heap.size, 2, none⟩ = some (.int .i64 xx) ∧ w'.cell? ⟨w1.heap.size, 3, none⟩ = some (.string tt) ∧ w'.cell? ⟨w1.heap.size, 4, none⟩ = some (.int .i64 pp))
    (first | go_keep | exact ⟨((Ja HK2).cell (b := w1.heap.size) (by simp) hne 0).trans (by simp), ((Ja HK2).cell (b := w1.heap.size) (by simp) hne 1).trans (by simp), ((Ja HK2).cell (b := w1.heap.size) (by simp) hne 2).trans (by simp), ((Ja HK2).cell (b := w1.heap.size) (by simp) hne 3).trans (by simp), ((Ja HK2).cell (b := w1.heap.size) (by simp) hne 4).trans (by simp)⟩)
    (first | (go_at_call 141; refine (Jd7 W0 ao tb cap S (Ja HT) j o _ hjl ?_ xx ?_).mono ?_; exact ((Ja HW1).alloc _).drew; (rw [Ja HQ]); rintro e w2 ⟨k, b, c, rfl, hjk, hkl, hall, hk0, hw2, hk2, hin⟩; have HW2 := hide hw2; have HK2 := hide hk2; have HIn := hide hin; have HAll := hide hall; have HK0 := hide hk0; clear hw2 hk2 hin hall hk0))
  go_wp2_with fail
  go_ret2
  have hls := K3 S j k hkl
  have hs1 := (Ja HK1).size
  have hs2 : w1.heap.size + 1 ≤ w2.heap.size := by have := (Ja HK2).size; simpa using this
  refine Left.yes _ ((Ja HW2).alloc _) ((((Ja HK1).alloc _).drew.trans (Ja HK2)).alloc _) hkl hjk 1 (Or.inl rfl) ?_ (fun _ => Ja HK0) (fun h => (by cases h)) _ (PX.nums j o k hjk hkl ?_ (Ja HK0)) (Jkm rfl (by have := hs2; omega) ((Ja HIn).mono (by have := hs1; simp; omega)) (by omega) (by omega))
  · have := Jbh (T := kr S) o (k - j - 1) j (fun i h1 h2 => by
      by_cases e : i = j
      · rw [e]; exact Ja HK
      · exact Ja HAll i (by omega) (by omega))
    rwa [show j + (k - j - 1 + 1) = k by omega] at this
  · intro i h1 h2
    by_cases e : i = j
    · rw [e]; exact Ja HK
    · exact Ja HAll i (by omega) h2
set_option maxHeartbeats 1000000 in
theorem Jdp (W0 : World) (ao : Option Addr) (tb cap : Nat) (S : List Tok) (hT : TokIn W0 ao tb S) (j o : Nat) (w : World) (hw : Rd W0 (.slice ao S.length cap) j o w) (hk0 : kB (kr S) j 0 = false) (hk : kB (kr S) j 1 = true) :
    Calls Tryz.prog 96 #[.pointer (some ⟨W0.heap.size, 0, none⟩)] w (Left W0 ao cap S true j o w) := by
  have HW := hide hw
  have HT := hide hT
  have hlt := hw.lt
  obtain ⟨hjl, hq0⟩ := Vw hk
  rw [Yq] at hjl
  have HK := hide hk
  have HK0 := hide hk0
  obtain ⟨q, hq⟩ : ∃ q, J5 S j = q := ⟨_, rfl⟩
  have hqk : q.k = 1 := by
    rw [← hq, Yo hjl]
    simpa [kr] using hq0
  have HQ := hide hq
  obtain ⟨kk, rr, xx, tt, pp⟩ := q
  simp only at hqk
  subst hqk
  clear hw hT hk hk0 hq hq0
  go_enter Tryz.func96, Tryz.ntmps96
  go_wp2_with fail
  refine (Zt W0 ao tb cap S 0 j o _ (Ja HT) (by omega) (Ja HW)).mono ?_
  rintro e w1 ⟨rfl, hw1, hk1⟩
  rw [Ja HK0] at hw1 ⊢
  unfold Tok.v tokX
  have HW1 : Hid (Rd W0 (.slice ao S.length cap) j o w1) := hw1
  have HK1 := hide hk1
  clear hw1 hk1
  go_wp2_with fail
  refine (Zt W0 ao tb cap S 1 j o _ (Ja HT) (by omega) ((Ja HW1).alloc _)).mono ?_
  rintro e w2 ⟨rfl, hw2, hk2⟩
  rw [Ja HK] at hw2 ⊢
  simp only [cond_true, Ja HQ]
  unfold Tok.v tokX
  have HW2 : Hid (Rd W0 (.slice ao S.length cap) (j + 1) o w2) := hw2
  have HK2 := hide hk2
  have hl2 := hw2.lt
  clear hw2 hk2
  go_wp2_with fail
  go_ret2
  obtain ⟨_, hsc⟩ := Jfs (op := o) (Ja HK)
  have hs2 : w.heap.size ≤ w2.heap.size := by have := (Ja HK1).size; have := (Ja HK2).size; simp at this; omega
  refine Left.yes _ (((Ja HW2).alloc _).alloc _) ((((((Ja HK1).alloc _).trans (Ja HK2)).alloc _)).alloc _) (by omega) (by omega) 2 (Or.inr rfl) hsc (fun h => (by cases h)) (fun h => (by cases h)) (.name tt pp) ?_ (Jho (by simp) (by omega))
  have := PX.name (S := S) j o (Ja HK)
  rwa [Ja HQ] at this
set_option maxHeartbeats 1000000 in
theorem Jd2 (W0 : World) (ao : Option Addr) (tb cap : Nat) (S : List Tok) (hT : TokIn W0 ao tb S) (m : Nat) (ih : Jew W0 ao cap S m) (j o : Nat) (w : World) (hm : S.length - j < m + 1) (hjl : j ≤ S.length) (ho : o ≤ 8)
    (hw : Rd W0 (.slice ao S.length cap) j o w) (n1 : fB (kr S) j 1 = false) (n2 : kB (kr S) j 0 = false) (n3 : kB (kr S) j 1 = false) :
    Calls Tryz.prog 142 #[.pointer (some ⟨W0.heap.size, 0, none⟩)] w (Left W0 ao cap S true j o w) := by
  have HW := hide hw
  have N1 := hide n1
  have N2 := hide n2
  have N3 := hide n3
  have HT := hide hT
  have IH := hide ih
  have c2 := hw.opn
  have g2 := hw.fr2
  have hlt := hw.lt
  clear hw n1 n2 n3 hT ih
  by_cases h8 : o = 8
  · subst h8
    go_enter Tryz.func142, Tryz.ntmps142
    go_wp2_with fail
    go_ret2
    exact Left.no _ (Ja HW) (Kp.refl _ _) hjl ⟨0, 8, Jlc (Ja N1) (Ja N2) (Ja N3) (Or.inr (by omega)), Or.inl rfl⟩
  · have h8' : ((o : Int) == 8) = false := beq_eq_false_iff_ne.2 (by omega)
    have ho7 : o < 8 := by omega
    clear h8
    cases hk : kB (kr S) j 4
    · have HK := hide hk
      clear hk
      go_enter Tryz.func142, Tryz.ntmps142
      go_wp2_with fail
      refine (Zt W0 ao tb cap S 4 j o _ (Ja HT) hjl (Ja HW)).mono ?_
      rintro e w1 ⟨rfl, hw1, hk1⟩
      rw [Ja HK] at hw1 ⊢
      unfold Tok.v tokX
      have HW1 : Hid (Rd W0 (.slice ao S.length cap) j o w1) := hw1
      have HK1 := hide hk1
      clear hw1 hk1
      go_wp2_with fail
      go_ret2
      exact Left.no _ ((Ja HW1).alloc _) ((Ja HK1).alloc _) hjl ⟨0, o, Jlc (Ja N1) (Ja N2) (Ja N3) (Or.inl (Ja HK)), Or.inl rfl⟩
    · obtain ⟨hjl', hsc⟩ := Jfr hk ho7
      rw [Yq] at hjl'
      have HS := hide hsc
      have HK := hide hk
      obtain ⟨q, hq⟩ : ∃ q, J5 S j = q := ⟨_, rfl⟩
      have HQ := hide hq
      obtain ⟨kk, rr, xx, tt, pp⟩ := q
      clear hk hsc hq
      go_enter Tryz.func142, Tryz.ntmps142
      go_wp2_with fail
      refine (Zt W0 ao tb cap S 4 j o _ (Ja HT) hjl (Ja HW)).mono ?_
      rintro e w1 ⟨rfl, hw1, hk1⟩
      rw [Ja HK] at hw1 ⊢
      simp only [cond_true, Ja HQ]
      unfold Tok.v tokX
      have HW1 : Hid (Rd W0 (.slice ao S.length cap) (j + 1) o w1) := hw1
      have HK1 := hide hk1
      clear hw1 hk1
      have d2 := (Ja HW1).opn
      have e2 := (Ja HW1).fr2
      have hl1 := (Ja HW1).lt
      have hn1 : W0.heap.size ≠ w1.heap.size := by omega
      go_wp2_with fail
      refine (Ja IH (j + 1) (o + 1) _ (by omega) (by omega) (by omega) (((Ja HW1).opened (o + 1)).alloc _)).mono ?_
      rintro e w2 ⟨b, k, p, qe, rfl, hw2, hk2, ⟨hkl, hno, hyes⟩, hf, hx⟩
      rw [Yq] at hkl
      have hle : w.heap.size - 1 ≤ ((w1.setCell ⟨W0.heap.size, 2, none⟩ (.int .i64 ((o : Int) + 1))).alloc (Obj.cells #[.int .i64 kk, .int .i64 rr, .int .i64 xx, .string tt, .int .i64 pp] 84)).heap.size - 1 := by have := (Ja HK1).size; simp; omega
      have HLE := hide hle
      clear hle
      have HK2 : Hid (Kp W0 w w2) := (((Ja HK1).trans (Kp.setReader _ _ _ _)).alloc _).trans hk2
      clear hk2
      cases b
      · have HN := hide (hno rfl)
        have HW2 := hide hw2
        clear hno hyes hf hx hw2
        go_wp2_with fail
        go_ret2
        obtain ⟨st, op, hc, ho⟩ := Ja HN
        exact Left.no _ (Ja HW2) (Ja HK2) hkl ⟨st, op, (Ja HS).trans hc, by omega⟩
      · obtain ⟨rfl, hlt2, st, hst, hsc2, hnum⟩ := hyes rfl
        have HX := hide (hx rfl)
        have HW2 := hide hw2
        have HF := hide (hf rfl rfl)
        have HS2 := hide ((Ja HS).trans hsc2)
        have HNU := hide hnum
        have HST := hide hst
        have hl2 := hw2.lt
        clear hno hyes hf hw2 hsc2 hnum hst hx
        cases hk5 : kB (kr S) k 5
        · have HK5 := hide hk5
          clear hk5
          go_wp2_with fail
          refine (Zt W0 ao tb cap S 5 k (o + 1) _ (Ja HT) hkl (Ja HW2)).mono ?_
          rintro e w3 ⟨rfl, hw3, hk3⟩
          rw [Ja HK5] at hw3 ⊢
          unfold Tok.v tokX
          have HW3 : Hid (Rd W0 (.slice ao S.length cap) k (o + 1) w3) := hw3
          have HK3 := hide hk3
          clear hw3 hk3
          have d3 := (Ja HW3).opn
          have e3 := (Ja HW3).fr2
          go_wp2_with fail
          go_ret2
          exact Left.no _ ((Ja HW3).opened o) (((Ja HK2).trans (Ja HK3)).trans (Kp.setReader _ _ _ _)) hkl ⟨st, o + 1, (Ja HS2).trans (Jnj (Ja HST) (Ja HNU) (Ja HF) (Or.inl (Ja HK5))), Or.inr (by omega)⟩
        · have hst0 : st ≠ 0 := by have := Ja HST; omega
          obtain ⟨hlt3, hsc3⟩ := Jck (op := o) hst0 hk5
          rw [Yq] at hlt3
          have HS3 := hide ((Ja HS2).trans hsc3)
          have HK5 := hide hk5
          obtain ⟨q5, hq5⟩ : ∃ q, J5 S k = q := ⟨_, rfl⟩
          have HQ5 := hide hq5
          obtain ⟨k5, r5, x5, t5, p5⟩ := q5
          clear hk5 hsc3 hst0 hq5
          go_wp2_with fail
          refine (Zt W0 ao tb cap S 5 k (o + 1) _ (Ja HT) hkl (Ja HW2)).mono ?_
          rintro e w3 ⟨rfl, hw3, hk3⟩
          rw [Ja HK5] at hw3 ⊢
          simp only [cond_true, Ja HQ5]
          unfold Tok.v tokX
          have HW3 : Hid (Rd W0 (.slice ao S.length cap) (k + 1) (o + 1) w3) := hw3
          have HK3 := hide hk3
          clear hw3 hk3
          have d3 := (Ja HW3).opn
          have e3 := (Ja HW3).fr2
          go_wp2_with fail
          go_ret2
          obtain ⟨x, hx1, hx2⟩ := Ja HX
          have hk4 := (Ja HK3).trans (Kp.setReader W0 _ 2 (.int .i64 (o : Int)))
          exact Left.yes _ ((Ja HW3).opened o) ((Ja HK2).trans hk4) (by omega) (by omega) 2 (Or.inr rfl) (Ja HS3) (fun h => (by cases h)) (fun h => (by cases h)) x (PX.paren j o x k (Ja HK) ho7 hx1 (Ja HK5)) ((hx2.mono (Ja HLE)).keep (hk4.behind' (by omega)))
end Go.Proofs.YtjobgpahajhbnabGreatDoor
namespace Go.Proofs.YtjobgpahajhbnabGreatDoor
open Go.RowKit
set_option maxHeartbeats 1000000 in
theorem Jbd (W0 : World) (ao : Option Addr) (tb cap : Nat) (S : List Tok) (hT : TokIn W0 ao tb S) (m : Nat) (ih : Jew W0 ao cap S m) (j o : Nat) (w : World) (hm : S.length - j < m + 1) (hjl : j ≤ S.length) (ho : o ≤ 8)
    (hw : Rd W0 (.slice ao S.length cap) j o w) (n1 : fB (kr S) j 1 = false) (n2 : kB (kr S) j 0 = false) (n3 : kB (kr S) j 1 = false) :
    Calls Tryz.prog 96 #[.pointer (some ⟨W0.heap.size, 0, none⟩)] w (Left W0 ao cap S true j o w) := by
  have HW := hide hw
  have N1 := hide n1
  have N2 := hide n2
  have N3 := hide n3
  have HT := hide hT
  have IH := hide ih
  clear hw n1 n2 n3 hT ih
  go_enter Tryz.func96, Tryz.ntmps96
  go_wp2_with fail
  refine (Zt W0 ao tb cap S 0 j o _ (Ja HT) hjl (Ja HW)).mono ?_
  rintro e w1 ⟨rfl, hw1, hk1⟩
  rw [Ja N2] at hw1 ⊢
  unfold Tok.v tokX
  have HW1 : Hid (Rd W0 (.slice ao S.length cap) j o w1) := hw1
  have HK1 := hide hk1
  clear hw1 hk1
  go_wp2_with fail
  refine (Zt W0 ao tb cap S 1 j o _ (Ja HT) hjl ((Ja HW1).alloc _)).mono ?_
  rintro e w2 ⟨rfl, hw2, hk2⟩
  rw [Ja N3] at hw2 ⊢
  unfold Tok.v tokX
  have HW2 : Hid (Rd W0 (.slice ao S.length cap) j o w2) := hw2
  have HK2 : Hid (Kp W0 w w2) := ((Ja HK1).alloc _).trans hk2
  clear hw2 hk2
  go_wp2_with fail
  refine (Jd2 W0 ao tb cap S (Ja HT) m (Ja IH) j o _ hm hjl ho ((Ja HW2).alloc _) (Ja N1) (Ja N2) (Ja N3)).mono ?_
  rintro e w3 ⟨b, k, p, q, rfl, h1, h2, h3⟩
  have H1 := hide h1
  have H2 := hide h2
  have H3 := hide h3
  clear h1 h2 h3
  go_wp2_with fail
  go_ret2
  obtain ⟨h3, h4, h5⟩ := Ja H3
  refine ⟨b, k, p, q, rfl, Ja H1, ((Ja HK2).alloc _).trans (Ja H2), h3, h4, fun hb => ?_⟩
  obtain ⟨x, hx1, hx2⟩ := h5 hb
  exact ⟨x, hx1, hx2.mono (by have := (Ja HK2).size; simp; omega)⟩
theorem Jfb (W0 : World) (ao : Option Addr) (tb cap : Nat) (S : List Tok) (hT : TokIn W0 ao tb S) (m : Nat) (ih : Jew W0 ao cap S m) (j o : Nat) (w : World) (hm : S.length - j < m + 1) (hjl : j ≤ S.length) (ho : o ≤ 8)
    (hw : Rd W0 (.slice ao S.length cap) j o w) (n1 : fB (kr S) j 1 = false) :
    Calls Tryz.prog 96 #[.pointer (some ⟨W0.heap.size, 0, none⟩)] w (Left W0 ao cap S true j o w) := by
  cases h0 : kB (kr S) j 0
  · cases h1 : kB (kr S) j 1
    · exact Jbd W0 ao tb cap S hT m ih j o w hm hjl ho hw n1 h0 h1
    · exact Jdp W0 ao tb cap S hT j o w hw h0 h1
  · exact Jfa W0 ao tb cap S hT j o w hw h0
theorem Jc3 {S : List Tok} (hwf : Wf (kr S)) {j : Nat} {r : Int} (h : fB (kr S) j r = true) (hr : r = 1 ∨ r = 2) : (J5 S j).k ≠ 0 ∧ (J5 S j).k ≠ 1 := by
  obtain ⟨hj, hb⟩ := Jmx h
  obtain ⟨a, b, _, _⟩ := Jez hwf hj hb hr
  rw [Yq] at hj
  rw [Yo hj]
  simp [kr] at a b
  exact ⟨a, b⟩
set_option maxHeartbeats 1000000 in
theorem Jkv (W0 : World) (ao : Option Addr) (tb cap : Nat) (S : List Tok) (hT : TokIn W0 ao tb S) (hWf : Wf (kr S)) (m : Nat) (ih : Jew W0 ao cap S m) (j o : Nat) (w : World) (hm : S.length - j < m + 1) (ho : o ≤ 8)
    (hw : Rd W0 (.slice ao S.length cap) j o w) (hf : fB (kr S) j 1 = true) :
    Calls Tryz.prog 69 #[.pointer (some ⟨W0.heap.size, 0, none⟩)] w (Left W0 ao cap S false j o w) := by
  have HW := hide hw
  have HT := hide hT
  have IH := hide ih
  obtain ⟨hjl, hsc⟩ := Jcl (op := o) hWf hf
  rw [Yq] at hjl
  have HKD := hide (Jc3 hWf hf (Or.inl rfl))
  have HPX := hide (fun r k => PX.one (S := S) j o r k hf)
  have HS := hide hsc
  have HF := hide hf
  obtain ⟨q, hq⟩ : ∃ q, J5 S j = q := ⟨_, rfl⟩
  have HQ := hide hq
  simp only [hq] at HKD HPX
  obtain ⟨kk, rr, xx, tt, pp⟩ := q
  have hlt0 := hw.lt
  clear hw hT ih hsc hf hq hWf
  go_enter Tryz.func69, Tryz.ntmps69
  go_wp2_with fail
  refine (V5 W0 ao tb cap S 1 j o _ (Ja HT) (by omega) (Ja HW)).mono ?_
  rintro e w1 ⟨rfl, hw1, hk1⟩
  rw [Ja HF] at hw1 ⊢
  simp only [cond_true, Ja HQ]
  unfold Tok.v tokX
  have HW1 : Hid (Rd W0 (.slice ao S.length cap) (j + 1) o w1) := hw1
  have HK1 := hide hk1
  have hne : w1.heap.size ≠ W0.heap.size := by have := hw1.lt; omega
  clear hw1 hk1
  go_wp2_with fail
  refine (Ja IH (j + 1) o _ (by omega) (by omega) ho ((Ja HW1).alloc _)).mono ?_
  rintro e w2 ⟨b, k, p, qe, rfl, hw2, hk2, ⟨hkl, hno, hyes⟩, hf2, hx⟩
  rw [Yq] at hkl
  have d0 := hk2.cell (b := w1.heap.size) (by simp) hne 0
  have d1 := hk2.cell (b := w1.heap.size) (by simp) hne 1
  have d2 := hk2.cell (b := w1.heap.size) (by simp) hne 2
  have d3 := hk2.cell (b := w1.heap.size) (by simp) hne 3
  have d4 := hk2.cell (b := w1.heap.size) (by simp) hne 4
  simp at d0 d1 d2 d3 d4
  have HK2 : Hid (Kp W0 w w2) := ((Ja HK1).alloc _).trans hk2
  have HW2 := hide hw2
  have hl2 := hw2.lt
  have HNO := hide hno
  have HYES := hide hyes
  have HF2 := hide hf2
  have HX := hide hx
  clear hk2 hw2 hno hyes hf2 hx
  go_wp2_with fail
  go_ret2
  cases b
  · obtain ⟨st, op, hc, ho⟩ := Ja HNO rfl
    exact Left.no _ ((Ja HW2).alloc _) ((Ja HK2).alloc _) hkl ⟨st, op, (Ja HS).trans hc, ho⟩
  · obtain ⟨rfl, hlt2, st, hst, hsc2, hnum⟩ := Ja HYES rfl
    obtain ⟨x, hx1, hx2⟩ := Ja HX rfl
    obtain ⟨k0, k1⟩ := Ja HKD
    exact Left.yes _ ((Ja HW2).alloc _) ((Ja HK2).alloc _) hkl (by omega) st hst ((Ja HS).trans hsc2) hnum (fun _ => Ja HF2 trivial rfl) _ (Ja HPX x k hx1) (Jkl rfl (by have := (Ja HK2).size; omega) k0 k1 (hx2.mono (by have := (Ja HK1).size; simp; omega)))
set_option maxHeartbeats 1000000 in
theorem Jku (W0 : World) (ao : Option Addr) (tb cap : Nat) (S : List Tok) (hT : TokIn W0 ao tb S) (hWf : Wf (kr S)) (m : Nat) (ih : Jew W0 ao cap S m) (j o : Nat) (w : World) (hm : S.length - j < m + 1) (hjl : j ≤ S.length) (ho : o ≤ 8)
    (hw : Rd W0 (.slice ao S.length cap) j o w) (hf : fB (kr S) j 1 = false) :
    Calls Tryz.prog 69 #[.pointer (some ⟨W0.heap.size, 0, none⟩)] w (Left W0 ao cap S false j o w) := by
  have HW := hide hw
  have HT := hide hT
  have IH := hide ih
  have HF := hide hf
  have HWF := hide hWf
  have hlt0 := hw.lt
  clear hw hT ih hf hWf
  go_enter Tryz.func69, Tryz.ntmps69
  go_wp2_with fail
  refine (V5 W0 ao tb cap S 1 j o _ (Ja HT) hjl (Ja HW)).mono ?_
  rintro e w1 ⟨rfl, hw1, hk1⟩
  rw [Ja HF] at hw1 ⊢
  unfold Tok.v tokX
  have HW1 : Hid (Rd W0 (.slice ao S.length cap) j o w1) := hw1
  have HK1 := hide hk1
  clear hw1 hk1
  go_wp2_with fail
  refine (Jfb W0 ao tb cap S (Ja HT) m (Ja IH) j o _ hm hjl ho ((Ja HW1).alloc _) (Ja HF)).mono ?_
  rintro e w2 ⟨b, k, p, qe, rfl, hw2, hk2, ⟨hkl, hno, hyes⟩, _, hx⟩
  rw [Yq] at hkl
  have HK2 : Hid (Kp W0 w w2) := ((Ja HK1).alloc _).trans hk2
  clear hk2
  cases b
  · have HNO := hide (hno rfl)
    have HW2 := hide hw2
    clear hw2 hno hyes hx
    go_wp2_with fail
    go_ret2
    exact Left.no _ (Ja HW2) (Ja HK2) hkl (Ja HNO)
  · obtain ⟨hpo, hlt2, st, hst, hsc2, hnum⟩ := hyes rfl
    rw [hpo] at hw2
    clear hpo
    have HX := hide (hx rfl)
    have HW2 := hide hw2
    have HS2 := hide hsc2
    have HNU := hide hnum
    have HST := hide hst
    clear hno hyes hw2 hsc2 hnum hst hx
    cases hf2 : fB (kr S) k 2
    · have HF2 := hide hf2
      clear hf2
      go_wp2_with fail
      refine (V5 W0 ao tb cap S 2 k o _ (Ja HT) hkl (Ja HW2)).mono ?_
      rintro e w3 ⟨rfl, hw3, hk3⟩
      rw [Ja HF2] at hw3 ⊢
      unfold Tok.v tokX
      have HW3 : Hid (Rd W0 (.slice ao S.length cap) k o w3) := hw3
      have HK3 := hide hk3
      clear hw3 hk3
      go_wp2_with fail
      go_ret2
      obtain ⟨x, hx1, hx2⟩ := Ja HX
      have hk4 := (Ja HK3).alloc (Obj.cells #[.int .i64 0, .int .i64 0, .int .i64 0, .string ⟨#[]⟩, .int .i64 0] 84)
      exact Left.yes _ ((Ja HW3).alloc _) ((Ja HK2).trans hk4) hkl hlt2 st (Ja HST) (Ja HS2) (Ja HNU) (fun _ => Ja HF2) x (PX.only j o x k (Ja HF) hx1 (Ja HF2)) ((hx2.mono (by have := (Ja HK1).size; simp; omega)).keep (hk4.behind' (by omega)))
    · have hst0 : st ≠ 0 := by have := Ja HST; omega
      obtain ⟨hlt3, hsc3⟩ := Gt (op := o) (Ja HWF) hst0 hf2
      rw [Yq] at hlt3
      have HS3 := hide ((Ja HS2).trans hsc3)
      have HKD := hide (Jc3 (Ja HWF) hf2 (Or.inr rfl))
      have HPX := hide (fun l hl r n => PX.two (S := S) j o l k r n (Ja HF) hl hf2)
      have HF2 := hide hf2
      obtain ⟨q, hq⟩ : ∃ q, J5 S k = q := ⟨_, rfl⟩
      have HQ := hide hq
      simp only [hq] at HKD HPX
      obtain ⟨kk, rr, xx, tt, pp⟩ := q
      clear hf2 hsc3 hst0 hq
      go_wp2_with fail
      refine (V5 W0 ao tb cap S 2 k o _ (Ja HT) hkl (Ja HW2)).mono ?_
      rintro e w3 ⟨rfl, hw3, hk3⟩
      rw [Ja HF2] at hw3 ⊢
      simp only [cond_true, Ja HQ]
      unfold Tok.v tokX
      have HW3 : Hid (Rd W0 (.slice ao S.length cap) (k + 1) o w3) := hw3
      have HK3 := hide hk3
      have hne : w3.heap.size ≠ W0.heap.size := by have := hw3.lt; omega
      clear hw3 hk3
      go_wp2_with fail
      refine (Ja IH (k + 1) o _ (by omega) (by omega) ho ((Ja HW3).alloc _)).mono ?_
      rintro e w4 ⟨b, n, p4, q4, rfl, hw4, hk4, ⟨hnl, hno, hyes⟩, hf4, hx4⟩
      rw [Yq] at hnl
      have d0 := hk4.cell (b := w3.heap.size) (by simp) hne 0
      have d1 := hk4.cell (b := w3.heap.size) (by simp) hne 1
      have d2 := hk4.cell (b := w3.heap.size) (by simp) hne 2
      have d3 := hk4.cell (b := w3.heap.size) (by simp) hne 3
      have d4 := hk4.cell (b := w3.heap.size) (by simp) hne 4
      simp at d0 d1 d2 d3 d4
      have HK4 : Hid (Kp W0 w2 w4) := ((Ja HK3).alloc _).trans hk4
      have HW4 := hide hw4
      have hl4 := hw4.lt
      have HNO := hide hno
      have HYES := hide hyes
      have HF4 := hide hf4
      have HX4 := hide hx4
      clear hk4 hw4 hno hyes hf4 hx4
      go_wp2_with fail
      go_ret2
      cases b
      · obtain ⟨st, op, hc, ho⟩ := Ja HNO rfl
        exact Left.no _ ((Ja HW4).alloc _) (((Ja HK2).trans (Ja HK4)).alloc _) hnl ⟨st, op, (Ja HS3).trans hc, ho⟩
      · obtain ⟨rfl, hlt4, st4, hst4, hsc4, hnum4⟩ := Ja HYES rfl
        obtain ⟨x, hx1, hx2⟩ := Ja HX
        obtain ⟨y, hy1, hy2⟩ := Ja HX4 rfl
        obtain ⟨k0, k1⟩ := Ja HKD
        exact Left.yes _ ((Ja HW4).alloc _) (((Ja HK2).trans (Ja HK4)).alloc _) hnl (by omega) st4 hst4 ((Ja HS3).trans hsc4) hnum4 (fun _ => Ja HF4 trivial rfl) _ (Ja HPX x hx1 y n hy1) (Jkk rfl (by have := (Ja HK2).size; have := (Ja HK4).size; omega) k0 k1 ((hx2.mono (by have := (Ja HK1).size; simp; omega)).keep ((Ja HK4).behind' (by omega))) (hy2.mono (by have := (Ja HK2).size; have := (Ja HK3).size; simp; omega)))
theorem Q2 (W0 : World) (ao : Option Addr) (tb cap : Nat) (S : List Tok) (hT : TokIn W0 ao tb S) (hWf : Wf (kr S)) : ∀ m, Jew W0 ao cap S m
  | 0 => fun _ _ _ h => absurd h (by omega)
  | m + 1 => fun j o w hm hjl ho hw => by
    have ih := Q2 W0 ao tb cap S hT hWf m
    cases hf : fB (kr S) j 1
    · exact Jku W0 ao tb cap S hT hWf m ih j o w hm hjl ho hw hf
    · exact Jkv W0 ao tb cap S hT hWf m ih j o w hm ho hw hf
end Go.Proofs.YtjobgpahajhbnabGreatDoor
namespace Go.Proofs.YtjobgpahajhbnabGreatDoor
open Go.RowKit
def beg (T : List (Int × Int)) : Nat := bif kB T 0 1 && kB T 1 2 then 2 else 0
def Kt (S : List Tok) : ByteArray := bif kB (kr S) 0 1 && kB (kr S) 1 2 then (J5 S 0).t else ⟨#[]⟩
def Jev (W0 : World) (ao : Option Addr) (cap : Nat) (S : List Tok) (w : World) (e : Ending) (w' : World) : Prop :=
  ∃ b k p q, e = .returned (.tuple #[.agg #[.string (Kt S), .pointer q], .bool b]) ∧ Rd W0 (.slice ao S.length cap) k p w' ∧ Kp W0 w w' ∧ ThR (kr S) (beg (kr S)) 0 b k p ∧ (b = true → fB (kr S) k 2 = false) ∧ (b = true → ∃ x, PX S false (beg (kr S)) 0 x k ∧ IsEx W0.heap.size w' q x)
set_option maxHeartbeats 1000000 in
theorem Jec (W0 : World) (ao : Option Addr) (tb cap : Nat) (S : List Tok) (hT : TokIn W0 ao tb S) (hWf : Wf (kr S)) (w : World) (hw : Rd W0 (.slice ao S.length cap) 0 0 w) (h2 : S.length ≤ 1) :
    Calls Tryz.prog 44 #[.pointer (some ⟨W0.heap.size, 0, none⟩)] w (Jev W0 ao cap S w) := by
  have HW := hide hw
  have c0 := hw.tok
  have c1 := hw.nxt
  have f1 := hw.fr1
  have hlt := hw.lt
  have hne : w.heap.size ≠ W0.heap.size := by omega
  have hfew := hT.few
  have hlen : (S.length : Int) ≤ 1 := by omega
  have bq : (kB (kr S) 0 1 && kB (kr S) 1 2) = false := by rw [Jc1 h2 2, Bool.and_false]
  have HBG : Hid (beg (kr S) = 0) := hide (by unfold beg; rw [bq]; rfl)
  have HNM : Hid (Kt S = ⟨#[]⟩) := hide (by unfold Kt; rw [bq]; rfl)
  clear bq
  have HIH := hide (Q2 W0 _ tb cap S hT hWf (S.length + 1))
  clear hw hT hWf
  go_enter Tryz.func44, Tryz.ntmps44
  go_wp2_with fail
  refine (Ja HIH 0 0 _ (by omega) (by omega) (by omega) ((Ja HW).alloc _)).mono ?_
  rintro e w1 ⟨b, k, p, q, rfl, hw1, hk1, hth, hf, hx⟩
  have d0 := hk1.cell (b := w.heap.size) (by simp) hne 0
  have d1 := hk1.cell (b := w.heap.size) (by simp) hne 1
  have g0 := hk1.frozen (b := w.heap.size) (by simp) hne 0
  have g1 := hk1.frozen (b := w.heap.size) (by simp) hne 1
  simp at d0 d1 g0 g1
  have HK1 : Hid (Kp W0 w w1) := ((Kp.refl W0 w).alloc _).trans hk1
  have HW1 := hide hw1
  have HTH := hide hth
  have HF := hide hf
  have HX := hide hx
  clear hw1 hk1 hth hf hx c0 c1 f1
  go_wp2_with fail
  refine bodyPost_ret (v := .tuple #[.agg #[.string ⟨#[]⟩, .pointer q], .bool b]) (by simp [results, Tryz.results44, go_sem, d0, d1]) rfl ⟨b, k, p, q, ?_, ?_, ?_, ?_, ?_, ?_⟩
  · rw [Ja HNM]
  · exact ((Ja HW1).other hlt _ _).other hlt _ _
  · exact ((Ja HK1).new (Nat.le_refl _) _ _).new (Nat.le_refl _) _ _
  · rw [Ja HBG]; exact Ja HTH
  · intro h; exact Ja HF trivial h
  · intro h
    rw [Ja HBG]
    obtain ⟨x, hx1, hx2⟩ := Ja HX h
    have hx3 : IsEx w.heap.size w1 q x := hx2.mono (by simp)
    refine ⟨x, hx1, (hx3.keep ?_).mono (by omega)⟩
    exact ⟨by simp, fun b' h1 h2 => by rw [RowKit.Below.heap_setCell _ _ _ _ (by simp; omega), RowKit.Below.heap_setCell _ _ _ _ (by simp; omega)]⟩
set_option maxHeartbeats 1000000 in
theorem Jj6 (W0 : World) (ao : Option Addr) (tb cap : Nat) (S : List Tok) (hT : TokIn W0 ao tb S) (hWf : Wf (kr S)) (w : World) (hw : Rd W0 (.slice ao S.length cap) 0 0 w) (h2 : 1 < S.length) (hk : kB (kr S) 0 1 = false) :
    Calls Tryz.prog 44 #[.pointer (some ⟨W0.heap.size, 0, none⟩)] w (Jev W0 ao cap S w) := by
  have HW := hide hw
  have c0 := hw.tok
  have c1 := hw.nxt
  have f1 := hw.fr1
  have hlt := hw.lt
  have hne : w.heap.size ≠ W0.heap.size := by omega
  have hfew := hT.few
  obtain ⟨rfl, htl⟩ := hT.addr (by omega)
  have htl' : tb < w.heap.size := Nat.lt_trans htl hlt
  have hlen : (1 : Int) < (S.length : Int) := by omega
  obtain ⟨a0, _, _, a3, _⟩ := hT.cell 0 (by omega)
  obtain ⟨b0, _, _, _, _⟩ := hT.cell 1 (by omega)
  have k0 := (hw.below.cell (p := ⟨tb, 0, none⟩) htl).trans a0
  have k1 := (hw.below.cell (p := ⟨tb, 5, none⟩) htl).trans b0
  have k3 := (hw.below.cell (p := ⟨tb, 3, none⟩) htl).trans a3
  have e0 := Jae (S := S) (j := 0) (by omega) 1
  have e1 := Jae (S := S) (j := 1) (by omega) 2
  have et : (J5 S 0).t = S[0].t := by rw [Yo (by omega)]
  obtain ⟨x0, hx0⟩ : ∃ x, S[0].k = x := ⟨_, rfl⟩
  obtain ⟨x1, hx1⟩ : ∃ x, S[1].k = x := ⟨_, rfl⟩
  obtain ⟨t0, ht0⟩ : ∃ x, S[0].t = x := ⟨_, rfl⟩
  rw [hx0] at k0 e0
  rw [hx1] at k1 e1
  rw [ht0] at k3 et
  have z0 : (x0 == 1) = false := by rw [← e0]; exact hk
  have bq : (kB (kr S) 0 1 && kB (kr S) 1 2) = false := by rw [hk, Bool.false_and]
  have HBG : Hid (beg (kr S) = 0) := hide (by unfold beg; rw [bq]; rfl)
  have HNM : Hid (Kt S = ⟨#[]⟩) := hide (by unfold Kt; rw [bq]; rfl)
  clear a0 b0 a3 e0 e1 et hx0 hx1 ht0
  clear bq hk k3
  have HIH := hide (Q2 W0 _ tb cap S hT hWf (S.length + 1))
  clear hw hT hWf
  go_enter Tryz.func44, Tryz.ntmps44
  go_wp2_with fail
  refine (Ja HIH 0 0 _ (by omega) (by omega) (by omega) ((Ja HW).alloc _)).mono ?_
  rintro e w1 ⟨b, k, p, q, rfl, hw1, hk1, hth, hf, hx⟩
  have d0 := hk1.cell (b := w.heap.size) (by simp) hne 0
  have d1 := hk1.cell (b := w.heap.size) (by simp) hne 1
  have g0 := hk1.frozen (b := w.heap.size) (by simp) hne 0
  have g1 := hk1.frozen (b := w.heap.size) (by simp) hne 1
  simp at d0 d1 g0 g1
  have HK1 : Hid (Kp W0 w w1) := ((Kp.refl W0 w).alloc _).trans hk1
  have HW1 := hide hw1
  have HTH := hide hth
  have HF := hide hf
  have HX := hide hx
  clear hw1 hk1 hth hf hx c0 c1 f1
  go_wp2_with fail
  refine bodyPost_ret (v := .tuple #[.agg #[.string ⟨#[]⟩, .pointer q], .bool b]) (by simp [results, Tryz.results44, go_sem, d0, d1]) rfl ⟨b, k, p, q, ?_, ?_, ?_, ?_, ?_, ?_⟩
  · rw [Ja HNM]
  · exact ((Ja HW1).other hlt _ _).other hlt _ _
  · exact ((Ja HK1).new (Nat.le_refl _) _ _).new (Nat.le_refl _) _ _
  · rw [Ja HBG]; exact Ja HTH
  · intro h; exact Ja HF trivial h
  · intro h
    rw [Ja HBG]
    obtain ⟨x, hx1, hx2⟩ := Ja HX h
    have hx3 : IsEx w.heap.size w1 q x := hx2.mono (by simp)
    refine ⟨x, hx1, (hx3.keep ?_).mono (by omega)⟩
    exact ⟨by simp, fun b' h1 h2 => by rw [RowKit.Below.heap_setCell _ _ _ _ (by simp; omega), RowKit.Below.heap_setCell _ _ _ _ (by simp; omega)]⟩
set_option maxHeartbeats 1000000 in
theorem Jj5 (W0 : World) (ao : Option Addr) (tb cap : Nat) (S : List Tok) (hT : TokIn W0 ao tb S) (hWf : Wf (kr S)) (w : World) (hw : Rd W0 (.slice ao S.length cap) 0 0 w) (h2 : 1 < S.length) (hk : kB (kr S) 0 1 = true) (hk2 : kB (kr S) 1 2 = false) :
    Calls Tryz.prog 44 #[.pointer (some ⟨W0.heap.size, 0, none⟩)] w (Jev W0 ao cap S w) := by
  have HW := hide hw
  have c0 := hw.tok
  have c1 := hw.nxt
  have f1 := hw.fr1
  have hlt := hw.lt
  have hne : w.heap.size ≠ W0.heap.size := by omega
  have hfew := hT.few
  obtain ⟨rfl, htl⟩ := hT.addr (by omega)
  have htl' : tb < w.heap.size := Nat.lt_trans htl hlt
  have hlen : (1 : Int) < (S.length : Int) := by omega
  obtain ⟨a0, _, _, a3, _⟩ := hT.cell 0 (by omega)
  obtain ⟨b0, _, _, _, _⟩ := hT.cell 1 (by omega)
  have k0 := (hw.below.cell (p := ⟨tb, 0, none⟩) htl).trans a0
  have k1 := (hw.below.cell (p := ⟨tb, 5, none⟩) htl).trans b0
  have k3 := (hw.below.cell (p := ⟨tb, 3, none⟩) htl).trans a3
  have e0 := Jae (S := S) (j := 0) (by omega) 1
  have e1 := Jae (S := S) (j := 1) (by omega) 2
  have et : (J5 S 0).t = S[0].t := by rw [Yo (by omega)]
  obtain ⟨x0, hx0⟩ : ∃ x, S[0].k = x := ⟨_, rfl⟩
  obtain ⟨x1, hx1⟩ : ∃ x, S[1].k = x := ⟨_, rfl⟩
  obtain ⟨t0, ht0⟩ : ∃ x, S[0].t = x := ⟨_, rfl⟩
  rw [hx0] at k0 e0
  rw [hx1] at k1 e1
  rw [ht0] at k3 et
  have z0 : (x0 == 1) = true := by rw [← e0]; exact hk
  have z1 : (x1 == 2) = false := by rw [← e1]; exact hk2
  have bq : (kB (kr S) 0 1 && kB (kr S) 1 2) = false := by rw [hk2, Bool.and_false]
  have HBG : Hid (beg (kr S) = 0) := hide (by unfold beg; rw [bq]; rfl)
  have HNM : Hid (Kt S = ⟨#[]⟩) := hide (by unfold Kt; rw [bq]; rfl)
  clear a0 b0 a3 e0 e1 et hx0 hx1 ht0
  clear bq hk hk2 k3
  have HIH := hide (Q2 W0 _ tb cap S hT hWf (S.length + 1))
  clear hw hT hWf
  go_enter Tryz.func44, Tryz.ntmps44
  go_wp2_with fail
  refine (Ja HIH 0 0 _ (by omega) (by omega) (by omega) ((Ja HW).alloc _)).mono ?_
  rintro e w1 ⟨b, k, p, q, rfl, hw1, hk1, hth, hf, hx⟩
  have d0 := hk1.cell (b := w.heap.size) (by simp) hne 0
  have d1 := hk1.cell (b := w.heap.size) (by simp) hne 1
  have g0 := hk1.frozen (b := w.heap.size) (by simp) hne 0
  have g1 := hk1.frozen (b := w.heap.size) (by simp) hne 1
  simp at d0 d1 g0 g1
  have HK1 : Hid (Kp W0 w w1) := ((Kp.refl W0 w).alloc _).trans hk1
  have HW1 := hide hw1
  have HTH := hide hth
  have HF := hide hf
  have HX := hide hx
  clear hw1 hk1 hth hf hx c0 c1 f1
  go_wp2_with fail
  refine bodyPost_ret (v := .tuple #[.agg #[.string ⟨#[]⟩, .pointer q], .bool b]) (by simp [results, Tryz.results44, go_sem, d0, d1]) rfl ⟨b, k, p, q, ?_, ?_, ?_, ?_, ?_, ?_⟩
  · rw [Ja HNM]
  · exact ((Ja HW1).other hlt _ _).other hlt _ _
  · exact ((Ja HK1).new (Nat.le_refl _) _ _).new (Nat.le_refl _) _ _
  · rw [Ja HBG]; exact Ja HTH
  · intro h; exact Ja HF trivial h
  · intro h
    rw [Ja HBG]
    obtain ⟨x, hx1, hx2⟩ := Ja HX h
    have hx3 : IsEx w.heap.size w1 q x := hx2.mono (by simp)
    refine ⟨x, hx1, (hx3.keep ?_).mono (by omega)⟩
    exact ⟨by simp, fun b' h1 h2 => by rw [RowKit.Below.heap_setCell _ _ _ _ (by simp; omega), RowKit.Below.heap_setCell _ _ _ _ (by simp; omega)]⟩
set_option maxHeartbeats 1000000 in
theorem Jmh (W0 : World) (ao : Option Addr) (tb cap : Nat) (S : List Tok) (hT : TokIn W0 ao tb S) (hWf : Wf (kr S)) (w : World) (hw : Rd W0 (.slice ao S.length cap) 0 0 w) (h2 : 1 < S.length) (hk : kB (kr S) 0 1 = true) (hk2 : kB (kr S) 1 2 = true) :
    Calls Tryz.prog 44 #[.pointer (some ⟨W0.heap.size, 0, none⟩)] w (Jev W0 ao cap S w) := by
  have HW := hide hw
  have c0 := hw.tok
  have c1 := hw.nxt
  have f1 := hw.fr1
  have hlt := hw.lt
  have hne : w.heap.size ≠ W0.heap.size := by omega
  have hfew := hT.few
  obtain ⟨rfl, htl⟩ := hT.addr (by omega)
  have htl' : tb < w.heap.size := Nat.lt_trans htl hlt
  have hlen : (1 : Int) < (S.length : Int) := by omega
  obtain ⟨a0, _, _, a3, _⟩ := hT.cell 0 (by omega)
  obtain ⟨b0, _, _, _, _⟩ := hT.cell 1 (by omega)
  have k0 := (hw.below.cell (p := ⟨tb, 0, none⟩) htl).trans a0
  have k1 := (hw.below.cell (p := ⟨tb, 5, none⟩) htl).trans b0
  have k3 := (hw.below.cell (p := ⟨tb, 3, none⟩) htl).trans a3
  have e0 := Jae (S := S) (j := 0) (by omega) 1
  have e1 := Jae (S := S) (j := 1) (by omega) 2
  have et : (J5 S 0).t = S[0].t := by rw [Yo (by omega)]
  obtain ⟨x0, hx0⟩ : ∃ x, S[0].k = x := ⟨_, rfl⟩
  obtain ⟨x1, hx1⟩ : ∃ x, S[1].k = x := ⟨_, rfl⟩
  obtain ⟨t0, ht0⟩ : ∃ x, S[0].t = x := ⟨_, rfl⟩
  rw [hx0] at k0 e0
  rw [hx1] at k1 e1
  rw [ht0] at k3 et
  have z0 : (x0 == 1) = true := by rw [← e0]; exact hk
  have z1 : (x1 == 2) = true := by rw [← e1]; exact hk2
  have bq : (kB (kr S) 0 1 && kB (kr S) 1 2) = true := by rw [hk, hk2]; rfl
  have HBG : Hid (beg (kr S) = 2) := hide (by unfold beg; rw [bq]; rfl)
  have HNM : Hid (Kt S = t0) := hide (by unfold Kt; rw [bq]; exact et)
  clear a0 b0 a3 e0 e1 et hx0 hx1 ht0
  clear bq hk hk2
  have HIH := hide (Q2 W0 _ tb cap S hT hWf (S.length + 1))
  clear hw hT hWf
  go_enter Tryz.func44, Tryz.ntmps44
  go_wp2_with fail
  refine (Ja HIH 2 0 _ (by omega) (by omega) (by omega) (((Ja HW).next 2).alloc _)).mono ?_
  rintro e w1 ⟨b, k, p, q, rfl, hw1, hk1, hth, hf, hx⟩
  have d0 := hk1.cell (b := w.heap.size) (by simp) hne 0
  have d1 := hk1.cell (b := w.heap.size) (by simp) hne 1
  have g0 := hk1.frozen (b := w.heap.size) (by simp) hne 0
  have g1 := hk1.frozen (b := w.heap.size) (by simp) hne 1
  simp at d0 d1 g0 g1
  have HK1 : Hid (Kp W0 w w1) := (((Kp.setReader W0 w 1 (.int .i64 2)).alloc _)).trans hk1
  have HW1 := hide hw1
  have HTH := hide hth
  have HF := hide hf
  have HX := hide hx
  clear hw1 hk1 hth hf hx c0 c1 f1
  go_wp2_with fail
  refine bodyPost_ret (v := .tuple #[.agg #[.string t0, .pointer q], .bool b]) (by simp [results, Tryz.results44, go_sem, d0, d1]) rfl ⟨b, k, p, q, ?_, ?_, ?_, ?_, ?_, ?_⟩
  · rw [Ja HNM]
  · exact ((Ja HW1).other hlt _ _).other hlt _ _
  · exact ((Ja HK1).new (Nat.le_refl _) _ _).new (Nat.le_refl _) _ _
  · rw [Ja HBG]; exact Ja HTH
  · intro h; exact Ja HF trivial h
  · intro h
    rw [Ja HBG]
    obtain ⟨x, hx1, hx2⟩ := Ja HX h
    have hx3 : IsEx w.heap.size w1 q x := hx2.mono (by simp)
    refine ⟨x, hx1, (hx3.keep ?_).mono (by omega)⟩
    exact ⟨by simp, fun b' h1 h2 => by rw [RowKit.Below.heap_setCell _ _ _ _ (by simp; omega), RowKit.Below.heap_setCell _ _ _ _ (by simp; omega)]⟩
theorem Jj8 (W0 : World) (ao : Option Addr) (tb cap : Nat) (S : List Tok) (hT : TokIn W0 ao tb S) (hWf : Wf (kr S)) (w : World) (hw : Rd W0 (.slice ao S.length cap) 0 0 w) :
    Calls Tryz.prog 44 #[.pointer (some ⟨W0.heap.size, 0, none⟩)] w (Jev W0 ao cap S w) := by
  by_cases h2 : 1 < S.length
  · cases hk : kB (kr S) 0 1
    · exact Jj6 W0 ao tb cap S hT hWf w hw h2 hk
    · cases hk2 : kB (kr S) 1 2
      · exact Jj5 W0 ao tb cap S hT hWf w hw h2 hk hk2
      · exact Jmh W0 ao tb cap S hT hWf w hw h2 hk hk2
  · exact Jec W0 ao tb cap S hT hWf w hw (by omega)
end Go.Proofs.YtjobgpahajhbnabGreatDoor
