import Derived.Test.YtccbhcbbianpoaaDoorPr
namespace Go.Proofs.YtccbhcbbianpoaaDoor
open Go.RowKit

/-- what thing and inParens come to, from j on with o brackets open -/
def ThR (T : List (Int × Int)) (j o : Nat) (b : Bool) (k p : Nat) : Prop :=
  k ≤ T.length ∧ (b = false → ∃ st op, sc T j 0 o = (k, st, op) ∧ (st = 0 ∨ o < op)) ∧ (b = true → p = o ∧ j < k ∧ ∃ st, (st = 1 ∨ st = 2) ∧ sc T j 0 o = sc T k st o ∧ (st = 1 → kB T k 0 = false))
def ExR (T : List (Int × Int)) (j o : Nat) (b : Bool) (k p : Nat) : Prop :=
  ThR T j o b k p ∧ (b = true → fB T k 2 = false)

section
variable (W0 : World) (ao : Option Addr) (tb cap : Nat) (T : List (Int × Int))
def ExprC (m : Nat) : Prop := ∀ (j o : Nat) (w : World), T.length - j < m → j ≤ T.length → o ≤ 8 → Rd W0 (.slice ao T.length cap) j o w →
  Calls Tryd.prog 27 #[.pointer (some ⟨W0.heap.size, 0, none⟩)] w fun e w' => ∃ b k p, e = .returned (.bool b) ∧ Rd W0 (.slice ao T.length cap) k p w' ∧ ExR T j o b k p
end

set_option maxHeartbeats 400000 in
theorem parens_any (W0 : World) (ao : Option Addr) (tb cap : Nat) (T : List (Int × Int)) (hT : TokIn W0 ao tb T) (m : Nat) (ih : ExprC W0 ao cap T m) (j o : Nat) (w : World) (hm : T.length - j < m + 1) (hjl : j ≤ T.length) (ho : o ≤ 8)
    (hw : Rd W0 (.slice ao T.length cap) j o w) (n1 : fB T j 1 = false) (n2 : kB T j 0 = false) (n3 : kB T j 1 = false) :
    Calls Tryd.prog 43 #[.pointer (some ⟨W0.heap.size, 0, none⟩)] w fun e w' => ∃ b k p, e = .returned (.bool b) ∧ Rd W0 (.slice ao T.length cap) k p w' ∧ ThR T j o b k p := by
  have HW := hide hw
  have N1 := hide n1
  have N2 := hide n2
  have N3 := hide n3
  have HT := hide hT
  have IH := hide ih
  have c2 := hw.opn
  have g2 := hw.fr2
  have hfew := hT.few
  clear hw n1 n2 n3 hT ih
  by_cases h8 : o = 8
  · subst h8
    go_enter Tryd.func43, Tryd.ntmps43
    go_wp2_with fail
    go_ret
    exact ⟨false, j, 8, rfl, unhide HW, hjl, fun _ => ⟨0, 8, stuck0 (unhide N1) (unhide N2) (unhide N3) (Or.inr (by omega)), Or.inl rfl⟩, fun h => by cases h⟩
  · have h8' : ((o : Int) == 8) = false := beq_eq_false_iff_ne.2 (by omega)
    have ho7 : o < 8 := by omega
    clear h8
    cases hk : kB T j 4
    · have HK := hide hk
      clear hk
      go_enter Tryd.func43, Tryd.ntmps43
      go_wp2_with fail
      refine (acc_any W0 ao tb cap T 4 j o _ (unhide HT) (unhide HW)).mono ?_
      rintro e w1 ⟨rfl, hw1⟩
      rw [unhide HK] at hw1 ⊢
      have HW1 := hide hw1
      clear hw1
      go_wp2_with fail
      go_ret
      exact ⟨false, j, o, rfl, unhide HW1, hjl, fun _ => ⟨0, o, stuck0 (unhide N1) (unhide N2) (unhide N3) (Or.inl (unhide HK)), Or.inl rfl⟩, fun h => by cases h⟩
    · obtain ⟨hlt, hsc⟩ := sc_open hk ho7
      have HS := hide hsc
      have HK := hide hk
      clear hk hsc
      go_enter Tryd.func43, Tryd.ntmps43
      go_wp2_with fail
      refine (acc_any W0 ao tb cap T 4 j o _ (unhide HT) (unhide HW)).mono ?_
      rintro e w1 ⟨rfl, hw1⟩
      rw [unhide HK] at hw1 ⊢
      have HW1 : Hid (Rd W0 (.slice ao T.length cap) (j + 1) o w1) := hw1
      clear hw1
      have d2 := (unhide HW1).opn
      have e2 := (unhide HW1).fr2
      go_wp2_with fail
      refine (unhide IH (j + 1) (o + 1) _ (by omega) (by omega) (by omega) ((unhide HW1).opened (o + 1))).mono ?_
      rintro e w2 ⟨b, k, p, rfl, hw2, ⟨hkl, hno, hyes⟩, hf⟩
      cases b
      · have HN := hide (hno rfl)
        have HW2 := hide hw2
        clear hno hyes hf hw2
        go_wp2_with fail
        go_ret
        obtain ⟨st, op, hc, ho⟩ := unhide HN
        exact ⟨false, k, p, rfl, unhide HW2, hkl, fun _ => ⟨st, op, (unhide HS).trans hc, by omega⟩, fun h => by cases h⟩
      · obtain ⟨rfl, hlt2, st, hst, hsc2, hnum⟩ := hyes rfl
        have HW2 := hide hw2
        have HF := hide (hf rfl)
        have HS2 := hide ((unhide HS).trans hsc2)
        have HNU := hide hnum
        have HST := hide hst
        clear hno hyes hf hw2 hsc2 hnum hst
        cases hk5 : kB T k 5
        · have HK5 := hide hk5
          clear hk5
          go_wp2_with fail
          refine (acc_any W0 ao tb cap T 5 k (o + 1) _ (unhide HT) (unhide HW2)).mono ?_
          rintro e w3 ⟨rfl, hw3⟩
          rw [unhide HK5] at hw3 ⊢
          have HW3 := hide hw3
          clear hw3
          go_wp2_with fail
          go_ret
          exact ⟨false, k, o + 1, rfl, unhide HW3, hkl, fun _ => ⟨st, o + 1, (unhide HS2).trans (stuck (unhide HST) (unhide HNU) (unhide HF) (Or.inl (unhide HK5))), Or.inr (by omega)⟩, fun h => by cases h⟩
        · have hst0 : st ≠ 0 := by have := unhide HST; omega
          obtain ⟨hlt3, hsc3⟩ := sc_close (op := o) hst0 hk5
          have HS3 := hide ((unhide HS2).trans hsc3)
          have HK5 := hide hk5
          clear hk5 hsc3 hst0
          go_wp2_with fail
          refine (acc_any W0 ao tb cap T 5 k (o + 1) _ (unhide HT) (unhide HW2)).mono ?_
          rintro e w3 ⟨rfl, hw3⟩
          rw [unhide HK5] at hw3 ⊢
          have HW3 : Hid (Rd W0 (.slice ao T.length cap) (k + 1) (o + 1) w3) := hw3
          clear hw3
          have d3 := (unhide HW3).opn
          have e3 := (unhide HW3).fr2
          go_wp2_with fail
          go_ret
          refine ⟨true, k + 1, o, rfl, ?_, ?_⟩
          · exact (unhide HW3).opened o
          · exact ⟨by omega, fun h => (by cases h), fun _ => ⟨rfl, by omega, 2, Or.inr rfl, unhide HS3, fun h => by omega⟩⟩

set_option maxHeartbeats 400000 in
theorem thing_any (W0 : World) (ao : Option Addr) (tb cap : Nat) (T : List (Int × Int)) (hT : TokIn W0 ao tb T) (m : Nat) (ih : ExprC W0 ao cap T m) (j o : Nat) (w : World) (hm : T.length - j < m + 1) (hjl : j ≤ T.length) (ho : o ≤ 8)
    (hw : Rd W0 (.slice ao T.length cap) j o w) (n1 : fB T j 1 = false) :
    Calls Tryd.prog 36 #[.pointer (some ⟨W0.heap.size, 0, none⟩)] w fun e w' => ∃ b k p, e = .returned (.bool b) ∧ Rd W0 (.slice ao T.length cap) k p w' ∧ ThR T j o b k p := by
  have HW := hide hw
  have N1 := hide n1
  have HT := hide hT
  have IH := hide ih
  have hfew := hT.few
  clear hw n1 hT ih
  go_enter Tryd.func36, Tryd.ntmps36
  go_wp2_with fail
  go_loopw [3] (fun v wr => ∃ i : Nat, v = .int .i64 i ∧ j + i ≤ T.length ∧ Rd W0 (.slice ao T.length cap) (j + i) o wr ∧ (i ≠ 0 → sc T j 0 o = sc T (j + i) 1 o)) (fun v _ => T.length - (j + (intOf v).toNat))
  case atStart => exact ⟨0, rfl, by omega, unhide HW, fun h => absurd rfl h⟩
  case round =>
    obtain ⟨i, rfl, hil, hwr, hsc⟩ := hrel
    have HWr := hide hwr
    have HS := hide hsc
    clear hwr hsc
    cases hk : kB T (j + i) 0
    · have HK := hide hk
      clear hk
      by_cases hi : i = 0
      · subst hi
        have HK0 : Hid (kB T j 0 = false) := unhide HK
        cases hk1 : kB T j 1
        · have HK1 := hide hk1
          clear hk1
          go_wp2_with fail
          refine (acc_any W0 ao tb cap T 0 (j + 0) o _ (unhide HT) (unhide HWr)).mono ?_
          rintro e w1 ⟨rfl, hw1⟩
          rw [unhide HK] at hw1 ⊢
          have HW1 : Hid (Rd W0 (.slice ao T.length cap) j o w1) := hw1
          clear hw1
          go_wp2_with fail
          refine (acc_any W0 ao tb cap T 1 j o _ (unhide HT) (unhide HW1)).mono ?_
          rintro e w2 ⟨rfl, hw2⟩
          rw [unhide HK1] at hw2 ⊢
          have HW2 : Hid (Rd W0 (.slice ao T.length cap) j o w2) := hw2
          clear hw2
          go_wp2_with fail
          refine (parens_any W0 ao tb cap T (unhide HT) m (unhide IH) j o _ hm hjl ho (unhide HW2) (unhide N1) (unhide HK0) (unhide HK1)).mono ?_
          rintro e w3 ⟨b, k, p, rfl, hw3, hr⟩
          have HW3 := hide hw3
          have HR := hide hr
          clear hw3 hr
          go_wp2_with fail
          go_ret
          exact ⟨b, k, p, rfl, unhide HW3, unhide HR⟩
        · obtain ⟨hlt, hsc⟩ := sc_name (op := o) hk1
          have HS1 := hide hsc
          have HK1 := hide hk1
          clear hk1 hsc
          go_wp2_with fail
          refine (acc_any W0 ao tb cap T 0 (j + 0) o _ (unhide HT) (unhide HWr)).mono ?_
          rintro e w1 ⟨rfl, hw1⟩
          rw [unhide HK] at hw1 ⊢
          have HW1 : Hid (Rd W0 (.slice ao T.length cap) j o w1) := hw1
          clear hw1
          go_wp2_with fail
          refine (acc_any W0 ao tb cap T 1 j o _ (unhide HT) (unhide HW1)).mono ?_
          rintro e w2 ⟨rfl, hw2⟩
          rw [unhide HK1] at hw2 ⊢
          have HW2 : Hid (Rd W0 (.slice ao T.length cap) (j + 1) o w2) := hw2
          clear hw2
          go_wp2_with fail
          go_ret
          exact ⟨true, j + 1, o, rfl, unhide HW2, by omega, fun h => (by cases h), fun _ => ⟨rfl, by omega, 2, Or.inr rfl, unhide HS1, fun h => by omega⟩⟩
      · have hi0 : (0 : Int) < (i : Int) := by omega
        go_wp2_with fail
        refine (acc_any W0 ao tb cap T 0 (j + i) o _ (unhide HT) (unhide HWr)).mono ?_
        rintro e w1 ⟨rfl, hw1⟩
        rw [unhide HK] at hw1 ⊢
        have HW1 : Hid (Rd W0 (.slice ao T.length cap) (j + i) o w1) := hw1
        clear hw1
        go_wp2_with fail
        go_ret
        exact ⟨true, j + i, o, rfl, unhide HW1, by omega, fun h => (by cases h), fun _ => ⟨rfl, by omega, 1, Or.inl rfl, unhide HS hi, fun _ => unhide HK⟩⟩
    · have hst : (if i = 0 then 0 else 1) ≠ 2 := by split <;> omega
      obtain ⟨hlt, hsc⟩ := sc_num (op := o) hst hk
      have HS1 : Hid (sc T j 0 o = sc T (j + (i + 1)) 1 o) := by
        by_cases hi : i = 0
        · subst hi; exact hide (by simpa using hsc)
        · rw [if_neg hi] at hsc
          exact (unhide HS hi).trans hsc
      have HK := hide hk
      clear hk hsc hst
      go_wp2_with fail
      refine (acc_any W0 ao tb cap T 0 (j + i) o _ (unhide HT) (unhide HWr)).mono ?_
      rintro e w1 ⟨rfl, hw1⟩
      rw [unhide HK] at hw1 ⊢
      have HW1 : Hid (Rd W0 (.slice ao T.length cap) (j + (i + 1)) o w1) := hw1
      clear hw1
      go_wp2_with fail
      go_roundw
      case rel => exact ⟨i + 1, by go_num, by omega, unhide HW1, fun _ => unhide HS1⟩
      case measure => simp [intOf]; omega
end Go.Proofs.YtccbhcbbianpoaaDoor
