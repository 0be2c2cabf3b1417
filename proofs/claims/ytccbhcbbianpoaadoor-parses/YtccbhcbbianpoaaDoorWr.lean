import Derived.Test.YtccbhcbbianpoaaDoorWq
import Derived.Deep.LoopGhost
namespace Go.Proofs.YtccbhcbbianpoaaDoor
open Go.RowKit

set_option maxHeartbeats 400000 in
theorem expr_step (W0 : World) (ao : Option Addr) (tb cap : Nat) (T : List (Int × Int)) (hT : TokIn W0 ao tb T) (hWf : Wf T) (m : Nat) (ih : ExprC W0 ao cap T m) : ExprC W0 ao cap T (m + 1) := by
  intro j o w hm hjl ho hw
  have HW := hide hw
  have HT := hide hT
  have HF := hide hWf
  have IH := hide ih
  clear hw hT hWf ih
  go_enter Tryd.func27, Tryd.ntmps27
  go_wp2_with fail
  go_loopg [2] (T.length - j) (fun g v wr => ∃ i : Nat, v = .bool false ∧ j ≤ i ∧ i ≤ T.length ∧ T.length - i ≤ g ∧ Rd W0 (.slice ao T.length cap) i o wr ∧ sc T j 0 o = sc T i 0 o)
  case atStart => exact ⟨j, rfl, by omega, by omega, by omega, unhide HW, rfl⟩
  case round =>
    obtain ⟨i, rfl, hji, hil, hgk, hwr, hsc⟩ := hrel
    have HWr := hide hwr
    have HS := hide hsc
    clear hwr hsc
    cases hf : fB T i 1
    · have HF1 := hide hf
      clear hf
      go_wp2_with fail
      refine (func_any W0 ao tb cap T 1 i o _ (unhide HT) (unhide HWr)).mono ?_
      rintro e w1 ⟨rfl, hw1⟩
      rw [unhide HF1] at hw1 ⊢
      have HW1 : Hid (Rd W0 (.slice ao T.length cap) i o w1) := hw1
      clear hw1
      go_wp2_with fail
      refine (thing_any W0 ao tb cap T (unhide HT) m (unhide IH) i o _ (by omega) hil ho (unhide HW1) (unhide HF1)).mono ?_
      rintro e w2 ⟨b, k, p, rfl, hw2, hkl, hno, hyes⟩
      cases b
      · have HN := hide (hno rfl)
        have HW2 := hide hw2
        clear hno hyes hw2
        go_wp2_with fail
        go_ret
        obtain ⟨st, op, hc, ho⟩ := unhide HN
        exact ⟨false, k, p, rfl, unhide HW2, ⟨hkl, fun _ => ⟨st, op, (unhide HS).trans hc, ho⟩, fun h => by cases h⟩, fun h => by cases h⟩
      · obtain ⟨hpo, hlt2, st, hst, hsc2, hnum⟩ := hyes rfl
        rw [hpo] at hw2
        clear hpo
        have HW2 := hide hw2
        have HS2 := hide ((unhide HS).trans hsc2)
        have HNU := hide hnum
        have HST := hide hst
        clear hno hyes hw2 hsc2 hnum hst
        cases hf2 : fB T k 2
        · have HF2 := hide hf2
          clear hf2
          go_wp2_with fail
          refine (func_any W0 ao tb cap T 2 k o _ (unhide HT) (unhide HW2)).mono ?_
          rintro e w3 ⟨rfl, hw3⟩
          rw [unhide HF2] at hw3 ⊢
          have HW3 : Hid (Rd W0 (.slice ao T.length cap) k o w3) := hw3
          clear hw3
          go_wp2_with fail
          go_ret
          exact ⟨true, k, o, rfl, unhide HW3, ⟨hkl, fun h => (by cases h), fun _ => ⟨rfl, by omega, st, unhide HST, unhide HS2, unhide HNU⟩⟩, fun _ => unhide HF2⟩
        · have hst0 : st ≠ 0 := by have := unhide HST; omega
          obtain ⟨hlt3, hsc3⟩ := sc_between (op := o) (unhide HF) hst0 hf2
          have HS3 := hide ((unhide HS2).trans hsc3)
          have HF2 := hide hf2
          clear hf2 hsc3 hst0
          go_wp2_with fail
          refine (func_any W0 ao tb cap T 2 k o _ (unhide HT) (unhide HW2)).mono ?_
          rintro e w3 ⟨rfl, hw3⟩
          rw [unhide HF2] at hw3 ⊢
          have HW3 : Hid (Rd W0 (.slice ao T.length cap) (k + 1) o w3) := hw3
          clear hw3
          go_wp2_with fail
          go_roundg (T.length - (k + 1))
          case measure => omega
          case rel => exact ⟨k + 1, rfl, by omega, by omega, by omega, unhide HW3, unhide HS3⟩
    · obtain ⟨hlt, hsc1⟩ := sc_ahead (op := o) (unhide HF) hf
      have HS1 := hide ((unhide HS).trans hsc1)
      have HF1 := hide hf
      clear hf hsc1
      go_wp2_with fail
      refine (func_any W0 ao tb cap T 1 i o _ (unhide HT) (unhide HWr)).mono ?_
      rintro e w1 ⟨rfl, hw1⟩
      rw [unhide HF1] at hw1 ⊢
      have HW1 : Hid (Rd W0 (.slice ao T.length cap) (i + 1) o w1) := hw1
      clear hw1
      go_wp2_with fail
      go_roundg (T.length - (i + 1))
      case measure => omega
      case rel => exact ⟨i + 1, rfl, by omega, by omega, by omega, unhide HW1, unhide HS1⟩

theorem expr_any (W0 : World) (ao : Option Addr) (tb cap : Nat) (T : List (Int × Int)) (hT : TokIn W0 ao tb T) (hWf : Wf T) : ∀ m, ExprC W0 ao cap T m
  | 0 => fun _ _ _ h => absurd h (by omega)
  | m + 1 => expr_step W0 ao tb cap T hT hWf m (expr_any W0 ao tb cap T hT hWf m)

/-- does an EXPR end where the tokens end to fit? -/
def topB (T : List (Int × Int)) (j : Nat) : Bool := decide ((sc T j 0 0).2.1 ≠ 0 ∧ (sc T j 0 0).2.2 = 0)
theorem expr_top (W0 : World) (ao : Option Addr) (tb cap : Nat) (T : List (Int × Int)) (hT : TokIn W0 ao tb T) (hWf : Wf T) (j : Nat) (w : World) (hj : j ≤ T.length) (hw : Rd W0 (.slice ao T.length cap) j 0 w) :
    Calls Tryd.prog 27 #[.pointer (some ⟨W0.heap.size, 0, none⟩)] w fun e w' => ∃ p, e = .returned (.bool (topB T j)) ∧ Rd W0 (.slice ao T.length cap) (sc T j 0 0).1 p w' := by
  refine (expr_any W0 ao tb cap T hT hWf (T.length + 1) j 0 w (by omega) hj (by omega) hw).mono ?_
  rintro e w' ⟨b, k, p, rfl, hw', ⟨_, hno, hyes⟩, hf⟩
  cases b
  · obtain ⟨st, op, hc, ho⟩ := hno rfl
    refine ⟨p, ret_bool ?_, by rw [hc]; exact hw'⟩
    unfold topB
    rw [hc]
    simp
    omega
  · obtain ⟨_, _, st, hst, hsc, hnum⟩ := hyes rfl
    have hc := hsc.trans (stuck (op := 0) hst hnum (hf rfl) (Or.inr rfl))
    refine ⟨p, ret_bool ?_, by rw [hc]; exact hw'⟩
    unfold topB
    rw [hc]
    simp
    omega
end Go.Proofs.YtccbhcbbianpoaaDoor
