import Derived.Test.YtjobgpahajhbnaaGreatDoorSe
import Derived.Test.YtjobgpahajhbnaaGreatDoorSc
import Derived.Test.YtjobgpahajhbnaaGreatDoorWk
namespace Go.Proofs.YtjobgpahajhbnaaGreatDoor
open Go.RowKit

/-- where the EXPR begins -/
def beg (T : List (Int × Int)) : Nat := bif kB T 0 1 && kB T 1 2 then 2 else 0
/-- the name that is to keep what the line makes, or no text -/
def nameS (S : List Tok) : ByteArray := bif kB (kr S) 0 1 && kB (kr S) 1 2 then (tokAt S 0).t else ⟨#[]⟩
/-- what a call of line leaves -/
def LineL (W0 : World) (ao : Option Addr) (cap : Nat) (S : List Tok) (w : World) (e : Ending) (w' : World) : Prop :=
  ∃ b k p q, e = .returned (.tuple #[.agg #[.string (nameS S), .pointer q], .bool b]) ∧ Rd W0 (.slice ao S.length cap) k p w' ∧ Kp W0 w w' ∧ ThR (kr S) (beg (kr S)) 0 b k p ∧ (b = true → fB (kr S) k 2 = false) ∧ (b = true → ∃ x, PX S false (beg (kr S)) 0 x k ∧ IsEx W0.heap.size w' q x)

set_option maxHeartbeats 1000000 in
theorem line_short (W0 : World) (ao : Option Addr) (tb cap : Nat) (S : List Tok) (hT : TokIn W0 ao tb S) (hWf : Wf (kr S)) (w : World) (hw : Rd W0 (.slice ao S.length cap) 0 0 w) (h2 : S.length ≤ 1) :
    Calls Tryz.prog 106 #[.pointer (some ⟨W0.heap.size, 0, none⟩)] w (LineL W0 ao cap S w) := by
  have HW := hide hw
  have c0 := hw.tok
  have c1 := hw.nxt
  have f1 := hw.fr1
  have hlt := hw.lt
  have hne : w.heap.size ≠ W0.heap.size := by omega
  have hfew := hT.few
  have hlen : (S.length : Int) ≤ 1 := by omega
  have bq : (kB (kr S) 0 1 && kB (kr S) 1 2) = false := by rw [kB_out h2 2, Bool.and_false]
  have HBG : Hid (beg (kr S) = 0) := hide (by unfold beg; rw [bq]; rfl)
  have HNM : Hid (nameS S = ⟨#[]⟩) := hide (by unfold nameS; rw [bq]; rfl)
  clear bq
  have HIH := hide (expr_any W0 _ tb cap S hT hWf (S.length + 1))
  clear hw hT hWf
  go_enter Tryz.func106, Tryz.ntmps106
  go_wp2_with fail
  refine (unhide HIH 0 0 _ (by omega) (by omega) (by omega) ((unhide HW).alloc _)).mono ?_
  rintro e w1 ⟨b, k, p, q, rfl, hw1, hk1, hth, hf, hx⟩
  have d0 := hk1.cell (b := w.heap.size) (by simp) hne 0
  have d1 := hk1.cell (b := w.heap.size) (by simp) hne 1
  have g0 := hk1.frozen (b := w.heap.size) (by simp) hne 0
  have g1 := hk1.frozen (b := w.heap.size) (by simp) hne 1
  simp at d0 d1 g0 g1
  have HK1 : Hid (Kp W0 w w1) := ((Kp.refl W0 w).alloc _).trans hk1
  have HW1 := hide hw1
  have HTH := hide hth
  have HF := hide hf
  have HX := hide hx
  clear hw1 hk1 hth hf hx c0 c1 f1
  go_wp2_with fail
  refine bodyPost_ret (v := .tuple #[.agg #[.string ⟨#[]⟩, .pointer q], .bool b]) (by simp [results, Tryz.results106, go_sem, d0, d1]) rfl ⟨b, k, p, q, ?_, ?_, ?_, ?_, ?_, ?_⟩
  · rw [unhide HNM]
  · exact ((unhide HW1).other hlt _ _).other hlt _ _
  · exact ((unhide HK1).new (Nat.le_refl _) _ _).new (Nat.le_refl _) _ _
  · rw [unhide HBG]; exact unhide HTH
  · intro h; exact unhide HF trivial h
  · intro h
    rw [unhide HBG]
    obtain ⟨x, hx1, hx2⟩ := unhide HX h
    have hx3 : IsEx w.heap.size w1 q x := hx2.mono (by simp)
    refine ⟨x, hx1, (hx3.keep ?_).mono (by omega)⟩
    exact ⟨by simp, fun b' h1 h2 => by rw [RowKit.Below.heap_setCell _ _ _ _ (by simp; omega), RowKit.Below.heap_setCell _ _ _ _ (by simp; omega)]⟩

set_option maxHeartbeats 1000000 in
theorem line_no0 (W0 : World) (ao : Option Addr) (tb cap : Nat) (S : List Tok) (hT : TokIn W0 ao tb S) (hWf : Wf (kr S)) (w : World) (hw : Rd W0 (.slice ao S.length cap) 0 0 w) (h2 : 1 < S.length) (hk : kB (kr S) 0 1 = false) :
    Calls Tryz.prog 106 #[.pointer (some ⟨W0.heap.size, 0, none⟩)] w (LineL W0 ao cap S w) := by
  have HW := hide hw
  have c0 := hw.tok
  have c1 := hw.nxt
  have f1 := hw.fr1
  have hlt := hw.lt
  have hne : w.heap.size ≠ W0.heap.size := by omega
  have hfew := hT.few
  obtain ⟨rfl, htl⟩ := hT.addr (by omega)
  have htl' : tb < w.heap.size := Nat.lt_trans htl hlt
  have hlen : (1 : Int) < (S.length : Int) := by omega
  obtain ⟨a0, _, _, a3, _⟩ := hT.cell 0 (by omega)
  obtain ⟨b0, _, _, _, _⟩ := hT.cell 1 (by omega)
  have k0 := (hw.below.cell (p := ⟨tb, 0, none⟩) htl).trans a0
  have k1 := (hw.below.cell (p := ⟨tb, 5, none⟩) htl).trans b0
  have k3 := (hw.below.cell (p := ⟨tb, 3, none⟩) htl).trans a3
  have e0 := kB_at (S := S) (j := 0) (by omega) 1
  have e1 := kB_at (S := S) (j := 1) (by omega) 2
  have et : (tokAt S 0).t = S[0].t := by rw [tokAt_lt (by omega)]
  obtain ⟨x0, hx0⟩ : ∃ x, S[0].k = x := ⟨_, rfl⟩
  obtain ⟨x1, hx1⟩ : ∃ x, S[1].k = x := ⟨_, rfl⟩
  obtain ⟨t0, ht0⟩ : ∃ x, S[0].t = x := ⟨_, rfl⟩
  rw [hx0] at k0 e0
  rw [hx1] at k1 e1
  rw [ht0] at k3 et
  have z0 : (x0 == 1) = false := by rw [← e0]; exact hk
  have bq : (kB (kr S) 0 1 && kB (kr S) 1 2) = false := by rw [hk, Bool.false_and]
  have HBG : Hid (beg (kr S) = 0) := hide (by unfold beg; rw [bq]; rfl)
  have HNM : Hid (nameS S = ⟨#[]⟩) := hide (by unfold nameS; rw [bq]; rfl)
  clear a0 b0 a3 e0 e1 et hx0 hx1 ht0
  clear bq hk k3

  have HIH := hide (expr_any W0 _ tb cap S hT hWf (S.length + 1))
  clear hw hT hWf
  go_enter Tryz.func106, Tryz.ntmps106
  go_wp2_with fail
  refine (unhide HIH 0 0 _ (by omega) (by omega) (by omega) ((unhide HW).alloc _)).mono ?_
  rintro e w1 ⟨b, k, p, q, rfl, hw1, hk1, hth, hf, hx⟩
  have d0 := hk1.cell (b := w.heap.size) (by simp) hne 0
  have d1 := hk1.cell (b := w.heap.size) (by simp) hne 1
  have g0 := hk1.frozen (b := w.heap.size) (by simp) hne 0
  have g1 := hk1.frozen (b := w.heap.size) (by simp) hne 1
  simp at d0 d1 g0 g1
  have HK1 : Hid (Kp W0 w w1) := ((Kp.refl W0 w).alloc _).trans hk1
  have HW1 := hide hw1
  have HTH := hide hth
  have HF := hide hf
  have HX := hide hx
  clear hw1 hk1 hth hf hx c0 c1 f1
  go_wp2_with fail
  refine bodyPost_ret (v := .tuple #[.agg #[.string ⟨#[]⟩, .pointer q], .bool b]) (by simp [results, Tryz.results106, go_sem, d0, d1]) rfl ⟨b, k, p, q, ?_, ?_, ?_, ?_, ?_, ?_⟩
  · rw [unhide HNM]
  · exact ((unhide HW1).other hlt _ _).other hlt _ _
  · exact ((unhide HK1).new (Nat.le_refl _) _ _).new (Nat.le_refl _) _ _
  · rw [unhide HBG]; exact unhide HTH
  · intro h; exact unhide HF trivial h
  · intro h
    rw [unhide HBG]
    obtain ⟨x, hx1, hx2⟩ := unhide HX h
    have hx3 : IsEx w.heap.size w1 q x := hx2.mono (by simp)
    refine ⟨x, hx1, (hx3.keep ?_).mono (by omega)⟩
    exact ⟨by simp, fun b' h1 h2 => by rw [RowKit.Below.heap_setCell _ _ _ _ (by simp; omega), RowKit.Below.heap_setCell _ _ _ _ (by simp; omega)]⟩

set_option maxHeartbeats 1000000 in
theorem line_no1 (W0 : World) (ao : Option Addr) (tb cap : Nat) (S : List Tok) (hT : TokIn W0 ao tb S) (hWf : Wf (kr S)) (w : World) (hw : Rd W0 (.slice ao S.length cap) 0 0 w) (h2 : 1 < S.length) (hk : kB (kr S) 0 1 = true) (hk2 : kB (kr S) 1 2 = false) :
    Calls Tryz.prog 106 #[.pointer (some ⟨W0.heap.size, 0, none⟩)] w (LineL W0 ao cap S w) := by
  have HW := hide hw
  have c0 := hw.tok
  have c1 := hw.nxt
  have f1 := hw.fr1
  have hlt := hw.lt
  have hne : w.heap.size ≠ W0.heap.size := by omega
  have hfew := hT.few
  obtain ⟨rfl, htl⟩ := hT.addr (by omega)
  have htl' : tb < w.heap.size := Nat.lt_trans htl hlt
  have hlen : (1 : Int) < (S.length : Int) := by omega
  obtain ⟨a0, _, _, a3, _⟩ := hT.cell 0 (by omega)
  obtain ⟨b0, _, _, _, _⟩ := hT.cell 1 (by omega)
  have k0 := (hw.below.cell (p := ⟨tb, 0, none⟩) htl).trans a0
  have k1 := (hw.below.cell (p := ⟨tb, 5, none⟩) htl).trans b0
  have k3 := (hw.below.cell (p := ⟨tb, 3, none⟩) htl).trans a3
  have e0 := kB_at (S := S) (j := 0) (by omega) 1
  have e1 := kB_at (S := S) (j := 1) (by omega) 2
  have et : (tokAt S 0).t = S[0].t := by rw [tokAt_lt (by omega)]
  obtain ⟨x0, hx0⟩ : ∃ x, S[0].k = x := ⟨_, rfl⟩
  obtain ⟨x1, hx1⟩ : ∃ x, S[1].k = x := ⟨_, rfl⟩
  obtain ⟨t0, ht0⟩ : ∃ x, S[0].t = x := ⟨_, rfl⟩
  rw [hx0] at k0 e0
  rw [hx1] at k1 e1
  rw [ht0] at k3 et
  have z0 : (x0 == 1) = true := by rw [← e0]; exact hk
  have z1 : (x1 == 2) = false := by rw [← e1]; exact hk2
  have bq : (kB (kr S) 0 1 && kB (kr S) 1 2) = false := by rw [hk2, Bool.and_false]
  have HBG : Hid (beg (kr S) = 0) := hide (by unfold beg; rw [bq]; rfl)
  have HNM : Hid (nameS S = ⟨#[]⟩) := hide (by unfold nameS; rw [bq]; rfl)
  clear a0 b0 a3 e0 e1 et hx0 hx1 ht0
  clear bq hk hk2 k3

  have HIH := hide (expr_any W0 _ tb cap S hT hWf (S.length + 1))
  clear hw hT hWf
  go_enter Tryz.func106, Tryz.ntmps106
  go_wp2_with fail
  refine (unhide HIH 0 0 _ (by omega) (by omega) (by omega) ((unhide HW).alloc _)).mono ?_
  rintro e w1 ⟨b, k, p, q, rfl, hw1, hk1, hth, hf, hx⟩
  have d0 := hk1.cell (b := w.heap.size) (by simp) hne 0
  have d1 := hk1.cell (b := w.heap.size) (by simp) hne 1
  have g0 := hk1.frozen (b := w.heap.size) (by simp) hne 0
  have g1 := hk1.frozen (b := w.heap.size) (by simp) hne 1
  simp at d0 d1 g0 g1
  have HK1 : Hid (Kp W0 w w1) := ((Kp.refl W0 w).alloc _).trans hk1
  have HW1 := hide hw1
  have HTH := hide hth
  have HF := hide hf
  have HX := hide hx
  clear hw1 hk1 hth hf hx c0 c1 f1
  go_wp2_with fail
  refine bodyPost_ret (v := .tuple #[.agg #[.string ⟨#[]⟩, .pointer q], .bool b]) (by simp [results, Tryz.results106, go_sem, d0, d1]) rfl ⟨b, k, p, q, ?_, ?_, ?_, ?_, ?_, ?_⟩
  · rw [unhide HNM]
  · exact ((unhide HW1).other hlt _ _).other hlt _ _
  · exact ((unhide HK1).new (Nat.le_refl _) _ _).new (Nat.le_refl _) _ _
  · rw [unhide HBG]; exact unhide HTH
  · intro h; exact unhide HF trivial h
  · intro h
    rw [unhide HBG]
    obtain ⟨x, hx1, hx2⟩ := unhide HX h
    have hx3 : IsEx w.heap.size w1 q x := hx2.mono (by simp)
    refine ⟨x, hx1, (hx3.keep ?_).mono (by omega)⟩
    exact ⟨by simp, fun b' h1 h2 => by rw [RowKit.Below.heap_setCell _ _ _ _ (by simp; omega), RowKit.Below.heap_setCell _ _ _ _ (by simp; omega)]⟩

set_option maxHeartbeats 1000000 in
theorem line_is (W0 : World) (ao : Option Addr) (tb cap : Nat) (S : List Tok) (hT : TokIn W0 ao tb S) (hWf : Wf (kr S)) (w : World) (hw : Rd W0 (.slice ao S.length cap) 0 0 w) (h2 : 1 < S.length) (hk : kB (kr S) 0 1 = true) (hk2 : kB (kr S) 1 2 = true) :
    Calls Tryz.prog 106 #[.pointer (some ⟨W0.heap.size, 0, none⟩)] w (LineL W0 ao cap S w) := by
  have HW := hide hw
  have c0 := hw.tok
  have c1 := hw.nxt
  have f1 := hw.fr1
  have hlt := hw.lt
  have hne : w.heap.size ≠ W0.heap.size := by omega
  have hfew := hT.few
  obtain ⟨rfl, htl⟩ := hT.addr (by omega)
  have htl' : tb < w.heap.size := Nat.lt_trans htl hlt
  have hlen : (1 : Int) < (S.length : Int) := by omega
  obtain ⟨a0, _, _, a3, _⟩ := hT.cell 0 (by omega)
  obtain ⟨b0, _, _, _, _⟩ := hT.cell 1 (by omega)
  have k0 := (hw.below.cell (p := ⟨tb, 0, none⟩) htl).trans a0
  have k1 := (hw.below.cell (p := ⟨tb, 5, none⟩) htl).trans b0
  have k3 := (hw.below.cell (p := ⟨tb, 3, none⟩) htl).trans a3
  have e0 := kB_at (S := S) (j := 0) (by omega) 1
  have e1 := kB_at (S := S) (j := 1) (by omega) 2
  have et : (tokAt S 0).t = S[0].t := by rw [tokAt_lt (by omega)]
  obtain ⟨x0, hx0⟩ : ∃ x, S[0].k = x := ⟨_, rfl⟩
  obtain ⟨x1, hx1⟩ : ∃ x, S[1].k = x := ⟨_, rfl⟩
  obtain ⟨t0, ht0⟩ : ∃ x, S[0].t = x := ⟨_, rfl⟩
  rw [hx0] at k0 e0
  rw [hx1] at k1 e1
  rw [ht0] at k3 et
  have z0 : (x0 == 1) = true := by rw [← e0]; exact hk
  have z1 : (x1 == 2) = true := by rw [← e1]; exact hk2
  have bq : (kB (kr S) 0 1 && kB (kr S) 1 2) = true := by rw [hk, hk2]; rfl
  have HBG : Hid (beg (kr S) = 2) := hide (by unfold beg; rw [bq]; rfl)
  have HNM : Hid (nameS S = t0) := hide (by unfold nameS; rw [bq]; exact et)
  clear a0 b0 a3 e0 e1 et hx0 hx1 ht0
  clear bq hk hk2

  have HIH := hide (expr_any W0 _ tb cap S hT hWf (S.length + 1))
  clear hw hT hWf
  go_enter Tryz.func106, Tryz.ntmps106
  go_wp2_with fail
  refine (unhide HIH 2 0 _ (by omega) (by omega) (by omega) (((unhide HW).next 2).alloc _)).mono ?_
  rintro e w1 ⟨b, k, p, q, rfl, hw1, hk1, hth, hf, hx⟩
  have d0 := hk1.cell (b := w.heap.size) (by simp) hne 0
  have d1 := hk1.cell (b := w.heap.size) (by simp) hne 1
  have g0 := hk1.frozen (b := w.heap.size) (by simp) hne 0
  have g1 := hk1.frozen (b := w.heap.size) (by simp) hne 1
  simp at d0 d1 g0 g1
  have HK1 : Hid (Kp W0 w w1) := (((Kp.setReader W0 w 1 (.int .i64 2)).alloc _)).trans hk1
  have HW1 := hide hw1
  have HTH := hide hth
  have HF := hide hf
  have HX := hide hx
  clear hw1 hk1 hth hf hx c0 c1 f1
  go_wp2_with fail
  refine bodyPost_ret (v := .tuple #[.agg #[.string t0, .pointer q], .bool b]) (by simp [results, Tryz.results106, go_sem, d0, d1]) rfl ⟨b, k, p, q, ?_, ?_, ?_, ?_, ?_, ?_⟩
  · rw [unhide HNM]
  · exact ((unhide HW1).other hlt _ _).other hlt _ _
  · exact ((unhide HK1).new (Nat.le_refl _) _ _).new (Nat.le_refl _) _ _
  · rw [unhide HBG]; exact unhide HTH
  · intro h; exact unhide HF trivial h
  · intro h
    rw [unhide HBG]
    obtain ⟨x, hx1, hx2⟩ := unhide HX h
    have hx3 : IsEx w.heap.size w1 q x := hx2.mono (by simp)
    refine ⟨x, hx1, (hx3.keep ?_).mono (by omega)⟩
    exact ⟨by simp, fun b' h1 h2 => by rw [RowKit.Below.heap_setCell _ _ _ _ (by simp; omega), RowKit.Below.heap_setCell _ _ _ _ (by simp; omega)]⟩

theorem line_any (W0 : World) (ao : Option Addr) (tb cap : Nat) (S : List Tok) (hT : TokIn W0 ao tb S) (hWf : Wf (kr S)) (w : World) (hw : Rd W0 (.slice ao S.length cap) 0 0 w) :
    Calls Tryz.prog 106 #[.pointer (some ⟨W0.heap.size, 0, none⟩)] w (LineL W0 ao cap S w) := by
  by_cases h2 : 1 < S.length
  · cases hk : kB (kr S) 0 1
    · exact line_no0 W0 ao tb cap S hT hWf w hw h2 hk
    · cases hk2 : kB (kr S) 1 2
      · exact line_no1 W0 ao tb cap S hT hWf w hw h2 hk hk2
      · exact line_is W0 ao tb cap S hT hWf w hw h2 hk hk2
  · exact line_short W0 ao tb cap S hT hWf w hw (by omega)
end Go.Proofs.YtjobgpahajhbnaaGreatDoor
namespace Go.Proofs.YtjobgpahajhbnaaGreatDoor
open Go.RowKit

def topB (T : List (Int × Int)) (j : Nat) : Bool := decide ((sc T j 0 0).2.1 ≠ 0 ∧ (sc T j 0 0).2.2 = 0)
/-- are these tokens a LINE? -/
def okT (T : List (Int × Int)) : Bool := topB T (beg T) && decide (T.length ≤ (sc T (beg T) 0 0).1)
/-- where the tokens can no longer be a LINE's -/
def endT (T : List (Int × Int)) : Nat := (sc T (beg T) 0 0).1
/-- what line says of the tokens -/
theorem lineL_top {W0 : World} {ao : Option Addr} {cap : Nat} {S : List Tok} {w w' : World} {e : Ending} (h : LineL W0 ao cap S w e w') :
    ∃ p q, e = .returned (.tuple #[.agg #[.string (nameS S), .pointer q], .bool (topB (kr S) (beg (kr S)))]) ∧ endT (kr S) ≤ S.length ∧ Rd W0 (.slice ao S.length cap) (endT (kr S)) p w' ∧ Kp W0 w w' ∧ (topB (kr S) (beg (kr S)) = true → ∃ x, PX S false (beg (kr S)) 0 x (endT (kr S)) ∧ IsEx W0.heap.size w' q x) := by
  obtain ⟨b, k, p, q, rfl, h1, h2, ⟨h3, hno, hyes⟩, hf, hx⟩ := h
  rw [kr_len] at h3
  unfold endT
  cases b
  · obtain ⟨st, op, hc, ho⟩ := hno rfl
    have ht : topB (kr S) (beg (kr S)) = false := by unfold topB; rw [hc]; simp; omega
    rw [ht, hc]
    exact ⟨p, q, rfl, h3, h1, h2, fun h => by cases h⟩
  · obtain ⟨_, _, st, hst, hsc, hnum⟩ := hyes rfl
    have hc := hsc.trans (stuck (op := 0) hst hnum (hf rfl) (Or.inr rfl))
    have ht : topB (kr S) (beg (kr S)) = true := by unfold topB; rw [hc]; simp; omega
    rw [ht, hc]
    exact ⟨p, q, rfl, h3, h1, h2, fun _ => hx rfl⟩
/-- what a call of Read leaves -/
def ReadL (S : List Tok) (W : World) (e : Ending) (w' : World) : Prop :=
  ∃ q, e = .returned (.tuple #[.agg #[.string (bif okT (kr S) then nameS S else ⟨#[]⟩), .pointer q], .int .i64 (bif okT (kr S) then 0 else (endT (kr S) : Int)), .bool (okT (kr S))]) ∧ Below W.heap.size W w' ∧ (okT (kr S) = true → ∃ x, PX S false (beg (kr S)) 0 x S.length ∧ IsEx W.heap.size w' q x)
theorem tokIn_alloc {W : World} {ao : Option Addr} {tb : Nat} {S : List Tok} (h : TokIn W ao tb S) (o : Obj) : TokIn (W.alloc o) ao tb S :=
  ⟨h.few, fun h0 => ⟨(h.addr h0).1, by have := (h.addr h0).2; simp; omega⟩, fun i hi => by
    have hb := (h.addr (by omega)).2
    have e := fun j => World.cell?_alloc_lt W o ⟨tb, j, none⟩ hb
    simp only [e]
    exact h.cell i hi⟩
theorem rd_start (W : World) (tk : Value) : Rd W tk 0 0 (W.alloc (.cells #[tk, .int .i64 0, .int .i64 0] 191)) :=
  ⟨(Below.refl _ _).alloc (Nat.le_refl _) _, by simp, by simp, by simp, by simp, by simp, by simp⟩
theorem kp_below {W W0 w1 w2 : World} {o : Obj} (hW0 : W0 = W.alloc o) (h1 : Below W.heap.size W w1) (h : Kp W0 w1 w2) : Below W.heap.size W w2 :=
  ⟨h.os.trans h1.os, h.tape.trans h1.tape, h.output.trans h1.output, Nat.le_trans h1.size h.size, fun k hk => (h.block k (Nat.lt_of_lt_of_le hk h1.size) (fun e => by
    have := Option.some.inj e
    rw [hW0] at this
    simp at this
    omega)).trans (h1.block k hk)⟩

set_option maxHeartbeats 1000000 in
theorem sread_any (W : World) (ao : Option Addr) (tb cap : Nat) (S : List Tok) (hT : TokIn W ao tb S) (hWf : Wf (kr S)) :
    Calls Tryz.prog 76 #[.slice ao S.length cap] W (ReadL S W) := by
  have hfew := hT.few
  have HL := hide (fun w hw => line_any (W.alloc (.cells #[.string ⟨#[]⟩, .pointer none] 113)) ao tb cap S (tokIn_alloc hT _) hWf w hw)
  clear hT hWf
  go_enter Tryz.func76, Tryz.ntmps76
  go_wp2_with fail
  have HR0 := hide (rd_start (W.alloc (.cells #[.string ⟨#[]⟩, .pointer none] 113)) (.slice ao S.length cap))
  have hcall := unhide HL _ (unhide HR0)
  simp only [World.size_alloc] at hcall
  refine hcall.mono ?_
  clear hcall
  intro e w1 hl
  obtain ⟨p, q, rfl, hel, hw1, hk1, hx⟩ := lineL_top hl
  clear hl
  have hb1 : Below W.heap.size W w1 := kp_below rfl (((Below.refl W.heap.size W).alloc (Nat.le_refl _) _).alloc (by simp) _) hk1
  have cn := hw1.nxt
  have hl1 := hw1.lt
  have hne : W.heap.size ≠ (W.alloc (.cells #[.string ⟨#[]⟩, .pointer none] 113)).heap.size := by simp
  have d0 := hk1.cell (b := W.heap.size) (by simp; omega) hne 0
  have d1 := hk1.cell (b := W.heap.size) (by simp; omega) hne 1
  have g0 := hk1.frozen (b := W.heap.size) (by simp; omega) hne 0
  have g1 := hk1.frozen (b := W.heap.size) (by simp; omega) hne 1
  simp at cn d0 d1 g0 g1 hl1
  have HB1 := hide hb1
  have HX := hide hx
  obtain ⟨n, hn⟩ : ∃ n, endT (kr S) = n := ⟨_, rfl⟩
  rw [hn] at cn hel HX
  have hz : W.heap.size ≠ w1.heap.size := by omega
  have hz2 : W.heap.size < w1.heap.size := by omega
  clear hb1 hx hw1 hk1
  cases ht : topB (kr S) (beg (kr S))
  · have hok : okT (kr S) = false := by unfold okT; rw [ht]; rfl
    have HOK := hide hok
    have HN := hide hn
    clear ht hok hn
    go_wp2_with fail
    go_region
    all_goals
      go_wp2_with fail
      refine bodyPost_ret (v := .tuple #[.agg #[.string ⟨#[]⟩, .pointer none], .int .i64 n, .bool false]) (by simp [results, Tryz.results76, go_sem, d0, d1, hz2]) rfl ⟨none, ?_, ?_, ?_⟩
      · rw [unhide HOK, unhide HN]; rfl
      · first
        | exact ((((unhide HB1).alloc (unhide HB1).size _).setCell (Nat.le_refl _) _).setCell (Nat.le_refl _) _).drew
        | exact ((((unhide HB1).setCell (Nat.le_refl _) _).setCell (Nat.le_refl _) _).alloc (by simp; omega) _).drew
      · intro h; rw [unhide HOK] at h; cases h
  · have HX1 := hide (unhide HX ht)
    by_cases hk : n = S.length
    · have hok : okT (kr S) = true := by
        unfold okT
        rw [ht, kr_len, show (sc (kr S) (beg (kr S)) 0 0).1 = n from hn]
        simp; omega
      have HOK := hide hok
      subst hk
      clear ht hok hn hel HX
      go_wp2_with fail
      refine bodyPost_ret (v := .tuple #[.agg #[.string (nameS S), .pointer q], .int .i64 0, .bool true]) (by simp [results, Tryz.results76, go_sem, d0, d1, hz2]) rfl ⟨q, ?_, ?_, ?_⟩
      · rw [unhide HOK]; rfl
      · first
        | exact (((unhide HB1).alloc (unhide HB1).size _).setCell (Nat.le_refl _) _).setCell (Nat.le_refl _) _
        | exact (((unhide HB1).setCell (Nat.le_refl _) _).setCell (Nat.le_refl _) _).alloc (by simp; omega) _
      · intro _
        obtain ⟨x, hx1, hx2⟩ := unhide HX1
        refine ⟨x, hx1, (hx2.mono (B' := W.heap.size) (by simp)).keep ?_⟩
        refine ⟨by simp, fun b' h1 h2 => ?_⟩
        rw [RowKit.Below.heap_alloc _ _ _ (by simpa using h2), RowKit.Below.heap_setCell _ _ _ _ (by simp; omega), RowKit.Below.heap_setCell _ _ _ _ (by simp; omega)]
    · have hok : okT (kr S) = false := by
        unfold okT
        rw [ht, kr_len, show (sc (kr S) (beg (kr S)) 0 0).1 = n from hn]
        simp; omega
      have HOK := hide hok
      have HN := hide hn
      have hlt : (n : Int) < (S.length : Int) := by omega
      clear ht hok hn hk
      go_wp2_with fail
      go_region
      all_goals
        go_wp2_with fail
        refine bodyPost_ret (v := .tuple #[.agg #[.string ⟨#[]⟩, .pointer none], .int .i64 n, .bool false]) (by simp [results, Tryz.results76, go_sem, d0, d1, hz2]) rfl ⟨none, ?_, ?_, ?_⟩
        · rw [unhide HOK, unhide HN]; rfl
        · first
          | exact ((((unhide HB1).alloc (unhide HB1).size _).setCell (Nat.le_refl _) _).setCell (Nat.le_refl _) _).drew
          | exact ((((unhide HB1).setCell (Nat.le_refl _) _).setCell (Nat.le_refl _) _).alloc (by simp; omega) _).drew
        · intro h; rw [unhide HOK] at h; cases h
end Go.Proofs.YtjobgpahajhbnaaGreatDoor
namespace Go.Proofs.YtjobgpahajhbnaaGreatDoor
open Go.RowKit

/-- the place of token j, or the text's length -/
def plc (s : ByteArray) (A : List (Nat × Nat)) (j : Nat) : Int := match A[j]? with
  | some q => (q.1 : Int)
  | none => (s.size : Int)
def pFin (s : ByteArray) (A : List (Nat × Nat)) (c : Nat × Nat × Nat) : Int × Int :=
  if c.1 = A.length ∧ c.2.1 ≠ 0 ∧ c.2.2 = 0 then (0, 0) else (3, plc s A c.1)
def parseP (s : ByteArray) : Int × Int :=
  if 200 < s.size then (1, 0) else if (lexR s).2 = -1 then pFin s (lexR s).1 (sc (tks s (lexR s).1) (beg (tks s (lexR s).1)) 0 0) else (2, (lexR s).2)
theorem lex_few (s : ByteArray) : ∀ (f p : Nat) (A : List (Nat × Nat)), A.length ≤ p → p ≤ s.size → (lexS s f p A).1.length ≤ s.size
  | 0, _, A, h, hp => by show A.length ≤ _; omega
  | f + 1, p, A, h, hp => by
    unfold lexS
    split
    · rename_i hl
      cases hb : ((s[p].toNat : Int) == 32)
      · rw [cond_false]
        cases ht : tl (s.data.toList.drop p) with
        | none => show ([] : List (Nat × Nat)).length ≤ _; simp
        | some n =>
          have hbd := tl_bd ht
          rw [len_drop] at hbd
          exact lex_few s f _ _ (by simp; omega) (by omega)
      · rw [cond_true]
        exact lex_few s f _ _ (by omega) (by omega)
    · show A.length ≤ _; omega
end Go.Proofs.YtjobgpahajhbnaaGreatDoor
namespace Go.Proofs.YtjobgpahajhbnaaGreatDoor
open Go.RowKit

theorem Tryz.info155 : (Tryz.prog.info? 155).map (fun i => (i.zero, i.size, i.bytes)) = some (some (.agg #[.int .i64 0, .int .i64 0, .int .i64 0, .string ⟨#[]⟩, .int .i64 0]), 5, 48) := by kernel_rfl

theorem rel_cut {s : ByteArray} {w wr w1 w2 : World} {v v' : Value} {A : List (Nat × Nat)} {p n : Nat} {o o2 : Obj}
    (hb : Below w.heap.size w wr) (hb1 : Below wr.heap.size wr w1) (hown : wr.ownsRow w.heap.size 155 5 v A.length (cellsC s A))
    (h2 : w2.ownsRow w.heap.size 155 5 v' (A.length + 1) (cellsC s A ++ [.int .i64 (kindT (s.extract p (p + n))), .int .i64 (roleT (s.extract p (p + n))), .int .i64 (worthT (s.extract p (p + n))), .string (s.extract p (p + n)), .int .i64 p])) (hg : ((w1.alloc o).alloc o2).grownBy w2 v.ownBlock) :
    w2.ownsRow w.heap.size 155 5 v' (A ++ [(p, p + n)]).length (cellsC s (A ++ [(p, p + n)])) ∧ Below w.heap.size w w2 := by
  have hb2 : Below w.heap.size w w1 := hb.trans (hb1.mono hb.size)
  have hs := hb2.size
  constructor
  · rw [cellsC_snoc]; simpa using h2
  · exact ((hb2.alloc hs o).alloc (by simp; omega) o2).grown hg (by simp; omega) (fun k hk => (hown.lt k hk).1)

theorem cut_tok (s : ByteArray) (p n : Nat) (W : World) (hs : s.size ≤ 200) (hp : p < s.size) (hnb : p + n ≤ s.size) (hv : Evs W) (ht : tl (s.data.toList.drop p) = some n) :
    Calls Tryz.prog 105 #[.string (s.extract p s.size)] W fun e w' => e = .returned (.tuple #[tokX (kindT (s.extract p (p + n))) (roleT (s.extract p (p + n))) (worthT (s.extract p (p + n))) (s.extract p (p + n)) 0, .bool true]) ∧ Below W.heap.size W w' := by
  have htz : (s.extract p s.size).size = s.size - p := by rw [ByteArray.size_extract]; omega
  refine (cut_any (s.extract p s.size) W (by omega) (by omega) hv).mono ?_
  rintro e w' ⟨hc, hb⟩
  unfold CutR at hc
  rw [tail_list, ht] at hc
  simp only [tail_ext s p n hnb] at hc
  exact ⟨hc, hb⟩
theorem cut_bad (s : ByteArray) (p : Nat) (W : World) (hs : s.size ≤ 200) (hp : p < s.size) (hv : Evs W) (ht : tl (s.data.toList.drop p) = none) :
    Calls Tryz.prog 105 #[.string (s.extract p s.size)] W fun e w' => ∃ k r t, e = .returned (.tuple #[tokV k r t 0, .bool false]) ∧ Below W.heap.size W w' := by
  have htz : (s.extract p s.size).size = s.size - p := by rw [ByteArray.size_extract]; omega
  refine (cut_any (s.extract p s.size) W (by omega) (by omega) hv).mono ?_
  rintro e w' ⟨hc, hb⟩
  unfold CutR at hc
  rw [tail_list, ht] at hc
  obtain ⟨k, r, t, he⟩ := hc
  exact ⟨k, r, t, he, hb⟩

set_option maxRecDepth 10000 in
set_option maxHeartbeats 1000000 in
theorem split_any (s : ByteArray) (w : World) (hs : s.size ≤ 200) (hv : Evs w) :
    Calls Tryz.prog 75 #[.string s] w fun e w' => ∃ v, e = .returned (.tuple #[v, .int .i64 (bif (lexR s).2 == -1 then 0 else (lexR s).2), .bool ((lexR s).2 == -1)]) ∧ w'.ownsRow w.heap.size 155 5 v (lexR s).1.length (cellsC s (lexR s).1) ∧ Below w.heap.size w w' := by
  obtain ⟨i0, hi, hz0, hz1, hz2⟩ := info_parts Tryz.info155
  obtain ⟨R, hR⟩ : ∃ R, lexS s s.size 0 [] = R := ⟨_, rfl⟩
  have HR : Hid (lexR s = R) := hR
  have HR0 := hide hR
  clear hR
  rw [unhide HR]
  have HI := hide hi
  have HZ0 := hide hz0
  have HZ1 := hide hz1
  have HZ2 := hide hz2
  have HV := hide hv
  clear hi hz0 hz1 hz2 hv
  go_enter Tryz.func75, Tryz.ntmps75
  go_wp2_with fail
  go_loopw [5, 6] (fun v i wr => ∃ (p f : Nat) (A : List (Nat × Nat)), p ≤ s.size ∧ i = .int .i64 p ∧ A.length ≤ p ∧ wr.ownsRow w.heap.size 155 5 v A.length (cellsC s A) ∧ Below w.heap.size w wr ∧ s.size ≤ f + p ∧ lexS s f p A = R) (fun _ i _ => s.size - (intOf i).toNat)
  case atStart => exact ⟨0, s.size, [], by omega, rfl, by simp, World.ownsRow_nil _ _ _ _, Below.refl _ _, by omega, unhide HR0⟩
  case round =>
    obtain ⟨p, f, A, hp, rfl, hA, hown, hbel, hf, hlex⟩ := hrel
    have HO := hide hown
    have HB := hide hbel
    have HL := hide hlex
    have HVr := hide ((unhide HV).below hbel (unhide HV).1)
    clear hown hbel hlex
    by_cases hlt : p < s.size
    · obtain ⟨g, rfl⟩ : ∃ g, f = g + 1 := ⟨f - 1, by omega⟩
      cases h32 : ((s[p].toNat : Int) == 32)
      · have H32 := hide h32
        cases ht : tl (s.data.toList.drop p) with
        | none =>
          have HE := hide ((unhide HL).symm.trans (lex_bad s g p A hlt (unhide H32) ht))
          have HT := hide ht
          clear ht
          go_wp2_with fail
          refine (cut_bad s p _ hs hlt (unhide HVr) (unhide HT)).mono ?_
          rintro e w1 ⟨k, r, t, rfl, hb1⟩
          unfold tokV
          have HB1 := hide hb1
          clear hb1
          go_wp2_with fail
          go_ret3
          refine ⟨.slice none 0 0, ?_, ?_, ?_⟩
          · rw [unhide HE, show (((p : Int)) == -1) = false from beq_eq_false_iff_ne.2 (by omega)]; rfl
          · rw [unhide HE]; exact World.ownsRow_nil _ _ _ _
          · exact ((unhide HB).trans ((unhide HB1).mono (unhide HB).size)).alloc (Nat.le_trans (unhide HB).size (unhide HB1).size) _
        | some n =>
          have hbd := tl_bd ht
          rw [len_drop] at hbd
          have hn1 : 1 ≤ n := hbd.1
          have hnb : p + n ≤ s.size := by omega
          clear hbd
          have HE := hide ((lex_tok s g p n A hlt (unhide H32) ht).symm.trans (unhide HL))
          have HT := hide ht
          clear ht
          go_wp2_with fail
          refine (cut_tok s p n _ hs hlt hnb (unhide HVr) (unhide HT)).mono ?_
          rintro e w1 ⟨rfl, hb1⟩
          have htz : (s.extract p (p + n)).size = n := by rw [ByteArray.size_extract]; omega
          obtain ⟨t, hte⟩ : ∃ t, s.extract p (p + n) = t := ⟨_, rfl⟩
          rw [hte] at htz ⊢
          have HTE := hide hte
          clear hte
          obtain ⟨kk, hkk⟩ : ∃ kk, kindT t = kk := ⟨_, rfl⟩
          obtain ⟨rr, hrr⟩ : ∃ rr, roleT t = rr := ⟨_, rfl⟩
          obtain ⟨xx, hxx⟩ : ∃ xx, worthT t = xx := ⟨_, rfl⟩
          rw [hkk, hrr, hxx]
          have HXX := hide hxx
          have HKK := hide hkk
          have HRR0 := hide hrr
          clear hkk hrr hxx
          unfold tokX
          have HB1 := hide hb1
          clear hb1
          have HO1 := hide (owns_below (unhide HO) (unhide HB1))
          go_wp2_with (at_builtin; refine wpList_append_own _ rfl _ _ 147 rfl w.heap.size 155 i0 (.agg #[.int .i64 0, .int .i64 0, .int .i64 0, .string ⟨#[]⟩, .int .i64 0]) 5 48 Tryz.underlying147 (unhide HI) (unhide HZ0) (unhide HZ1) (unhide HZ2) rfl (by decide) _ _ _ rfl (((unhide HO1).alloc _).alloc _) ⟨w1.heap.size + 1, 0, none⟩ 1 1 [.int .i64 kk, .int .i64 rr, .int .i64 xx, .string t, .int .i64 p] rfl rfl ?c1 ?c2 ?c3 ?c4 ?c5 ?_)
          case c1 =>
            intro j u hj
            match j, hj with
            | 0, hj => simp at hj; subst hj; simp [Addr.add]
            | 1, hj => simp at hj; subst hj; simp [Addr.add]
            | 2, hj => simp at hj; subst hj; simp [Addr.add]
            | 3, hj => simp at hj; subst hj; simp [Addr.add]
            | 4, hj => simp at hj; subst hj; simp [Addr.add]
          case c2 => intro u hu; simp at hu; rcases hu with rfl | rfl | rfl | rfl | rfl <;> rfl
          case c3 => unfold maxLen; omega
          case c4 => omega
          case c5 =>
            have h1 := (unhide HB).size
            have h2 := (unhide HB1).size
            simp; omega
          · intro v' w2 hown2 hgrow _
            have RR := rel_cut (n := n) (p := p) (unhide HB) (unhide HB1) (unhide HO) (by rw [unhide HTE, unhide HKK, unhide HRR0, unhide HXX]; exact hown2) hgrow
            have HRR := hide RR
            have hlt1 := (unhide HO1).lt
            have hcell : w2.cell? ⟨w1.heap.size, 3, none⟩ = some (.string t) := by
              rw [World.cell?_of_block (hgrow.block w1.heap.size (by simp; omega) (fun e => by have := (hlt1 w1.heap.size e.symm).2; omega))]
              simp
            clear RR hown2 hgrow hlt1
            go_wp2_with fail
            go_roundw
            case rel => exact ⟨p + n, g, A ++ [(p, p + n)], by omega, by go_num, by simp; omega, (unhide HRR).1, (unhide HRR).2, by omega, unhide HE⟩
            case measure => simp [intOf]; omega
      · have HE := hide ((lex_blank s g p A hlt h32).symm.trans (unhide HL))
        go_wp2_with fail
        go_roundw
        case rel => exact ⟨p + 1, g, A, by omega, by go_num, by omega, unhide HO, unhide HB, by omega, unhide HE⟩
        case measure => simp [intOf]; omega
    · have HE := hide ((unhide HL).symm.trans (lex_end s f p A (by omega)))
      go_wp2_with fail
      go_ret3
      exact ⟨u5, by rw [unhide HE]; rfl, by rw [unhide HE]; exact unhide HO, unhide HB⟩
end Go.Proofs.YtjobgpahajhbnaaGreatDoor
