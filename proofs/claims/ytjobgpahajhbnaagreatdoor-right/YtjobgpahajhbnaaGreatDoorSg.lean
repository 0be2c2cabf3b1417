import Derived.Test.YtjobgpahajhbnaaGreatDoorSf
namespace Go.Proofs.YtjobgpahajhbnaaGreatDoor
open Go.RowKit

/-- where the EXPR begins -/
def beg (T : List (Int × Int)) : Nat := bif kB T 0 1 && kB T 1 2 then 2 else 0
/-- the name that is to keep what the line makes, or no text -/
def nameS (S : List Tok) : ByteArray := bif kB (kr S) 0 1 && kB (kr S) 1 2 then (tokAt S 0).t else ⟨#[]⟩
/-- what a call of line leaves -/
def LineL (W0 : World) (ao : Option Addr) (cap : Nat) (S : List Tok) (w : World) (e : Ending) (w' : World) : Prop :=
  ∃ b k p q, e = .returned (.tuple #[.agg #[.string (nameS S), .pointer q], .bool b]) ∧ Rd W0 (.slice ao S.length cap) k p w' ∧ Kp W0 w w' ∧ ThR (kr S) (beg (kr S)) 0 b k p ∧ (b = true → fB (kr S) k 2 = false) ∧ (b = true → ∃ x, PX S false (beg (kr S)) 0 x k ∧ IsEx W0.heap.size w' q x)

set_option maxHeartbeats 1000000 in
theorem line_short (W0 : World) (ao : Option Addr) (tb cap : Nat) (S : List Tok) (hT : TokIn W0 ao tb S) (hWf : Wf (kr S)) (w : World) (hw : Rd W0 (.slice ao S.length cap) 0 0 w) (h2 : S.length ≤ 1) :
    Calls Tryz.prog 106 #[.pointer (some ⟨W0.heap.size, 0, none⟩)] w (LineL W0 ao cap S w) := by
  have HW := hide hw
  have c0 := hw.tok
  have c1 := hw.nxt
  have f1 := hw.fr1
  have hlt := hw.lt
  have hne : w.heap.size ≠ W0.heap.size := by omega
  have hfew := hT.few
  have hlen : (S.length : Int) ≤ 1 := by omega
  have bq : (kB (kr S) 0 1 && kB (kr S) 1 2) = false := by rw [kB_out h2 2, Bool.and_false]
  have HBG : Hid (beg (kr S) = 0) := hide (by unfold beg; rw [bq]; rfl)
  have HNM : Hid (nameS S = ⟨#[]⟩) := hide (by unfold nameS; rw [bq]; rfl)
  clear bq
  have HIH := hide (expr_any W0 _ tb cap S hT hWf (S.length + 1))
  clear hw hT hWf
  go_enter Tryz.func106, Tryz.ntmps106
  go_wp2_with fail
  refine (unhide HIH 0 0 _ (by omega) (by omega) (by omega) ((unhide HW).alloc _)).mono ?_
  rintro e w1 ⟨b, k, p, q, rfl, hw1, hk1, hth, hf, hx⟩
  have d0 := hk1.cell (b := w.heap.size) (by simp) hne 0
  have d1 := hk1.cell (b := w.heap.size) (by simp) hne 1
  have g0 := hk1.frozen (b := w.heap.size) (by simp) hne 0
  have g1 := hk1.frozen (b := w.heap.size) (by simp) hne 1
  simp at d0 d1 g0 g1
  have HK1 : Hid (Kp W0 w w1) := ((Kp.refl W0 w).alloc _).trans hk1
  have HW1 := hide hw1
  have HTH := hide hth
  have HF := hide hf
  have HX := hide hx
  clear hw1 hk1 hth hf hx c0 c1 f1
  go_wp2_with fail
  refine bodyPost_ret (v := .tuple #[.agg #[.string ⟨#[]⟩, .pointer q], .bool b]) (by simp [results, Tryz.results106, go_sem, d0, d1]) rfl ⟨b, k, p, q, ?_, ?_, ?_, ?_, ?_, ?_⟩
  · rw [unhide HNM]
  · exact ((unhide HW1).other hlt _ _).other hlt _ _
  · exact ((unhide HK1).new (Nat.le_refl _) _ _).new (Nat.le_refl _) _ _
  · rw [unhide HBG]; exact unhide HTH
  · intro h; exact unhide HF trivial h
  · intro h
    rw [unhide HBG]
    obtain ⟨x, hx1, hx2⟩ := unhide HX h
    have hx3 : IsEx w.heap.size w1 q x := hx2.mono (by simp)
    refine ⟨x, hx1, (hx3.keep ?_).mono (by omega)⟩
    exact ⟨by simp, fun b' h1 h2 => by rw [RowKit.Below.heap_setCell _ _ _ _ (by simp; omega), RowKit.Below.heap_setCell _ _ _ _ (by simp; omega)]⟩

set_option maxHeartbeats 1000000 in
theorem line_no0 (W0 : World) (ao : Option Addr) (tb cap : Nat) (S : List Tok) (hT : TokIn W0 ao tb S) (hWf : Wf (kr S)) (w : World) (hw : Rd W0 (.slice ao S.length cap) 0 0 w) (h2 : 1 < S.length) (hk : kB (kr S) 0 1 = false) :
    Calls Tryz.prog 106 #[.pointer (some ⟨W0.heap.size, 0, none⟩)] w (LineL W0 ao cap S w) := by
  have HW := hide hw
  have c0 := hw.tok
  have c1 := hw.nxt
  have f1 := hw.fr1
  have hlt := hw.lt
  have hne : w.heap.size ≠ W0.heap.size := by omega
  have hfew := hT.few
  obtain ⟨rfl, htl⟩ := hT.addr (by omega)
  have htl' : tb < w.heap.size := Nat.lt_trans htl hlt
  have hlen : (1 : Int) < (S.length : Int) := by omega
  obtain ⟨a0, _, _, a3, _⟩ := hT.cell 0 (by omega)
  obtain ⟨b0, _, _, _, _⟩ := hT.cell 1 (by omega)
  have k0 := (hw.below.cell (p := ⟨tb, 0, none⟩) htl).trans a0
  have k1 := (hw.below.cell (p := ⟨tb, 5, none⟩) htl).trans b0
  have k3 := (hw.below.cell (p := ⟨tb, 3, none⟩) htl).trans a3
  have e0 := kB_at (S := S) (j := 0) (by omega) 1
  have e1 := kB_at (S := S) (j := 1) (by omega) 2
  have et : (tokAt S 0).t = S[0].t := by rw [tokAt_lt (by omega)]
  obtain ⟨x0, hx0⟩ : ∃ x, S[0].k = x := ⟨_, rfl⟩
  obtain ⟨x1, hx1⟩ : ∃ x, S[1].k = x := ⟨_, rfl⟩
  obtain ⟨t0, ht0⟩ : ∃ x, S[0].t = x := ⟨_, rfl⟩
  rw [hx0] at k0 e0
  rw [hx1] at k1 e1
  rw [ht0] at k3 et
  have z0 : (x0 == 1) = false := by rw [← e0]; exact hk
  have bq : (kB (kr S) 0 1 && kB (kr S) 1 2) = false := by rw [hk, Bool.false_and]
  have HBG : Hid (beg (kr S) = 0) := hide (by unfold beg; rw [bq]; rfl)
  have HNM : Hid (nameS S = ⟨#[]⟩) := hide (by unfold nameS; rw [bq]; rfl)
  clear a0 b0 a3 e0 e1 et hx0 hx1 ht0
  clear bq hk k3

  have HIH := hide (expr_any W0 _ tb cap S hT hWf (S.length + 1))
  clear hw hT hWf
  go_enter Tryz.func106, Tryz.ntmps106
  go_wp2_with fail
  refine (unhide HIH 0 0 _ (by omega) (by omega) (by omega) ((unhide HW).alloc _)).mono ?_
  rintro e w1 ⟨b, k, p, q, rfl, hw1, hk1, hth, hf, hx⟩
  have d0 := hk1.cell (b := w.heap.size) (by simp) hne 0
  have d1 := hk1.cell (b := w.heap.size) (by simp) hne 1
  have g0 := hk1.frozen (b := w.heap.size) (by simp) hne 0
  have g1 := hk1.frozen (b := w.heap.size) (by simp) hne 1
  simp at d0 d1 g0 g1
  have HK1 : Hid (Kp W0 w w1) := ((Kp.refl W0 w).alloc _).trans hk1
  have HW1 := hide hw1
  have HTH := hide hth
  have HF := hide hf
  have HX := hide hx
  clear hw1 hk1 hth hf hx c0 c1 f1
  go_wp2_with fail
  refine bodyPost_ret (v := .tuple #[.agg #[.string ⟨#[]⟩, .pointer q], .bool b]) (by simp [results, Tryz.results106, go_sem, d0, d1]) rfl ⟨b, k, p, q, ?_, ?_, ?_, ?_, ?_, ?_⟩
  · rw [unhide HNM]
  · exact ((unhide HW1).other hlt _ _).other hlt _ _
  · exact ((unhide HK1).new (Nat.le_refl _) _ _).new (Nat.le_refl _) _ _
  · rw [unhide HBG]; exact unhide HTH
  · intro h; exact unhide HF trivial h
  · intro h
    rw [unhide HBG]
    obtain ⟨x, hx1, hx2⟩ := unhide HX h
    have hx3 : IsEx w.heap.size w1 q x := hx2.mono (by simp)
    refine ⟨x, hx1, (hx3.keep ?_).mono (by omega)⟩
    exact ⟨by simp, fun b' h1 h2 => by rw [RowKit.Below.heap_setCell _ _ _ _ (by simp; omega), RowKit.Below.heap_setCell _ _ _ _ (by simp; omega)]⟩

set_option maxHeartbeats 1000000 in
theorem line_no1 (W0 : World) (ao : Option Addr) (tb cap : Nat) (S : List Tok) (hT : TokIn W0 ao tb S) (hWf : Wf (kr S)) (w : World) (hw : Rd W0 (.slice ao S.length cap) 0 0 w) (h2 : 1 < S.length) (hk : kB (kr S) 0 1 = true) (hk2 : kB (kr S) 1 2 = false) :
    Calls Tryz.prog 106 #[.pointer (some ⟨W0.heap.size, 0, none⟩)] w (LineL W0 ao cap S w) := by
  have HW := hide hw
  have c0 := hw.tok
  have c1 := hw.nxt
  have f1 := hw.fr1
  have hlt := hw.lt
  have hne : w.heap.size ≠ W0.heap.size := by omega
  have hfew := hT.few
  obtain ⟨rfl, htl⟩ := hT.addr (by omega)
  have htl' : tb < w.heap.size := Nat.lt_trans htl hlt
  have hlen : (1 : Int) < (S.length : Int) := by omega
  obtain ⟨a0, _, _, a3, _⟩ := hT.cell 0 (by omega)
  obtain ⟨b0, _, _, _, _⟩ := hT.cell 1 (by omega)
  have k0 := (hw.below.cell (p := ⟨tb, 0, none⟩) htl).trans a0
  have k1 := (hw.below.cell (p := ⟨tb, 5, none⟩) htl).trans b0
  have k3 := (hw.below.cell (p := ⟨tb, 3, none⟩) htl).trans a3
  have e0 := kB_at (S := S) (j := 0) (by omega) 1
  have e1 := kB_at (S := S) (j := 1) (by omega) 2
  have et : (tokAt S 0).t = S[0].t := by rw [tokAt_lt (by omega)]
  obtain ⟨x0, hx0⟩ : ∃ x, S[0].k = x := ⟨_, rfl⟩
  obtain ⟨x1, hx1⟩ : ∃ x, S[1].k = x := ⟨_, rfl⟩
  obtain ⟨t0, ht0⟩ : ∃ x, S[0].t = x := ⟨_, rfl⟩
  rw [hx0] at k0 e0
  rw [hx1] at k1 e1
  rw [ht0] at k3 et
  have z0 : (x0 == 1) = true := by rw [← e0]; exact hk
  have z1 : (x1 == 2) = false := by rw [← e1]; exact hk2
  have bq : (kB (kr S) 0 1 && kB (kr S) 1 2) = false := by rw [hk2, Bool.and_false]
  have HBG : Hid (beg (kr S) = 0) := hide (by unfold beg; rw [bq]; rfl)
  have HNM : Hid (nameS S = ⟨#[]⟩) := hide (by unfold nameS; rw [bq]; rfl)
  clear a0 b0 a3 e0 e1 et hx0 hx1 ht0
  clear bq hk hk2 k3

  have HIH := hide (expr_any W0 _ tb cap S hT hWf (S.length + 1))
  clear hw hT hWf
  go_enter Tryz.func106, Tryz.ntmps106
  go_wp2_with fail
  refine (unhide HIH 0 0 _ (by omega) (by omega) (by omega) ((unhide HW).alloc _)).mono ?_
  rintro e w1 ⟨b, k, p, q, rfl, hw1, hk1, hth, hf, hx⟩
  have d0 := hk1.cell (b := w.heap.size) (by simp) hne 0
  have d1 := hk1.cell (b := w.heap.size) (by simp) hne 1
  have g0 := hk1.frozen (b := w.heap.size) (by simp) hne 0
  have g1 := hk1.frozen (b := w.heap.size) (by simp) hne 1
  simp at d0 d1 g0 g1
  have HK1 : Hid (Kp W0 w w1) := ((Kp.refl W0 w).alloc _).trans hk1
  have HW1 := hide hw1
  have HTH := hide hth
  have HF := hide hf
  have HX := hide hx
  clear hw1 hk1 hth hf hx c0 c1 f1
  go_wp2_with fail
  refine bodyPost_ret (v := .tuple #[.agg #[.string ⟨#[]⟩, .pointer q], .bool b]) (by simp [results, Tryz.results106, go_sem, d0, d1]) rfl ⟨b, k, p, q, ?_, ?_, ?_, ?_, ?_, ?_⟩
  · rw [unhide HNM]
  · exact ((unhide HW1).other hlt _ _).other hlt _ _
  · exact ((unhide HK1).new (Nat.le_refl _) _ _).new (Nat.le_refl _) _ _
  · rw [unhide HBG]; exact unhide HTH
  · intro h; exact unhide HF trivial h
  · intro h
    rw [unhide HBG]
    obtain ⟨x, hx1, hx2⟩ := unhide HX h
    have hx3 : IsEx w.heap.size w1 q x := hx2.mono (by simp)
    refine ⟨x, hx1, (hx3.keep ?_).mono (by omega)⟩
    exact ⟨by simp, fun b' h1 h2 => by rw [RowKit.Below.heap_setCell _ _ _ _ (by simp; omega), RowKit.Below.heap_setCell _ _ _ _ (by simp; omega)]⟩

set_option maxHeartbeats 1000000 in
theorem line_is (W0 : World) (ao : Option Addr) (tb cap : Nat) (S : List Tok) (hT : TokIn W0 ao tb S) (hWf : Wf (kr S)) (w : World) (hw : Rd W0 (.slice ao S.length cap) 0 0 w) (h2 : 1 < S.length) (hk : kB (kr S) 0 1 = true) (hk2 : kB (kr S) 1 2 = true) :
    Calls Tryz.prog 106 #[.pointer (some ⟨W0.heap.size, 0, none⟩)] w (LineL W0 ao cap S w) := by
  have HW := hide hw
  have c0 := hw.tok
  have c1 := hw.nxt
  have f1 := hw.fr1
  have hlt := hw.lt
  have hne : w.heap.size ≠ W0.heap.size := by omega
  have hfew := hT.few
  obtain ⟨rfl, htl⟩ := hT.addr (by omega)
  have htl' : tb < w.heap.size := Nat.lt_trans htl hlt
  have hlen : (1 : Int) < (S.length : Int) := by omega
  obtain ⟨a0, _, _, a3, _⟩ := hT.cell 0 (by omega)
  obtain ⟨b0, _, _, _, _⟩ := hT.cell 1 (by omega)
  have k0 := (hw.below.cell (p := ⟨tb, 0, none⟩) htl).trans a0
  have k1 := (hw.below.cell (p := ⟨tb, 5, none⟩) htl).trans b0
  have k3 := (hw.below.cell (p := ⟨tb, 3, none⟩) htl).trans a3
  have e0 := kB_at (S := S) (j := 0) (by omega) 1
  have e1 := kB_at (S := S) (j := 1) (by omega) 2
  have et : (tokAt S 0).t = S[0].t := by rw [tokAt_lt (by omega)]
  obtain ⟨x0, hx0⟩ : ∃ x, S[0].k = x := ⟨_, rfl⟩
  obtain ⟨x1, hx1⟩ : ∃ x, S[1].k = x := ⟨_, rfl⟩
  obtain ⟨t0, ht0⟩ : ∃ x, S[0].t = x := ⟨_, rfl⟩
  rw [hx0] at k0 e0
  rw [hx1] at k1 e1
  rw [ht0] at k3 et
  have z0 : (x0 == 1) = true := by rw [← e0]; exact hk
  have z1 : (x1 == 2) = true := by rw [← e1]; exact hk2
  have bq : (kB (kr S) 0 1 && kB (kr S) 1 2) = true := by rw [hk, hk2]; rfl
  have HBG : Hid (beg (kr S) = 2) := hide (by unfold beg; rw [bq]; rfl)
  have HNM : Hid (nameS S = t0) := hide (by unfold nameS; rw [bq]; exact et)
  clear a0 b0 a3 e0 e1 et hx0 hx1 ht0
  clear bq hk hk2

  have HIH := hide (expr_any W0 _ tb cap S hT hWf (S.length + 1))
  clear hw hT hWf
  go_enter Tryz.func106, Tryz.ntmps106
  go_wp2_with fail
  refine (unhide HIH 2 0 _ (by omega) (by omega) (by omega) (((unhide HW).next 2).alloc _)).mono ?_
  rintro e w1 ⟨b, k, p, q, rfl, hw1, hk1, hth, hf, hx⟩
  have d0 := hk1.cell (b := w.heap.size) (by simp) hne 0
  have d1 := hk1.cell (b := w.heap.size) (by simp) hne 1
  have g0 := hk1.frozen (b := w.heap.size) (by simp) hne 0
  have g1 := hk1.frozen (b := w.heap.size) (by simp) hne 1
  simp at d0 d1 g0 g1
  have HK1 : Hid (Kp W0 w w1) := (((Kp.setReader W0 w 1 (.int .i64 2)).alloc _)).trans hk1
  have HW1 := hide hw1
  have HTH := hide hth
  have HF := hide hf
  have HX := hide hx
  clear hw1 hk1 hth hf hx c0 c1 f1
  go_wp2_with fail
  refine bodyPost_ret (v := .tuple #[.agg #[.string t0, .pointer q], .bool b]) (by simp [results, Tryz.results106, go_sem, d0, d1]) rfl ⟨b, k, p, q, ?_, ?_, ?_, ?_, ?_, ?_⟩
  · rw [unhide HNM]
  · exact ((unhide HW1).other hlt _ _).other hlt _ _
  · exact ((unhide HK1).new (Nat.le_refl _) _ _).new (Nat.le_refl _) _ _
  · rw [unhide HBG]; exact unhide HTH
  · intro h; exact unhide HF trivial h
  · intro h
    rw [unhide HBG]
    obtain ⟨x, hx1, hx2⟩ := unhide HX h
    have hx3 : IsEx w.heap.size w1 q x := hx2.mono (by simp)
    refine ⟨x, hx1, (hx3.keep ?_).mono (by omega)⟩
    exact ⟨by simp, fun b' h1 h2 => by rw [RowKit.Below.heap_setCell _ _ _ _ (by simp; omega), RowKit.Below.heap_setCell _ _ _ _ (by simp; omega)]⟩

theorem line_any (W0 : World) (ao : Option Addr) (tb cap : Nat) (S : List Tok) (hT : TokIn W0 ao tb S) (hWf : Wf (kr S)) (w : World) (hw : Rd W0 (.slice ao S.length cap) 0 0 w) :
    Calls Tryz.prog 106 #[.pointer (some ⟨W0.heap.size, 0, none⟩)] w (LineL W0 ao cap S w) := by
  by_cases h2 : 1 < S.length
  · cases hk : kB (kr S) 0 1
    · exact line_no0 W0 ao tb cap S hT hWf w hw h2 hk
    · cases hk2 : kB (kr S) 1 2
      · exact line_no1 W0 ao tb cap S hT hWf w hw h2 hk hk2
      · exact line_is W0 ao tb cap S hT hWf w hw h2 hk hk2
  · exact line_short W0 ao tb cap S hT hWf w hw (by omega)
end Go.Proofs.YtjobgpahajhbnaaGreatDoor
