import Derived.Test.YtjobgpahajhbnaaGreatDoorSe
namespace Go.Proofs.YtjobgpahajhbnaaGreatDoor
open Go.RowKit

set_option maxHeartbeats 1000000 in
theorem thing_paren (W0 : World) (ao : Option Addr) (tb cap : Nat) (S : List Tok) (hT : TokIn W0 ao tb S) (m : Nat) (ih : ExprC W0 ao cap S m) (j o : Nat) (w : World) (hm : S.length - j < m + 1) (hjl : j ≤ S.length) (ho : o ≤ 8)
    (hw : Rd W0 (.slice ao S.length cap) j o w) (n1 : fB (kr S) j 1 = false) (n2 : kB (kr S) j 0 = false) (n3 : kB (kr S) j 1 = false) :
    Calls Tryz.prog 176 #[.pointer (some ⟨W0.heap.size, 0, none⟩)] w (Left W0 ao cap S true j o w) := by
  have HW := hide hw
  have N1 := hide n1
  have N2 := hide n2
  have N3 := hide n3
  have HT := hide hT
  have IH := hide ih
  clear hw n1 n2 n3 hT ih
  go_enter Tryz.func176, Tryz.ntmps176
  go_wp2_with fail
  refine (acc_any W0 ao tb cap S 0 j o _ (unhide HT) hjl (unhide HW)).mono ?_
  rintro e w1 ⟨rfl, hw1, hk1⟩
  rw [unhide N2] at hw1 ⊢
  unfold Tok.v tokX
  have HW1 : Hid (Rd W0 (.slice ao S.length cap) j o w1) := hw1
  have HK1 := hide hk1
  clear hw1 hk1
  go_wp2_with fail
  refine (acc_any W0 ao tb cap S 1 j o _ (unhide HT) hjl ((unhide HW1).alloc _)).mono ?_
  rintro e w2 ⟨rfl, hw2, hk2⟩
  rw [unhide N3] at hw2 ⊢
  unfold Tok.v tokX
  have HW2 : Hid (Rd W0 (.slice ao S.length cap) j o w2) := hw2
  have HK2 : Hid (Kp W0 w w2) := ((unhide HK1).alloc _).trans hk2
  clear hw2 hk2
  go_wp2_with fail
  refine (parens_any W0 ao tb cap S (unhide HT) m (unhide IH) j o _ hm hjl ho ((unhide HW2).alloc _) (unhide N1) (unhide N2) (unhide N3)).mono ?_
  rintro e w3 ⟨b, k, p, q, rfl, h1, h2, h3⟩
  have H1 := hide h1
  have H2 := hide h2
  have H3 := hide h3
  clear h1 h2 h3
  go_wp2_with fail
  go_ret2
  obtain ⟨h3, h4, h5⟩ := unhide H3
  refine ⟨b, k, p, q, rfl, unhide H1, ((unhide HK2).alloc _).trans (unhide H2), h3, h4, fun hb => ?_⟩
  obtain ⟨x, hx1, hx2⟩ := h5 hb
  exact ⟨x, hx1, hx2.mono (by have := (unhide HK2).size; simp; omega)⟩
theorem thing_any (W0 : World) (ao : Option Addr) (tb cap : Nat) (S : List Tok) (hT : TokIn W0 ao tb S) (m : Nat) (ih : ExprC W0 ao cap S m) (j o : Nat) (w : World) (hm : S.length - j < m + 1) (hjl : j ≤ S.length) (ho : o ≤ 8)
    (hw : Rd W0 (.slice ao S.length cap) j o w) (n1 : fB (kr S) j 1 = false) :
    Calls Tryz.prog 176 #[.pointer (some ⟨W0.heap.size, 0, none⟩)] w (Left W0 ao cap S true j o w) := by
  cases h0 : kB (kr S) j 0
  · cases h1 : kB (kr S) j 1
    · exact thing_paren W0 ao tb cap S hT m ih j o w hm hjl ho hw n1 h0 h1
    · exact thing_name W0 ao tb cap S hT j o w hw h0 h1
  · exact thing_num W0 ao tb cap S hT j o w hw h0

theorem fun_kind {S : List Tok} (hwf : Wf (kr S)) {j : Nat} {r : Int} (h : fB (kr S) j r = true) (hr : r = 1 ∨ r = 2) : (tokAt S j).k ≠ 0 ∧ (tokAt S j).k ≠ 1 := by
  obtain ⟨hj, hb⟩ := fB_lt h
  obtain ⟨a, b, _, _⟩ := wf_fun hwf hj hb hr
  rw [kr_len] at hj
  rw [tokAt_lt hj]
  simp [kr] at a b
  exact ⟨a, b⟩

set_option maxHeartbeats 1000000 in
theorem expr_one (W0 : World) (ao : Option Addr) (tb cap : Nat) (S : List Tok) (hT : TokIn W0 ao tb S) (hWf : Wf (kr S)) (m : Nat) (ih : ExprC W0 ao cap S m) (j o : Nat) (w : World) (hm : S.length - j < m + 1) (ho : o ≤ 8)
    (hw : Rd W0 (.slice ao S.length cap) j o w) (hf : fB (kr S) j 1 = true) :
    Calls Tryz.prog 149 #[.pointer (some ⟨W0.heap.size, 0, none⟩)] w (Left W0 ao cap S false j o w) := by
  have HW := hide hw
  have HT := hide hT
  have IH := hide ih
  obtain ⟨hjl, hsc⟩ := sc_ahead (op := o) hWf hf
  rw [kr_len] at hjl
  have HKD := hide (fun_kind hWf hf (Or.inl rfl))
  have HPX := hide (fun r k => PX.one (S := S) j o r k hf)
  have HS := hide hsc
  have HF := hide hf
  obtain ⟨q, hq⟩ : ∃ q, tokAt S j = q := ⟨_, rfl⟩
  have HQ := hide hq
  simp only [hq] at HKD HPX
  obtain ⟨kk, rr, xx, tt, pp⟩ := q
  have hlt0 := hw.lt
  clear hw hT ih hsc hf hq hWf
  go_enter Tryz.func149, Tryz.ntmps149
  go_wp2_with fail
  refine (func_any W0 ao tb cap S 1 j o _ (unhide HT) (by omega) (unhide HW)).mono ?_
  rintro e w1 ⟨rfl, hw1, hk1⟩
  rw [unhide HF] at hw1 ⊢
  simp only [cond_true, unhide HQ]
  unfold Tok.v tokX
  have HW1 : Hid (Rd W0 (.slice ao S.length cap) (j + 1) o w1) := hw1
  have HK1 := hide hk1
  have hne : w1.heap.size ≠ W0.heap.size := by have := hw1.lt; omega
  clear hw1 hk1
  go_wp2_with fail
  refine (unhide IH (j + 1) o _ (by omega) (by omega) ho ((unhide HW1).alloc _)).mono ?_
  rintro e w2 ⟨b, k, p, qe, rfl, hw2, hk2, ⟨hkl, hno, hyes⟩, hf2, hx⟩
  rw [kr_len] at hkl
  have d0 := hk2.cell (b := w1.heap.size) (by simp) hne 0
  have d1 := hk2.cell (b := w1.heap.size) (by simp) hne 1
  have d2 := hk2.cell (b := w1.heap.size) (by simp) hne 2
  have d3 := hk2.cell (b := w1.heap.size) (by simp) hne 3
  have d4 := hk2.cell (b := w1.heap.size) (by simp) hne 4
  simp at d0 d1 d2 d3 d4
  have HK2 : Hid (Kp W0 w w2) := ((unhide HK1).alloc _).trans hk2
  have HW2 := hide hw2
  have hl2 := hw2.lt
  have HNO := hide hno
  have HYES := hide hyes
  have HF2 := hide hf2
  have HX := hide hx
  clear hk2 hw2 hno hyes hf2 hx
  go_wp2_with fail
  go_ret2
  cases b
  · obtain ⟨st, op, hc, ho⟩ := unhide HNO rfl
    exact Left.no _ ((unhide HW2).alloc _) ((unhide HK2).alloc _) hkl ⟨st, op, (unhide HS).trans hc, ho⟩
  · obtain ⟨rfl, hlt2, st, hst, hsc2, hnum⟩ := unhide HYES rfl
    obtain ⟨x, hx1, hx2⟩ := unhide HX rfl
    obtain ⟨k0, k1⟩ := unhide HKD
    exact Left.yes _ ((unhide HW2).alloc _) ((unhide HK2).alloc _) hkl (by omega) st hst ((unhide HS).trans hsc2) hnum (fun _ => unhide HF2 trivial rfl) _ (unhide HPX x k hx1) (isEx_one rfl (by have := (unhide HK2).size; omega) k0 k1 (hx2.mono (by have := (unhide HK1).size; simp; omega)))

set_option maxHeartbeats 1000000 in
theorem expr_two (W0 : World) (ao : Option Addr) (tb cap : Nat) (S : List Tok) (hT : TokIn W0 ao tb S) (hWf : Wf (kr S)) (m : Nat) (ih : ExprC W0 ao cap S m) (j o : Nat) (w : World) (hm : S.length - j < m + 1) (hjl : j ≤ S.length) (ho : o ≤ 8)
    (hw : Rd W0 (.slice ao S.length cap) j o w) (hf : fB (kr S) j 1 = false) :
    Calls Tryz.prog 149 #[.pointer (some ⟨W0.heap.size, 0, none⟩)] w (Left W0 ao cap S false j o w) := by
  have HW := hide hw
  have HT := hide hT
  have IH := hide ih
  have HF := hide hf
  have HWF := hide hWf
  have hlt0 := hw.lt
  clear hw hT ih hf hWf
  go_enter Tryz.func149, Tryz.ntmps149
  go_wp2_with fail
  refine (func_any W0 ao tb cap S 1 j o _ (unhide HT) hjl (unhide HW)).mono ?_
  rintro e w1 ⟨rfl, hw1, hk1⟩
  rw [unhide HF] at hw1 ⊢
  unfold Tok.v tokX
  have HW1 : Hid (Rd W0 (.slice ao S.length cap) j o w1) := hw1
  have HK1 := hide hk1
  clear hw1 hk1
  go_wp2_with fail
  refine (thing_any W0 ao tb cap S (unhide HT) m (unhide IH) j o _ hm hjl ho ((unhide HW1).alloc _) (unhide HF)).mono ?_
  rintro e w2 ⟨b, k, p, qe, rfl, hw2, hk2, ⟨hkl, hno, hyes⟩, _, hx⟩
  rw [kr_len] at hkl
  have HK2 : Hid (Kp W0 w w2) := ((unhide HK1).alloc _).trans hk2
  clear hk2
  cases b
  · have HNO := hide (hno rfl)
    have HW2 := hide hw2
    clear hw2 hno hyes hx
    go_wp2_with fail
    go_ret2
    exact Left.no _ (unhide HW2) (unhide HK2) hkl (unhide HNO)
  · obtain ⟨hpo, hlt2, st, hst, hsc2, hnum⟩ := hyes rfl
    rw [hpo] at hw2
    clear hpo
    have HX := hide (hx rfl)
    have HW2 := hide hw2
    have HS2 := hide hsc2
    have HNU := hide hnum
    have HST := hide hst
    clear hno hyes hw2 hsc2 hnum hst hx
    cases hf2 : fB (kr S) k 2
    · have HF2 := hide hf2
      clear hf2
      go_wp2_with fail
      refine (func_any W0 ao tb cap S 2 k o _ (unhide HT) hkl (unhide HW2)).mono ?_
      rintro e w3 ⟨rfl, hw3, hk3⟩
      rw [unhide HF2] at hw3 ⊢
      unfold Tok.v tokX
      have HW3 : Hid (Rd W0 (.slice ao S.length cap) k o w3) := hw3
      have HK3 := hide hk3
      clear hw3 hk3
      go_wp2_with fail
      go_ret2
      obtain ⟨x, hx1, hx2⟩ := unhide HX
      have hk4 := (unhide HK3).alloc (Obj.cells #[.int .i64 0, .int .i64 0, .int .i64 0, .string ⟨#[]⟩, .int .i64 0] 155)
      exact Left.yes _ ((unhide HW3).alloc _) ((unhide HK2).trans hk4) hkl hlt2 st (unhide HST) (unhide HS2) (unhide HNU) (fun _ => unhide HF2) x (PX.only j o x k (unhide HF) hx1 (unhide HF2)) ((hx2.mono (by have := (unhide HK1).size; simp; omega)).keep (hk4.behind' (by omega)))
    · have hst0 : st ≠ 0 := by have := unhide HST; omega
      obtain ⟨hlt3, hsc3⟩ := sc_between (op := o) (unhide HWF) hst0 hf2
      rw [kr_len] at hlt3
      have HS3 := hide ((unhide HS2).trans hsc3)
      have HKD := hide (fun_kind (unhide HWF) hf2 (Or.inr rfl))
      have HPX := hide (fun l hl r n => PX.two (S := S) j o l k r n (unhide HF) hl hf2)
      have HF2 := hide hf2
      obtain ⟨q, hq⟩ : ∃ q, tokAt S k = q := ⟨_, rfl⟩
      have HQ := hide hq
      simp only [hq] at HKD HPX
      obtain ⟨kk, rr, xx, tt, pp⟩ := q
      clear hf2 hsc3 hst0 hq
      go_wp2_with fail
      refine (func_any W0 ao tb cap S 2 k o _ (unhide HT) hkl (unhide HW2)).mono ?_
      rintro e w3 ⟨rfl, hw3, hk3⟩
      rw [unhide HF2] at hw3 ⊢
      simp only [cond_true, unhide HQ]
      unfold Tok.v tokX
      have HW3 : Hid (Rd W0 (.slice ao S.length cap) (k + 1) o w3) := hw3
      have HK3 := hide hk3
      have hne : w3.heap.size ≠ W0.heap.size := by have := hw3.lt; omega
      clear hw3 hk3
      go_wp2_with fail
      refine (unhide IH (k + 1) o _ (by omega) (by omega) ho ((unhide HW3).alloc _)).mono ?_
      rintro e w4 ⟨b, n, p4, q4, rfl, hw4, hk4, ⟨hnl, hno, hyes⟩, hf4, hx4⟩
      rw [kr_len] at hnl
      have d0 := hk4.cell (b := w3.heap.size) (by simp) hne 0
      have d1 := hk4.cell (b := w3.heap.size) (by simp) hne 1
      have d2 := hk4.cell (b := w3.heap.size) (by simp) hne 2
      have d3 := hk4.cell (b := w3.heap.size) (by simp) hne 3
      have d4 := hk4.cell (b := w3.heap.size) (by simp) hne 4
      simp at d0 d1 d2 d3 d4
      have HK4 : Hid (Kp W0 w2 w4) := ((unhide HK3).alloc _).trans hk4
      have HW4 := hide hw4
      have hl4 := hw4.lt
      have HNO := hide hno
      have HYES := hide hyes
      have HF4 := hide hf4
      have HX4 := hide hx4
      clear hk4 hw4 hno hyes hf4 hx4
      go_wp2_with fail
      go_ret2
      cases b
      · obtain ⟨st, op, hc, ho⟩ := unhide HNO rfl
        exact Left.no _ ((unhide HW4).alloc _) (((unhide HK2).trans (unhide HK4)).alloc _) hnl ⟨st, op, (unhide HS3).trans hc, ho⟩
      · obtain ⟨rfl, hlt4, st4, hst4, hsc4, hnum4⟩ := unhide HYES rfl
        obtain ⟨x, hx1, hx2⟩ := unhide HX
        obtain ⟨y, hy1, hy2⟩ := unhide HX4 rfl
        obtain ⟨k0, k1⟩ := unhide HKD
        exact Left.yes _ ((unhide HW4).alloc _) (((unhide HK2).trans (unhide HK4)).alloc _) hnl (by omega) st4 hst4 ((unhide HS3).trans hsc4) hnum4 (fun _ => unhide HF4 trivial rfl) _ (unhide HPX x hx1 y n hy1) (isEx_two rfl (by have := (unhide HK2).size; have := (unhide HK4).size; omega) k0 k1 ((hx2.mono (by have := (unhide HK1).size; simp; omega)).keep ((unhide HK4).behind' (by omega))) (hy2.mono (by have := (unhide HK2).size; have := (unhide HK3).size; simp; omega)))

theorem expr_any (W0 : World) (ao : Option Addr) (tb cap : Nat) (S : List Tok) (hT : TokIn W0 ao tb S) (hWf : Wf (kr S)) : ∀ m, ExprC W0 ao cap S m
  | 0 => fun _ _ _ h => absurd h (by omega)
  | m + 1 => fun j o w hm hjl ho hw => by
    have ih := expr_any W0 ao tb cap S hT hWf m
    cases hf : fB (kr S) j 1
    · exact expr_two W0 ao tb cap S hT hWf m ih j o w hm hjl ho hw hf
    · exact expr_one W0 ao tb cap S hT hWf m ih j o w hm ho hw hf
end Go.Proofs.YtjobgpahajhbnaaGreatDoor
