import Derived.Test.YtmleaaagehomjaaDoorWu
namespace Go.Proofs.YtmleaaagehomjaaDoor
open Go.RowKit

theorem below_n {B : Nat} {a w : World} (h : Below B a w) (n : Nat) : Below B a (w.drewN n) := ⟨h.os, h.tape, h.output, h.size, h.block⟩
theorem below2 {w w1 wr : World} (h : Below w.heap.size w w1) (h1 : Below w1.heap.size w1 wr) : Below w.heap.size w wr := h.trans (h1.mono h.size)
theorem below3 {w w1 wr w2 : World} (h : Below w.heap.size w w1) (h1 : Below w1.heap.size w1 wr) (h2 : Below wr.heap.size wr w2) : Below w.heap.size w w2 := below2 (below2 h h1) h2
theorem fin_bad {s : ByteArray} {A : List (Nat × Nat)} {i st op : Nat} (h : i < A.length) : pFin s A (i, st, op) = (3, (A[i].1 : Int)) := by
  unfold pFin plc
  rw [if_neg (by simp; omega)]
  simp only [List.getElem?_eq_getElem h]
theorem fin_open {s : ByteArray} {A : List (Nat × Nat)} {st op : Nat} (h : st = 0 ∨ 0 < op) : pFin s A (A.length, st, op) = (3, (s.size : Int)) := by
  unfold pFin plc
  rw [if_neg (by simp; omega)]
  simp
theorem fin_ok {s : ByteArray} {A : List (Nat × Nat)} {st op : Nat} (h : st ≠ 0) (ho : op = 0) : pFin s A (A.length, st, op) = (0, 0) := by
  unfold pFin
  rw [if_pos ⟨rfl, h, ho⟩]
theorem sc_tok {s : ByteArray} {A : List (Nat × Nat)} {i st op : Nat} (hA : AllV s A) (h : i < A.length) (hst : st ≤ 2) (t : ByteArray) (ht : s.extract A[i].1 A[i].2 = t) :
    (nxB st t op = false → sc (tks s A) i st op = (i, st, op)) ∧
    (nxB st t op = true → ∃ st' : Nat, nxS st t = (st' : Int) ∧ st' ≤ 2 ∧ sc (tks s A) i st op = sc (tks s A) (i + 1) st' (bif t.toList == [40] then op + 1 else bif t.toList == [41] then op - 1 else op) ∧ ((t.toList == [41]) = true → 0 < op)) := by
  have hv : Vt t := ht ▸ hA _ (List.getElem_mem h)
  have hl : i < (tks s A).length := by rw [tks_len]; exact h
  have e : (tks s A)[i] = (kindT t, roleT t) := by rw [tks_at, ht]
  obtain ⟨h1, h2⟩ := next_step t hv st op hst
  refine ⟨fun hb => sc_fail hl (by rw [e]; exact h1 hb), fun hb => ?_⟩
  obtain ⟨st', a, b, c, d⟩ := h2 hb
  exact ⟨st', a, b, sc_step hl (by rw [e]; exact c), d⟩

set_option maxHeartbeats 1000000 in
theorem loop_zero (s : ByteArray) (A : List (Nat × Nat)) (w : World) (hs : s.size ≤ 200) (hA : (lexR s).1 = A) (hx : (lexR s).2 = -1) (h2 : A.length ≤ 1) :
    Calls Tryd.prog 6 #[.string s] w fun e w' => ∃ v0 v3, e = .returned (.tuple #[v0, .int .i64 (pFin s A (sc (tks s A) 0 0 0)).1, .int .i64 (pFin s A (sc (tks s A) 0 0 0)).2, v3]) ∧ Below w.heap.size w w' := by
  have HX := hide hx
  have HAA := hide hA
  clear hx hA
  go_enter Tryd.func6, Tryd.ntmps6
  go_wp2_with fail
  refine (tokens_any s _ hs).mono ?_
  rintro e w1 ⟨v, rfl, hown, hb⟩
  rw [unhide HX]
  obtain ⟨ao, g, cap, rfl, hR⟩ := refIn_of hs hown
  rw [unhide HAA] at hR ⊢
  have HA := hide hR
  have HB := hide hb
  clear hown hR hb
  go_wp2_with fail
  go_loopw [9, 11, 12] (fun vi vs vo wr => ∃ i st op : Nat, vi = .int .i64 i ∧ vs = .int .i64 st ∧ vo = .int .i64 op ∧ i ≤ A.length ∧ st ≤ 2 ∧ op ≤ i ∧ Below w1.heap.size w1 wr ∧ sc (tks s A) 0 0 0 = sc (tks s A) i st op) (fun vi _ _ _ => A.length - (intOf vi).toNat)
  case atStart => exact ⟨0, 0, 0, rfl, rfl, rfl, by omega, by omega, by omega, Below.refl _ _, rfl⟩
  case round =>
    obtain ⟨i, st, op, rfl, rfl, rfl, hil, hst, hop, hbr, hsc⟩ := hrel
    have HBr := hide hbr
    have HS := hide hsc
    clear hbr hsc
    by_cases hlt : i < A.length
    · obtain ⟨rfl, hg⟩ := (unhide HA).addr (by omega)
      have ct := ((unhide HBr).cell (p := ⟨g, i * 2, none⟩) hg).trans ((unhide HA).txt i hlt)
      obtain ⟨t, ht⟩ : ∃ t, s.extract A[i].1 A[i].2 = t := ⟨_, rfl⟩
      have hv : Vt t := ht ▸ (unhide HA).ok _ (List.getElem_mem hlt)
      have hpos := hv.pos
      have htw := hv.few
      obtain ⟨s1, s2⟩ := sc_tok (op := op) (unhide HA).ok hlt hst t ht
      rw [ht] at ct
      clear ht hv
      cases hn : nxB st t op
      · have HE := hide ((unhide HS).trans (s1 hn))
        have HN := hide hn
        clear s1 s2 hn
        go_wp2_with fail
        refine (next_any _ _ _ _ hpos htw).mono ?_
        rintro e w2 ⟨rfl, hb2⟩
        have cp : w2.cell? ⟨g, i * 2 + 1, none⟩ = some (.int .i64 A[i].1) := by
          rw [hb2.cell (p := ⟨g, i * 2 + 1, none⟩) (show g < _ from Nat.lt_of_lt_of_le hg (unhide HBr).size), (unhide HBr).cell (p := ⟨g, i * 2 + 1, none⟩) hg]
          exact (unhide HA).plc i hlt
        rw [unhide HN]
        have HB2 := hide hb2
        clear hb2
        have hii : (i : Int) < (A.length : Int) := by omega
        go_wp2_with fail
        go_quiet (fail)
        go_wp2_with fail
        refine bodyPost_ret (v := .tuple #[.slice (some ⟨g, 0, none⟩) A.length cap, .int .i64 3, .int .i64 A[i].1, .string ⟨#[]⟩]) (by simp [results, Tryd.results6, go_sem]) rfl ⟨.slice (some ⟨g, 0, none⟩) A.length cap, .string ⟨#[]⟩, ?_, ?_⟩
        · rw [unhide HE, fin_bad hlt]
        · exact below_n (below3 (unhide HB) (unhide HBr) (unhide HB2)) _
      · obtain ⟨st', hs', hst', hsc', h41⟩ := s2 hn
        have HE := hide ((unhide HS).trans hsc')
        have HN := hide hn
        have HS' := hide hs'
        clear s1 s2 hn hs' hsc'
        cases e40 : (t.toList == [40])
        · cases e41 : (t.toList == [41])
          · rw [e40, e41] at HE
            have HE : Hid (sc (tks s A) 0 0 0 = sc (tks s A) (i + 1) st' op) := HE
            clear h41
            go_wp2_with fail
            refine (next_any _ _ _ _ hpos htw).mono ?_
            rintro e w2 ⟨rfl, hb2⟩
            rw [unhide HN, unhide HS']
            have HB2 := hide hb2
            clear hb2
            go_wp2_with fail
            go_roundw
            case rel => exact ⟨i + 1, st', op, by go_num, rfl, rfl, by omega, hst', by omega, below2 (unhide HBr) (unhide HB2), unhide HE⟩
            case measure => simp [intOf]; omega
          · rw [e40, e41] at HE
            have HE : Hid (sc (tks s A) 0 0 0 = sc (tks s A) (i + 1) st' (op - 1)) := HE
            have HO1 := hide (h41 e41)
            clear h41
            go_wp2_with fail
            refine (next_any _ _ _ _ hpos htw).mono ?_
            rintro e w2 ⟨rfl, hb2⟩
            rw [unhide HN, unhide HS']
            have HB2 := hide hb2
            clear hb2
            go_wp2_with fail
            go_roundw
            case rel => exact ⟨i + 1, st', op - 1, by go_num, rfl, by have := unhide HO1; go_num, by omega, hst', by omega, below2 (unhide HBr) (unhide HB2), unhide HE⟩
            case measure => simp [intOf]; omega
        · rw [e40] at HE
          have HE : Hid (sc (tks s A) 0 0 0 = sc (tks s A) (i + 1) st' (op + 1)) := HE
          have e41 : (t.toList == [41]) = false := by rw [beq_iff_eq.1 e40]; rfl
          clear h41
          go_wp2_with fail
          refine (next_any _ _ _ _ hpos htw).mono ?_
          rintro e w2 ⟨rfl, hb2⟩
          rw [unhide HN, unhide HS']
          have HB2 := hide hb2
          clear hb2
          go_wp2_with fail
          go_roundw
          case rel => exact ⟨i + 1, st', op + 1, by go_num, rfl, by go_num, by omega, hst', by omega, below2 (unhide HBr) (unhide HB2), unhide HE⟩
          case measure => simp [intOf]; omega
    · have hin : i = A.length := by omega
      have HE := hide ((unhide HS).trans (sc_end (by rw [tks_len]; omega)))
      rw [hin] at HE
      have HI := hide hin
      clear hin
      cases hs0 : ((st : Int) == 0)
      · by_cases ho : op = 0
        · subst ho
          have hfin := hide (fin_ok (s := s) (A := A) (st := st) (op := 0) (by have := beq_eq_false_iff_ne.1 hs0; omega) rfl)
          go_wp2_with fail
          refine bodyPost_ret (v := .tuple #[.slice ao A.length cap, .int .i64 0, .int .i64 0, .string ⟨#[]⟩]) (by simp [results, Tryd.results6, go_sem]) rfl ⟨.slice ao A.length cap, .string ⟨#[]⟩, ?_, ?_⟩
          · rw [unhide HE, unhide hfin]
          · exact below2 (unhide HB) (unhide HBr)
        · have hop : (0 : Int) < (op : Int) := by omega
          have hfin := hide (fin_open (s := s) (A := A) (st := st) (op := op) (Or.inr (by omega)))
          go_wp2_with fail
          refine bodyPost_ret (v := .tuple #[.slice ao A.length cap, .int .i64 3, .int .i64 s.size, .string ⟨#[]⟩]) (by simp [results, Tryd.results6, go_sem]) rfl ⟨.slice ao A.length cap, .string ⟨#[]⟩, ?_, ?_⟩
          · rw [unhide HE, unhide hfin]
          · exact below2 (unhide HB) (unhide HBr)
      · have hfin := hide (fin_open (s := s) (A := A) (st := st) (op := op) (Or.inl (by have := beq_iff_eq.1 hs0; omega)))
        go_wp2_with fail
        refine bodyPost_ret (v := .tuple #[.slice ao A.length cap, .int .i64 3, .int .i64 s.size, .string ⟨#[]⟩]) (by simp [results, Tryd.results6, go_sem]) rfl ⟨.slice ao A.length cap, .string ⟨#[]⟩, ?_, ?_⟩
        · rw [unhide HE, unhide hfin]
        · exact below2 (unhide HB) (unhide HBr)
end Go.Proofs.YtmleaaagehomjaaDoor
