import Derived.Test.YtmleaaagehomjaaDoorWv
namespace Go.Proofs.YtmleaaagehomjaaDoor
open Go.RowKit

set_option maxHeartbeats 1000000 in
theorem loop_b (s : ByteArray) (A : List (Nat × Nat)) (w : World) (hs : s.size ≤ 200) (hA : (lexR s).1 = A) (hx : (lexR s).2 = -1) (h2 : 1 < A.length) (t0 t1 : ByteArray) (ht0 : s.extract (A[0]).1 (A[0]).2 = t0) (ht1 : s.extract (A[1]).1 (A[1]).2 = t1) (e1 : (t1.toList == [105, 115]) = false) :
    Calls Tryd.prog 6 #[.string s] w fun e w' => ∃ v0 v3, e = .returned (.tuple #[v0, .int .i64 (pFin s A (sc (tks s A) 0 0 0)).1, .int .i64 (pFin s A (sc (tks s A) 0 0 0)).2, v3]) ∧ Below w.heap.size w w' := by
  have HX := hide hx
  have HAA := hide hA
  clear hx hA
  have HT0 := hide ht0
  have HT1 := hide ht1
  clear ht0 ht1
  go_enter Tryd.func6, Tryd.ntmps6
  go_wp2_with fail
  refine (tokens_any s _ hs).mono ?_
  rintro e w1 ⟨v, rfl, hown, hb⟩
  rw [unhide HX]
  obtain ⟨ao, g, cap, rfl, hR⟩ := refIn_of hs hown
  rw [unhide HAA] at hR ⊢
  have HA := hide hR
  have HB := hide hb
  clear hown hR hb
  obtain ⟨rfl, hg⟩ := (unhide HA).addr (by omega)
  have hcp := (unhide HA).cp
  have hfw := (unhide HA).few
  have x0 := (unhide HA).txt 0 (by omega)
  have x1 := (unhide HA).txt 1 h2
  rw [unhide HT0] at x0
  rw [unhide HT1] at x1
  have x0 : w1.cell? ⟨g, 0, none⟩ = some (.string t0) := x0
  have x1 : w1.cell? ⟨g, 2, none⟩ = some (.string t1) := x1
  go_wp2_with fail
  go_loopw [9, 11, 12] (fun vi vs vo wr => ∃ i st op : Nat, vi = .int .i64 i ∧ vs = .int .i64 st ∧ vo = .int .i64 op ∧ i ≤ A.length ∧ st ≤ 2 ∧ op ≤ i ∧ Below w1.heap.size w1 wr ∧ sc (tks s A) 0 0 0 = sc (tks s A) i st op) (fun vi _ _ _ => A.length - (intOf vi).toNat)
  case atStart => exact ⟨0, 0, 0, rfl, rfl, rfl, by omega, by omega, by omega, Below.refl _ _, rfl⟩
  case round =>
    obtain ⟨i, st, op, rfl, rfl, rfl, hil, hst, hop, hbr, hsc⟩ := hrel
    have HBr := hide hbr
    have HS := hide hsc
    clear hbr hsc
    by_cases hlt : i < A.length
    · have ct := ((unhide HBr).cell (p := ⟨g, i * 2, none⟩) hg).trans ((unhide HA).txt i hlt)
      obtain ⟨t, ht⟩ : ∃ t, s.extract A[i].1 A[i].2 = t := ⟨_, rfl⟩
      have hv : Vt t := ht ▸ (unhide HA).ok _ (List.getElem_mem hlt)
      have hpos := hv.pos
      have htw := hv.few
      obtain ⟨s1, s2⟩ := sc_tok (op := op) (unhide HA).ok hlt hst t ht
      rw [ht] at ct
      clear ht hv
      cases hn : nxB st t op
      · have HE := hide ((unhide HS).trans (s1 hn))
        have HN := hide hn
        clear s1 s2 hn
        go_wp2_with fail
        refine (next_any _ _ _ _ hpos htw).mono ?_
        rintro e w2 ⟨rfl, hb2⟩
        have cp : w2.cell? ⟨g, i * 2 + 1, none⟩ = some (.int .i64 A[i].1) := by
          rw [hb2.cell (p := ⟨g, i * 2 + 1, none⟩) (show g < _ from Nat.lt_of_lt_of_le hg (unhide HBr).size), (unhide HBr).cell (p := ⟨g, i * 2 + 1, none⟩) hg]
          exact (unhide HA).plc i hlt
        rw [unhide HN]
        have HB2 := hide hb2
        clear hb2
        have hii : (i : Int) < (A.length : Int) := by omega
        go_wp2_with fail
        go_quiet (fail)
        go_wp2_with fail
        refine bodyPost_ret (v := .tuple #[.slice (some ⟨g, 0, none⟩) A.length cap, .int .i64 3, .int .i64 A[i].1, .string ⟨#[]⟩]) (by simp [results, Tryd.results6, go_sem]) rfl ⟨.slice (some ⟨g, 0, none⟩) A.length cap, .string ⟨#[]⟩, ?_, ?_⟩
        · rw [unhide HE, fin_bad hlt]
        · exact below_n (below3 (unhide HB) (unhide HBr) (unhide HB2)) _
      · obtain ⟨st', hs', hst', hsc', h41⟩ := s2 hn
        have HE := hide ((unhide HS).trans hsc')
        have HN := hide hn
        have HS' := hide hs'
        clear s1 s2 hn hs' hsc'
        cases e40 : (t.toList == [40])
        · cases e41 : (t.toList == [41])
          · rw [e40, e41] at HE
            have HE : Hid (sc (tks s A) 0 0 0 = sc (tks s A) (i + 1) st' op) := HE
            clear h41
            go_wp2_with fail
            refine (next_any _ _ _ _ hpos htw).mono ?_
            rintro e w2 ⟨rfl, hb2⟩
            rw [unhide HN, unhide HS']
            have HB2 := hide hb2
            clear hb2
            go_wp2_with fail
            go_roundw
            case rel => exact ⟨i + 1, st', op, by go_num, rfl, rfl, by omega, hst', by omega, below2 (unhide HBr) (unhide HB2), unhide HE⟩
            case measure => simp [intOf]; omega
          · rw [e40, e41] at HE
            have HE : Hid (sc (tks s A) 0 0 0 = sc (tks s A) (i + 1) st' (op - 1)) := HE
            have HO1 := hide (h41 e41)
            clear h41
            go_wp2_with fail
            refine (next_any _ _ _ _ hpos htw).mono ?_
            rintro e w2 ⟨rfl, hb2⟩
            rw [unhide HN, unhide HS']
            have HB2 := hide hb2
            clear hb2
            go_wp2_with fail
            go_roundw
            case rel => exact ⟨i + 1, st', op - 1, by go_num, rfl, by have := unhide HO1; go_num, by omega, hst', by omega, below2 (unhide HBr) (unhide HB2), unhide HE⟩
            case measure => simp [intOf]; omega
        · rw [e40] at HE
          have HE : Hid (sc (tks s A) 0 0 0 = sc (tks s A) (i + 1) st' (op + 1)) := HE
          have e41 : (t.toList == [41]) = false := by rw [beq_iff_eq.1 e40]; rfl
          clear h41
          go_wp2_with fail
          refine (next_any _ _ _ _ hpos htw).mono ?_
          rintro e w2 ⟨rfl, hb2⟩
          rw [unhide HN, unhide HS']
          have HB2 := hide hb2
          clear hb2
          go_wp2_with fail
          go_roundw
          case rel => exact ⟨i + 1, st', op + 1, by go_num, rfl, by go_num, by omega, hst', by omega, below2 (unhide HBr) (unhide HB2), unhide HE⟩
          case measure => simp [intOf]; omega
    · have hin : i = A.length := by omega
      have HE := hide ((unhide HS).trans (sc_end (by rw [tks_len]; omega)))
      rw [hin] at HE
      have HI := hide hin
      clear hin
      cases hs0 : ((st : Int) == 0)
      · by_cases ho : op = 0
        · subst ho
          have hfin := hide (fin_ok (s := s) (A := A) (st := st) (op := 0) (by have := beq_eq_false_iff_ne.1 hs0; omega) rfl)
          go_wp2_with fail
          refine bodyPost_ret (v := .tuple #[.slice (some ⟨g, 0, none⟩) A.length cap, .int .i64 0, .int .i64 0, .string ⟨#[]⟩]) (by simp [results, Tryd.results6, go_sem]) rfl ⟨.slice (some ⟨g, 0, none⟩) A.length cap, .string ⟨#[]⟩, ?_, ?_⟩
          · rw [unhide HE, unhide hfin]
          · exact below2 (unhide HB) (unhide HBr)
        · have hop : (0 : Int) < (op : Int) := by omega
          have hfin := hide (fin_open (s := s) (A := A) (st := st) (op := op) (Or.inr (by omega)))
          go_wp2_with fail
          refine bodyPost_ret (v := .tuple #[.slice (some ⟨g, 0, none⟩) A.length cap, .int .i64 3, .int .i64 s.size, .string ⟨#[]⟩]) (by simp [results, Tryd.results6, go_sem]) rfl ⟨.slice (some ⟨g, 0, none⟩) A.length cap, .string ⟨#[]⟩, ?_, ?_⟩
          · rw [unhide HE, unhide hfin]
          · exact below2 (unhide HB) (unhide HBr)
      · have hfin := hide (fin_open (s := s) (A := A) (st := st) (op := op) (Or.inl (by have := beq_iff_eq.1 hs0; omega)))
        go_wp2_with fail
        refine bodyPost_ret (v := .tuple #[.slice (some ⟨g, 0, none⟩) A.length cap, .int .i64 3, .int .i64 s.size, .string ⟨#[]⟩]) (by simp [results, Tryd.results6, go_sem]) rfl ⟨.slice (some ⟨g, 0, none⟩) A.length cap, .string ⟨#[]⟩, ?_, ?_⟩
        · rw [unhide HE, unhide hfin]
        · exact below2 (unhide HB) (unhide HBr)
end Go.Proofs.YtmleaaagehomjaaDoor
