import Derived.Test.YtccbhcbbianpoaaDoorWz
import Derived.Test.YtccbhcbbianpoaaDoorWn
namespace Go.Proofs.YtccbhcbbianpoaaDoor
open Go.RowKit

theorem scan_le : ∀ (l : List (Int × Int)) (j st op : Nat), (scan l j st op).1 ≤ j + l.length
  | [], j, st, op => by simp [scan]
  | q :: r, j, st, op => by
    unfold scan
    split
    · simp
    · have := scan_le r (j + 1)
      rename_i x _
      have := this x.1 x.2
      simp only [List.length_cons]
      omega
theorem sc_le {T : List (Int × Int)} {j st op : Nat} (h : j ≤ T.length) : (sc T j st op).1 ≤ T.length := by
  have := scan_le (T.drop j) j st op
  rw [List.length_drop] at this
  unfold sc
  omega
theorem beg_le (T : List (Int × Int)) : beg T ≤ T.length := by
  by_cases h : T.length ≤ 1
  · rw [beg_short h]; omega
  · unfold beg
    cases (kB T 0 1 && kB T 1 2)
    · rw [cond_false]; omega
    · rw [cond_true]; omega
theorem wf_tks (s : ByteArray) (A : List (Nat × Nat)) : Wf (tks s A) := by
  intro q hq
  simp only [tks, List.mem_map] at hq
  obtain ⟨x, _, rfl⟩ := hq
  generalize s.extract x.1 x.2 = t
  show kindT t = 0 ∨ kindT t = 1 ∨ kindT t = 4 ∨ kindT t = 5 → roleT t = 0
  unfold kindT roleT
  cases (hd t == 40)
  · cases (hd t == 41)
    · cases (hd t == 95 || digB (hd t))
      · cases letB (hd t)
        · simp
        · simp only [cond_true, cond_false]
          unfold wKind
          cases h : (wRole t != 0)
          · intro _; simpa using h
          · simp
      · simp
    · simp
  · simp
theorem ok_fin {s : ByteArray} {A : List (Nat × Nat)} (h : okT (tks s A) = true) : pFin s A (sc (tks s A) (beg (tks s A)) 0 0) = (0, 0) := by
  simp only [okT, topB, Bool.and_eq_true, decide_eq_true_iff, beq_iff_eq] at h
  unfold pFin
  rw [if_pos]
  rw [tks_len] at h
  exact ⟨by omega, h.1.1, h.1.2⟩
theorem no_fin {s : ByteArray} {A : List (Nat × Nat)} (h : okT (tks s A) = false) : pFin s A (sc (tks s A) (beg (tks s A)) 0 0) = (3, plc s A (sc (tks s A) (beg (tks s A)) 0 0).1) := by
  unfold pFin
  rw [if_neg]
  intro hc
  have : okT (tks s A) = true := by
    simp only [okT, topB, Bool.and_eq_true, decide_eq_true_iff, beq_iff_eq]
    rw [tks_len]
    exact ⟨⟨hc.2.1, hc.2.2⟩, by omega⟩
  rw [this] at h
  cases h
/-- the code's tokens lie in a world -/
structure CodIn (w : World) (ao : Option Addr) (g cap : Nat) (s : ByteArray) (A : List (Nat × Nat)) : Prop where
  tok : TokIn w ao g (tks s A)
  few : A.length ≤ 200
  plc : ∀ i, (h : i < A.length) → w.cell? ⟨g, i * 4 + 3, none⟩ = some (.int .i64 A[i].1)
theorem codIn_gen {w : World} {B : Nat} {v : Value} {s : ByteArray} {A : List (Nat × Nat)} (hfew : A.length ≤ 200) (h : w.ownsRow B 42 4 v A.length (cellsC s A)) :
    ∃ ao g cap, v = .slice ao A.length cap ∧ CodIn w ao g cap s A := by
  obtain ⟨ao, cap, g, hv, _, ha, hcell⟩ := owns_view h
  refine ⟨ao, g, cap, hv, ⟨⟨by rw [tks_len]; exact hfew, by rw [tks_len]; exact ha, ?_, ?_⟩, hfew, ?_⟩⟩
  · intro i hi
    have hi' : i < A.length := by rw [tks_len] at hi; exact hi
    rw [hcell (i * 4) (by omega), tks_at]
    exact (flat4 (fun q : Nat × Nat => Value.int .i64 (kindT (s.extract q.1 q.2))) (fun q => Value.int .i64 (roleT (s.extract q.1 q.2))) (fun q => Value.string (s.extract q.1 q.2)) (fun q => Value.int .i64 q.1) A i hi').1
  · intro i hi
    have hi' : i < A.length := by rw [tks_len] at hi; exact hi
    rw [hcell (i * 4 + 1) (by omega), tks_at]
    exact (flat4 (fun q : Nat × Nat => Value.int .i64 (kindT (s.extract q.1 q.2))) (fun q => Value.int .i64 (roleT (s.extract q.1 q.2))) (fun q => Value.string (s.extract q.1 q.2)) (fun q => Value.int .i64 q.1) A i hi').2.1
  · intro i hi
    rw [hcell (i * 4 + 3) (by omega)]
    exact (flat4 (fun q : Nat × Nat => Value.int .i64 (kindT (s.extract q.1 q.2))) (fun q => Value.int .i64 (roleT (s.extract q.1 q.2))) (fun q => Value.string (s.extract q.1 q.2)) (fun q => Value.int .i64 q.1) A i hi).2.2
theorem codIn_of {w : World} {B : Nat} {v : Value} {s : ByteArray} (hs : s.size ≤ 200) (h : w.ownsRow B 42 4 v (lexR s).1.length (cellsC s (lexR s).1)) :
    ∃ ao g cap, v = .slice ao (lexR s).1.length cap ∧ CodIn w ao g cap s (lexR s).1 :=
  codIn_gen (by have := lex_few s s.size 0 [] (by simp) (by omega); unfold lexR; omega) h

set_option maxHeartbeats 400000 in
theorem p5_long (s : ByteArray) (w : World) (h : 200 < s.size) (hm : s.size ≤ 9223372036854775807) :
    Calls Tryd.prog 5 #[.string s] w fun e w' => e = .returned (.tuple #[.int .i64 1, .int .i64 0]) ∧ Below w.heap.size w w' := by
  go_enter Tryd.func5, Tryd.ntmps5
  go_wp2_with fail
  go_ret2
  exact ⟨rfl, Below.refl _ _⟩

set_option maxHeartbeats 400000 in
theorem p5_bad (s : ByteArray) (w : World) (hs : s.size ≤ 200) (hv : Evs w) (hx : ¬ (lexR s).2 = -1) :
    Calls Tryd.prog 5 #[.string s] w fun e w' => e = .returned (.tuple #[.int .i64 2, .int .i64 (lexR s).2]) ∧ Below w.heap.size w w' := by
  have e1 : ((lexR s).2 == -1) = false := beq_eq_false_iff_ne.2 hx
  have HV := hide hv
  have HE := hide e1
  clear hv e1 hx
  go_enter Tryd.func5, Tryd.ntmps5
  go_wp2_with fail
  refine (split_any s _ hs (unhide HV)).mono ?_
  rintro e w1 ⟨v, rfl, _, hb⟩
  rw [unhide HE, cond_false]
  go_wp2_with fail
  go_ret2
  exact ⟨rfl, hb⟩

set_option maxHeartbeats 1000000 in
theorem p5_ok (s : ByteArray) (A : List (Nat × Nat)) (w : World) (hs : s.size ≤ 200) (hv : Evs w) (hA : (lexR s).1 = A) (hx : (lexR s).2 = -1) :
    Calls Tryd.prog 5 #[.string s] w fun e w' => e = .returned (.tuple #[.int .i64 (pFin s A (sc (tks s A) (beg (tks s A)) 0 0)).1, .int .i64 (pFin s A (sc (tks s A) (beg (tks s A)) 0 0)).2]) ∧ Below w.heap.size w w' := by
  have e1 : ((lexR s).2 == -1) = true := beq_iff_eq.2 hx
  have HV := hide hv
  have HE := hide e1
  have HAA := hide hA
  clear hv e1 hx hA
  have hkl : (sc (tks s A) (beg (tks s A)) 0 0).1 ≤ A.length := by
    have := sc_le (st := 0) (op := 0) (beg_le (tks s A))
    rwa [tks_len] at this
  cases ho : okT (tks s A)
  · obtain ⟨k, hk⟩ : ∃ k, (sc (tks s A) (beg (tks s A)) 0 0).1 = k := ⟨_, rfl⟩
    have hfin := no_fin ho
    rw [hk] at hfin hkl
    have HK := hide hk
    have HO := hide ho
    have HF := hide hfin
    clear hk ho hfin
    by_cases hkn : k = A.length
    · have hpl : plc s A k = (s.size : Int) := by unfold plc; rw [List.getElem?_eq_none (by omega)]
      have HP := hide hpl
      have hbk : ((k : Int) == (A.length : Int)) = true := by rw [beq_iff_eq]; omega
      clear hpl hkn
      go_enter Tryd.func5, Tryd.ntmps5
      go_wp2_with fail
      refine (split_any s _ hs (unhide HV)).mono ?_
      rintro e w1 ⟨v, rfl, hown, hb⟩
      rw [unhide HE, cond_true]
      obtain ⟨ao, g, cap, rfl, hR⟩ := codIn_of hs hown
      rw [unhide HAA] at hR ⊢
      have HR := hide hR
      have HB := hide hb
      clear hown hR hb
      go_wp2_with fail
      have hcall := check_any w1 ao g cap (tks s A) (unhide HR).tok (wf_tks s A)
      rw [unhide HO, cond_false, unhide HK, tks_len] at hcall
      refine hcall.mono ?_
      rintro e w2 ⟨rfl, hb2⟩
      have HB2 := hide hb2
      clear hb2 hcall
      go_wp2_with fail
      go_ret2
      exact ⟨by rw [unhide HF, unhide HP]; rfl, below2 (unhide HB) (unhide HB2)⟩
    · have hlt : k < A.length := by omega
      have hpl : plc s A k = (A[k].1 : Int) := by unfold plc; rw [List.getElem?_eq_getElem hlt]
      have HP := hide hpl
      have hbk : ((k : Int) == (A.length : Int)) = false := by rw [beq_eq_false_iff_ne]; omega
      clear hpl
      go_enter Tryd.func5, Tryd.ntmps5
      go_wp2_with fail
      refine (split_any s _ hs (unhide HV)).mono ?_
      rintro e w1 ⟨v, rfl, hown, hb⟩
      rw [unhide HE, cond_true]
      obtain ⟨ao, g, cap, rfl, hR⟩ := codIn_of hs hown
      rw [unhide HAA] at hR ⊢
      have HR := hide hR
      have HB := hide hb
      clear hown hR hb
      go_wp2_with fail
      have hcall := check_any w1 ao g cap (tks s A) (unhide HR).tok (wf_tks s A)
      rw [unhide HO, cond_false, unhide HK, tks_len] at hcall
      refine hcall.mono ?_
      rintro e w2 ⟨rfl, hb2⟩
      have haddr := (unhide HR).tok.addr (by rw [tks_len]; omega)
      obtain ⟨rfl, hg⟩ := haddr
      have hfew := (unhide HR).few
      have cp : w2.cell? ⟨g, k * 4 + 3, none⟩ = some (.int .i64 A[k].1) := (hb2.cell (p := ⟨g, k * 4 + 3, none⟩) hg).trans ((unhide HR).plc k hlt)
      have HB2 := hide hb2
      have hki : (k : Int) < (A.length : Int) := by omega
      clear hb2 hcall
      go_wp2_with fail
      go_quiet (fail)
      go_wp2_with fail
      go_ret2
      exact ⟨by rw [unhide HF, unhide HP]; rfl, below_n (below2 (unhide HB) (unhide HB2)) _⟩
  · have HF := hide (ok_fin ho)
    have HO := hide ho
    clear ho
    go_enter Tryd.func5, Tryd.ntmps5
    go_wp2_with fail
    refine (split_any s _ hs (unhide HV)).mono ?_
    rintro e w1 ⟨v, rfl, hown, hb⟩
    rw [unhide HE, cond_true]
    obtain ⟨ao, g, cap, rfl, hR⟩ := codIn_of hs hown
    rw [unhide HAA] at hR ⊢
    have HR := hide hR
    have HB := hide hb
    clear hown hR hb
    go_wp2_with fail
    have hcall := check_any w1 ao g cap (tks s A) (unhide HR).tok (wf_tks s A)
    rw [unhide HO, cond_true, tks_len] at hcall
    refine hcall.mono ?_
    rintro e w2 ⟨rfl, hb2⟩
    have HB2 := hide hb2
    clear hb2 hcall
    go_wp2_with fail
    go_ret2
    exact ⟨by rw [unhide HF]; rfl, below2 (unhide HB) (unhide HB2)⟩
theorem p5_any (s : ByteArray) (w : World) (hv : Evs w) (hm : s.size ≤ 9223372036854775807) :
    Calls Tryd.prog 5 #[.string s] w fun e w' => e = .returned (.tuple #[.int .i64 (parseP s).1, .int .i64 (parseP s).2]) ∧ Below w.heap.size w w' := by
  unfold parseP
  by_cases hs : 200 < s.size
  · rw [if_pos hs]
    exact p5_long s w hs hm
  · rw [if_neg hs]
    by_cases hx : (lexR s).2 = -1
    · rw [if_pos hx]
      exact p5_ok s _ w (by omega) hv rfl hx
    · rw [if_neg hx]
      exact p5_bad s w (by omega) hv hx

set_option maxHeartbeats 400000 in
theorem p4_any (s : ByteArray) (w : World) (hv : Evs w) (hm : s.size ≤ 9223372036854775807) :
    Calls Tryd.prog 4 #[.string s] w fun e w' => e = .returned (.bool true) ∧ Below w.heap.size w w' := by
  have HV := hide hv
  have H5 := hide (p5_any s w hv hm)
  have H6 := hide (fun W => read_any s W hm)
  obtain ⟨a, ha⟩ : ∃ a, (parseP s).1 = a := ⟨_, rfl⟩
  obtain ⟨b, hb⟩ : ∃ b, (parseP s).2 = b := ⟨_, rfl⟩
  rw [ha, hb] at H5
  simp only [ha, hb] at H6
  clear hv ha hb hm
  have eqa : (a == a) = true := by simp
  have eqb : (b == b) = true := by simp
  go_enter Tryd.func4, Tryd.ntmps4
  go_wp2_with fail
  refine (unhide H5).mono ?_
  rintro e w1 ⟨rfl, hb1⟩
  go_wp2_with fail
  refine (unhide H6 _).mono ?_
  rintro e w2 ⟨v0, v3, rfl, hb2⟩
  go_wp2_with fail
  go_ret
  exact ⟨rfl, below2 hb1 hb2⟩
end Go.Proofs.YtccbhcbbianpoaaDoor
