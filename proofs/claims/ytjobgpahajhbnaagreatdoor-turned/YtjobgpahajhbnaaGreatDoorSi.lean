import Derived.Test.YtjobgpahajhbnaaGreatDoorPt
import Derived.Test.YtjobgpahajhbnaaGreatDoorWn
namespace Go.Proofs.YtjobgpahajhbnaaGreatDoor
open Go.RowKit

theorem beg_short {T : List (Int × Int)} (h : T.length ≤ 1) : beg T = 0 := by
  have : kB T 1 2 = false := by unfold kB; rw [List.getElem?_eq_none (by omega)]
  unfold beg
  rw [this, Bool.and_false]
  rfl
theorem scan_le : ∀ (l : List (Int × Int)) (j st op : Nat), (scan l j st op).1 ≤ j + l.length
  | [], j, st, op => by simp [scan]
  | q :: r, j, st, op => by
    unfold scan
    split
    · simp
    · have := scan_le r (j + 1)
      rename_i x _
      have := this x.1 x.2
      simp only [List.length_cons]
      omega
theorem sc_le {T : List (Int × Int)} {j st op : Nat} (h : j ≤ T.length) : (sc T j st op).1 ≤ T.length := by
  have := scan_le (T.drop j) j st op
  rw [List.length_drop] at this
  unfold sc
  omega
theorem beg_le (T : List (Int × Int)) : beg T ≤ T.length := by
  by_cases h : T.length ≤ 1
  · rw [beg_short h]; omega
  · unfold beg
    cases (kB T 0 1 && kB T 1 2)
    · rw [cond_false]; omega
    · rw [cond_true]; omega
theorem wf_tks (s : ByteArray) (A : List (Nat × Nat)) : Wf (tks s A) := by
  intro q hq
  simp only [tks, List.mem_map] at hq
  obtain ⟨x, _, rfl⟩ := hq
  generalize s.extract x.1 x.2 = t
  show kindT t = 0 ∨ kindT t = 1 ∨ kindT t = 4 ∨ kindT t = 5 → roleT t = 0
  unfold kindT roleT
  cases (hd t == 40)
  · cases (hd t == 41)
    · cases (hd t == 95 || digB (hd t))
      · cases letB (hd t)
        · simp
        · simp only [cond_true, cond_false]
          unfold wKind
          cases h : (wRole t != 0)
          · intro _; simpa using h
          · simp
      · simp
    · simp
  · simp
theorem ok_fin {s : ByteArray} {A : List (Nat × Nat)} (h : okT (tks s A) = true) : pFin s A (sc (tks s A) (beg (tks s A)) 0 0) = (0, 0) := by
  simp only [okT, topB, Bool.and_eq_true, decide_eq_true_iff] at h
  unfold pFin
  have hk := sc_le (st := 0) (op := 0) (beg_le (tks s A))
  rw [tks_len] at h hk
  rw [if_pos]
  exact ⟨by omega, h.1.1, h.1.2⟩
theorem no_fin {s : ByteArray} {A : List (Nat × Nat)} (h : okT (tks s A) = false) : pFin s A (sc (tks s A) (beg (tks s A)) 0 0) = (3, plc s A (endT (tks s A))) := by
  unfold pFin
  rw [if_neg]
  · rfl
  intro hc
  have : okT (tks s A) = true := by
    simp only [okT, topB, Bool.and_eq_true, decide_eq_true_iff]
    rw [tks_len]
    exact ⟨⟨hc.2.1, hc.2.2⟩, by omega⟩
  rw [this] at h
  cases h
theorem tokIn_of {w : World} {B : Nat} {v : Value} {s : ByteArray} {A : List (Nat × Nat)} (hfew : A.length ≤ 200) (h : w.ownsRow B 155 5 v A.length (cellsC s A)) :
    ∃ ao g cap, v = .slice ao A.length cap ∧ TokIn w ao g (toks s A) := by
  obtain ⟨ao, cap, g, hv, _, ha, hcell⟩ := owns_view h
  refine ⟨ao, g, cap, hv, by rw [toks_len]; exact hfew, by rw [toks_len]; exact ha, ?_⟩
  intro i hi
  have hi' : i < A.length := by rw [toks_len] at hi; exact hi
  have hf := flat5 (fun q : Nat × Nat => Value.int .i64 (kindT (s.extract q.1 q.2))) (fun q => Value.int .i64 (roleT (s.extract q.1 q.2))) (fun q => Value.int .i64 (worthT (s.extract q.1 q.2))) (fun q => Value.string (s.extract q.1 q.2)) (fun q => Value.int .i64 q.1) A i hi'
  rw [hcell (i * 5) (by omega), hcell (i * 5 + 1) (by omega), hcell (i * 5 + 2) (by omega), hcell (i * 5 + 3) (by omega), hcell (i * 5 + 4) (by omega)]
  simp only [toks, List.getElem_map]
  exact hf
theorem lexR_few {s : ByteArray} (hs : s.size ≤ 200) : (lexR s).1.length ≤ 200 := by have := lex_few s s.size 0 [] (by simp) (by omega); unfold lexR; omega
theorem below2' {a b c : World} (h : Below a.heap.size a b) (h' : Below b.heap.size b c) : Below a.heap.size a c := h.trans (h'.mono h.size)
/-- what the tree of a text is -/
def TreeOf (s : ByteArray) (x : Ex) : Prop := PX (toks s (lexR s).1) false (beg (tks s (lexR s).1)) 0 x (lexR s).1.length
/-- the name that a text is for -/
def nameP (s : ByteArray) : ByteArray := if (parseP s).1 = 0 then nameS (toks s (lexR s).1) else ⟨#[]⟩
/-- what a call of read leaves -/
def GReadL (s : ByteArray) (w : World) (e : Ending) (w' : World) : Prop :=
  ∃ q, e = .returned (.tuple #[.agg #[.string (nameP s), .pointer q], .int .i64 (parseP s).1, .int .i64 (parseP s).2]) ∧ Below w.heap.size w w' ∧ ((parseP s).1 = 0 → ∃ x, TreeOf s x ∧ IsEx w.heap.size w' q x)

set_option maxHeartbeats 400000 in
theorem gread_long (s : ByteArray) (w : World) (h : 200 < s.size) (hm : s.size ≤ 9223372036854775807) : Calls Tryz.prog 59 #[.string s] w (GReadL s w) := by
  have hp : parseP s = (1, 0) := by unfold parseP; rw [if_pos h]
  have hn : nameP s = ⟨#[]⟩ := by unfold nameP; rw [hp]; rfl
  have HP := hide hp
  have HN := hide hn
  clear hp hn
  go_enter Tryz.func59, Tryz.ntmps59
  go_wp2_with fail
  refine bodyPost_ret (v := .tuple #[.agg #[.string ⟨#[]⟩, .pointer none], .int .i64 1, .int .i64 0]) (by simp [results, Tryz.results59, go_sem]) rfl ⟨none, ?_, (Below.refl _ _).alloc (Nat.le_refl _) _, ?_⟩
  · rw [unhide HP, unhide HN]
  · rw [unhide HP]; intro h; cases h

set_option maxHeartbeats 400000 in
theorem gread_bad (s : ByteArray) (w : World) (hs : s.size ≤ 200) (hv : Evs w) (hx : ¬ (lexR s).2 = -1) : Calls Tryz.prog 59 #[.string s] w (GReadL s w) := by
  have hp : parseP s = (2, (lexR s).2) := by unfold parseP; rw [if_neg (by omega), if_neg hx]
  have hn : nameP s = ⟨#[]⟩ := by unfold nameP; rw [hp]; rfl
  have HP := hide hp
  have HN := hide hn
  have e1 : ((lexR s).2 == -1) = false := beq_eq_false_iff_ne.2 hx
  have HV := hide hv
  have HE := hide e1
  clear hp hn hv e1 hx
  go_enter Tryz.func59, Tryz.ntmps59
  go_wp2_with fail
  refine (split_any s _ hs ((unhide HV).alloc _)).mono ?_
  rintro e w1 ⟨v, rfl, _, hb⟩
  rw [unhide HE, cond_false]
  obtain ⟨hc, hf⟩ := bcell hb
  have d0 := hc w.heap.size 0 (by simp)
  have d1 := hc w.heap.size 1 (by simp)
  have g0 := hf w.heap.size 0 (by simp)
  have g1 := hf w.heap.size 1 (by simp)
  simp at d0 d1 g0 g1
  have HB : Hid (Below w.heap.size w w1) := ((Below.refl w.heap.size w).alloc (Nat.le_refl _) _).trans (hb.mono (by simp))
  clear hc hf hb
  go_wp2_with fail
  refine bodyPost_ret (v := .tuple #[.agg #[.string ⟨#[]⟩, .pointer none], .int .i64 2, .int .i64 (lexR s).2]) (by simp [results, Tryz.results59, go_sem, d0, d1]) rfl ⟨none, ?_, ?_, ?_⟩
  · rw [unhide HP, unhide HN]
  · exact ((unhide HB).setCell (Nat.le_refl _) _).setCell (Nat.le_refl _) _
  · rw [unhide HP]; intro h; cases h

set_option maxHeartbeats 1000000 in
theorem gread_ok (s : ByteArray) (A : List (Nat × Nat)) (w : World) (hs : s.size ≤ 200) (hv : Evs w) (hA : (lexR s).1 = A) (hx : (lexR s).2 = -1) : Calls Tryz.prog 59 #[.string s] w (GReadL s w) := by
  have hp : parseP s = pFin s A (sc (tks s A) (beg (tks s A)) 0 0) := by unfold parseP; rw [if_neg (by omega), if_pos hx, hA]
  have e1 : ((lexR s).2 == -1) = true := beq_iff_eq.2 hx
  have hfew : A.length ≤ 200 := by rw [← hA]; exact lexR_few hs
  have HV := hide hv
  have HE := hide e1
  have HAA := hide hA
  have hel : endT (tks s A) ≤ A.length := by
    have := sc_le (st := 0) (op := 0) (beg_le (tks s A))
    rwa [tks_len] at this
  obtain ⟨n, hn⟩ : ∃ n, endT (tks s A) = n := ⟨_, rfl⟩
  rw [hn] at hel
  have HN := hide hn
  clear hv e1 hx
  cases ho : okT (tks s A)
  · rw [no_fin ho, hn] at hp
    have hnm : nameP s = ⟨#[]⟩ := by unfold nameP; rw [hp]; rfl
    have HP := hide hp
    have HNM := hide hnm
    have HO := hide ho
    clear hp hnm ho hn hA
    by_cases hkn : n = A.length
    · have hpl : plc s A n = (s.size : Int) := by unfold plc; rw [List.getElem?_eq_none (by omega)]
      have HPL := hide hpl
      have hbk : ((n : Int) == (A.length : Int)) = true := by rw [beq_iff_eq]; omega
      clear hpl hkn
      go_enter Tryz.func59, Tryz.ntmps59
      go_wp2_with fail
      refine (split_any s _ hs ((unhide HV).alloc _)).mono ?_
      rintro e w1 ⟨v, rfl, hown, hb⟩
      rw [unhide HE, cond_true]
      rw [unhide HAA] at hown
      obtain ⟨ao, g, cap, rfl, hR⟩ := tokIn_of hfew hown
      have HR := hide hR
      have HB := hide hb
      clear hown hR hb
      go_wp2_with fail
      have hcall := sread_any w1 ao g cap (toks s A) (unhide HR) (by rw [kr_toks]; exact wf_tks s A)
      rw [toks_len] at hcall
      refine hcall.mono ?_
      clear hcall
      rintro e w2 ⟨q, rfl, hb2, _⟩
      rw [kr_toks, unhide HO, unhide HN]
      simp only [cond_false]
      obtain ⟨hc, hf⟩ := bcell (below2' (unhide HB) hb2)
      have d0 := hc w.heap.size 0 (by simp)
      have d1 := hc w.heap.size 1 (by simp)
      have g0 := hf w.heap.size 0 (by simp)
      have g1 := hf w.heap.size 1 (by simp)
      simp at d0 d1 g0 g1
      have HB2 : Hid (Below w.heap.size w w2) := ((Below.refl w.heap.size w).alloc (Nat.le_refl _) _).trans ((below2' (unhide HB) hb2).mono (by simp))
      have hz2 : w.heap.size < w2.heap.size := by have := (below2' (unhide HB) hb2).size; simp at this; omega
      clear hc hf hb2
      go_wp2_with fail
      refine bodyPost_ret (v := .tuple #[.agg #[.string ⟨#[]⟩, .pointer none], .int .i64 3, .int .i64 s.size]) (by simp [results, Tryz.results59, go_sem, d0, d1, hz2]) rfl ⟨none, ?_, ?_, ?_⟩
      · rw [unhide HP, unhide HNM, unhide HPL]
      · first
        | exact (((unhide HB2).setCell (Nat.le_refl _) _).setCell (Nat.le_refl _) _).alloc (by simp; omega) _
        | exact (((unhide HB2).alloc (unhide HB2).size _).setCell (Nat.le_refl _) _).setCell (Nat.le_refl _) _
      · rw [unhide HP]; intro h; cases h
    · have hlt : n < A.length := by omega
      have hpl : plc s A n = (A[n].1 : Int) := by unfold plc; rw [List.getElem?_eq_getElem hlt]
      have HPL := hide hpl
      have hbk : ((n : Int) == (A.length : Int)) = false := by rw [beq_eq_false_iff_ne]; omega
      clear hpl
      go_enter Tryz.func59, Tryz.ntmps59
      go_wp2_with fail
      refine (split_any s _ hs ((unhide HV).alloc _)).mono ?_
      rintro e w1 ⟨v, rfl, hown, hb⟩
      rw [unhide HE, cond_true]
      rw [unhide HAA] at hown
      obtain ⟨ao, g, cap, rfl, hR⟩ := tokIn_of hfew hown
      have HR := hide hR
      have HB := hide hb
      clear hown hR hb
      go_wp2_with fail
      have hcall := sread_any w1 ao g cap (toks s A) (unhide HR) (by rw [kr_toks]; exact wf_tks s A)
      rw [toks_len] at hcall
      refine hcall.mono ?_
      clear hcall
      rintro e w2 ⟨q, rfl, hb2, _⟩
      rw [kr_toks, unhide HO, unhide HN]
      simp only [cond_false]
      have haddr := (unhide HR).addr (by rw [toks_len]; omega)
      obtain ⟨rfl, hg⟩ := haddr
      obtain ⟨_, _, _, _, cp⟩ := (unhide HR).cell n (by rw [toks_len]; exact hlt)
      have cp2 := (hb2.cell (p := ⟨g, n * 5 + 4, none⟩) hg).trans cp
      simp only [toks, List.getElem_map] at cp2
      obtain ⟨hc, hf⟩ := bcell (below2' (unhide HB) hb2)
      have d0 := hc w.heap.size 0 (by simp)
      have d1 := hc w.heap.size 1 (by simp)
      have g0 := hf w.heap.size 0 (by simp)
      have g1 := hf w.heap.size 1 (by simp)
      simp at d0 d1 g0 g1
      have HB2 : Hid (Below w.heap.size w w2) := ((Below.refl w.heap.size w).alloc (Nat.le_refl _) _).trans ((below2' (unhide HB) hb2).mono (by simp))
      have hz2 : w.heap.size < w2.heap.size := by have := (below2' (unhide HB) hb2).size; simp at this; omega
      have hgl : g < w2.heap.size := Nat.lt_of_lt_of_le hg hb2.size
      have hki : (n : Int) < (A.length : Int) := by omega
      clear hc hf hb2 cp
      go_wp2_with fail
      go_region
      all_goals
        go_wp2_with fail
        refine bodyPost_ret (v := .tuple #[.agg #[.string ⟨#[]⟩, .pointer none], .int .i64 3, .int .i64 A[n].1]) (by simp [results, Tryz.results59, go_sem, d0, d1, hz2]) rfl ⟨none, ?_, ?_, ?_⟩
        · rw [unhide HP, unhide HNM, unhide HPL]
        · first
          | exact ((((unhide HB2).setCell (Nat.le_refl _) _).setCell (Nat.le_refl _) _).alloc (by simp; omega) _).drew
          | exact ((((unhide HB2).alloc (unhide HB2).size _).setCell (Nat.le_refl _) _).setCell (Nat.le_refl _) _).drew
        · rw [unhide HP]; intro h; cases h
  · rw [ok_fin ho] at hp
    have hnm : nameP s = nameS (toks s A) := by unfold nameP; rw [hp, hA]; rfl
    have htr : ∀ x, PX (toks s A) false (beg (kr (toks s A))) 0 x (toks s A).length → TreeOf s x := by
      intro x h
      unfold TreeOf
      rw [hA]
      rwa [kr_toks, toks_len] at h
    have HP := hide hp
    have HNM := hide hnm
    have HTR := hide htr
    have HO := hide ho
    clear hp hnm ho hn hA htr
    go_enter Tryz.func59, Tryz.ntmps59
    go_wp2_with fail
    refine (split_any s _ hs ((unhide HV).alloc _)).mono ?_
    rintro e w1 ⟨v, rfl, hown, hb⟩
    rw [unhide HE, cond_true]
    rw [unhide HAA] at hown
    obtain ⟨ao, g, cap, rfl, hR⟩ := tokIn_of hfew hown
    have HR := hide hR
    have HB := hide hb
    clear hown hR hb
    go_wp2_with fail
    have hcall := sread_any w1 ao g cap (toks s A) (unhide HR) (by rw [kr_toks]; exact wf_tks s A)
    rw [toks_len] at hcall
    refine hcall.mono ?_
    clear hcall
    rintro e w2 ⟨q, rfl, hb2, hx⟩
    have hx1 := hx (by rw [kr_toks]; exact unhide HO)
    have HX := hide hx1
    rw [kr_toks, unhide HO]
    simp only [cond_true]
    obtain ⟨hc, hf⟩ := bcell (below2' (unhide HB) hb2)
    have d0 := hc w.heap.size 0 (by simp)
    have d1 := hc w.heap.size 1 (by simp)
    have g0 := hf w.heap.size 0 (by simp)
    have g1 := hf w.heap.size 1 (by simp)
    simp at d0 d1 g0 g1
    have HB2 : Hid (Below w.heap.size w w2) := ((Below.refl w.heap.size w).alloc (Nat.le_refl _) _).trans ((below2' (unhide HB) hb2).mono (by simp))
    have hz2 : w.heap.size < w2.heap.size := by have := (below2' (unhide HB) hb2).size; simp at this; omega
    have hz1 : w.heap.size < w1.heap.size := by have := (unhide HB).size; simp at this; omega
    obtain ⟨nm, hnm⟩ : ∃ nm, nameS (toks s A) = nm := ⟨_, rfl⟩
    rw [hnm]
    rw [hnm] at HNM
    clear hc hf hb2 hx hx1 hnm
    go_wp2_with fail
    refine bodyPost_ret (v := .tuple #[.agg #[.string nm, .pointer q], .int .i64 0, .int .i64 0]) (by simp [results, Tryz.results59, go_sem, d0, d1, hz2]) rfl ⟨q, ?_, ?_, ?_⟩
    · rw [unhide HP, unhide HNM]
    · first
      | exact (((unhide HB2).setCell (Nat.le_refl _) _).setCell (Nat.le_refl _) _).alloc (by simp; omega) _
      | exact (((unhide HB2).alloc (unhide HB2).size _).setCell (Nat.le_refl _) _).setCell (Nat.le_refl _) _
    · intro _
      obtain ⟨x, hx1, hx2⟩ := unhide HX
      refine ⟨x, unhide HTR x hx1, (hx2.mono (B' := w.heap.size) (by omega)).keep ?_⟩
      refine ⟨by simp, fun b' h1 h2 => ?_⟩
      rw [RowKit.Below.heap_alloc _ _ _ (by simpa using h2), RowKit.Below.heap_setCell _ _ _ _ (by simp; omega), RowKit.Below.heap_setCell _ _ _ _ (by simp; omega)]
theorem gread_any (s : ByteArray) (w : World) (hv : Evs w) (hm : s.size ≤ 9223372036854775807) : Calls Tryz.prog 59 #[.string s] w (GReadL s w) := by
  by_cases hs : 200 < s.size
  · exact gread_long s w hs hm
  · by_cases hx : (lexR s).2 = -1
    · exact gread_ok s _ w (by omega) hv rfl hx
    · exact gread_bad s w (by omega) hv hx

set_option maxHeartbeats 400000 in
theorem parse_any (s : ByteArray) (w : World) (hv : Evs w) (hm : s.size ≤ 9223372036854775807) :
    Calls Tryz.prog 64 #[.string s] w fun e w' => e = .returned (.tuple #[.int .i64 (parseP s).1, .int .i64 (parseP s).2]) ∧ Below w.heap.size w w' := by
  have HG := hide (gread_any s w hv hm)
  obtain ⟨a, ha⟩ : ∃ a, (parseP s).1 = a := ⟨_, rfl⟩
  obtain ⟨b, hb⟩ : ∃ b, (parseP s).2 = b := ⟨_, rfl⟩
  obtain ⟨n, hn⟩ : ∃ n, nameP s = n := ⟨_, rfl⟩
  unfold GReadL at HG
  simp only [ha, hb, hn] at HG
  rw [ha, hb]
  clear ha hb hn hv hm
  go_enter Tryz.func64, Tryz.ntmps64
  go_wp2_with fail
  refine (unhide HG).mono ?_
  rintro e w1 ⟨q, rfl, hb1, _⟩
  have HB := hide hb1
  clear hb1
  go_wp2_with fail
  go_ret2
  first
  | exact ⟨rfl, unhide HB⟩
  | exact ⟨rfl, (unhide HB).alloc (unhide HB).size _⟩
end Go.Proofs.YtjobgpahajhbnaaGreatDoor
