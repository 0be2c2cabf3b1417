import Derived.Test.YtjobgpahajhbnaaGreatDoorSg
namespace Go.Proofs.YtjobgpahajhbnaaGreatDoor
open Go.RowKit

theorem beg_short {T : List (Int × Int)} (h : T.length ≤ 1) : beg T = 0 := by
  have : kB T 1 2 = false := by unfold kB; rw [List.getElem?_eq_none (by omega)]
  unfold beg
  rw [this, Bool.and_false]
  rfl
theorem scan_le : ∀ (l : List (Int × Int)) (j st op : Nat), (scan l j st op).1 ≤ j + l.length
  | [], j, st, op => by simp [scan]
  | q :: r, j, st, op => by
    unfold scan
    split
    · simp
    · have := scan_le r (j + 1)
      rename_i x _
      have := this x.1 x.2
      simp only [List.length_cons]
      omega
theorem sc_le {T : List (Int × Int)} {j st op : Nat} (h : j ≤ T.length) : (sc T j st op).1 ≤ T.length := by
  have := scan_le (T.drop j) j st op
  rw [List.length_drop] at this
  unfold sc
  omega
theorem beg_le (T : List (Int × Int)) : beg T ≤ T.length := by
  by_cases h : T.length ≤ 1
  · rw [beg_short h]; omega
  · unfold beg
    cases (kB T 0 1 && kB T 1 2)
    · rw [cond_false]; omega
    · rw [cond_true]; omega
theorem wf_tks (s : ByteArray) (A : List (Nat × Nat)) : Wf (tks s A) := by
  intro q hq
  simp only [tks, List.mem_map] at hq
  obtain ⟨x, _, rfl⟩ := hq
  generalize s.extract x.1 x.2 = t
  show kindT t = 0 ∨ kindT t = 1 ∨ kindT t = 4 ∨ kindT t = 5 → roleT t = 0
  unfold kindT roleT
  cases (hd t == 40)
  · cases (hd t == 41)
    · cases (hd t == 95 || digB (hd t))
      · cases letB (hd t)
        · simp
        · simp only [cond_true, cond_false]
          unfold wKind
          cases h : (wRole t != 0)
          · intro _; simpa using h
          · simp
      · simp
    · simp
  · simp
theorem ok_fin {s : ByteArray} {A : List (Nat × Nat)} (h : okT (tks s A) = true) : pFin s A (sc (tks s A) (beg (tks s A)) 0 0) = (0, 0) := by
  simp only [okT, topB, Bool.and_eq_true, decide_eq_true_iff] at h
  unfold pFin
  have hk := sc_le (st := 0) (op := 0) (beg_le (tks s A))
  rw [tks_len] at h hk
  rw [if_pos]
  exact ⟨by omega, h.1.1, h.1.2⟩
theorem no_fin {s : ByteArray} {A : List (Nat × Nat)} (h : okT (tks s A) = false) : pFin s A (sc (tks s A) (beg (tks s A)) 0 0) = (3, plc s A (endT (tks s A))) := by
  unfold pFin
  rw [if_neg]
  · rfl
  intro hc
  have : okT (tks s A) = true := by
    simp only [okT, topB, Bool.and_eq_true, decide_eq_true_iff]
    rw [tks_len]
    exact ⟨⟨hc.2.1, hc.2.2⟩, by omega⟩
  rw [this] at h
  cases h
theorem tokIn_of {w : World} {B : Nat} {v : Value} {s : ByteArray} {A : List (Nat × Nat)} (hfew : A.length ≤ 200) (h : w.ownsRow B 155 5 v A.length (cellsC s A)) :
    ∃ ao g cap, v = .slice ao A.length cap ∧ TokIn w ao g (toks s A) := by
  obtain ⟨ao, cap, g, hv, _, ha, hcell⟩ := owns_view h
  refine ⟨ao, g, cap, hv, by rw [toks_len]; exact hfew, by rw [toks_len]; exact ha, ?_⟩
  intro i hi
  have hi' : i < A.length := by rw [toks_len] at hi; exact hi
  have hf := flat5 (fun q : Nat × Nat => Value.int .i64 (kindT (s.extract q.1 q.2))) (fun q => Value.int .i64 (roleT (s.extract q.1 q.2))) (fun q => Value.int .i64 (worthT (s.extract q.1 q.2))) (fun q => Value.string (s.extract q.1 q.2)) (fun q => Value.int .i64 q.1) A i hi'
  rw [hcell (i * 5) (by omega), hcell (i * 5 + 1) (by omega), hcell (i * 5 + 2) (by omega), hcell (i * 5 + 3) (by omega), hcell (i * 5 + 4) (by omega)]
  simp only [toks, List.getElem_map]
  exact hf
theorem lexR_few {s : ByteArray} (hs : s.size ≤ 200) : (lexR s).1.length ≤ 200 := by have := lex_few s s.size 0 [] (by simp) (by omega); unfold lexR; omega
theorem below2' {a b c : World} (h : Below a.heap.size a b) (h' : Below b.heap.size b c) : Below a.heap.size a c := h.trans (h'.mono h.size)
/-- what the tree of a text is -/
def TreeOf (s : ByteArray) (x : Ex) : Prop := PX (toks s (lexR s).1) false (beg (tks s (lexR s).1)) 0 x (lexR s).1.length
/-- the name that a text is for -/
def nameP (s : ByteArray) : ByteArray := if (parseP s).1 = 0 then nameS (toks s (lexR s).1) else ⟨#[]⟩
/-- what a call of read leaves -/
def GReadL (s : ByteArray) (w : World) (e : Ending) (w' : World) : Prop :=
  ∃ q, e = .returned (.tuple #[.agg #[.string (nameP s), .pointer q], .int .i64 (parseP s).1, .int .i64 (parseP s).2]) ∧ Below w.heap.size w w' ∧ ((parseP s).1 = 0 → ∃ x, TreeOf s x ∧ IsEx w.heap.size w' q x)

set_option maxHeartbeats 400000 in
theorem gread_long (s : ByteArray) (w : World) (h : 200 < s.size) (hm : s.size ≤ 9223372036854775807) : Calls Tryz.prog 59 #[.string s] w (GReadL s w) := by
  have hp : parseP s = (1, 0) := by unfold parseP; rw [if_pos h]
  have hn : nameP s = ⟨#[]⟩ := by unfold nameP; rw [hp]; rfl
  have HP := hide hp
  have HN := hide hn
  clear hp hn
  go_enter Tryz.func59, Tryz.ntmps59
  go_wp2_with fail
  refine bodyPost_ret (v := .tuple #[.agg #[.string ⟨#[]⟩, .pointer none], .int .i64 1, .int .i64 0]) (by simp [results, Tryz.results59, go_sem]) rfl ⟨none, ?_, (Below.refl _ _).alloc (Nat.le_refl _) _, ?_⟩
  · rw [unhide HP, unhide HN]
  · rw [unhide HP]; intro h; cases h

set_option maxHeartbeats 400000 in
theorem gread_bad (s : ByteArray) (w : World) (hs : s.size ≤ 200) (hv : Evs w) (hx : ¬ (lexR s).2 = -1) : Calls Tryz.prog 59 #[.string s] w (GReadL s w) := by
  have hp : parseP s = (2, (lexR s).2) := by unfold parseP; rw [if_neg (by omega), if_neg hx]
  have hn : nameP s = ⟨#[]⟩ := by unfold nameP; rw [hp]; rfl
  have HP := hide hp
  have HN := hide hn
  have e1 : ((lexR s).2 == -1) = false := beq_eq_false_iff_ne.2 hx
  have HV := hide hv
  have HE := hide e1
  clear hp hn hv e1 hx
  go_enter Tryz.func59, Tryz.ntmps59
  go_wp2_with fail
  refine (split_any s _ hs ((unhide HV).alloc _)).mono ?_
  rintro e w1 ⟨v, rfl, _, hb⟩
  rw [unhide HE, cond_false]
  obtain ⟨hc, hf⟩ := bcell hb
  have d0 := hc w.heap.size 0 (by simp)
  have d1 := hc w.heap.size 1 (by simp)
  have g0 := hf w.heap.size 0 (by simp)
  have g1 := hf w.heap.size 1 (by simp)
  simp at d0 d1 g0 g1
  have HB : Hid (Below w.heap.size w w1) := ((Below.refl w.heap.size w).alloc (Nat.le_refl _) _).trans (hb.mono (by simp))
  clear hc hf hb
  go_wp2_with fail
  refine bodyPost_ret (v := .tuple #[.agg #[.string ⟨#[]⟩, .pointer none], .int .i64 2, .int .i64 (lexR s).2]) (by simp [results, Tryz.results59, go_sem, d0, d1]) rfl ⟨none, ?_, ?_, ?_⟩
  · rw [unhide HP, unhide HN]
  · exact ((unhide HB).setCell (Nat.le_refl _) _).setCell (Nat.le_refl _) _
  · rw [unhide HP]; intro h; cases h

set_option maxHeartbeats 1000000 in
theorem gread_ok (s : ByteArray) (A : List (Nat × Nat)) (w : World) (hs : s.size ≤ 200) (hv : Evs w) (hA : (lexR s).1 = A) (hx : (lexR s).2 = -1) : Calls Tryz.prog 59 #[.string s] w (GReadL s w) := by
  have hp : parseP s = pFin s A (sc (tks s A) (beg (tks s A)) 0 0) := by unfold parseP; rw [if_neg (by omega), if_pos hx, hA]
  have e1 : ((lexR s).2 == -1) = true := beq_iff_eq.2 hx
  have hfew : A.length ≤ 200 := by rw [← hA]; exact lexR_few hs
  have HV := hide hv
  have HE := hide e1
  have HAA := hide hA
  have hel : endT (tks s A) ≤ A.length := by
    have := sc_le (st := 0) (op := 0) (beg_le (tks s A))
    rwa [tks_len] at this
  obtain ⟨n, hn⟩ : ∃ n, endT (tks s A) = n := ⟨_, rfl⟩
  rw [hn] at hel
  have HN := hide hn
  clear hv e1 hx
  cases ho : okT (tks s A)
  · rw [no_fin ho, hn] at hp
    have hnm : nameP s = ⟨#[]⟩ := by unfold nameP; rw [hp]; rfl
    have HP := hide hp
    have HNM := hide hnm
    have HO := hide ho
    clear hp hnm ho hn hA
    by_cases hkn : n = A.length
    · have hpl : plc s A n = (s.size : Int) := by unfold plc; rw [List.getElem?_eq_none (by omega)]
      have HPL := hide hpl
      have hbk : ((n : Int) == (A.length : Int)) = true := by rw [beq_iff_eq]; omega
      clear hpl hkn
      go_enter Tryz.func59, Tryz.ntmps59
      go_wp2_with fail
      refine (split_any s _ hs ((unhide HV).alloc _)).mono ?_
      rintro e w1 ⟨v, rfl, hown, hb⟩
      rw [unhide HE, cond_true]
      rw [unhide HAA] at hown
      obtain ⟨ao, g, cap, rfl, hR⟩ := tokIn_of hfew hown
      have HR := hide hR
      have HB := hide hb
      clear hown hR hb
      go_wp2_with fail
      have hcall := sread_any w1 ao g cap (toks s A) (unhide HR) (by rw [kr_toks]; exact wf_tks s A)
      rw [toks_len] at hcall
      refine hcall.mono ?_
      clear hcall
      rintro e w2 ⟨q, rfl, hb2, _⟩
      rw [kr_toks, unhide HO, unhide HN]
      simp only [cond_false]
      obtain ⟨hc, hf⟩ := bcell (below2' (unhide HB) hb2)
      have d0 := hc w.heap.size 0 (by simp)
      have d1 := hc w.heap.size 1 (by simp)
      have g0 := hf w.heap.size 0 (by simp)
      have g1 := hf w.heap.size 1 (by simp)
      simp at d0 d1 g0 g1
      have HB2 : Hid (Below w.heap.size w w2) := ((Below.refl w.heap.size w).alloc (Nat.le_refl _) _).trans ((below2' (unhide HB) hb2).mono (by simp))
      have hz2 : w.heap.size < w2.heap.size := by have := (below2' (unhide HB) hb2).size; simp at this; omega
      clear hc hf hb2
      go_wp2_with fail
      refine bodyPost_ret (v := .tuple #[.agg #[.string ⟨#[]⟩, .pointer none], .int .i64 3, .int .i64 s.size]) (by simp [results, Tryz.results59, go_sem, d0, d1, hz2]) rfl ⟨none, ?_, ?_, ?_⟩
      · rw [unhide HP, unhide HNM, unhide HPL]
      · first
        | exact (((unhide HB2).setCell (Nat.le_refl _) _).setCell (Nat.le_refl _) _).alloc (by simp; omega) _
        | exact (((unhide HB2).alloc (unhide HB2).size _).setCell (Nat.le_refl _) _).setCell (Nat.le_refl _) _
      · rw [unhide HP]; intro h; cases h
    · have hlt : n < A.length := by omega
      have hpl : plc s A n = (A[n].1 : Int) := by unfold plc; rw [List.getElem?_eq_getElem hlt]
      have HPL := hide hpl
      have hbk : ((n : Int) == (A.length : Int)) = false := by rw [beq_eq_false_iff_ne]; omega
      clear hpl
      go_enter Tryz.func59, Tryz.ntmps59
      go_wp2_with fail
      refine (split_any s _ hs ((unhide HV).alloc _)).mono ?_
      rintro e w1 ⟨v, rfl, hown, hb⟩
      rw [unhide HE, cond_true]
      rw [unhide HAA] at hown
      obtain ⟨ao, g, cap, rfl, hR⟩ := tokIn_of hfew hown
      have HR := hide hR
      have HB := hide hb
      clear hown hR hb
      go_wp2_with fail
      have hcall := sread_any w1 ao g cap (toks s A) (unhide HR) (by rw [kr_toks]; exact wf_tks s A)
      rw [toks_len] at hcall
      refine hcall.mono ?_
      clear hcall
      rintro e w2 ⟨q, rfl, hb2, _⟩
      rw [kr_toks, unhide HO, unhide HN]
      simp only [cond_false]
      have haddr := (unhide HR).addr (by rw [toks_len]; omega)
      obtain ⟨rfl, hg⟩ := haddr
      obtain ⟨_, _, _, _, cp⟩ := (unhide HR).cell n (by rw [toks_len]; exact hlt)
      have cp2 := (hb2.cell (p := ⟨g, n * 5 + 4, none⟩) hg).trans cp
      simp only [toks, List.getElem_map] at cp2
      obtain ⟨hc, hf⟩ := bcell (below2' (unhide HB) hb2)
      have d0 := hc w.heap.size 0 (by simp)
      have d1 := hc w.heap.size 1 (by simp)
      have g0 := hf w.heap.size 0 (by simp)
      have g1 := hf w.heap.size 1 (by simp)
      simp at d0 d1 g0 g1
      have HB2 : Hid (Below w.heap.size w w2) := ((Below.refl w.heap.size w).alloc (Nat.le_refl _) _).trans ((below2' (unhide HB) hb2).mono (by simp))
      have hz2 : w.heap.size < w2.heap.size := by have := (below2' (unhide HB) hb2).size; simp at this; omega
      have hgl : g < w2.heap.size := Nat.lt_of_lt_of_le hg hb2.size
      have hki : (n : Int) < (A.length : Int) := by omega
      clear hc hf hb2 cp
      go_wp2_with fail
      go_region
      all_goals
        go_wp2_with fail
        refine bodyPost_ret (v := .tuple #[.agg #[.string ⟨#[]⟩, .pointer none], .int .i64 3, .int .i64 A[n].1]) (by simp [results, Tryz.results59, go_sem, d0, d1, hz2]) rfl ⟨none, ?_, ?_, ?_⟩
        · rw [unhide HP, unhide HNM, unhide HPL]
        · first
          | exact ((((unhide HB2).setCell (Nat.le_refl _) _).setCell (Nat.le_refl _) _).alloc (by simp; omega) _).drew
          | exact ((((unhide HB2).alloc (unhide HB2).size _).setCell (Nat.le_refl _) _).setCell (Nat.le_refl _) _).drew
        · rw [unhide HP]; intro h; cases h
  · rw [ok_fin ho] at hp
    have hnm : nameP s = nameS (toks s A) := by unfold nameP; rw [hp, hA]; rfl
    have htr : ∀ x, PX (toks s A) false (beg (kr (toks s A))) 0 x (toks s A).length → TreeOf s x := by
      intro x h
      unfold TreeOf
      rw [hA]
      rwa [kr_toks, toks_len] at h
    have HP := hide hp
    have HNM := hide hnm
    have HTR := hide htr
    have HO := hide ho
    clear hp hnm ho hn hA htr
    go_enter Tryz.func59, Tryz.ntmps59
    go_wp2_with fail
    refine (split_any s _ hs ((unhide HV).alloc _)).mono ?_
    rintro e w1 ⟨v, rfl, hown, hb⟩
    rw [unhide HE, cond_true]
    rw [unhide HAA] at hown
    obtain ⟨ao, g, cap, rfl, hR⟩ := tokIn_of hfew hown
    have HR := hide hR
    have HB := hide hb
    clear hown hR hb
    go_wp2_with fail
    have hcall := sread_any w1 ao g cap (toks s A) (unhide HR) (by rw [kr_toks]; exact wf_tks s A)
    rw [toks_len] at hcall
    refine hcall.mono ?_
    clear hcall
    rintro e w2 ⟨q, rfl, hb2, hx⟩
    have hx1 := hx (by rw [kr_toks]; exact unhide HO)
    have HX := hide hx1
    rw [kr_toks, unhide HO]
    simp only [cond_true]
    obtain ⟨hc, hf⟩ := bcell (below2' (unhide HB) hb2)
    have d0 := hc w.heap.size 0 (by simp)
    have d1 := hc w.heap.size 1 (by simp)
    have g0 := hf w.heap.size 0 (by simp)
    have g1 := hf w.heap.size 1 (by simp)
    simp at d0 d1 g0 g1
    have HB2 : Hid (Below w.heap.size w w2) := ((Below.refl w.heap.size w).alloc (Nat.le_refl _) _).trans ((below2' (unhide HB) hb2).mono (by simp))
    have hz2 : w.heap.size < w2.heap.size := by have := (below2' (unhide HB) hb2).size; simp at this; omega
    have hz1 : w.heap.size < w1.heap.size := by have := (unhide HB).size; simp at this; omega
    obtain ⟨nm, hnm⟩ : ∃ nm, nameS (toks s A) = nm := ⟨_, rfl⟩
    rw [hnm]
    rw [hnm] at HNM
    clear hc hf hb2 hx hx1 hnm
    go_wp2_with fail
    refine bodyPost_ret (v := .tuple #[.agg #[.string nm, .pointer q], .int .i64 0, .int .i64 0]) (by simp [results, Tryz.results59, go_sem, d0, d1, hz2]) rfl ⟨q, ?_, ?_, ?_⟩
    · rw [unhide HP, unhide HNM]
    · first
      | exact (((unhide HB2).setCell (Nat.le_refl _) _).setCell (Nat.le_refl _) _).alloc (by simp; omega) _
      | exact (((unhide HB2).alloc (unhide HB2).size _).setCell (Nat.le_refl _) _).setCell (Nat.le_refl _) _
    · intro _
      obtain ⟨x, hx1, hx2⟩ := unhide HX
      refine ⟨x, unhide HTR x hx1, (hx2.mono (B' := w.heap.size) (by omega)).keep ?_⟩
      refine ⟨by simp, fun b' h1 h2 => ?_⟩
      rw [RowKit.Below.heap_alloc _ _ _ (by simpa using h2), RowKit.Below.heap_setCell _ _ _ _ (by simp; omega), RowKit.Below.heap_setCell _ _ _ _ (by simp; omega)]
theorem gread_any (s : ByteArray) (w : World) (hv : Evs w) (hm : s.size ≤ 9223372036854775807) : Calls Tryz.prog 59 #[.string s] w (GReadL s w) := by
  by_cases hs : 200 < s.size
  · exact gread_long s w hs hm
  · by_cases hx : (lexR s).2 = -1
    · exact gread_ok s _ w (by omega) hv rfl hx
    · exact gread_bad s w (by omega) hv hx

end Go.Proofs.YtjobgpahajhbnaaGreatDoor
namespace Go.Proofs.YtjobgpahajhbnaaGreatDoor
open Go.RowKit

theorem kB_same {T : List (Int × Int)} {j : Nat} {a b : Int} (h : kB T j a = true) (h' : kB T j b = true) : a = b := by
  obtain ⟨hj, e⟩ := kB_lt h
  obtain ⟨_, e'⟩ := kB_lt h'
  rw [← e, ← e']
theorem PX.uniq {S : List Tok} {b : Bool} {j o : Nat} {x : Ex} {k : Nat} (h : PX S b j o x k) : ∀ {x' : Ex} {k' : Nat}, PX S b j o x' k' → x = x' ∧ k = k' := by
  induction h with
  | nums j o k h1 h2 h3 h4 =>
    intro x' k' h'
    cases h' with
    | nums _ _ k2 g1 g2 g3 g4 =>
      have : k = k' := by
        rcases Nat.lt_trichotomy k k' with h | h | h
        · rw [g3 k (by omega) h] at h4; cases h4
        · exact h
        · rw [h3 k' (by omega) h] at g4; cases g4
      subst this
      exact ⟨rfl, rfl⟩
    | name _ _ g1 => exact absurd (kB_same (h3 j (Nat.le_refl _) h1) g1) (by decide)
    | paren _ _ e k2 g1 g2 g3 g4 => exact absurd (kB_same (h3 j (Nat.le_refl _) h1) g1) (by decide)
  | name j o h1 =>
    intro x' k' h'
    cases h' with
    | nums _ _ k2 g1 g2 g3 g4 => exact absurd (kB_same (g3 j (Nat.le_refl _) g1) h1) (by decide)
    | name _ _ g1 => exact ⟨rfl, rfl⟩
    | paren _ _ e k2 g1 g2 g3 g4 => exact absurd (kB_same h1 g1) (by decide)
  | paren j o e k h1 h2 h3 h4 ih =>
    intro x' k' h'
    cases h' with
    | nums _ _ k2 g1 g2 g3 g4 => exact absurd (kB_same (g3 j (Nat.le_refl _) g1) h1) (by decide)
    | name _ _ g1 => exact absurd (kB_same h1 g1) (by decide)
    | paren _ _ e k2 g1 g2 g3 g4 =>
      obtain ⟨r1, r2⟩ := ih g3
      exact ⟨r1, by omega⟩
  | one j o r k h1 h2 ih =>
    intro x' k' h'
    cases h' with
    | one _ _ r2 k2 g1 g2 =>
      obtain ⟨r1, r2⟩ := ih g2
      exact ⟨by rw [r1], r2⟩
    | only _ _ l k2 g1 g2 g3 => rw [h1] at g1; cases g1
    | two _ _ l k2 r2 m g1 g2 g3 g4 => rw [h1] at g1; cases g1
  | only j o l k h1 h2 h3 ih =>
    intro x' k' h'
    cases h' with
    | one _ _ r2 k2 g1 g2 => rw [h1] at g1; cases g1
    | only _ _ l k2 g1 g2 g3 => exact ih g2
    | two _ _ l k2 r2 m g1 g2 g3 g4 =>
      obtain ⟨_, e⟩ := ih g2
      subst e
      rw [h3] at g3; cases g3
  | two j o l k r m h1 h2 h3 h4 ih1 ih2 =>
    intro x' k' h'
    cases h' with
    | one _ _ r2 k2 g1 g2 => rw [h1] at g1; cases g1
    | only _ _ l k2 g1 g2 g3 =>
      obtain ⟨_, e⟩ := ih1 g2
      subst e
      rw [h3] at g3; cases g3
    | two _ _ l k2 r2 m g1 g2 g3 g4 =>
      obtain ⟨e1, e⟩ := ih1 g2
      subst e
      obtain ⟨e2, e3⟩ := ih2 g4
      exact ⟨by rw [e1, e2], e3⟩
theorem PX.scan {S : List Tok} {b : Bool} {j o : Nat} {x : Ex} {k : Nat} (h : PX S b j o x k) (hw : Wf (kr S)) : j < k ∧ k ≤ S.length ∧ ∃ st, (st = 1 ∨ st = 2) ∧ sc (kr S) j 0 o = sc (kr S) k st o := by
  induction h with
  | nums j o k h1 h2 h3 h4 =>
    refine ⟨h1, h2, 1, Or.inl rfl, ?_⟩
    obtain ⟨n, rfl⟩ : ∃ n, k = j + (n + 1) := ⟨k - j - 1, by omega⟩
    exact sc_nums o n j h3
  | name j o h1 =>
    obtain ⟨a, b⟩ := sc_name (op := o) h1
    rw [kr_len] at a
    exact ⟨Nat.lt_succ_self _, a, 2, Or.inr rfl, b⟩
  | paren j o e k h1 h2 h3 h4 ih =>
    obtain ⟨i1, i2, st, hst, e1⟩ := ih
    obtain ⟨a, b⟩ := sc_open (op := o) h1 h2
    obtain ⟨c, d⟩ := sc_close (op := o) (st := st) (by omega) h4
    rw [kr_len] at c
    exact ⟨by omega, c, 2, Or.inr rfl, by rw [b, e1, d]⟩
  | one j o r k h1 h2 ih =>
    obtain ⟨i1, i2, st, hst, e1⟩ := ih
    obtain ⟨a, b⟩ := sc_ahead (op := o) hw h1
    exact ⟨by omega, i2, st, hst, by rw [b, e1]⟩
  | only j o l k h1 h2 h3 ih => exact ih
  | two j o l k r m h1 h2 h3 h4 ih1 ih2 =>
    obtain ⟨i1, i2, st, hst, e1⟩ := ih1
    obtain ⟨j1, j2, st2, hst2, e2⟩ := ih2
    obtain ⟨a, b⟩ := sc_between (op := o) (st := st) hw (by omega) h3
    exact ⟨by omega, j2, st2, hst2, by rw [e1, b, e2]⟩
/-- a text with a tree may be -/
theorem parse_tree {s : ByteArray} {A : List (Nat × Nat)} {x : Ex} (hs : s.size ≤ 200) (hl : lexR s = (A, -1)) (hx : PX (toks s A) false (beg (tks s A)) 0 x A.length) : parseP s = (0, 0) ∧ TreeOf s x := by
  have ht : TreeOf s x := by unfold TreeOf; rw [hl]; exact hx
  refine ⟨?_, ht⟩
  obtain ⟨_, _, st, hst, e⟩ := hx.scan (by rw [kr_toks]; exact wf_tks s A)
  rw [kr_toks] at e
  have e2 : sc (tks s A) A.length st 0 = (A.length, st, 0) := sc_end (by rw [tks_len]; exact Nat.le_refl _)
  unfold parseP
  rw [if_neg (by omega), hl, if_pos rfl]
  simp only []
  rw [e, e2]
  unfold pFin
  rw [if_pos ⟨rfl, by simp only []; omega, rfl⟩]
theorem tree_uniq {s : ByteArray} {x y : Ex} (h : TreeOf s x) (h' : TreeOf s y) : x = y := (PX.uniq h h').1

/-- the tokens of a list of bytes, from place p on -/
inductive LX : Nat → List UInt8 → List (Nat × Nat) → Prop where
  | done (p : Nat) : LX p [] []
  | blank (p : Nat) (l : List UInt8) (A : List (Nat × Nat)) : LX (p + 1) l A → LX p (32 :: l) A
  | tok (p n : Nat) (c : UInt8) (l : List UInt8) (A : List (Nat × Nat)) : c ≠ 32 → tl (c :: l) = some n → LX (p + n) ((c :: l).drop n) A → LX p (c :: l) ((p, p + n) :: A)
theorem lx_lex {s : ByteArray} {p : Nat} {l : List UInt8} {A : List (Nat × Nat)} (h : LX p l A) : ∀ (f : Nat) (B : List (Nat × Nat)), s.data.toList.drop p = l → p ≤ s.size → s.size - p ≤ f → lexS s f p B = (B ++ A, -1) := by
  have hsz : s.data.toList.length = s.size := rfl
  induction h with
  | done p =>
    intro f B hd hp hf
    have : s.size ≤ p := by have := congrArg List.length hd; simp [hsz] at this; omega
    rw [lex_end s f p B this]; simp
  | blank p l A hl ih =>
    intro f B hd hp hf
    have hp2 : p < s.size := by have := congrArg List.length hd; simp [hsz] at this; omega
    rw [drop_cons s p hp2] at hd
    injection hd with h1 h2
    obtain ⟨f, rfl⟩ : ∃ g, f = g + 1 := ⟨f - 1, by omega⟩
    rw [lex_blank s f p B hp2 (by rw [h1]; rfl)]
    exact ih f B h2 hp2 (by omega)
  | tok p n c l A hc ht hl ih =>
    intro f B hd hp hf
    have hp2 : p < s.size := by have := congrArg List.length hd; simp [hsz] at this; omega
    have hd' := hd
    rw [drop_cons s p hp2] at hd
    injection hd with h1 h2
    obtain ⟨f, rfl⟩ : ∃ g, f = g + 1 := ⟨f - 1, by omega⟩
    have hb := tl_bd ht
    have hlen : p + n ≤ s.size := by
      have := congrArg List.length hd'
      have h3 := hb.2
      rw [← this, len_drop] at h3
      omega
    have hne : ((s[p].toNat : Int) == 32) = false := by
      rw [h1]
      refine beq_eq_false_iff_ne.2 (fun e => hc ?_)
      have h32 : c.toNat = (32 : UInt8).toNat := by
        have : (32 : UInt8).toNat = 32 := rfl
        omega
      exact UInt8.toNat_inj.1 h32
    rw [lex_tok s f p n B hp2 hne (by rw [hd']; exact ht)]
    rw [ih f (B ++ [(p, p + n)]) (by rw [← hd', List.drop_drop]) hlen (by omega)]
    simp
theorem lx_lexR {s : ByteArray} {A : List (Nat × Nat)} (h : LX 0 s.data.toList A) : lexR s = (A, -1) := by
  unfold lexR
  rw [lx_lex h s.size [] (by simp) (by omega) (by omega)]
  simp
end Go.Proofs.YtjobgpahajhbnaaGreatDoor
namespace Go.Proofs.YtjobgpahajhbnaaGreatDoor
open Go.RowKit

/-- the tokens of l, where r comes behind it -/
inductive LY : Nat → List UInt8 → List UInt8 → List (Nat × Nat) → Prop where
  | done (p : Nat) (r : List UInt8) : LY p [] r []
  | blank (p : Nat) (l r : List UInt8) (A : List (Nat × Nat)) : LY (p + 1) l r A → LY p (32 :: l) r A
  | tok (p n : Nat) (c : UInt8) (l r : List UInt8) (A : List (Nat × Nat)) : c ≠ 32 → tl (c :: (l ++ r)) = some n → n ≤ l.length + 1 → LY (p + n) ((c :: l).drop n) r A → LY p (c :: l) r ((p, p + n) :: A)
theorem LY.append {p : Nat} {l r' : List UInt8} {A : List (Nat × Nat)} (h : LY p l r' A) : ∀ {l2 r : List UInt8} {B : List (Nat × Nat)}, r' = l2 ++ r → LY (p + l.length) l2 r B → LY p (l ++ l2) r (A ++ B) := by
  induction h with
  | done p r' => intro l2 r B _ h2; simpa using h2
  | blank p l r' A h ih =>
    intro l2 r B e h2
    exact LY.blank _ _ _ _ (ih e (by simpa [Nat.add_assoc, Nat.add_comm 1] using h2))
  | tok p n c l r' A hc ht hn h ih =>
    intro l2 r B e h2
    subst e
    have hn' : n ≤ (c :: l).length := by simpa using hn
    refine LY.tok p n c (l ++ l2) r (A ++ B) hc (by rw [List.append_assoc]; exact ht) (by simp; omega) ?_
    have e1 : List.drop n (c :: (l ++ l2)) = List.drop n (c :: l) ++ l2 := by
      rw [← List.cons_append, List.drop_append_of_le_length hn']
    rw [e1]
    refine ih rfl ?_
    have e2 : p + n + (List.drop n (c :: l)).length = p + (c :: l).length := by simp; omega
    rw [e2]
    exact h2
theorem LY.whole {p : Nat} {l r : List UInt8} {A : List (Nat × Nat)} (h : LY p l r A) : r = [] → LX p l A := by
  induction h with
  | done p r => intro _; exact LX.done p
  | blank p l r A h ih => intro e; exact LX.blank _ _ _ (ih e)
  | tok p n c l r A hc ht hn h ih =>
    intro e
    subst e
    exact LX.tok p n c l A hc (by simpa using ht) (ih rfl)
/-- one token -/
theorem LY.one {p : Nat} {c : UInt8} {l r : List UInt8} (hc : c ≠ 32) (ht : tl (c :: (l ++ r)) = some (l.length + 1)) : LY p (c :: l) r [(p, p + (l.length + 1))] :=
  LY.tok p (l.length + 1) c l r [] hc ht (Nat.le_refl _) (by rw [List.drop_eq_nil_of_le (by simp)]; exact LY.done _ _)

/-- a number as it is written -/
inductive Nm : Int → List UInt8 → Prop where
  | pos (D : List UInt8) : D.all dU = true → 1 ≤ D.length → D.length ≤ 19 → val D ≤ 9223372036854775807 → Nm (val D : Int) D
  | neg (D : List UInt8) : D.all dU = true → 1 ≤ D.length → D.length ≤ 19 → val D ≤ 9223372036854775807 → Nm (-(val D : Int)) (95 :: D)
/-- what may come behind a number -/
def Stop (r : List UInt8) : Prop := ∀ c, r.head? = some c → dU c = false
theorem tw_dig {D r : List UInt8} (h : D.all dU = true) (hr : Stop r) : (D ++ r).takeWhile dU = D := by
  have h1 := tw_stop (l := D ++ r) (j := D.length) (p := dU) (by simpa using h) (by intro c hc; rw [List.getElem?_append_right (Nat.le_refl _)] at hc; simp at hc; exact hr c (by rw [List.head?_eq_getElem?]; exact hc))
  rw [h1]; simp
theorem numE_dig {D r : List UInt8} (k : Nat) (h : D.all dU = true) (h1 : 1 ≤ D.length) (h2 : D.length ≤ 19) (h3 : val D ≤ 9223372036854775807) (hr : Stop r) : numE k (D ++ r) = some (k + D.length) := by
  unfold numE
  simp only [tw_dig h hr]
  rw [if_neg (by omega)]
theorem dU_facts {c : UInt8} (h : dU c = true) : c ≠ 32 := by
  rintro rfl
  exact absurd h (by decide)
theorem nm_ly {n : Int} {t r : List UInt8} (h : Nm n t) (hr : Stop r) (p : Nat) : LY p t r [(p, p + t.length)] := by
  cases h with
  | pos _ a b c d =>
    match t, a, b, c, d with
    | x :: D, a, b, c, d =>
      have hx : dU x = true := by simp at a; exact a.1
      refine LY.one (dU_facts hx) ?_
      have := numE_dig 0 a b c d hr
      simp only [tl, hx, cond_true]
      rw [← List.cons_append, this]
      simp
  | neg D a b c d =>
    refine LY.one (by decide) ?_
    have h5 : dU 95 = false := by decide
    simp only [tl, h5, cond_false, beq_self_eq_true, cond_true]
    rw [numE_dig 1 a b c d hr, Nat.add_comm]
theorem ba_ext {a b : ByteArray} (h : a.data.toList = b.data.toList) : a = b := by
  cases a; cases b
  simp at h
  rw [h]
theorem nm_tok {n : Int} {t : List UInt8} (h : Nm n t) : kindT ⟨t.toArray⟩ = 0 ∧ roleT ⟨t.toArray⟩ = 0 ∧ worthT ⟨t.toArray⟩ = n := by
  cases h with
  | pos _ a b c d =>
    match t, a, b, c, d with
    | x :: D, a, b, c, d =>
      have hx : dU x = true := by simp at a; exact a.1
      have hd1 : hd ⟨(x :: D).toArray⟩ = (x.toNat : Int) := rfl
      have hb : digB (x.toNat : Int) = true := hx
      obtain ⟨f1, f2, f3⟩ := dig_facts _ hb
      refine ⟨?_, ?_, ?_⟩
      · simp only [kindT, hd1, f1, f2, f3, hb, cond_false, Bool.false_or, cond_true]
      · simp only [roleT, hd1, f1, f2, f3, hb, cond_false, Bool.false_or, cond_true]
      · simp only [worthT, hd1, f3, hb, cond_false, cond_true]
  | neg D a b c d =>
    have hd1 : hd ⟨(95 :: D).toArray⟩ = 95 := rfl
    refine ⟨?_, ?_, ?_⟩
    · simp [kindT, hd1]
    · simp [roleT, hd1]
    · simp [worthT, hd1]
end Go.Proofs.YtjobgpahajhbnaaGreatDoor
namespace Go.Proofs.YtjobgpahajhbnaaGreatDoor
open Go.RowKit

theorem kB_tok {s : ByteArray} {L : List (Nat × Nat)} {i a b : Nat} (h : L[i]? = some (a, b)) (k : Int) : kB (kr (toks s L)) i k = (kindT (s.extract a b) == k) := by
  unfold kB
  rw [kr_toks]
  simp [tks, h]
theorem fB_tok {s : ByteArray} {L : List (Nat × Nat)} {i a b : Nat} (h : L[i]? = some (a, b)) (k : Int) : fB (kr (toks s L)) i k = roleB (roleT (s.extract a b)) k := by
  unfold fB
  rw [kr_toks]
  simp [tks, h]
theorem tokAt_tok {s : ByteArray} {L : List (Nat × Nat)} {i a b : Nat} (h : L[i]? = some (a, b)) : tokAt (toks s L) i = ⟨kindT (s.extract a b), roleT (s.extract a b), worthT (s.extract a b), s.extract a b, a⟩ := by
  unfold tokAt toks
  simp [List.getD_eq_getElem?_getD, h]
theorem ext_mid {s : ByteArray} {q t r : List UInt8} {p : Nat} (h : s.data.toList = q ++ (t ++ r)) (hq : q.length = p) : s.extract p (p + t.length) = ⟨t.toArray⟩ := by
  apply ba_ext
  rw [ext_list, h, ← hq]
  simp
theorem at_pre {pre post : List (Nat × Nat)} {z : Nat × Nat} : (pre ++ (z :: post))[pre.length]? = some z := by
  rw [List.getElem?_append_right (Nat.le_refl _)]; simp
theorem br_tok : kindT ⟨#[40]⟩ = 4 ∧ roleT ⟨#[40]⟩ = 0 ∧ kindT ⟨#[41]⟩ = 5 ∧ roleT ⟨#[41]⟩ = 0 := by decide
end Go.Proofs.YtjobgpahajhbnaaGreatDoor
