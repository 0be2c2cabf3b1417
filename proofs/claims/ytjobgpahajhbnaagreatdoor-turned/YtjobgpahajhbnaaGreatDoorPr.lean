import Derived.Test.YtjobgpahajhbnaaGreatDoorSb
namespace Go.Proofs.YtjobgpahajhbnaaGreatDoor
open Go.RowKit

/-- the state and the open brackets behind a token; none: it may not stand there -/
def step (st : Nat) (q : Int × Int) (op : Nat) : Option (Nat × Nat) :=
  if q.1 = 0 then (if st ≠ 2 then some (1, op) else none)
  else if q.1 = 1 then (if st = 0 then some (2, op) else none)
  else if q.1 = 4 then (if st = 0 ∧ op < 8 then some (0, op + 1) else none)
  else if q.1 = 5 then (if st ≠ 0 ∧ 0 < op then some (2, op - 1) else none)
  else if roleB q.2 (if st = 0 then 1 else 2) = true then some (0, op) else none
/-- where it ends: the place, the state, the open brackets -/
def scan : List (Int × Int) → Nat → Nat → Nat → Nat × Nat × Nat
  | [], j, st, op => (j, st, op)
  | q :: r, j, st, op => match step st q op with
    | none => (j, st, op)
    | some x => scan r (j + 1) x.1 x.2
def sc (T : List (Int × Int)) (j st op : Nat) : Nat × Nat × Nat := scan (T.drop j) j st op
def Wf (T : List (Int × Int)) : Prop := ∀ q ∈ T, q.1 = 0 ∨ q.1 = 1 ∨ q.1 = 4 ∨ q.1 = 5 → q.2 = 0

theorem sc_step {T : List (Int × Int)} {j st op st' op' : Nat} (h : j < T.length) (hs : step st T[j] op = some (st', op')) : sc T j st op = sc T (j + 1) st' op' := by
  unfold sc
  rw [List.drop_eq_getElem_cons h, scan, hs]
theorem sc_fail {T : List (Int × Int)} {j st op : Nat} (h : j < T.length) (hs : step st T[j] op = none) : sc T j st op = (j, st, op) := by
  unfold sc
  rw [List.drop_eq_getElem_cons h, scan, hs]
theorem sc_end {T : List (Int × Int)} {j st op : Nat} (h : T.length ≤ j) : sc T j st op = (j, st, op) := by
  unfold sc
  rw [List.drop_eq_nil_of_le h, scan]
theorem kB_lt {T : List (Int × Int)} {j : Nat} {k : Int} (h : kB T j k = true) : ∃ hj : j < T.length, T[j].1 = k := by
  unfold kB at h
  by_cases hj : j < T.length
  · rw [List.getElem?_eq_getElem hj] at h
    exact ⟨hj, beq_iff_eq.1 h⟩
  · rw [List.getElem?_eq_none (by omega)] at h
    cases h
theorem kB_no {T : List (Int × Int)} {j : Nat} {k : Int} (h : kB T j k = false) (hj : j < T.length) : T[j].1 ≠ k := by
  unfold kB at h
  rw [List.getElem?_eq_getElem hj] at h
  exact beq_eq_false_iff_ne.1 h
theorem role_zero1 : roleB 0 1 = false := by decide
theorem role_zero2 : roleB 0 2 = false := by decide
theorem fB_lt {T : List (Int × Int)} {j : Nat} {r : Int} (h : fB T j r = true) : ∃ hj : j < T.length, roleB T[j].2 r = true := by
  unfold fB at h
  by_cases hj : j < T.length
  · rw [List.getElem?_eq_getElem hj] at h
    exact ⟨hj, h⟩
  · rw [List.getElem?_eq_none (by omega)] at h
    cases h
theorem fB_no {T : List (Int × Int)} {j : Nat} {r : Int} (h : fB T j r = false) (hj : j < T.length) : roleB T[j].2 r = false := by
  unfold fB at h
  rw [List.getElem?_eq_getElem hj] at h
  exact h
theorem wf_fun {T : List (Int × Int)} {j : Nat} {r : Int} (hw : Wf T) (hj : j < T.length) (hr : roleB T[j].2 r = true) (h1 : r = 1 ∨ r = 2) : T[j].1 ≠ 0 ∧ T[j].1 ≠ 1 ∧ T[j].1 ≠ 4 ∧ T[j].1 ≠ 5 := by
  have key : ¬ (T[j].1 = 0 ∨ T[j].1 = 1 ∨ T[j].1 = 4 ∨ T[j].1 = 5) := by
    intro h
    have h0 := hw _ (List.getElem_mem hj) h
    rw [h0] at hr
    rcases h1 with rfl | rfl
    · rw [role_zero1] at hr; cases hr
    · rw [role_zero2] at hr; cases hr
  omega
/-- a function with no THING ahead -/
theorem sc_ahead {T : List (Int × Int)} {j op : Nat} (hw : Wf T) (h : fB T j 1 = true) : j < T.length ∧ sc T j 0 op = sc T (j + 1) 0 op := by
  obtain ⟨hj, hr⟩ := fB_lt h
  obtain ⟨a, b, c, d⟩ := wf_fun hw hj hr (Or.inl rfl)
  refine ⟨hj, sc_step hj ?_⟩
  simp only [step, a, b, c, d, if_false, if_true, hr]
theorem sc_between {T : List (Int × Int)} {j op st : Nat} (hw : Wf T) (hst : st ≠ 0) (h : fB T j 2 = true) : j < T.length ∧ sc T j st op = sc T (j + 1) 0 op := by
  obtain ⟨hj, hr⟩ := fB_lt h
  obtain ⟨a, b, c, d⟩ := wf_fun hw hj hr (Or.inr rfl)
  refine ⟨hj, sc_step hj ?_⟩
  simp only [step, a, b, c, d, if_false, hst, hr, if_true]
theorem sc_num {T : List (Int × Int)} {j op st : Nat} (hst : st ≠ 2) (h : kB T j 0 = true) : j < T.length ∧ sc T j st op = sc T (j + 1) 1 op := by
  obtain ⟨hj, hr⟩ := kB_lt h
  refine ⟨hj, sc_step hj ?_⟩
  simp only [step, hr, if_true, hst, ne_eq, not_false_eq_true]
theorem sc_name {T : List (Int × Int)} {j op : Nat} (h : kB T j 1 = true) : j < T.length ∧ sc T j 0 op = sc T (j + 1) 2 op := by
  obtain ⟨hj, hr⟩ := kB_lt h
  refine ⟨hj, sc_step hj ?_⟩
  simp [step, hr]
theorem sc_open {T : List (Int × Int)} {j op : Nat} (h : kB T j 4 = true) (ho : op < 8) : j < T.length ∧ sc T j 0 op = sc T (j + 1) 0 (op + 1) := by
  obtain ⟨hj, hr⟩ := kB_lt h
  refine ⟨hj, sc_step hj ?_⟩
  simp [step, hr, ho]
theorem sc_close {T : List (Int × Int)} {j op st : Nat} (hst : st ≠ 0) (h : kB T j 5 = true) : j < T.length ∧ sc T j st (op + 1) = sc T (j + 1) 2 op := by
  obtain ⟨hj, hr⟩ := kB_lt h
  refine ⟨hj, sc_step hj ?_⟩
  simp [step, hr, hst]
theorem stuck0 {T : List (Int × Int)} {j op : Nat} (h1 : fB T j 1 = false) (h2 : kB T j 0 = false) (h3 : kB T j 1 = false) (h4 : kB T j 4 = false ∨ 8 ≤ op) : sc T j 0 op = (j, 0, op) := by
  by_cases hj : j < T.length
  · apply sc_fail hj
    have a := kB_no h2 hj
    have b := kB_no h3 hj
    have c := fB_no h1 hj
    unfold step
    rw [if_neg a, if_neg b]
    by_cases h : T[j].1 = 4
    · rw [if_pos h, if_neg]
      rcases h4 with h4 | h4
      · exact absurd h (kB_no h4 hj)
      · omega
    · rw [if_neg h]
      by_cases h5 : T[j].1 = 5
      · rw [if_pos h5, if_neg (by omega)]
      · rw [if_neg h5, if_pos rfl, c, if_neg (by decide)]
  · exact sc_end (by omega)
theorem stuck {T : List (Int × Int)} {j op st : Nat} (hst : st = 1 ∨ st = 2) (hn : st = 1 → kB T j 0 = false) (h1 : fB T j 2 = false) (h5 : kB T j 5 = false ∨ op = 0) : sc T j st op = (j, st, op) := by
  by_cases hl : j < T.length
  · apply sc_fail hl
    have c := fB_no h1 hl
    unfold step
    by_cases h0 : T[j].1 = 0
    · rw [if_pos h0, if_neg]
      rcases hst with rfl | rfl
      · exact absurd h0 (kB_no (hn rfl) hl)
      · simp
    · rw [if_neg h0]
      by_cases e1 : T[j].1 = 1
      · rw [if_pos e1, if_neg (by omega)]
      · rw [if_neg e1]
        by_cases e4 : T[j].1 = 4
        · rw [if_pos e4, if_neg (by omega)]
        · rw [if_neg e4]
          by_cases e5 : T[j].1 = 5
          · rw [if_pos e5, if_neg]
            rcases h5 with h5 | h5
            · exact absurd e5 (kB_no h5 hl)
            · omega
          · have hs0 : ¬ st = 0 := by omega
            rw [if_neg e5]
            simp [hs0, c]
  · exact sc_end (by omega)
end Go.Proofs.YtjobgpahajhbnaaGreatDoor
