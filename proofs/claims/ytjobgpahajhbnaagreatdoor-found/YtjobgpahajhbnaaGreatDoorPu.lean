import Derived.Test.YtjobgpahajhbnaaGreatDoorPt
namespace Go.Proofs.YtjobgpahajhbnaaGreatDoor
open Go.RowKit

theorem roles_word (t : ByteArray) : amid unL t = roleB (wRole t) 1 ∧ amid biL t = roleB (wRole t) 2 := by
  unfold wRole
  simp only [unL, biL, amid_cons, amid_nil, ByteArray.toList_mk]
  generalize t.toList = l
  cases h0 : (l == [105, 111, 116, 97])
  rotate_left
  · first | (rw [beq_iff_eq.1 h0]; decide) | decide
  cases h1 : (l == [117, 112])
  rotate_left
  · first | (rw [beq_iff_eq.1 h1]; decide) | decide
  cases h2 : (l == [100, 111, 119, 110])
  rotate_left
  · first | (rw [beq_iff_eq.1 h2]; decide) | decide
  cases h3 : (l == [102, 108, 105, 112])
  rotate_left
  · first | (rw [beq_iff_eq.1 h3]; decide) | decide
  cases h4 : (l == [114, 97, 118, 101, 108])
  rotate_left
  · first | (rw [beq_iff_eq.1 h4]; decide) | decide
  cases h5 : (l == [114, 104, 111])
  rotate_left
  · first | (rw [beq_iff_eq.1 h5]; decide) | decide
  cases h6 : (l == [114, 101, 118])
  rotate_left
  · first | (rw [beq_iff_eq.1 h6]; decide) | decide
  cases h7 : (l == [116, 97, 107, 101])
  rotate_left
  · first | (rw [beq_iff_eq.1 h7]; decide) | decide
  cases h8 : (l == [100, 114, 111, 112])
  rotate_left
  · first | (rw [beq_iff_eq.1 h8]; decide) | decide
  cases h9 : (l == [99, 97, 116])
  rotate_left
  · first | (rw [beq_iff_eq.1 h9]; decide) | decide
  cases h10 : (l == [105, 110])
  rotate_left
  · first | (rw [beq_iff_eq.1 h10]; decide) | decide
  cases h11 : (l == [97, 116])
  rotate_left
  · first | (rw [beq_iff_eq.1 h11]; decide) | decide
  cases h12 : (l == [107, 101, 101, 112])
  rotate_left
  · first | (rw [beq_iff_eq.1 h12]; decide) | decide
  decide
theorem let_sgn (c : Int) (h : letB c = true) : sgnB c = false := by
  simp [letB] at h
  simp [sgnB]
  omega
theorem sgn_facts (c : Int) (h : sgnB c = true) : (c == 40) = false ∧ (c == 41) = false ∧ (c == 95) = false ∧ digB c = false ∧ letB c = false := by
  simp [sgnB] at h
  simp [digB, letB]
  omega
theorem toList_hd (t : ByteArray) (c : UInt8) (r : List UInt8) (h : t.toList = c :: r) : hd t = (c.toNat : Int) := by
  rw [ByteArray.toList_eq] at h
  unfold hd
  rw [h]
  rfl
theorem not_open (t : ByteArray) (h : (hd t == 40) = false) : (t.toList == [40]) = false := by
  rw [beq_eq_false_iff_ne]
  intro e
  rw [toList_hd t 40 [] e] at h
  exact absurd h (by decide)
theorem not_close (t : ByteArray) (h : (hd t == 41) = false) : (t.toList == [41]) = false := by
  rw [beq_eq_false_iff_ne]
  intro e
  rw [toList_hd t 41 [] e] at h
  exact absurd h (by decide)
theorem sign_one (t : ByteArray) (h1 : t.size = 1) (hg : sgnB (hd t) = true) : sRole t = (bif amid loL t then 3 else 2) := by
  obtain ⟨c, rfl⟩ : ∃ c, t = ⟨#[c]⟩ := by
    obtain ⟨⟨l⟩⟩ := t
    match l, h1 with
    | [c], _ => exact ⟨c, rfl⟩
  have hm : gU c = true := hg
  have hmem := (sgn_mem c).1 hm
  simp only [List.mem_cons, List.not_mem_nil, or_false] at hmem
  rcases hmem with rfl | rfl | rfl | rfl | rfl | rfl | rfl | rfl | rfl <;> (simp only [loL, amid_cons, amid_nil, ByteArray.toList_mk]; decide)
theorem sign_two (t : ByteArray) (h1 : t.size = 2) : sRole t = (bif snd t == 46 then 2 else 1) := by
  obtain ⟨c, d, rfl⟩ : ∃ c d, t = ⟨#[c, d]⟩ := by
    obtain ⟨⟨l⟩⟩ := t
    match l, h1 with
    | [c, d], _ => exact ⟨c, d, rfl⟩
  have e : Lib.hasSuffix [c, d] [46] = (d == 46) := by
    show ((46 : UInt8) == d && true) = (d == 46)
    rw [Bool.and_true]
    exact Bool.beq_comm
  have e2 : (snd ⟨#[c, d]⟩ == 46) = (d == 46) := u8_eq d 46 (by decide)
  unfold sRole
  rw [e2]
  show (bif Lib.hasSuffix [c, d] [46] then _ else _) = _
  rw [e]
  cases hd : (d == 46)
  · simp [ByteArray.size]
  · simp

theorem step4 (st op : Nat) (r : Int) : step st (4, r) op = if st = 0 ∧ op < 8 then some (0, op + 1) else none := by simp [step]
theorem step5 (st op : Nat) (r : Int) : step st (5, r) op = if st ≠ 0 ∧ 0 < op then some (2, op - 1) else none := by simp [step]
theorem step0 (st op : Nat) (r : Int) : step st (0, r) op = if st ≠ 2 then some (1, op) else none := by simp [step]
theorem step1 (st op : Nat) (r : Int) : step st (1, r) op = if st = 0 then some (2, op) else none := by simp [step]
theorem step2 (st op : Nat) (r : Int) : step st (2, r) op = if roleB r (if st = 0 then 1 else 2) = true then some (0, op) else none := by simp [step]
theorem step3 (st op : Nat) (r : Int) : step st (3, r) op = if roleB r (if st = 0 then 1 else 2) = true then some (0, op) else none := by simp [step]

/-- a token of the document's reader and the code's are one -/
theorem next_step (t : ByteArray) (hv : Vt t) (st op : Nat) (hst : st ≤ 2) :
    (nxB st t op = false → step st (kindT t, roleT t) op = none) ∧
    (nxB st t op = true → ∃ st' : Nat, nxS st t = (st' : Int) ∧ st' ≤ 2 ∧ step st (kindT t, roleT t) op = some (st', bif t.toList == [40] then op + 1 else bif t.toList == [41] then op - 1 else op) ∧ ((t.toList == [41]) = true → 0 < op)) := by
  have hs0 : (((st : Int)) == 0) = (st == 0) := by rw [Bool.eq_iff_iff]; simp
  have hs2 : (((st : Int)) == 2) = (st == 2) := by rw [Bool.eq_iff_iff]; simp; omega
  rcases Classical.em ((hd t == 40) = true) with h40 | h40
  · have hl := hv.opn h40
    have hh : hd t = 40 := beq_iff_eq.1 h40
    have a : numB t = false := by unfold numB; rw [hh]; rfl
    have b : namB t = false := by unfold namB; rw [hh]; rfl
    have k : kindT t = 4 := by unfold kindT; rw [h40]; rfl
    have e : (t.toList == [40]) = true := by rw [hl]; rfl
    have e1 : (t.toList == [41]) = false := by rw [hl]; rfl
    simp only [nxB, nxS, a, b, e, e1, cond_false, cond_true, k]
    refine ⟨fun h => ?_, fun h => ⟨0, rfl, by omega, ?_, fun h => by cases h⟩⟩
    · rw [step4, if_neg]
      intro hc
      rw [hs0] at h
      simp at h
      omega
    · rw [step4, if_pos]
      rw [hs0] at h
      simp at h
      omega
  have h40 : (hd t == 40) = false := by simpa using h40
  have n40 := not_open t h40
  rcases Classical.em ((hd t == 41) = true) with h41 | h41
  · have hl := hv.cls h41
    have hh : hd t = 41 := beq_iff_eq.1 h41
    have a : numB t = false := by unfold numB; rw [hh]; rfl
    have b : namB t = false := by unfold namB; rw [hh]; rfl
    have k : kindT t = 5 := by unfold kindT; rw [h40, h41]; rfl
    have e1 : (t.toList == [41]) = true := by rw [hl]; rfl
    simp only [nxB, nxS, a, b, n40, e1, cond_false, cond_true, k]
    refine ⟨fun h => ?_, fun h => ⟨2, rfl, by omega, ?_, fun _ => ?_⟩⟩
    · rw [step5, if_neg]
      intro hc
      simp [bne, hs0] at h
      omega
    · rw [step5, if_pos]
      simp [bne, hs0] at h
      omega
    · simp [bne, hs0] at h
      omega
  have h41 : (hd t == 41) = false := by simpa using h41
  have n41 := not_close t h41
  simp only [n40, n41, cond_false]
  rcases Classical.em ((hd t == 95 || digB (hd t)) = true) with hn | hn
  · have a : numB t = true := by unfold numB; rw [Bool.or_comm]; exact hn
    have k : kindT t = 0 := by unfold kindT; rw [h40, h41, hn]; rfl
    simp only [nxB, nxS, a, cond_true, k]
    refine ⟨fun h => ?_, fun h => ⟨1, rfl, by omega, ?_, fun h => by cases h⟩⟩
    · rw [step0, if_neg]
      simp [bne, hs2] at h
      omega
    · rw [step0, if_pos]
      simp [bne, hs2] at h
      omega
  have hn : (hd t == 95 || digB (hd t)) = false := by simpa using hn
  have a : numB t = false := by unfold numB; rw [Bool.or_comm]; exact hn
  rcases Classical.em (letB (hd t) = true) with hl | hl
  · have hg := let_sgn _ hl
    have k : kindT t = wKind t := by unfold kindT; rw [h40, h41, hn, hl]; rfl
    have r : roleT t = wRole t := by unfold roleT; rw [h40, h41, hn, hl]; rfl
    obtain ⟨ru, rb⟩ := roles_word t
    rw [k, r]
    cases hw : (wRole t != 0)
    · have hw0 : wRole t = 0 := by simpa using hw
      have hf : amid fnL t = false := by rw [fn_role, hw]
      have f : funB t = false := by unfold funB; rw [hf, hg]; rfl
      cases hi : (t.toList == [105, 115])
      · have b : namB t = true := by unfold namB; rw [hl, hf, hi]; rfl
        have kk : wKind t = 1 := by unfold wKind; rw [hw, hi]; rfl
        simp only [nxB, nxS, a, b, cond_false, cond_true, kk]
        refine ⟨fun h => ?_, fun h => ⟨2, rfl, by omega, ?_, fun h => by cases h⟩⟩
        · rw [step1, if_neg]
          rw [hs0] at h
          simpa using h
        · rw [step1, if_pos]
          rw [hs0] at h
          simpa using h
      · have b : namB t = false := by unfold namB; rw [hi]; simp
        have kk : wKind t = 2 := by unfold wKind; rw [hw, hi]; rfl
        simp only [nxB, nxS, a, b, n40, n41, f, cond_false, kk, hw0]
        refine ⟨fun _ => ?_, fun h => by cases h⟩
        rw [step2, if_neg]
        split
        · rw [role_zero1]; decide
        · rw [role_zero2]; decide
    · have hf : amid fnL t = true := by rw [fn_role, hw]
      have f : funB t = true := by unfold funB; rw [hf]; rfl
      have b : namB t = false := by unfold namB; rw [hf]; simp
      have kk : wKind t = 3 := by unfold wKind; rw [hw]; rfl
      simp only [nxB, nxS, a, b, n40, n41, f, cond_false, cond_true, kk, mayB, hg, ru, rb]
      have hx : (bif ((st : Int) != 0) then roleB (wRole t) 2 else roleB (wRole t) 1) = roleB (wRole t) (if st = 0 then 1 else 2) := by
        by_cases h0 : st = 0
        · subst h0; rfl
        · rw [if_neg h0, show ((st : Int) != 0) = true from by simp; omega]; rfl
      rw [hx]
      refine ⟨fun h => ?_, fun h => ⟨0, rfl, by omega, ?_, fun h => by cases h⟩⟩
      · rw [step3, h]
        rfl
      · rw [step3, h]
        rfl
  have hl : letB (hd t) = false := by simpa using hl
  have hg : sgnB (hd t) = true := by
    have := hv.any
    rw [h40, h41, hn, hl] at this
    simpa using this
  have k : kindT t = 3 := by unfold kindT; rw [h40, h41, hn, hl]; rfl
  have r : roleT t = sRole t := by unfold roleT; rw [h40, h41, hn, hl]; rfl
  have b : namB t = false := by unfold namB; rw [hl]; rfl
  have f : funB t = true := by unfold funB; rw [hg]; simp
  have hx : mayB t ((st : Int) != 0) = roleB (sRole t) (if st = 0 then 1 else 2) := by
    have h2 := hv.sgn hg
    have h1 := hv.pos
    unfold mayB
    rw [hg, cond_true]
    by_cases hz : t.size = 2
    · rw [show ((t.size : Int) == 2) = true from by simp [hz], cond_true, sign_two t hz]
      by_cases h0 : st = 0
      · subst h0
        cases (snd t == 46) <;> decide
      · rw [if_neg h0, show ((st : Int) != 0) = true from by simp; omega]
        cases (snd t == 46) <;> decide
    · rw [show ((t.size : Int) == 2) = false from by simp; omega, cond_false, sign_one t (by omega) hg]
      by_cases h0 : st = 0
      · subst h0
        cases amid loL t <;> decide
      · rw [if_neg h0, show ((st : Int) != 0) = true from by simp; omega]
        cases amid loL t <;> decide
  rw [k, r]
  simp only [nxB, nxS, a, b, n40, n41, f, cond_false, cond_true, hx]
  refine ⟨fun h => ?_, fun h => ⟨0, rfl, by omega, ?_, fun h => by cases h⟩⟩
  · rw [step3, h]
    rfl
  · rw [step3, h]
    rfl
end Go.Proofs.YtjobgpahajhbnaaGreatDoor
