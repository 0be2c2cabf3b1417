import Derived.Test.YtjobgpahajhbnaaGreatDoorPq
import Derived.Test.YtjobgpahajhbnaaGreatDoorPr
import Derived.Test.YtjobgpahajhbnaaGreatDoorSg
namespace Go.Proofs.YtjobgpahajhbnaaGreatDoor
open Go.RowKit

theorem owns_view {w : World} {B : Nat} {e : TypeId} {k : Nat} {v : Value} {n : Nat} {xs : List Value} (h : w.ownsRow B e k v n xs) :
    ∃ ao cap g, v = .slice ao n cap ∧ n ≤ cap ∧ (0 < n → ao = some ⟨g, 0, none⟩ ∧ g < w.heap.size) ∧ ∀ j, j < n * k → w.cell? ⟨g, j, none⟩ = xs[j]? := by
  obtain ⟨hl, ⟨rfl, rfl⟩ | ⟨g, cap, cur, rfl, hg, hc, hn, hm, hz, ht⟩⟩ := h
  · exact ⟨none, 0, 0, rfl, Nat.le_refl _, fun h => absurd h (by omega), fun j h => absurd h (by omega)⟩
  · have hw : w.ownsRow B e k (.slice (some ⟨g, 0, none⟩) n cap) n xs := ⟨hl, Or.inr ⟨g, cap, cur, rfl, hg, hc, hn, hm, hz, ht⟩⟩
    exact ⟨some ⟨g, 0, none⟩, cap, g, rfl, hn, fun _ => ⟨rfl, (hw.lt g rfl).2⟩, fun j hj => hw.cellAt j hj⟩
theorem flat2 {α : Type} (f g : α → Value) : ∀ (A : List α) (i : Nat) (h : i < A.length), (A.flatMap fun q => [f q, g q])[i * 2]? = some (f A[i]) ∧ (A.flatMap fun q => [f q, g q])[i * 2 + 1]? = some (g A[i])
  | q :: A, 0, _ => by simp
  | q :: A, i + 1, h => by
    have ih := flat2 f g A i (by simpa using h)
    have e1 : (i + 1) * 2 = (i * 2 + 1) + 1 := by omega
    rw [List.flatMap_cons, e1]
    simp only [List.cons_append, List.nil_append, List.getElem?_cons_succ, List.getElem_cons_succ]
    exact ih
theorem flat5 {α : Type} (f g p r t : α → Value) : ∀ (A : List α) (i : Nat) (h : i < A.length), (A.flatMap fun q => [f q, g q, p q, r q, t q])[i * 5]? = some (f A[i]) ∧ (A.flatMap fun q => [f q, g q, p q, r q, t q])[i * 5 + 1]? = some (g A[i]) ∧ (A.flatMap fun q => [f q, g q, p q, r q, t q])[i * 5 + 2]? = some (p A[i]) ∧ (A.flatMap fun q => [f q, g q, p q, r q, t q])[i * 5 + 3]? = some (r A[i]) ∧ (A.flatMap fun q => [f q, g q, p q, r q, t q])[i * 5 + 4]? = some (t A[i])
  | q :: A, 0, _ => by simp
  | q :: A, i + 1, h => by
    have ih := flat5 f g p r t A i (by simpa using h)
    have e1 : (i + 1) * 5 = (i * 5) + 1 + 1 + 1 + 1 + 1 := by omega
    have e2 : (i + 1) * 5 + 1 = (i * 5 + 1) + 1 + 1 + 1 + 1 + 1 := by omega
    have e3 : (i + 1) * 5 + 2 = (i * 5 + 2) + 1 + 1 + 1 + 1 + 1 := by omega
    have e4 : (i + 1) * 5 + 3 = (i * 5 + 3) + 1 + 1 + 1 + 1 + 1 := by omega
    have e5 : (i + 1) * 5 + 4 = (i * 5 + 4) + 1 + 1 + 1 + 1 + 1 := by omega
    rw [List.flatMap_cons, e5, e4, e3, e2, e1]
    simp only [List.cons_append, List.nil_append, List.getElem?_cons_succ, List.getElem_cons_succ]
    exact ih
/-- the tokens of a text -/
def toks (s : ByteArray) (A : List (Nat × Nat)) : List Tok := A.map fun q => ⟨kindT (s.extract q.1 q.2), roleT (s.extract q.1 q.2), worthT (s.extract q.1 q.2), s.extract q.1 q.2, q.1⟩
theorem toks_len (s : ByteArray) (A : List (Nat × Nat)) : (toks s A).length = A.length := by simp [toks]
def tks (s : ByteArray) (A : List (Nat × Nat)) : List (Int × Int) := A.map fun q => (kindT (s.extract q.1 q.2), roleT (s.extract q.1 q.2))
theorem tks_len (s : ByteArray) (A : List (Nat × Nat)) : (tks s A).length = A.length := by simp [tks]
theorem tks_at (s : ByteArray) (A : List (Nat × Nat)) (i : Nat) (h : i < (tks s A).length) : (tks s A)[i] = (kindT (s.extract (A[i]'(by rw [tks_len] at h; exact h)).1 (A[i]'(by rw [tks_len] at h; exact h)).2), roleT (s.extract (A[i]'(by rw [tks_len] at h; exact h)).1 (A[i]'(by rw [tks_len] at h; exact h)).2)) := by
  simp [tks]

theorem kr_toks (s : ByteArray) (A : List (Nat × Nat)) : kr (toks s A) = tks s A := by simp [kr, toks, tks]

/-- what every token is like -/
structure Vt (t : ByteArray) : Prop where
  pos : 0 < t.size
  few : t.size ≤ 200
  opn : (hd t == 40) = true → t.toList = [40]
  cls : (hd t == 41) = true → t.toList = [41]
  sgn : sgnB (hd t) = true → t.size ≤ 2
  any : (hd t == 40) = true ∨ (hd t == 41) = true ∨ (hd t == 95 || digB (hd t)) = true ∨ letB (hd t) = true ∨ sgnB (hd t) = true
def AllV (s : ByteArray) (A : List (Nat × Nat)) : Prop := ∀ q ∈ A, Vt (s.extract q.1 q.2)
theorem vt_one (t : ByteArray) (c : UInt8) (h1 : t.size = 1) (hc : hd t = (c.toNat : Int)) : t.toList = [c] := by
  rw [ByteArray.toList_eq]
  obtain ⟨⟨l⟩⟩ := t
  match l, h1 with
  | [d], _ =>
    simp [hd] at hc
    have : d = c := UInt8.toNat_inj.1 (by omega)
    rw [this]
theorem vt_tok (s : ByteArray) (p n : Nat) (hp : p < s.size) (hs : s.size ≤ 200) (h : tl (s.data.toList.drop p) = some n) : Vt (s.extract p (p + n)) := by
  have hbd := tl_bd h
  rw [len_drop] at hbd
  have hz : (s.extract p (p + n)).size = n := by rw [ByteArray.size_extract]; omega
  have hh : hd (s.extract p (p + n)) = (s[p].toNat : Int) := by
    unfold hd
    rw [ext_list, drop_cons s p hp]
    obtain ⟨k, rfl⟩ : ∃ k, n = k + 1 := ⟨n - 1, by omega⟩
    simp
  rw [drop_cons s p hp] at h
  have key : (((s[p].toNat : Int) == 40) = true → n = 1) ∧ (((s[p].toNat : Int) == 41) = true → n = 1) ∧ (sgnB (s[p].toNat : Int) = true → n ≤ 2) ∧
      (((s[p].toNat : Int) == 40) = true ∨ ((s[p].toNat : Int) == 41) = true ∨ ((s[p].toNat : Int) == 95 || digB (s[p].toNat : Int)) = true ∨ letB (s[p].toNat : Int) = true ∨ sgnB (s[p].toNat : Int) = true) := by
    generalize s[p] = c at h
    simp only [tl] at h
    have e40 := u8_eq c 40 (by decide)
    have e41 := u8_eq c 41 (by decide)
    have e95 := u8_eq c 95 (by decide)
    have e40' : ((c.toNat : Int) == 40) = (c == 40) := e40
    have e41' : ((c.toNat : Int) == 41) = (c == 41) := e41
    have e95' : ((c.toNat : Int) == 95) = (c == 95) := e95
    rw [e40', e41', e95']
    have ed : digB (c.toNat : Int) = dU c := rfl
    have el : letB (c.toNat : Int) = lU c := rfl
    have eg : sgnB (c.toNat : Int) = gU c := rfl
    rw [ed, el, eg]
    cases h1 : dU c
    · rw [h1, cond_false] at h
      cases h2 : (c == 95)
      · rw [h2, cond_false] at h
        cases h3 : lU c
        · rw [h3, cond_false] at h
          cases h4 : (c == 40 || c == 41)
          · rw [h4, cond_false] at h
            have h40 : (c == 40) = false := by cases hx : (c == 40) <;> simp [hx] at h4 ⊢
            have h41 : (c == 41) = false := by cases hx : (c == 41) <;> simp [hx] at h4 ⊢
            cases h5 : gU c
            · rw [h5, cond_false] at h; cases h
            · rw [h5, cond_true] at h
              injection h with h
              refine ⟨fun e => (by rw [h40] at e; cases e), fun e => (by rw [h41] at e; cases e), fun _ => ?_, by simp⟩
              subst h
              unfold sgnE
              split
              · omega
              · split <;> omega
          · rw [h4, cond_true] at h
            injection h with h
            refine ⟨fun _ => h.symm, fun _ => h.symm, fun _ => by omega, ?_⟩
            rcases Bool.or_eq_true_iff.1 h4 with hx | hx
            · exact Or.inl hx
            · exact Or.inr (Or.inl hx)
        · have q40 : (c == 40) = false := by cases hx : (c == 40); rfl; exact absurd h3 (by rw [beq_iff_eq.1 hx]; decide)
          have q41 : (c == 41) = false := by cases hx : (c == 41); rfl; exact absurd h3 (by rw [beq_iff_eq.1 hx]; decide)
          have qg : gU c = false := by
            simp [lU, letB] at h3
            simp [gU, sgnB]
            omega
          rw [q40, q41, qg]
          exact ⟨fun e => (by cases e), fun e => (by cases e), fun e => (by cases e), by simp⟩
      · have hc := beq_iff_eq.1 h2
        subst hc
        exact ⟨fun e => (by cases e), fun e => (by cases e), fun e => (by cases e), by simp⟩
    · have q40 : (c == 40) = false := by cases hx : (c == 40); rfl; exact absurd h1 (by rw [beq_iff_eq.1 hx]; decide)
      have q41 : (c == 41) = false := by cases hx : (c == 41); rfl; exact absurd h1 (by rw [beq_iff_eq.1 hx]; decide)
      have qg : gU c = false := by
        simp [dU, digB] at h1
        simp [gU, sgnB]
        omega
      rw [q40, q41, qg]
      exact ⟨fun e => (by cases e), fun e => (by cases e), fun e => (by cases e), by simp⟩
  obtain ⟨k1, k2, k3, k4⟩ := key
  refine ⟨by omega, by omega, ?_, ?_, ?_, ?_⟩
  · intro e
    rw [hh] at e
    exact vt_one _ 40 (by rw [hz]; exact k1 e) (by rw [hh]; exact beq_iff_eq.1 e)
  · intro e
    rw [hh] at e
    exact vt_one _ 41 (by rw [hz]; exact k2 e) (by rw [hh]; exact beq_iff_eq.1 e)
  · intro e
    rw [hh] at e
    rw [hz]
    exact k3 e
  · rw [hh]; exact k4
theorem lex_all (s : ByteArray) (hs : s.size ≤ 200) : ∀ (f p : Nat) (A : List (Nat × Nat)), AllV s A → AllV s (lexS s f p A).1
  | 0, _, _, h => h
  | f + 1, p, A, h => by
    unfold lexS
    split
    · rename_i hp
      cases hb : ((s[p].toNat : Int) == 32)
      · rw [cond_false]
        cases ht : tl (s.data.toList.drop p) with
        | none => intro q hq; cases hq
        | some n =>
          apply lex_all s hs f
          intro q hq
          rcases List.mem_append.1 hq with hq | hq
          · exact h q hq
          · rw [List.mem_singleton.1 hq]
            exact vt_tok s p n hp hs ht
      · rw [cond_true]
        exact lex_all s hs f _ _ h
    · exact h
theorem lexR_all (s : ByteArray) (hs : s.size ≤ 200) : AllV s (lexR s).1 := lex_all s hs _ _ _ (fun q hq => by cases hq)
end Go.Proofs.YtjobgpahajhbnaaGreatDoor
namespace Go.Proofs.YtjobgpahajhbnaaGreatDoor
open Go.RowKit

theorem roles_word (t : ByteArray) : amid unL t = roleB (wRole t) 1 ∧ amid biL t = roleB (wRole t) 2 := by
  unfold wRole
  simp only [unL, biL, amid_cons, amid_nil, ByteArray.toList_mk]
  generalize t.toList = l
  cases h0 : (l == [105, 111, 116, 97])
  rotate_left
  · first | (rw [beq_iff_eq.1 h0]; decide) | decide
  cases h1 : (l == [117, 112])
  rotate_left
  · first | (rw [beq_iff_eq.1 h1]; decide) | decide
  cases h2 : (l == [100, 111, 119, 110])
  rotate_left
  · first | (rw [beq_iff_eq.1 h2]; decide) | decide
  cases h3 : (l == [102, 108, 105, 112])
  rotate_left
  · first | (rw [beq_iff_eq.1 h3]; decide) | decide
  cases h4 : (l == [114, 97, 118, 101, 108])
  rotate_left
  · first | (rw [beq_iff_eq.1 h4]; decide) | decide
  cases h5 : (l == [114, 104, 111])
  rotate_left
  · first | (rw [beq_iff_eq.1 h5]; decide) | decide
  cases h6 : (l == [114, 101, 118])
  rotate_left
  · first | (rw [beq_iff_eq.1 h6]; decide) | decide
  cases h7 : (l == [116, 97, 107, 101])
  rotate_left
  · first | (rw [beq_iff_eq.1 h7]; decide) | decide
  cases h8 : (l == [100, 114, 111, 112])
  rotate_left
  · first | (rw [beq_iff_eq.1 h8]; decide) | decide
  cases h9 : (l == [99, 97, 116])
  rotate_left
  · first | (rw [beq_iff_eq.1 h9]; decide) | decide
  cases h10 : (l == [105, 110])
  rotate_left
  · first | (rw [beq_iff_eq.1 h10]; decide) | decide
  cases h11 : (l == [97, 116])
  rotate_left
  · first | (rw [beq_iff_eq.1 h11]; decide) | decide
  cases h12 : (l == [107, 101, 101, 112])
  rotate_left
  · first | (rw [beq_iff_eq.1 h12]; decide) | decide
  decide
theorem let_sgn (c : Int) (h : letB c = true) : sgnB c = false := by
  simp [letB] at h
  simp [sgnB]
  omega
theorem sgn_facts (c : Int) (h : sgnB c = true) : (c == 40) = false ∧ (c == 41) = false ∧ (c == 95) = false ∧ digB c = false ∧ letB c = false := by
  simp [sgnB] at h
  simp [digB, letB]
  omega
theorem toList_hd (t : ByteArray) (c : UInt8) (r : List UInt8) (h : t.toList = c :: r) : hd t = (c.toNat : Int) := by
  rw [ByteArray.toList_eq] at h
  unfold hd
  rw [h]
  rfl
theorem not_open (t : ByteArray) (h : (hd t == 40) = false) : (t.toList == [40]) = false := by
  rw [beq_eq_false_iff_ne]
  intro e
  rw [toList_hd t 40 [] e] at h
  exact absurd h (by decide)
theorem not_close (t : ByteArray) (h : (hd t == 41) = false) : (t.toList == [41]) = false := by
  rw [beq_eq_false_iff_ne]
  intro e
  rw [toList_hd t 41 [] e] at h
  exact absurd h (by decide)
theorem sign_one (t : ByteArray) (h1 : t.size = 1) (hg : sgnB (hd t) = true) : sRole t = (bif amid loL t then 3 else 2) := by
  obtain ⟨c, rfl⟩ : ∃ c, t = ⟨#[c]⟩ := by
    obtain ⟨⟨l⟩⟩ := t
    match l, h1 with
    | [c], _ => exact ⟨c, rfl⟩
  have hm : gU c = true := hg
  have hmem := (sgn_mem c).1 hm
  simp only [List.mem_cons, List.not_mem_nil, or_false] at hmem
  rcases hmem with rfl | rfl | rfl | rfl | rfl | rfl | rfl | rfl | rfl <;> (simp only [loL, amid_cons, amid_nil, ByteArray.toList_mk]; decide)
theorem sign_two (t : ByteArray) (h1 : t.size = 2) : sRole t = (bif snd t == 46 then 2 else 1) := by
  obtain ⟨c, d, rfl⟩ : ∃ c d, t = ⟨#[c, d]⟩ := by
    obtain ⟨⟨l⟩⟩ := t
    match l, h1 with
    | [c, d], _ => exact ⟨c, d, rfl⟩
  have e : Lib.hasSuffix [c, d] [46] = (d == 46) := by
    show ((46 : UInt8) == d && true) = (d == 46)
    rw [Bool.and_true]
    exact Bool.beq_comm
  have e2 : (snd ⟨#[c, d]⟩ == 46) = (d == 46) := u8_eq d 46 (by decide)
  unfold sRole
  rw [e2]
  show (bif Lib.hasSuffix [c, d] [46] then _ else _) = _
  rw [e]
  cases hd : (d == 46)
  · simp [ByteArray.size]
  · simp

theorem step4 (st op : Nat) (r : Int) : step st (4, r) op = if st = 0 ∧ op < 8 then some (0, op + 1) else none := by simp [step]
theorem step5 (st op : Nat) (r : Int) : step st (5, r) op = if st ≠ 0 ∧ 0 < op then some (2, op - 1) else none := by simp [step]
theorem step0 (st op : Nat) (r : Int) : step st (0, r) op = if st ≠ 2 then some (1, op) else none := by simp [step]
theorem step1 (st op : Nat) (r : Int) : step st (1, r) op = if st = 0 then some (2, op) else none := by simp [step]
theorem step2 (st op : Nat) (r : Int) : step st (2, r) op = if roleB r (if st = 0 then 1 else 2) = true then some (0, op) else none := by simp [step]
theorem step3 (st op : Nat) (r : Int) : step st (3, r) op = if roleB r (if st = 0 then 1 else 2) = true then some (0, op) else none := by simp [step]

/-- a token of the document's reader and the code's are one -/
theorem next_step (t : ByteArray) (hv : Vt t) (st op : Nat) (hst : st ≤ 2) :
    (nxB st t op = false → step st (kindT t, roleT t) op = none) ∧
    (nxB st t op = true → ∃ st' : Nat, nxS st t = (st' : Int) ∧ st' ≤ 2 ∧ step st (kindT t, roleT t) op = some (st', bif t.toList == [40] then op + 1 else bif t.toList == [41] then op - 1 else op) ∧ ((t.toList == [41]) = true → 0 < op)) := by
  have hs0 : (((st : Int)) == 0) = (st == 0) := by rw [Bool.eq_iff_iff]; simp
  have hs2 : (((st : Int)) == 2) = (st == 2) := by rw [Bool.eq_iff_iff]; simp; omega
  rcases Classical.em ((hd t == 40) = true) with h40 | h40
  · have hl := hv.opn h40
    have hh : hd t = 40 := beq_iff_eq.1 h40
    have a : numB t = false := by unfold numB; rw [hh]; rfl
    have b : namB t = false := by unfold namB; rw [hh]; rfl
    have k : kindT t = 4 := by unfold kindT; rw [h40]; rfl
    have e : (t.toList == [40]) = true := by rw [hl]; rfl
    have e1 : (t.toList == [41]) = false := by rw [hl]; rfl
    simp only [nxB, nxS, a, b, e, e1, cond_false, cond_true, k]
    refine ⟨fun h => ?_, fun h => ⟨0, rfl, by omega, ?_, fun h => by cases h⟩⟩
    · rw [step4, if_neg]
      intro hc
      rw [hs0] at h
      simp at h
      omega
    · rw [step4, if_pos]
      rw [hs0] at h
      simp at h
      omega
  have h40 : (hd t == 40) = false := by simpa using h40
  have n40 := not_open t h40
  rcases Classical.em ((hd t == 41) = true) with h41 | h41
  · have hl := hv.cls h41
    have hh : hd t = 41 := beq_iff_eq.1 h41
    have a : numB t = false := by unfold numB; rw [hh]; rfl
    have b : namB t = false := by unfold namB; rw [hh]; rfl
    have k : kindT t = 5 := by unfold kindT; rw [h40, h41]; rfl
    have e1 : (t.toList == [41]) = true := by rw [hl]; rfl
    simp only [nxB, nxS, a, b, n40, e1, cond_false, cond_true, k]
    refine ⟨fun h => ?_, fun h => ⟨2, rfl, by omega, ?_, fun _ => ?_⟩⟩
    · rw [step5, if_neg]
      intro hc
      simp [bne, hs0] at h
      omega
    · rw [step5, if_pos]
      simp [bne, hs0] at h
      omega
    · simp [bne, hs0] at h
      omega
  have h41 : (hd t == 41) = false := by simpa using h41
  have n41 := not_close t h41
  simp only [n40, n41, cond_false]
  rcases Classical.em ((hd t == 95 || digB (hd t)) = true) with hn | hn
  · have a : numB t = true := by unfold numB; rw [Bool.or_comm]; exact hn
    have k : kindT t = 0 := by unfold kindT; rw [h40, h41, hn]; rfl
    simp only [nxB, nxS, a, cond_true, k]
    refine ⟨fun h => ?_, fun h => ⟨1, rfl, by omega, ?_, fun h => by cases h⟩⟩
    · rw [step0, if_neg]
      simp [bne, hs2] at h
      omega
    · rw [step0, if_pos]
      simp [bne, hs2] at h
      omega
  have hn : (hd t == 95 || digB (hd t)) = false := by simpa using hn
  have a : numB t = false := by unfold numB; rw [Bool.or_comm]; exact hn
  rcases Classical.em (letB (hd t) = true) with hl | hl
  · have hg := let_sgn _ hl
    have k : kindT t = wKind t := by unfold kindT; rw [h40, h41, hn, hl]; rfl
    have r : roleT t = wRole t := by unfold roleT; rw [h40, h41, hn, hl]; rfl
    obtain ⟨ru, rb⟩ := roles_word t
    rw [k, r]
    cases hw : (wRole t != 0)
    · have hw0 : wRole t = 0 := by simpa using hw
      have hf : amid fnL t = false := by rw [fn_role, hw]
      have f : funB t = false := by unfold funB; rw [hf, hg]; rfl
      cases hi : (t.toList == [105, 115])
      · have b : namB t = true := by unfold namB; rw [hl, hf, hi]; rfl
        have kk : wKind t = 1 := by unfold wKind; rw [hw, hi]; rfl
        simp only [nxB, nxS, a, b, cond_false, cond_true, kk]
        refine ⟨fun h => ?_, fun h => ⟨2, rfl, by omega, ?_, fun h => by cases h⟩⟩
        · rw [step1, if_neg]
          rw [hs0] at h
          simpa using h
        · rw [step1, if_pos]
          rw [hs0] at h
          simpa using h
      · have b : namB t = false := by unfold namB; rw [hi]; simp
        have kk : wKind t = 2 := by unfold wKind; rw [hw, hi]; rfl
        simp only [nxB, nxS, a, b, n40, n41, f, cond_false, kk, hw0]
        refine ⟨fun _ => ?_, fun h => by cases h⟩
        rw [step2, if_neg]
        split
        · rw [role_zero1]; decide
        · rw [role_zero2]; decide
    · have hf : amid fnL t = true := by rw [fn_role, hw]
      have f : funB t = true := by unfold funB; rw [hf]; rfl
      have b : namB t = false := by unfold namB; rw [hf]; simp
      have kk : wKind t = 3 := by unfold wKind; rw [hw]; rfl
      simp only [nxB, nxS, a, b, n40, n41, f, cond_false, cond_true, kk, mayB, hg, ru, rb]
      have hx : (bif ((st : Int) != 0) then roleB (wRole t) 2 else roleB (wRole t) 1) = roleB (wRole t) (if st = 0 then 1 else 2) := by
        by_cases h0 : st = 0
        · subst h0; rfl
        · rw [if_neg h0, show ((st : Int) != 0) = true from by simp; omega]; rfl
      rw [hx]
      refine ⟨fun h => ?_, fun h => ⟨0, rfl, by omega, ?_, fun h => by cases h⟩⟩
      · rw [step3, h]
        rfl
      · rw [step3, h]
        rfl
  have hl : letB (hd t) = false := by simpa using hl
  have hg : sgnB (hd t) = true := by
    have := hv.any
    rw [h40, h41, hn, hl] at this
    simpa using this
  have k : kindT t = 3 := by unfold kindT; rw [h40, h41, hn, hl]; rfl
  have r : roleT t = sRole t := by unfold roleT; rw [h40, h41, hn, hl]; rfl
  have b : namB t = false := by unfold namB; rw [hl]; rfl
  have f : funB t = true := by unfold funB; rw [hg]; simp
  have hx : mayB t ((st : Int) != 0) = roleB (sRole t) (if st = 0 then 1 else 2) := by
    have h2 := hv.sgn hg
    have h1 := hv.pos
    unfold mayB
    rw [hg, cond_true]
    by_cases hz : t.size = 2
    · rw [show ((t.size : Int) == 2) = true from by simp [hz], cond_true, sign_two t hz]
      by_cases h0 : st = 0
      · subst h0
        cases (snd t == 46) <;> decide
      · rw [if_neg h0, show ((st : Int) != 0) = true from by simp; omega]
        cases (snd t == 46) <;> decide
    · rw [show ((t.size : Int) == 2) = false from by simp; omega, cond_false, sign_one t (by omega) hg]
      by_cases h0 : st = 0
      · subst h0
        cases amid loL t <;> decide
      · rw [if_neg h0, show ((st : Int) != 0) = true from by simp; omega]
        cases amid loL t <;> decide
  rw [k, r]
  simp only [nxB, nxS, a, b, n40, n41, f, cond_false, cond_true, hx]
  refine ⟨fun h => ?_, fun h => ⟨0, rfl, by omega, ?_, fun h => by cases h⟩⟩
  · rw [step3, h]
    rfl
  · rw [step3, h]
    rfl
end Go.Proofs.YtjobgpahajhbnaaGreatDoor
namespace Go.Proofs.YtjobgpahajhbnaaGreatDoor
open Go.RowKit

/-- the place of token j, or the text's length -/
def plc (s : ByteArray) (A : List (Nat × Nat)) (j : Nat) : Int := match A[j]? with
  | some q => (q.1 : Int)
  | none => (s.size : Int)
def pFin (s : ByteArray) (A : List (Nat × Nat)) (c : Nat × Nat × Nat) : Int × Int :=
  if c.1 = A.length ∧ c.2.1 ≠ 0 ∧ c.2.2 = 0 then (0, 0) else (3, plc s A c.1)
def parseP (s : ByteArray) : Int × Int :=
  if 200 < s.size then (1, 0) else if (lexR s).2 = -1 then pFin s (lexR s).1 (sc (tks s (lexR s).1) (beg (tks s (lexR s).1)) 0 0) else (2, (lexR s).2)
theorem lex_sign (s : ByteArray) : ∀ (f p : Nat) (A : List (Nat × Nat)), (lexS s f p A).2 = -1 ∨ (0 ≤ (lexS s f p A).2 ∧ (lexS s f p A).2 ≤ s.size)
  | 0, _, _ => Or.inl rfl
  | f + 1, p, A => by
    unfold lexS
    split
    · rename_i hp
      cases hb : ((s[p].toNat : Int) == 32)
      · rw [cond_false]
        cases ht : tl (s.data.toList.drop p) with
        | none =>
          right
          show (0 : Int) ≤ (p : Int) ∧ (p : Int) ≤ (s.size : Int)
          omega
        | some n => exact lex_sign s f _ _
      · rw [cond_true]
        exact lex_sign s f _ _
    · exact Or.inl rfl
theorem lex_few (s : ByteArray) : ∀ (f p : Nat) (A : List (Nat × Nat)), A.length ≤ p → p ≤ s.size → (lexS s f p A).1.length ≤ s.size
  | 0, _, A, h, hp => by show A.length ≤ _; omega
  | f + 1, p, A, h, hp => by
    unfold lexS
    split
    · rename_i hl
      cases hb : ((s[p].toNat : Int) == 32)
      · rw [cond_false]
        cases ht : tl (s.data.toList.drop p) with
        | none => show ([] : List (Nat × Nat)).length ≤ _; simp
        | some n =>
          have hbd := tl_bd ht
          rw [len_drop] at hbd
          exact lex_few s f _ _ (by simp; omega) (by omega)
      · rw [cond_true]
        exact lex_few s f _ _ (by omega) (by omega)
    · show A.length ≤ _; omega
theorem kind_is (t : ByteArray) : (kindT t == 2) = (t.toList == [105, 115]) := by
  cases hi : (t.toList == [105, 115])
  · unfold kindT wKind
    rw [hi]
    cases (hd t == 40) <;> cases (hd t == 41) <;> cases (hd t == 95 || digB (hd t)) <;> cases letB (hd t) <;> cases (wRole t != 0) <;> rfl
  · have hl := beq_iff_eq.1 hi
    have hh := toList_hd t 105 [115] hl
    have hw : wRole t = 0 := by unfold wRole; rw [hl]; rfl
    unfold kindT wKind
    rw [hi, hw, hh]
    rfl
theorem kind_name (t : ByteArray) : (kindT t == 1) = namB t := by
  unfold kindT wKind namB
  rw [fn_role]
  cases h40 : (hd t == 40)
  · cases h41 : (hd t == 41)
    · cases hn : (hd t == 95 || digB (hd t))
      · cases letB (hd t) <;> cases (wRole t != 0) <;> cases (t.toList == [105, 115]) <;> rfl
      · have : letB (hd t) = false := by
          simp [digB] at hn
          simp [letB]
          omega
        rw [this]; rfl
    · have := beq_iff_eq.1 h41
      rw [this]; rfl
  · have := beq_iff_eq.1 h40
    rw [this]; rfl
end Go.Proofs.YtjobgpahajhbnaaGreatDoor
