import Derived.Test.YtjobgpahajhbnaaGreatDoorPq
import Derived.Test.YtjobgpahajhbnaaGreatDoorPr
namespace Go.Proofs.YtjobgpahajhbnaaGreatDoor
open Go.RowKit

theorem owns_view {w : World} {B : Nat} {e : TypeId} {k : Nat} {v : Value} {n : Nat} {xs : List Value} (h : w.ownsRow B e k v n xs) :
    ∃ ao cap g, v = .slice ao n cap ∧ n ≤ cap ∧ (0 < n → ao = some ⟨g, 0, none⟩ ∧ g < w.heap.size) ∧ ∀ j, j < n * k → w.cell? ⟨g, j, none⟩ = xs[j]? := by
  obtain ⟨hl, ⟨rfl, rfl⟩ | ⟨g, cap, cur, rfl, hg, hc, hn, hm, hz, ht⟩⟩ := h
  · exact ⟨none, 0, 0, rfl, Nat.le_refl _, fun h => absurd h (by omega), fun j h => absurd h (by omega)⟩
  · have hw : w.ownsRow B e k (.slice (some ⟨g, 0, none⟩) n cap) n xs := ⟨hl, Or.inr ⟨g, cap, cur, rfl, hg, hc, hn, hm, hz, ht⟩⟩
    exact ⟨some ⟨g, 0, none⟩, cap, g, rfl, hn, fun _ => ⟨rfl, (hw.lt g rfl).2⟩, fun j hj => hw.cellAt j hj⟩
theorem flat2 {α : Type} (f g : α → Value) : ∀ (A : List α) (i : Nat) (h : i < A.length), (A.flatMap fun q => [f q, g q])[i * 2]? = some (f A[i]) ∧ (A.flatMap fun q => [f q, g q])[i * 2 + 1]? = some (g A[i])
  | q :: A, 0, _ => by simp
  | q :: A, i + 1, h => by
    have ih := flat2 f g A i (by simpa using h)
    have e1 : (i + 1) * 2 = (i * 2 + 1) + 1 := by omega
    rw [List.flatMap_cons, e1]
    simp only [List.cons_append, List.nil_append, List.getElem?_cons_succ, List.getElem_cons_succ]
    exact ih
theorem flat5 {α : Type} (f g p r t : α → Value) : ∀ (A : List α) (i : Nat) (h : i < A.length), (A.flatMap fun q => [f q, g q, p q, r q, t q])[i * 5]? = some (f A[i]) ∧ (A.flatMap fun q => [f q, g q, p q, r q, t q])[i * 5 + 1]? = some (g A[i]) ∧ (A.flatMap fun q => [f q, g q, p q, r q, t q])[i * 5 + 2]? = some (p A[i]) ∧ (A.flatMap fun q => [f q, g q, p q, r q, t q])[i * 5 + 3]? = some (r A[i]) ∧ (A.flatMap fun q => [f q, g q, p q, r q, t q])[i * 5 + 4]? = some (t A[i])
  | q :: A, 0, _ => by simp
  | q :: A, i + 1, h => by
    have ih := flat5 f g p r t A i (by simpa using h)
    have e1 : (i + 1) * 5 = (i * 5) + 1 + 1 + 1 + 1 + 1 := by omega
    have e2 : (i + 1) * 5 + 1 = (i * 5 + 1) + 1 + 1 + 1 + 1 + 1 := by omega
    have e3 : (i + 1) * 5 + 2 = (i * 5 + 2) + 1 + 1 + 1 + 1 + 1 := by omega
    have e4 : (i + 1) * 5 + 3 = (i * 5 + 3) + 1 + 1 + 1 + 1 + 1 := by omega
    have e5 : (i + 1) * 5 + 4 = (i * 5 + 4) + 1 + 1 + 1 + 1 + 1 := by omega
    rw [List.flatMap_cons, e5, e4, e3, e2, e1]
    simp only [List.cons_append, List.nil_append, List.getElem?_cons_succ, List.getElem_cons_succ]
    exact ih
/-- the tokens of a text -/
def toks (s : ByteArray) (A : List (Nat × Nat)) : List Tok := A.map fun q => ⟨kindT (s.extract q.1 q.2), roleT (s.extract q.1 q.2), worthT (s.extract q.1 q.2), s.extract q.1 q.2, q.1⟩
theorem toks_len (s : ByteArray) (A : List (Nat × Nat)) : (toks s A).length = A.length := by simp [toks]
def tks (s : ByteArray) (A : List (Nat × Nat)) : List (Int × Int) := A.map fun q => (kindT (s.extract q.1 q.2), roleT (s.extract q.1 q.2))
theorem tks_len (s : ByteArray) (A : List (Nat × Nat)) : (tks s A).length = A.length := by simp [tks]
theorem tks_at (s : ByteArray) (A : List (Nat × Nat)) (i : Nat) (h : i < (tks s A).length) : (tks s A)[i] = (kindT (s.extract (A[i]'(by rw [tks_len] at h; exact h)).1 (A[i]'(by rw [tks_len] at h; exact h)).2), roleT (s.extract (A[i]'(by rw [tks_len] at h; exact h)).1 (A[i]'(by rw [tks_len] at h; exact h)).2)) := by
  simp [tks]

theorem kr_toks (s : ByteArray) (A : List (Nat × Nat)) : kr (toks s A) = tks s A := by simp [kr, toks, tks]

/-- what every token is like -/
structure Vt (t : ByteArray) : Prop where
  pos : 0 < t.size
  few : t.size ≤ 200
  opn : (hd t == 40) = true → t.toList = [40]
  cls : (hd t == 41) = true → t.toList = [41]
  sgn : sgnB (hd t) = true → t.size ≤ 2
  any : (hd t == 40) = true ∨ (hd t == 41) = true ∨ (hd t == 95 || digB (hd t)) = true ∨ letB (hd t) = true ∨ sgnB (hd t) = true
def AllV (s : ByteArray) (A : List (Nat × Nat)) : Prop := ∀ q ∈ A, Vt (s.extract q.1 q.2)
theorem vt_one (t : ByteArray) (c : UInt8) (h1 : t.size = 1) (hc : hd t = (c.toNat : Int)) : t.toList = [c] := by
  rw [ByteArray.toList_eq]
  obtain ⟨⟨l⟩⟩ := t
  match l, h1 with
  | [d], _ =>
    simp [hd] at hc
    have : d = c := UInt8.toNat_inj.1 (by omega)
    rw [this]
theorem vt_tok (s : ByteArray) (p n : Nat) (hp : p < s.size) (hs : s.size ≤ 200) (h : tl (s.data.toList.drop p) = some n) : Vt (s.extract p (p + n)) := by
  have hbd := tl_bd h
  rw [len_drop] at hbd
  have hz : (s.extract p (p + n)).size = n := by rw [ByteArray.size_extract]; omega
  have hh : hd (s.extract p (p + n)) = (s[p].toNat : Int) := by
    unfold hd
    rw [ext_list, drop_cons s p hp]
    obtain ⟨k, rfl⟩ : ∃ k, n = k + 1 := ⟨n - 1, by omega⟩
    simp
  rw [drop_cons s p hp] at h
  have key : (((s[p].toNat : Int) == 40) = true → n = 1) ∧ (((s[p].toNat : Int) == 41) = true → n = 1) ∧ (sgnB (s[p].toNat : Int) = true → n ≤ 2) ∧
      (((s[p].toNat : Int) == 40) = true ∨ ((s[p].toNat : Int) == 41) = true ∨ ((s[p].toNat : Int) == 95 || digB (s[p].toNat : Int)) = true ∨ letB (s[p].toNat : Int) = true ∨ sgnB (s[p].toNat : Int) = true) := by
    generalize s[p] = c at h
    simp only [tl] at h
    have e40 := u8_eq c 40 (by decide)
    have e41 := u8_eq c 41 (by decide)
    have e95 := u8_eq c 95 (by decide)
    have e40' : ((c.toNat : Int) == 40) = (c == 40) := e40
    have e41' : ((c.toNat : Int) == 41) = (c == 41) := e41
    have e95' : ((c.toNat : Int) == 95) = (c == 95) := e95
    rw [e40', e41', e95']
    have ed : digB (c.toNat : Int) = dU c := rfl
    have el : letB (c.toNat : Int) = lU c := rfl
    have eg : sgnB (c.toNat : Int) = gU c := rfl
    rw [ed, el, eg]
    cases h1 : dU c
    · rw [h1, cond_false] at h
      cases h2 : (c == 95)
      · rw [h2, cond_false] at h
        cases h3 : lU c
        · rw [h3, cond_false] at h
          cases h4 : (c == 40 || c == 41)
          · rw [h4, cond_false] at h
            have h40 : (c == 40) = false := by cases hx : (c == 40) <;> simp [hx] at h4 ⊢
            have h41 : (c == 41) = false := by cases hx : (c == 41) <;> simp [hx] at h4 ⊢
            cases h5 : gU c
            · rw [h5, cond_false] at h; cases h
            · rw [h5, cond_true] at h
              injection h with h
              refine ⟨fun e => (by rw [h40] at e; cases e), fun e => (by rw [h41] at e; cases e), fun _ => ?_, by simp⟩
              subst h
              unfold sgnE
              split
              · omega
              · split <;> omega
          · rw [h4, cond_true] at h
            injection h with h
            refine ⟨fun _ => h.symm, fun _ => h.symm, fun _ => by omega, ?_⟩
            rcases Bool.or_eq_true_iff.1 h4 with hx | hx
            · exact Or.inl hx
            · exact Or.inr (Or.inl hx)
        · have q40 : (c == 40) = false := by cases hx : (c == 40); rfl; exact absurd h3 (by rw [beq_iff_eq.1 hx]; decide)
          have q41 : (c == 41) = false := by cases hx : (c == 41); rfl; exact absurd h3 (by rw [beq_iff_eq.1 hx]; decide)
          have qg : gU c = false := by
            simp [lU, letB] at h3
            simp [gU, sgnB]
            omega
          rw [q40, q41, qg]
          exact ⟨fun e => (by cases e), fun e => (by cases e), fun e => (by cases e), by simp⟩
      · have hc := beq_iff_eq.1 h2
        subst hc
        exact ⟨fun e => (by cases e), fun e => (by cases e), fun e => (by cases e), by simp⟩
    · have q40 : (c == 40) = false := by cases hx : (c == 40); rfl; exact absurd h1 (by rw [beq_iff_eq.1 hx]; decide)
      have q41 : (c == 41) = false := by cases hx : (c == 41); rfl; exact absurd h1 (by rw [beq_iff_eq.1 hx]; decide)
      have qg : gU c = false := by
        simp [dU, digB] at h1
        simp [gU, sgnB]
        omega
      rw [q40, q41, qg]
      exact ⟨fun e => (by cases e), fun e => (by cases e), fun e => (by cases e), by simp⟩
  obtain ⟨k1, k2, k3, k4⟩ := key
  refine ⟨by omega, by omega, ?_, ?_, ?_, ?_⟩
  · intro e
    rw [hh] at e
    exact vt_one _ 40 (by rw [hz]; exact k1 e) (by rw [hh]; exact beq_iff_eq.1 e)
  · intro e
    rw [hh] at e
    exact vt_one _ 41 (by rw [hz]; exact k2 e) (by rw [hh]; exact beq_iff_eq.1 e)
  · intro e
    rw [hh] at e
    rw [hz]
    exact k3 e
  · rw [hh]; exact k4
theorem lex_all (s : ByteArray) (hs : s.size ≤ 200) : ∀ (f p : Nat) (A : List (Nat × Nat)), AllV s A → AllV s (lexS s f p A).1
  | 0, _, _, h => h
  | f + 1, p, A, h => by
    unfold lexS
    split
    · rename_i hp
      cases hb : ((s[p].toNat : Int) == 32)
      · rw [cond_false]
        cases ht : tl (s.data.toList.drop p) with
        | none => intro q hq; cases hq
        | some n =>
          apply lex_all s hs f
          intro q hq
          rcases List.mem_append.1 hq with hq | hq
          · exact h q hq
          · rw [List.mem_singleton.1 hq]
            exact vt_tok s p n hp hs ht
      · rw [cond_true]
        exact lex_all s hs f _ _ h
    · exact h
theorem lexR_all (s : ByteArray) (hs : s.size ≤ 200) : AllV s (lexR s).1 := lex_all s hs _ _ _ (fun q hq => by cases hq)
end Go.Proofs.YtjobgpahajhbnaaGreatDoor
