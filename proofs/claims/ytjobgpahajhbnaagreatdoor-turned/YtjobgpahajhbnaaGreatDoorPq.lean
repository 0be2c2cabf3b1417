import Derived.Test.YtjobgpahajhbnaaGreatDoorWl
import Derived.Test.YtjobgpahajhbnaaGreatDoorWb
namespace Go.Proofs.YtjobgpahajhbnaaGreatDoor
open Go.RowKit

/-- the tokens of a text from place p on, as pairs of places; the place at which none begins, or -1 -/
def lexS (s : ByteArray) : Nat → Nat → List (Nat × Nat) → List (Nat × Nat) × Int
  | 0, _, A => (A, -1)
  | f + 1, p, A => if h : p < s.size then (bif (s[p].toNat : Int) == 32 then lexS s f (p + 1) A else match tl (s.data.toList.drop p) with
    | none => ([], p)
    | some n => lexS s f (p + n) (A ++ [(p, p + n)])) else (A, -1)
def lexR (s : ByteArray) : List (Nat × Nat) × Int := lexS s s.size 0 []
theorem lex_end (s : ByteArray) (f p : Nat) (A : List (Nat × Nat)) (h : s.size ≤ p) : lexS s f p A = (A, -1) := by
  cases f with
  | zero => rfl
  | succ f => unfold lexS; rw [dif_neg (by omega)]
theorem lex_blank (s : ByteArray) (f p : Nat) (A : List (Nat × Nat)) (h : p < s.size) (hb : ((s[p].toNat : Int) == 32) = true) : lexS s (f + 1) p A = lexS s f (p + 1) A := by
  rw [lexS]; rw [dif_pos h, hb, cond_true]
theorem lex_bad (s : ByteArray) (f p : Nat) (A : List (Nat × Nat)) (h : p < s.size) (hb : ((s[p].toNat : Int) == 32) = false) (ht : tl (s.data.toList.drop p) = none) : lexS s (f + 1) p A = ([], (p : Int)) := by
  rw [lexS]; rw [dif_pos h, hb, cond_false, ht]
theorem lex_tok (s : ByteArray) (f p n : Nat) (A : List (Nat × Nat)) (h : p < s.size) (hb : ((s[p].toNat : Int) == 32) = false) (ht : tl (s.data.toList.drop p) = some n) : lexS s (f + 1) p A = lexS s f (p + n) (A ++ [(p, p + n)]) := by
  rw [lexS]; rw [dif_pos h, hb, cond_false, ht]
theorem numE_bd {k n : Nat} {l : List UInt8} (h : numE k l = some n) : 1 ≤ n ∧ n ≤ k + l.length := by
  have hl := tw_le dU l
  simp only [numE] at h
  split at h
  · cases h
  · injection h with h; omega
theorem tl_bd {l : List UInt8} {n : Nat} (h : tl l = some n) : 1 ≤ n ∧ n ≤ l.length := by
  match l with
  | [] => cases h
  | c :: r =>
    simp only [tl] at h
    cases h1 : dU c
    · rw [h1, cond_false] at h
      cases h2 : (c == 95)
      · rw [h2, cond_false] at h
        cases h3 : lU c
        · rw [h3, cond_false] at h
          cases h4 : (c == 40 || c == 41)
          · rw [h4, cond_false] at h
            cases h5 : gU c
            · rw [h5, cond_false] at h; cases h
            · rw [h5, cond_true] at h
              injection h with h
              subst h
              unfold sgnE
              split
              · simp
              · split <;> simp
          · rw [h4, cond_true] at h
            injection h with h
            simp; omega
        · rw [h3, cond_true] at h
          have hl := tw_le lU (c :: r)
          have hp : 1 ≤ ((c :: r).takeWhile lU).length := by rw [List.takeWhile, h3]; simp
          simp only [wrdE] at h
          split at h
          · cases h
          · injection h with h; omega
      · rw [h2, cond_true] at h
        have := numE_bd h
        simp; omega
    · rw [h1, cond_true] at h
      have := numE_bd h
      omega
theorem rch_some {s : ByteArray} {p n : Nat} (h : tl (s.data.toList.drop p) = some n) : rch s p = ((p + n : Nat) : Int) := by unfold rch; rw [h]
theorem rch_none {s : ByteArray} {p : Nat} (h : tl (s.data.toList.drop p) = none) : rch s p = -1 := by unfold rch; rw [h]
def cellsR (s : ByteArray) (A : List (Nat × Nat)) : List Value := A.flatMap fun q => [.string (s.extract q.1 q.2), .int .i64 q.1]
def cellsC (s : ByteArray) (A : List (Nat × Nat)) : List Value := A.flatMap fun q => [.int .i64 (kindT (s.extract q.1 q.2)), .int .i64 (roleT (s.extract q.1 q.2)), .int .i64 (worthT (s.extract q.1 q.2)), .string (s.extract q.1 q.2), .int .i64 q.1]
theorem cellsR_snoc (s : ByteArray) (A : List (Nat × Nat)) (a b : Nat) : cellsR s (A ++ [(a, b)]) = cellsR s A ++ [.string (s.extract a b), .int .i64 a] := by
  simp [cellsR, List.flatMap_append]
theorem cellsC_snoc (s : ByteArray) (A : List (Nat × Nat)) (a b : Nat) : cellsC s (A ++ [(a, b)]) = cellsC s A ++ [.int .i64 (kindT (s.extract a b)), .int .i64 (roleT (s.extract a b)), .int .i64 (worthT (s.extract a b)), .string (s.extract a b), .int .i64 a] := by
  simp [cellsC, List.flatMap_append]
theorem below_grown {w w' : World} (h : Below w.heap.size w w') : w.grownBy w' none := ⟨h.os, h.tape, h.output, h.size, fun k hk _ => h.block k hk⟩
theorem owns_below {w w' : World} {B : Nat} {e : TypeId} {k : Nat} {v : Value} {n : Nat} {xs : List Value} (h : w.ownsRow B e k v n xs) (hb : Below w.heap.size w w') : w'.ownsRow B e k v n xs :=
  h.kept (below_grown hb) (by cases v.ownBlock <;> simp)
theorem tail_ext (s : ByteArray) (p n : Nat) (hp : p + n ≤ s.size) : (s.extract p s.size).extract 0 n = s.extract p (p + n) := by
  have : ∀ a b : ByteArray, a.data.toList = b.data.toList → a = b := by
    intro a b h
    obtain ⟨⟨a⟩⟩ := a
    obtain ⟨⟨b⟩⟩ := b
    simp at h
    rw [h]
  apply this
  rw [ext_list, ext_list, ext_list]
  simp
  rw [List.take_take]
  congr 1
  omega
theorem tail_list (s : ByteArray) (p : Nat) : (s.extract p s.size).data.toList = s.data.toList.drop p := by
  rw [ext_list, List.take_of_length_le (by rw [len_drop]; omega)]
end Go.Proofs.YtjobgpahajhbnaaGreatDoor
