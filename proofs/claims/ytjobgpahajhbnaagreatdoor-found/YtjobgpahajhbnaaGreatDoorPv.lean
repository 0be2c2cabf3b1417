import Derived.Test.YtjobgpahajhbnaaGreatDoorPu
import Derived.Test.YtjobgpahajhbnaaGreatDoorSg
namespace Go.Proofs.YtjobgpahajhbnaaGreatDoor
open Go.RowKit

/-- the place of token j, or the text's length -/
def plc (s : ByteArray) (A : List (Nat × Nat)) (j : Nat) : Int := match A[j]? with
  | some q => (q.1 : Int)
  | none => (s.size : Int)
def pFin (s : ByteArray) (A : List (Nat × Nat)) (c : Nat × Nat × Nat) : Int × Int :=
  if c.1 = A.length ∧ c.2.1 ≠ 0 ∧ c.2.2 = 0 then (0, 0) else (3, plc s A c.1)
def parseP (s : ByteArray) : Int × Int :=
  if 200 < s.size then (1, 0) else if (lexR s).2 = -1 then pFin s (lexR s).1 (sc (tks s (lexR s).1) (beg (tks s (lexR s).1)) 0 0) else (2, (lexR s).2)
theorem lex_sign (s : ByteArray) : ∀ (f p : Nat) (A : List (Nat × Nat)), (lexS s f p A).2 = -1 ∨ (0 ≤ (lexS s f p A).2 ∧ (lexS s f p A).2 ≤ s.size)
  | 0, _, _ => Or.inl rfl
  | f + 1, p, A => by
    unfold lexS
    split
    · rename_i hp
      cases hb : ((s[p].toNat : Int) == 32)
      · rw [cond_false]
        cases ht : tl (s.data.toList.drop p) with
        | none =>
          right
          show (0 : Int) ≤ (p : Int) ∧ (p : Int) ≤ (s.size : Int)
          omega
        | some n => exact lex_sign s f _ _
      · rw [cond_true]
        exact lex_sign s f _ _
    · exact Or.inl rfl
theorem lex_few (s : ByteArray) : ∀ (f p : Nat) (A : List (Nat × Nat)), A.length ≤ p → p ≤ s.size → (lexS s f p A).1.length ≤ s.size
  | 0, _, A, h, hp => by show A.length ≤ _; omega
  | f + 1, p, A, h, hp => by
    unfold lexS
    split
    · rename_i hl
      cases hb : ((s[p].toNat : Int) == 32)
      · rw [cond_false]
        cases ht : tl (s.data.toList.drop p) with
        | none => show ([] : List (Nat × Nat)).length ≤ _; simp
        | some n =>
          have hbd := tl_bd ht
          rw [len_drop] at hbd
          exact lex_few s f _ _ (by simp; omega) (by omega)
      · rw [cond_true]
        exact lex_few s f _ _ (by omega) (by omega)
    · show A.length ≤ _; omega
theorem kind_is (t : ByteArray) : (kindT t == 2) = (t.toList == [105, 115]) := by
  cases hi : (t.toList == [105, 115])
  · unfold kindT wKind
    rw [hi]
    cases (hd t == 40) <;> cases (hd t == 41) <;> cases (hd t == 95 || digB (hd t)) <;> cases letB (hd t) <;> cases (wRole t != 0) <;> rfl
  · have hl := beq_iff_eq.1 hi
    have hh := toList_hd t 105 [115] hl
    have hw : wRole t = 0 := by unfold wRole; rw [hl]; rfl
    unfold kindT wKind
    rw [hi, hw, hh]
    rfl
theorem kind_name (t : ByteArray) : (kindT t == 1) = namB t := by
  unfold kindT wKind namB
  rw [fn_role]
  cases h40 : (hd t == 40)
  · cases h41 : (hd t == 41)
    · cases hn : (hd t == 95 || digB (hd t))
      · cases letB (hd t) <;> cases (wRole t != 0) <;> cases (t.toList == [105, 115]) <;> rfl
      · have : letB (hd t) = false := by
          simp [digB] at hn
          simp [letB]
          omega
        rw [this]; rfl
    · have := beq_iff_eq.1 h41
      rw [this]; rfl
  · have := beq_iff_eq.1 h40
    rw [this]; rfl
end Go.Proofs.YtjobgpahajhbnaaGreatDoor
