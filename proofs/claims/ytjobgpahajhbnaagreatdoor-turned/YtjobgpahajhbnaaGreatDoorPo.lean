import Derived.Test.YtjobgpahajhbnaaGreatDoorWj
import Derived.Test.YtjobgpahajhbnaaGreatDoorWb
namespace Go.Proofs.YtjobgpahajhbnaaGreatDoor
open Go.RowKit

def kindT (t : ByteArray) : Int :=
  bif hd t == 40 then 4 else bif hd t == 41 then 5 else bif hd t == 95 || digB (hd t) then 0 else bif letB (hd t) then wKind t else 3
def roleT (t : ByteArray) : Int :=
  bif hd t == 40 then 0 else bif hd t == 41 then 0 else bif hd t == 95 || digB (hd t) then 0 else bif letB (hd t) then wRole t else sRole t
/-- what a number is worth; of other tokens 0 -/
def worthT (t : ByteArray) : Int :=
  bif hd t == 95 then -(val (t.data.toList.drop 1) : Int) else bif digB (hd t) then (val t.data.toList : Int) else 0
def CutR (s : ByteArray) (e : Ending) : Prop := match tl s.data.toList with
  | some n => e = .returned (.tuple #[tokX (kindT (s.extract 0 n)) (roleT (s.extract 0 n)) (worthT (s.extract 0 n)) (s.extract 0 n) 0, .bool true])
  | none => ∃ k r t, e = .returned (.tuple #[tokV k r t 0, .bool false])
theorem cutR_some {s : ByteArray} {n : Nat} {e : Ending} (h : tl s.data.toList = some n) (he : e = .returned (.tuple #[tokX (kindT (s.extract 0 n)) (roleT (s.extract 0 n)) (worthT (s.extract 0 n)) (s.extract 0 n) 0, .bool true])) : CutR s e := by
  unfold CutR; rw [h]; exact he
theorem cutR_none {s : ByteArray} {e : Ending} (h : tl s.data.toList = none) {k r : Int} {t : ByteArray} (he : e = .returned (.tuple #[tokV k r t 0, .bool false])) : CutR s e := by
  unfold CutR; rw [h]; exact ⟨k, r, t, he⟩
theorem hd_ext (s : ByteArray) (n : Nat) (h : 0 < s.size) (hn : 0 < n) : hd (s.extract 0 n) = hd s := by
  unfold hd
  rw [ext_list]
  obtain ⟨⟨l⟩⟩ := s
  match l, n, h, hn with
  | c :: l, n + 1, _, _ => simp
theorem list_cons (s : ByteArray) (h : 0 < s.size) : s.data.toList = s[0] :: s.data.toList.drop 1 := by
  have := drop_cons s 0 h
  simpa using this
theorem low_dig (c : Int) (h : (c == 95) = true) : digB c = false := by
  have := beq_iff_eq.1 h; subst this; decide
theorem tl_low (s : ByteArray) (h0 : 0 < s.size) (h : ((s[0].toNat : Int) == 95) = true) : tl s.data.toList = numE 1 (s.data.toList.drop 1) := by
  have h1 : dU s[0] = false := low_dig _ h
  have h2 : (s[0] == 95) = true := (u8_eq s[0] 95 (by decide)).symm.trans h
  rw [list_cons s h0]
  simp only [tl, h1, h2, cond_true, cond_false, List.drop_succ_cons, List.drop_zero]
theorem tl_dig (s : ByteArray) (h0 : 0 < s.size) (h : digB (s[0].toNat : Int) = true) : tl s.data.toList = numE 0 s.data.toList := by
  have h1 : dU s[0] = true := h
  rw [list_cons s h0]
  simp only [tl, h1, cond_true]
theorem tl_word (s : ByteArray) (h0 : 0 < s.size) (h95 : ((s[0].toNat : Int) == 95) = false) (hd : digB (s[0].toNat : Int) = false) (hl : letB (s[0].toNat : Int) = true) : tl s.data.toList = wrdE s.data.toList := by
  have h1 : dU s[0] = false := hd
  have h2 : (s[0] == 95) = false := (u8_eq s[0] 95 (by decide)).symm.trans h95
  have h3 : lU s[0] = true := hl
  rw [list_cons s h0]
  simp only [tl, h1, h2, h3, cond_true, cond_false]
theorem br_facts (c : UInt8) (h : ((c.toNat : Int) == 40) = true ∨ ((c.toNat : Int) == 41) = true) : dU c = false ∧ (c == 95) = false ∧ lU c = false ∧ (c == 40 || c == 41) = true := by
  have e : c = 40 ∨ c = 41 := by
    rcases h with h | h
    · exact Or.inl (beq_iff_eq.1 ((u8_eq c 40 (by decide)).symm.trans h))
    · exact Or.inr (beq_iff_eq.1 ((u8_eq c 41 (by decide)).symm.trans h))
  rcases e with rfl | rfl <;> decide
theorem tl_br (s : ByteArray) (h0 : 0 < s.size) (h : ((s[0].toNat : Int) == 40) = true ∨ ((s[0].toNat : Int) == 41) = true) : tl s.data.toList = some 1 := by
  obtain ⟨h1, h2, h3, h4⟩ := br_facts _ h
  rw [list_cons s h0]
  simp only [tl, h1, h2, h3, h4, cond_true, cond_false]
theorem tl_rest (s : ByteArray) (h0 : 0 < s.size) (h40 : ((s[0].toNat : Int) == 40) = false) (h41 : ((s[0].toNat : Int) == 41) = false) (h95 : ((s[0].toNat : Int) == 95) = false) (hd : digB (s[0].toNat : Int) = false) (hl : letB (s[0].toNat : Int) = false) :
    tl s.data.toList = bif gU s[0] then some (sgnE (s.data.toList.drop 1)) else none := by
  have h1 : dU s[0] = false := hd
  have h2 : (s[0] == 95) = false := (u8_eq s[0] 95 (by decide)).symm.trans h95
  have h3 : lU s[0] = false := hl
  have h4 : (s[0] == 40 || s[0] == 41) = false := by
    rw [show (s[0] == 40) = false from (u8_eq s[0] 40 (by decide)).symm.trans h40, show (s[0] == 41) = false from (u8_eq s[0] 41 (by decide)).symm.trans h41]; rfl
  rw [list_cons s h0]
  simp only [tl, h1, h2, h3, h4, cond_false, List.drop_succ_cons, List.drop_zero]
end Go.Proofs.YtjobgpahajhbnaaGreatDoor
