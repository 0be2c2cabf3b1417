import Derived.Test.YtjobgpahajhbnaaGreatDoorWa
namespace Go.Proofs.YtjobgpahajhbnaaGreatDoor
open Go.RowKit

def dU (c : UInt8) : Bool := digB c.toNat
def lU (c : UInt8) : Bool := letB c.toNat
def gU (c : UInt8) : Bool := sgnB c.toNat
def val (l : List UInt8) : Nat := l.foldl (fun n c => 10 * n + (c.toNat - 48)) 0
def isFn (t : List UInt8) : Bool := amid fnL ⟨t.toArray⟩
def numE (k : Nat) (l : List UInt8) : Option Nat :=
  let ds := l.takeWhile dU
  if 19 < ds.length ∨ ds.length = 0 ∨ 9223372036854775807 < val ds then none else some (k + ds.length)
def wrdE (l : List UInt8) : Option Nat :=
  let n := (l.takeWhile lU).length
  if 4 < n ∧ isFn (l.take n) = false then none else some n
def tailU (c : UInt8) : Bool := c == 47 || c == 92 || c == 46
def sgnE (r : List UInt8) : Nat := match r with
  | [] => 1
  | d :: _ => if tailU d then 2 else 1
/-- how long the token is with which a text begins -/
def tl (l : List UInt8) : Option Nat := match l with
  | [] => none
  | c :: r => bif dU c then numE 0 (c :: r) else bif c == 95 then numE 1 r else bif lU c then wrdE (c :: r) else bif c == 40 || c == 41 then some 1 else bif gU c then some (sgnE r) else none

theorem all_snoc {p : UInt8 → Bool} {l : List UInt8} {j : Nat} {c : UInt8} (h : l[j]? = some c) (ha : (l.take j).all p = true) (hc : p c = true) : (l.take (j + 1)).all p = true := by
  rw [List.take_add_one, h]
  simp [ha, hc]
theorem take_snoc {l : List UInt8} {j : Nat} {c : UInt8} (h : l[j]? = some c) : l.take (j + 1) = l.take j ++ [c] := by
  rw [List.take_add_one, h]; rfl
theorem tw_stop {p : UInt8 → Bool} : ∀ {l : List UInt8} {j : Nat}, (l.take j).all p = true → (∀ c, l[j]? = some c → p c = false) → l.takeWhile p = l.take j
  | [], j, _, _ => by simp
  | c :: r, 0, _, h2 => by simp [List.takeWhile, h2 c rfl]
  | c :: r, j + 1, h1, h2 => by
    simp at h1
    simp only [List.takeWhile, h1.1, List.take_succ_cons]
    rw [tw_stop (l := r) (j := j) (by simpa using h1.2) (by simpa using h2)]
theorem tw_long {p : UInt8 → Bool} : ∀ {l : List UInt8} {j : Nat}, (l.take j).all p = true → j ≤ l.length → j ≤ (l.takeWhile p).length
  | [], j, _, h => by simp at h; subst h; simp
  | c :: r, 0, _, _ => by simp
  | c :: r, j + 1, h1, h2 => by
    simp at h1 h2
    simp only [List.takeWhile, h1.1, List.length_cons]
    have := tw_long (p := p) (l := r) (j := j) (by simpa using h1.2) h2
    omega
theorem val_snoc (l : List UInt8) (c : UInt8) : val (l ++ [c]) = 10 * val l + (c.toNat - 48) := by
  simp [val, List.foldl_append]
theorem val_lt : ∀ (n : Nat) (l : List UInt8), l.length = n → l.all dU = true → val l < 10 ^ n
  | 0, l, h, _ => by
    have : l = [] := List.length_eq_zero_iff.1 h
    subst this; decide
  | n + 1, l, h, ha => by
    have hne : l ≠ [] := by intro e; subst e; simp at h
    obtain ⟨r, c, rfl⟩ : ∃ r c, l = r ++ [c] := ⟨l.dropLast, l.getLast hne, (List.dropLast_concat_getLast hne).symm⟩
    simp at h ha
    have h1 := val_lt n r h (by simpa using ha.1)
    have h2 : dU c = true := ha.2
    rw [val_snoc]
    simp [dU, digB] at h2
    rw [Nat.pow_succ]
    omega
theorem at_drop (s : ByteArray) (f j : Nat) (h : f + j < s.size) : (s.data.toList.drop f)[j]? = some (s[f + j]'h) := by
  rw [List.getElem?_drop]
  rw [List.getElem?_eq_getElem (by simpa using h)]
  rfl
theorem at_drop_none (s : ByteArray) (f j : Nat) (h : s.size ≤ f + j) : (s.data.toList.drop f)[j]? = none := by
  rw [List.getElem?_drop]
  exact List.getElem?_eq_none (by simpa using h)
theorem drop_cons (s : ByteArray) (a : Nat) (h : a < s.size) : s.data.toList.drop a = s[a] :: s.data.toList.drop (a + 1) := by
  rw [List.drop_eq_getElem_cons (by simpa using h)]
  rfl
theorem len_drop (s : ByteArray) (f : Nat) : (s.data.toList.drop f).length = s.size - f := by
  rw [List.length_drop]; simp
theorem take_len (s : ByteArray) (f j : Nat) (h : f + j ≤ s.size) : ((s.data.toList.drop f).take j).length = j := by
  rw [List.length_take, len_drop]; omega
theorem ext_list (s : ByteArray) (a b : Nat) : (s.extract a b).data.toList = (s.data.toList.drop a).take (b - a) := by
  rw [ByteArray.data_extract, Array.toList_extract]
theorem amid_congr {L : List ByteArray} {t u : ByteArray} (h : t.data.toList = u.data.toList) : amid L t = amid L u := by
  unfold amid
  simp only [ByteArray.toList_eq, h]
end Go.Proofs.YtjobgpahajhbnaaGreatDoor
