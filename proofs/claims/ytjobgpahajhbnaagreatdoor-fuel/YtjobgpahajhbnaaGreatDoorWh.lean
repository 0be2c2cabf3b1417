import Derived.Test.YtjobgpahajhbnaaGreatDoorWa
import Derived.Deep.QuietTactic
import Derived.BigQuiet
import Derived.Deep.RegionHeld3
namespace Go.Proofs.YtjobgpahajhbnaaGreatDoor
open Go.RowKit

theorem ix_yes : ∀ (l : List UInt8) (c : UInt8), c ∈ l → 0 ≤ Lib.indexByte l c
  | b :: l, c, h => by
    unfold Lib.indexByte
    by_cases e : (b == c) = true
    · rw [if_pos e]; decide
    · rw [if_neg e]
      have hm : c ∈ l := by
        rcases List.mem_cons.1 h with h | h
        · exact absurd (beq_iff_eq.2 h.symm) e
        · exact h
      have := ix_yes l c hm
      have h2 : ¬ (Lib.indexByte l c == -1) = true := by rw [beq_iff_eq]; omega
      rw [if_neg h2]; omega
theorem ix_no : ∀ (l : List UInt8) (c : UInt8), c ∉ l → Lib.indexByte l c = -1
  | [], _, _ => rfl
  | b :: l, c, h => by
    unfold Lib.indexByte
    have h1 : ¬ (b == c) = true := by
      intro e
      exact h (List.mem_cons.2 (Or.inl (beq_iff_eq.1 e).symm))
    rw [if_neg h1]
    have := ix_no l c (fun hm => h (List.mem_cons.2 (Or.inr hm)))
    rw [this]
    rfl
theorem u8_back (c : UInt8) : ((c.toNat : Int).toNat.toUInt8) = c := by
  simp
theorem tail_mem (c : UInt8) : tailU c = true ↔ c ∈ ([47, 92, 46] : List UInt8) := by
  simp [tailU, or_assoc]
theorem ixTail_yes (c : UInt8) (w : World) (h : tailU c = true) :
    Calls Tryz.prog 147 #[.string ⟨#[47, 92, 46]⟩, .int .u8 c.toNat] w fun e w' => ∃ v : Int, 0 ≤ v ∧ e = .returned (.int .i64 v) ∧ w' = w := by
  refine (Tryz.strings_IndexByte _ _ w).mono ?_
  rintro e w' ⟨rfl, rfl⟩
  refine ⟨_, ?_, rfl, rfl⟩
  rw [u8_back]
  exact ix_yes _ _ ((tail_mem c).1 h)
theorem ixTail_no (c : UInt8) (w : World) (h : tailU c = false) :
    Calls Tryz.prog 147 #[.string ⟨#[47, 92, 46]⟩, .int .u8 c.toNat] w fun e w' => e = .returned (.int .i64 (-1)) ∧ w' = w := by
  refine (Tryz.strings_IndexByte _ _ w).mono ?_
  rintro e w' ⟨rfl, rfl⟩
  refine ⟨ret_int ?_, rfl⟩
  rw [u8_back]
  exact ix_no _ _ (fun hm => by rw [(tail_mem c).2 hm] at h; cases h)
theorem sgn_mem (c : UInt8) : gU c = true ↔ c ∈ ([43, 45, 42, 37, 124, 38, 33, 61, 60] : List UInt8) := by
  have e : ∀ n : Nat, n < 256 → (((c.toNat : Int) = (n : Int)) ↔ c = UInt8.ofNat n) := by
    intro n hn
    constructor
    · intro h
      apply UInt8.toNat_inj.1
      rw [UInt8.toNat_ofNat_of_lt' (by simpa using hn)]
      omega
    · intro h
      rw [h, UInt8.toNat_ofNat_of_lt' (by simpa using hn)]
  have e1 := e 43 (by decide)
  have e2 := e 45 (by decide)
  have e3 := e 42 (by decide)
  have e4 := e 37 (by decide)
  have e5 := e 124 (by decide)
  have e6 := e 38 (by decide)
  have e7 := e 33 (by decide)
  have e8 := e 61 (by decide)
  have e9 := e 60 (by decide)
  unfold gU sgnB
  rw [decide_eq_true_iff]
  simp only [List.mem_cons, List.not_mem_nil, or_false]
  exact (or_congr e1 (or_congr e2 (or_congr e3 (or_congr e4 (or_congr e5 (or_congr e6 (or_congr e7 (or_congr e8 e9))))))))
theorem ixSgn_yes (c : UInt8) (w : World) (h : gU c = true) :
    Calls Tryz.prog 147 #[.string ⟨#[43, 45, 42, 37, 124, 38, 33, 61, 60]⟩, .int .u8 c.toNat] w fun e w' => ∃ v : Int, 0 ≤ v ∧ e = .returned (.int .i64 v) ∧ w' = w := by
  refine (Tryz.strings_IndexByte _ _ w).mono ?_
  rintro e w' ⟨rfl, rfl⟩
  refine ⟨_, ?_, rfl, rfl⟩
  rw [u8_back]
  exact ix_yes _ _ ((sgn_mem c).1 h)
theorem ixSgn_no (c : UInt8) (w : World) (h : gU c = false) :
    Calls Tryz.prog 147 #[.string ⟨#[43, 45, 42, 37, 124, 38, 33, 61, 60]⟩, .int .u8 c.toNat] w fun e w' => e = .returned (.int .i64 (-1)) ∧ w' = w := by
  refine (Tryz.strings_IndexByte _ _ w).mono ?_
  rintro e w' ⟨rfl, rfl⟩
  refine ⟨ret_int ?_, rfl⟩
  rw [u8_back]
  exact ix_no _ _ (fun hm => by rw [(sgn_mem c).2 hm] at h; cases h)

/-- the roles of a sign -/
def sRole (t : ByteArray) : Int :=
  bif Lib.hasSuffix t.data.toList [46] then 2 else bif decide (1 < t.size) then 1 else bif decide (0 ≤ Lib.indexByte [43, 45, 42, 124] (t.data.toList.headD 0)) then 3 else 2

set_option maxHeartbeats 400000 in
theorem signRoles_any (t : ByteArray) (w : World) (h0 : 0 < t.size) (hs : t.size ≤ 200) :
    Calls Tryz.prog 174 #[.string t] w fun e w' => e = .returned (.int .i64 (sRole t)) ∧ w' = w := by
  cases hx : Lib.hasSuffix t.data.toList [46]
  · have HX := hide hx
    by_cases h1 : 1 < t.size
    · go_enter Tryz.func174, Tryz.ntmps174
      go_wp2_with fail
      refine (Tryz.strings_HasSuffix _ _ _ (by omega)).mono ?_
      rintro e w' ⟨rfl, rfl⟩
      go_wp2_with fail
      go_ret
      exact ⟨ret_int (by simp [sRole, unhide HX, h1]), rfl⟩
    · obtain ⟨c, rfl⟩ : ∃ c, t = ⟨#[c]⟩ := by
        obtain ⟨⟨l⟩⟩ := t
        match l, h0, h1 with
        | [c], _, _ => exact ⟨c, rfl⟩
        | c :: d :: l, _, h1 => exact absurd (show 1 < (c :: d :: l).length by simp) h1
      cases hi : decide (0 ≤ Lib.indexByte [43, 45, 42, 124] c)
      all_goals
        have HI := hide hi
        go_enter Tryz.func174, Tryz.ntmps174
        go_wp2_with fail
        refine (Tryz.strings_HasSuffix _ _ _ (by omega)).mono ?_
        rintro e w' ⟨rfl, rfl⟩
        go_wp2_with fail
        refine (Tryz.strings_Contains_one _ _ _).mono ?_
        rintro e w' ⟨rfl, rfl⟩
        go_wp2_with fail
        go_ret
        refine ⟨ret_int ?_, rfl⟩
        simp only [sRole]
        rw [unhide HX]
        simp [ByteArray.size, unhide HI]
  · have HX := hide hx
    go_enter Tryz.func174, Tryz.ntmps174
    go_wp2_with fail
    refine (Tryz.strings_HasSuffix _ _ _ (by omega)).mono ?_
    rintro e w' ⟨rfl, rfl⟩
    go_wp2_with fail
    go_ret
    exact ⟨ret_int (by simp [sRole, unhide HX]), rfl⟩
end Go.Proofs.YtjobgpahajhbnaaGreatDoor
namespace Go.Proofs.YtjobgpahajhbnaaGreatDoor
open Go.RowKit

def tokX (k r x : Int) (t : ByteArray) (p : Int) : Value := .agg #[.int .i64 k, .int .i64 r, .int .i64 x, .string t, .int .i64 p]
structure Tok where
  k : Int
  r : Int
  x : Int
  t : ByteArray
  p : Nat
def Tok.v (q : Tok) : Value := tokX q.k q.r q.x q.t q.p
/-- the reader lies in block W0.heap.size; below it all is as in W0 -/
structure Rd (W0 : World) (tk : Value) (j o : Nat) (w : World) : Prop where
  below : Below W0.heap.size W0 w
  tok : w.cell? ⟨W0.heap.size, 0, none⟩ = some tk
  nxt : w.cell? ⟨W0.heap.size, 1, none⟩ = some (.int .i64 j)
  opn : w.cell? ⟨W0.heap.size, 2, none⟩ = some (.int .i64 o)
  fr1 : w.frozen? ⟨W0.heap.size, 1, none⟩ = false
  fr2 : w.frozen? ⟨W0.heap.size, 2, none⟩ = false
  lt : W0.heap.size < w.heap.size
/-- the tokens of the slice lie in W0 -/
structure TokIn (W0 : World) (ao : Option Addr) (tb : Nat) (S : List Tok) : Prop where
  few : S.length ≤ 200
  addr : 0 < S.length → ao = some ⟨tb, 0, none⟩ ∧ tb < W0.heap.size
  cell : ∀ i, (h : i < S.length) → W0.cell? ⟨tb, i * 5, none⟩ = some (.int .i64 S[i].k) ∧ W0.cell? ⟨tb, i * 5 + 1, none⟩ = some (.int .i64 S[i].r) ∧ W0.cell? ⟨tb, i * 5 + 2, none⟩ = some (.int .i64 S[i].x) ∧ W0.cell? ⟨tb, i * 5 + 3, none⟩ = some (.string S[i].t) ∧ W0.cell? ⟨tb, i * 5 + 4, none⟩ = some (.int .i64 S[i].p)
def kr (S : List Tok) : List (Int × Int) := S.map fun q => (q.k, q.r)
theorem kr_len (S : List Tok) : (kr S).length = S.length := by simp [kr]
def roleB (a b : Int) : Bool := bits BinOp.and IntKind.i64 a b != 0
/-- does a function stand at j that has this role? -/
def fB (T : List (Int × Int)) (j : Nat) (role : Int) : Bool := match T[j]? with
  | some q => roleB q.2 role
  | none => false
/-- does a token of this kind stand at j? -/
def kB (T : List (Int × Int)) (j : Nat) (kind : Int) : Bool := match T[j]? with
  | some q => q.1 == kind
  | none => false

set_option maxHeartbeats 400000 in
theorem cl_role (q : Tok) (role : Int) (B : Nat) (w : World) (hB : B < w.heap.size) (hc : w.cell? ⟨B, 0, none⟩ = some (.int .i64 role)) :
    Calls Tryz.prog 216 #[q.v, .pointer (some ⟨B, 0, none⟩)] w fun e w' => e = .returned (.bool (roleB q.r role)) ∧ Below w.heap.size w w' := by
  obtain ⟨k, r, x, t, p⟩ := q
  unfold Tok.v tokX
  go_enter Tryz.func216, Tryz.ntmps216
  go_wp2
  go_ret
  exact ⟨rfl, (Below.refl _ _).alloc (Nat.le_refl _) _⟩
set_option maxHeartbeats 400000 in
theorem cl_kind (q : Tok) (kind : Int) (B : Nat) (w : World) (hB : B < w.heap.size) (hc : w.cell? ⟨B, 0, none⟩ = some (.int .i64 kind)) :
    Calls Tryz.prog 271 #[q.v, .pointer (some ⟨B, 0, none⟩)] w fun e w' => e = .returned (.bool (q.k == kind)) ∧ Below w.heap.size w w' := by
  obtain ⟨k, r, x, t, p⟩ := q
  unfold Tok.v tokX
  go_enter Tryz.func271, Tryz.ntmps271
  go_wp2
  go_ret
  exact ⟨rfl, (Below.refl _ _).alloc (Nat.le_refl _) _⟩
end Go.Proofs.YtjobgpahajhbnaaGreatDoor
namespace Go.Proofs.YtjobgpahajhbnaaGreatDoor
open Go.RowKit

theorem sgnE_yes (s : ByteArray) (h : 1 < s.size) (ht : tailU s[1] = true) : sgnE (s.data.toList.drop 1) = 2 := by
  rw [drop_cons s 1 h]; simp only [sgnE, ht, if_true]
theorem sgnE_not (s : ByteArray) (h : 1 < s.size) (ht : tailU s[1] = false) : sgnE (s.data.toList.drop 1) = 1 := by
  rw [drop_cons s 1 h]; simp only [sgnE, ht]; rfl
theorem sgnE_short (s : ByteArray) (h : ¬ 1 < s.size) : sgnE (s.data.toList.drop 1) = 1 := by
  rw [List.drop_eq_nil_of_le (by simp; omega)]; rfl
theorem ext_size (s : ByteArray) (n : Nat) (h : n ≤ s.size) : (s.extract 0 n).size = n := by
  rw [ByteArray.size_extract]; omega

def tokV (k r : Int) (t : ByteArray) (p : Int) : Value := .agg #[.int .i64 k, .int .i64 r, .int .i64 0, .string t, .int .i64 p]

set_option maxHeartbeats 400000 in
theorem cutSign_any (s : ByteArray) (w : World) (h0 : 0 < s.size) (hs : s.size ≤ 200) (n : Nat) (hn : n = sgnE (s.data.toList.drop 1)) :
    Calls Tryz.prog 148 #[.string s] w fun e w' => e = .returned (tokV 3 (sRole (s.extract 0 n)) (s.extract 0 n) 0) ∧ Below w.heap.size w w' := by
  by_cases h1 : 1 < s.size
  · cases ht : tailU s[1]
    · rw [sgnE_not s h1 ht] at hn
      subst hn
      have hz := ext_size s 1 (by omega)
      have HZ := hide hz
      clear hz
      have HT := hide ht
      clear ht
      go_enter Tryz.func148, Tryz.ntmps148
      go_wp2_with fail
      refine (ixTail_no _ _ (unhide HT)).mono ?_
      rintro e w' ⟨rfl, rfl⟩
      go_wp2_with fail
      refine (signRoles_any _ _ (by rw [unhide HZ]; omega) (by rw [unhide HZ]; omega)).mono ?_
      rintro e w' ⟨rfl, rfl⟩
      go_wp2_with fail
      refine bodyPost_ret (v := .agg #[.int .i64 3, .int .i64 (sRole (s.extract 0 1)), .int .i64 0, .string (s.extract 0 1), .int .i64 0]) (by simp [results, Tryz.results148, go_sem]) rfl ⟨rfl, ?_⟩
      exact (Below.refl _ _).alloc (Nat.le_refl _) _
    · rw [sgnE_yes s h1 ht] at hn
      subst hn
      have hz := ext_size s 2 (by omega)
      have HZ := hide hz
      clear hz
      have HT := hide ht
      clear ht
      go_enter Tryz.func148, Tryz.ntmps148
      go_wp2_with fail
      refine (ixTail_yes _ _ (unhide HT)).mono ?_
      rintro e w' ⟨v, hv, rfl, rfl⟩
      go_wp2_with fail
      refine (signRoles_any _ _ (by rw [unhide HZ]; omega) (by rw [unhide HZ]; omega)).mono ?_
      rintro e w' ⟨rfl, rfl⟩
      go_wp2_with fail
      refine bodyPost_ret (v := .agg #[.int .i64 3, .int .i64 (sRole (s.extract 0 2)), .int .i64 0, .string (s.extract 0 2), .int .i64 0]) (by simp [results, Tryz.results148, go_sem]) rfl ⟨rfl, ?_⟩
      exact (Below.refl _ _).alloc (Nat.le_refl _) _
  · rw [sgnE_short s h1] at hn
    subst hn
    have hz := ext_size s 1 (by omega)
    have HZ := hide hz
    clear hz
    go_enter Tryz.func148, Tryz.ntmps148
    go_wp2_with fail
    refine (signRoles_any _ _ (by rw [unhide HZ]; omega) (by rw [unhide HZ]; omega)).mono ?_
    rintro e w' ⟨rfl, rfl⟩
    go_wp2_with fail
    refine bodyPost_ret (v := .agg #[.int .i64 3, .int .i64 (sRole (s.extract 0 1)), .int .i64 0, .string (s.extract 0 1), .int .i64 0]) (by simp [results, Tryz.results148, go_sem]) rfl ⟨rfl, ?_⟩
    exact (Below.refl _ _).alloc (Nat.le_refl _) _

/-- the length of the word with which a text begins -/
def wlen (s : ByteArray) : Nat := (s.data.toList.takeWhile lU).length
theorem wlen_le (s : ByteArray) : wlen s ≤ s.size := by
  unfold wlen
  have h := (List.takeWhile_sublist (l := s.data.toList) lU).length_le
  simpa using h
def wKind (t : ByteArray) : Int := bif wRole t != 0 then 3 else bif t.toList == [105, 115] then 2 else 1
def wOk (t : ByteArray) : Bool := wRole t != 0 || t.toList == [105, 115] || decide ((t.size : Int) ≤ 4)

set_option maxHeartbeats 400000 in
theorem cutWord_any (s : ByteArray) (w : World) (hs : s.size ≤ 200) (n : Nat) (hn : n = wlen s) :
    Calls Tryz.prog 146 #[.string s] w fun e w' => e = .returned (.tuple #[tokV (wKind (s.extract 0 n)) (wRole (s.extract 0 n)) (s.extract 0 n) 0, .bool (wOk (s.extract 0 n))]) ∧ Below w.heap.size w w' := by
  have hle := wlen_le s
  have HW : Hid (((s.data.toList.takeWhile lU).length : Int) = (n : Int)) := by rw [hn]; rfl
  have hnl : n ≤ s.size := by omega
  clear hn hle
  obtain ⟨t, hx⟩ : ∃ t, s.extract 0 n = t := ⟨_, rfl⟩
  have HX := hide hx
  have hts : t.size ≤ 200 := by rw [← hx, ext_size s n hnl]; omega
  rw [hx]
  clear hx
  cases hr : (wRole t != 0)
  · have HR := hide (show wRole t = 0 by simpa using hr)
    clear hr
    cases hi : (t.toList == [105, 115])
    · have HI := hide hi
      go_enter Tryz.func146, Tryz.ntmps146
      go_wp2_with fail
      refine (countLet _ _ hs).mono ?_
      rintro e w' ⟨rfl, rfl⟩
      rw [unhide HW]
      go_wp2_with fail
      rw [unhide HX]
      refine (wordRoles_any _ _).mono ?_
      rintro e w' ⟨rfl, rfl⟩
      rw [unhide HR]
      go_wp2_with fail
      refine bodyPost_ret (v := .tuple #[.agg #[.int .i64 1, .int .i64 0, .int .i64 0, .string t, .int .i64 0], .bool (decide ((t.size : Int) ≤ 4))]) (by simp [results, Tryz.results146, go_sem]) rfl ⟨?_, ?_⟩
      · simp [tokV, wKind, wOk, unhide HR, unhide HI]
      · exact (Below.refl _ _).alloc (Nat.le_refl _) _
    · have HI := hide hi
      go_enter Tryz.func146, Tryz.ntmps146
      go_wp2_with fail
      refine (countLet _ _ hs).mono ?_
      rintro e w' ⟨rfl, rfl⟩
      rw [unhide HW]
      go_wp2_with fail
      rw [unhide HX]
      refine (wordRoles_any _ _).mono ?_
      rintro e w' ⟨rfl, rfl⟩
      rw [unhide HR]
      go_wp2_with fail
      refine bodyPost_ret (v := .tuple #[.agg #[.int .i64 2, .int .i64 0, .int .i64 0, .string t, .int .i64 0], .bool true]) (by simp [results, Tryz.results146, go_sem]) rfl ⟨?_, ?_⟩
      · simp [tokV, wKind, wOk, unhide HR, unhide HI]
      · exact (Below.refl _ _).alloc (Nat.le_refl _) _
  · have HR := hide hr
    go_enter Tryz.func146, Tryz.ntmps146
    go_wp2_with fail
    refine (countLet _ _ hs).mono ?_
    rintro e w' ⟨rfl, rfl⟩
    rw [unhide HW]
    go_wp2_with fail
    rw [unhide HX]
    refine (wordRoles_any _ _).mono ?_
    rintro e w' ⟨rfl, rfl⟩
    go_wp2_with fail
    refine bodyPost_ret (v := .tuple #[.agg #[.int .i64 3, .int .i64 (wRole t), .int .i64 0, .string t, .int .i64 0], .bool true]) (by simp [results, Tryz.results146, go_sem]) rfl ⟨?_, ?_⟩
    · simp [tokV, wKind, wOk, unhide HR]
    · exact (Below.refl _ _).alloc (Nat.le_refl _) _
end Go.Proofs.YtjobgpahajhbnaaGreatDoor
namespace Go.Proofs.YtjobgpahajhbnaaGreatDoor
open Go.RowKit

def valF (a : Nat) (l : List UInt8) : Nat := l.foldl (fun n c => 10 * n + (c.toNat - 48)) a
theorem parse_dig (M : Nat) (hM : 10000000000000000000 ≤ M) : ∀ (l : List UInt8) (a : Nat), l.all dU = true → (a + 1) * 10 ^ l.length ≤ 10000000000000000000 → Lib.parseUintM M a l = .ok (valF a l)
  | [], a, _, _ => rfl
  | c :: r, a, ha, hb => by
    simp only [List.all_cons, Bool.and_eq_true] at ha
    have hc : dU c = true := ha.1
    simp [dU, digB] at hc
    have hp : 1 ≤ 10 ^ r.length := Nat.pow_pos (by decide)
    rw [List.length_cons, Nat.pow_succ] at hb
    have hb2 : (a + 1) * 10 * 10 ^ r.length ≤ 10000000000000000000 := by
      rw [Nat.mul_assoc, Nat.mul_comm 10]; exact hb
    have hb3 : (a + 1) * 10 ≤ 10000000000000000000 := Nat.le_trans (by simpa using Nat.mul_le_mul_left ((a + 1) * 10) hp) hb2
    have ih := parse_dig M hM r (a * 10 + (c.toNat - 48)) ha.2 (Nat.le_trans (Nat.mul_le_mul_right _ (by omega)) hb2)
    unfold Lib.parseUintM
    rw [if_pos (by omega), if_neg (by omega), if_neg (by omega), ih]
    show _ = Lib.NumEnd.ok (valF (10 * a + (c.toNat - 48)) r)
    rw [Nat.mul_comm]
theorem parse_int (l : List UInt8) (h0 : l ≠ []) (hl : l.length ≤ 19) (ha : l.all dU = true) : Lib.parseIntB 64 l = if 9223372036854775807 < val l then .range else .ok (val l : Int) := by
  match l, h0 with
  | c :: r, _ =>
    have hu : Lib.parseUintB 64 (c :: r) = .ok (val (c :: r)) := by
      unfold Lib.parseUintB
      rw [if_neg (by simp)]
      exact parse_dig _ (by decide) _ _ ha (by
        have : 10 ^ (c :: r).length ≤ 10 ^ 19 := Nat.pow_le_pow_right (by decide) hl
        simpa using this)
    simp only [List.all_cons, Bool.and_eq_true] at ha
    have hc : dU c = true := ha.1
    simp [dU, digB] at hc
    unfold Lib.parseIntB
    have h1 : ¬ (c.toNat = 43 ∨ c.toNat = 45) := by omega
    have h2 : ¬ (c.toNat = 45) := by omega
    have e : (if c.toNat = 43 ∨ c.toNat = 45 then r else c :: r) = c :: r := if_neg h1
    simp only [e, hu]
    by_cases hv : 9223372036854775807 < val (c :: r)
    · rw [if_pos hv, if_pos ⟨h2, by have : 2 ^ (64 - 1) = 9223372036854775808 := rfl; omega⟩]
    · rw [if_neg hv, if_neg (fun h => hv (by have : 2 ^ (64 - 1) = 9223372036854775808 := rfl; omega)), if_neg (fun h => h2 h.1), if_neg h2]

/-- what the package variables of strconv hold, as far as it matters -/
def ErrV (w : World) (b : Nat) : Prop := ∃ ev, w.cell? ⟨b, 0, none⟩ = some ev ∧ (ev = .nilIface ∨ ∃ te pe, ev = .iface te pe)
def Evs (w : World) : Prop := 6 ≤ w.heap.size ∧ ErrV w 4 ∧ ErrV w 5
theorem Evs.below {B : Nat} {w w' : World} (h : Evs w) (hb : Below B w w') (hB : 6 ≤ B) : Evs w' := by
  obtain ⟨h0, ⟨e1, c1, d1⟩, ⟨e2, c2, d2⟩⟩ := h
  exact ⟨Nat.le_trans h0 hb.size, ⟨e1, (hb.cell (p := ⟨4, 0, none⟩) (show 4 < B by omega)).trans c1, d1⟩, ⟨e2, (hb.cell (p := ⟨5, 0, none⟩) (show 5 < B by omega)).trans c2, d2⟩⟩
theorem Evs.alloc {w : World} (h : Evs w) (o : Obj) : Evs (w.alloc o) :=
  h.below ((Below.refl w.heap.size w).alloc (Nat.le_refl _) o) h.1

theorem below_bytes (w : World) (e : TypeId) (s : ByteArray) : Below w.heap.size w (Lib.bytesWorld w e s) := by
  have h1 : Below w.heap.size w (w.drew.alloc (.cells (Lib.bytesCells w e s) e)) := ((Below.refl w.heap.size w).drew).alloc (Nat.le_refl _) _
  refine h1.trans ?_
  unfold Lib.bytesWorld
  refine ⟨rfl, rfl, rfl, ?_, ?_⟩
  · simp [World.freeze]
  · intro k hk
    unfold World.freeze
    rw [if_neg (by decide)]
    dsimp only
    rw [Array.getElem?_modify, if_neg (by omega)]
theorem parseInt_ok (s : ByteArray) (w : World) (hs : s.size ≤ 200) (v : Int) (h : Lib.parseIntB 64 s.data.toList = .ok v) :
    Calls Tryz.prog 171 #[.string s, .int .i64 10, .int .i64 64] w fun e w' => e = .returned (.tuple #[.int .i64 v, .nilIface]) ∧ Below w.heap.size w w' := by
  refine (Tryz.strconv_ParseInt_10_at64_ok s (by omega) v h w).mono ?_
  rintro e w' ⟨he, hw⟩
  refine ⟨he, ?_⟩
  rcases hw with rfl | ⟨t, rfl⟩
  · exact Below.refl _ _
  · exact below_bytes _ _ _
theorem parseInt_bad (s : ByteArray) (w : World) (hs : s.size ≤ 19) (hv : Evs w) (h : s.size = 0 ∨ (s.data.toList.all dU = true ∧ 9223372036854775807 < val s.data.toList)) :
    Calls Tryz.prog 171 #[.string s, .int .i64 10, .int .i64 64] w fun e w' => ∃ v N, e = .returned (.tuple #[.int .i64 v, .iface 300 (.pointer (some ⟨N, 0, none⟩))]) ∧ Below w.heap.size w w' := by
  obtain ⟨_, ⟨e1, c1, d1⟩, ⟨e2, c2, d2⟩⟩ := hv
  by_cases h0 : s.size = 0
  · exact Tryz.strconv_ParseInt_10_at64_none s h0 e1 w c1 d1
  · rcases h with h | ⟨ha, hb⟩
    · exact absurd h h0
    · refine Tryz.strconv_ParseInt_10_at64_range s (by omega) ?_ e2 w c2 d2
      rw [parse_int _ (fun e => h0 (by rw [← ByteArray.size_data, ← Array.length_toList, e]; rfl)) (by simpa using hs) ha, if_pos hb]
end Go.Proofs.YtjobgpahajhbnaaGreatDoor
namespace Go.Proofs.YtjobgpahajhbnaaGreatDoor
open Go.RowKit
theorem ext_tail (s : ByteArray) : (s.extract 1 s.size).data.toList = s.data.toList.drop 1 := by
  rw [ext_list, List.take_of_length_le (by rw [len_drop]; omega)]
theorem below_four {w w1 : World} {o : Obj} (hb : Below (w.alloc o).heap.size (w.alloc o) w1) (v0 v1 v2 v3 v4 : Value) :
    Below w.heap.size w (((((w1.setCell ⟨w.heap.size, 0, none⟩ v0).setCell ⟨w.heap.size, 1, none⟩ v1).setCell ⟨w.heap.size, 2, none⟩ v2).setCell ⟨w.heap.size, 3, none⟩ v3).setCell ⟨w.heap.size, 4, none⟩ v4) := by
  have h1 : Below w.heap.size w w1 := ((Below.refl w.heap.size w).alloc (Nat.le_refl _) o).trans (hb.mono (by simp))
  exact ((((h1.setCell (Nat.le_refl _) _).setCell (Nat.le_refl _) _).setCell (Nat.le_refl _) _).setCell (Nat.le_refl _) _).setCell (Nat.le_refl _) _
theorem take_tw (p : UInt8 → Bool) (l : List UInt8) : l.take (l.takeWhile p).length = l.takeWhile p := by
  exact (List.prefix_iff_eq_take.1 (List.takeWhile_prefix p)).symm
theorem all_tw (p : UInt8 → Bool) : ∀ l : List UInt8, (l.takeWhile p).all p = true
  | [] => rfl
  | c :: r => by
    by_cases h : p c = true
    · simp only [List.takeWhile, h, List.all_cons, all_tw p r, Bool.and_self]
    · simp [List.takeWhile, h]

set_option maxHeartbeats 1000000 in
theorem cutNum_long (s : ByteArray) (w : World) (d : Nat) (h0 : 0 < s.size) (h5 : ((s[0].toNat : Int) == 95) = false) (hs : s.size ≤ 200) (hdl : ((s.data.toList).takeWhile dU).length = d) (hdb : 0 + d ≤ s.size) (h19 : 19 < d) :
    Calls Tryz.prog 144 #[.string s] w fun e w' => e = .returned (.tuple #[tokV 0 0 ⟨#[]⟩ 0, .bool false]) ∧ Below w.heap.size w w' := by
  have HC : Hid (((s.data.toList.takeWhile dU).length : Int) = (d : Int)) := by rw [← hdl]; rfl
  have hall : (s.extract 0 d).data.toList.all dU = true := by
    rw [ext_list, ← hdl]
    simp only [List.drop_zero, Nat.sub_zero, take_tw]
    exact all_tw _ _
  clear hdl
  obtain ⟨t, ht⟩ : ∃ t, s.extract 0 d = t := ⟨_, rfl⟩
  rw [ht] at hall
  have HL := hide hall
  clear hall
  have hz : t.size = d := by rw [← ht, ByteArray.size_extract]; omega
  have HX := hide ht
  have HZ := hide hz
  clear ht
  have hzi : (t.size : Int) = (d : Int) := by omega
  clear hz
  go_enter Tryz.func144, Tryz.ntmps144
  go_wp2_with fail
  refine (countDig _ _ (by first | omega | (rw [ByteArray.size_extract]; omega))).mono ?_
  rintro e w' ⟨rfl, rfl⟩
  rw [unhide HC]
  go_wp2_with fail
  refine bodyPost_ret (v := .tuple #[.agg #[.int .i64 0, .int .i64 0, .int .i64 0, .string ⟨#[]⟩, .int .i64 0], .bool false]) (by simp [results, Tryz.results144, go_sem]) rfl ⟨rfl, ?_⟩
  exact (Below.refl _ _).alloc (Nat.le_refl _) _

set_option maxHeartbeats 1000000 in
theorem cutNum_bad (s : ByteArray) (w : World) (d : Nat) (h0 : 0 < s.size) (h5 : ((s[0].toNat : Int) == 95) = false) (hs : s.size ≤ 200) (hdl : ((s.data.toList).takeWhile dU).length = d) (hdb : 0 + d ≤ s.size) (hv : Evs w) (h19 : d ≤ 19) (hb : d = 0 ∨ 9223372036854775807 < val (s.extract 0 d).data.toList) :
    Calls Tryz.prog 144 #[.string s] w fun e w' => e = .returned (.tuple #[tokV 0 0 ⟨#[]⟩ 0, .bool false]) ∧ Below w.heap.size w w' := by
  have HC : Hid (((s.data.toList.takeWhile dU).length : Int) = (d : Int)) := by rw [← hdl]; rfl
  have hall : (s.extract 0 d).data.toList.all dU = true := by
    rw [ext_list, ← hdl]
    simp only [List.drop_zero, Nat.sub_zero, take_tw]
    exact all_tw _ _
  clear hdl
  obtain ⟨t, ht⟩ : ∃ t, s.extract 0 d = t := ⟨_, rfl⟩
  rw [ht] at hall
  have HL := hide hall
  clear hall
  have hz : t.size = d := by rw [← ht, ByteArray.size_extract]; omega
  have HX := hide ht
  have HZ := hide hz
  rw [ht] at hb
  have HB := hide hb
  have HV := hide hv
  clear hb hv
  clear ht
  have hzi : (t.size : Int) = (d : Int) := by omega
  clear hz
  go_enter Tryz.func144, Tryz.ntmps144
  go_wp2_with fail
  refine (countDig _ _ (by first | omega | (rw [ByteArray.size_extract]; omega))).mono ?_
  rintro e w' ⟨rfl, rfl⟩
  rw [unhide HC]
  go_wp2_with fail
  rw [unhide HX]
  refine (parseInt_bad t _ (by rw [unhide HZ]; exact h19) ((unhide HV).alloc _) ?_).mono ?_
  · rcases unhide HB with h | h
    · exact Or.inl (by rw [unhide HZ]; exact h)
    · exact Or.inr ⟨unhide HL, h⟩
  rintro e w1 ⟨v, N, rfl, hb1⟩
  obtain ⟨hc, hf⟩ := bcell hb1
  go_wp2_with fail
  refine bodyPost_ret (v := .tuple #[.agg #[.int .i64 0, .int .i64 0, .int .i64 0, .string ⟨#[]⟩, .int .i64 0], .bool false]) (by simp [results, Tryz.results144, go_sem, hc]) rfl ⟨rfl, ?_⟩
  exact below_four hb1 _ _ _ _ _

set_option maxHeartbeats 1000000 in
theorem cutNum_ok (s : ByteArray) (w : World) (d : Nat) (h0 : 0 < s.size) (h5 : ((s[0].toNat : Int) == 95) = false) (hs : s.size ≤ 200) (hdl : ((s.data.toList).takeWhile dU).length = d) (hdb : 0 + d ≤ s.size) (h19 : d ≤ 19) (hd1 : 1 ≤ d) (V : Int) (hV : V = (val (s.extract 0 d).data.toList : Int)) (hb : val (s.extract 0 d).data.toList ≤ 9223372036854775807) :
    Calls Tryz.prog 144 #[.string s] w fun e w' => e = .returned (.tuple #[tokX 0 0 (V) (s.extract 0 (d)) 0, .bool true]) ∧ Below w.heap.size w w' := by
  have HC : Hid (((s.data.toList.takeWhile dU).length : Int) = (d : Int)) := by rw [← hdl]; rfl
  have hall : (s.extract 0 d).data.toList.all dU = true := by
    rw [ext_list, ← hdl]
    simp only [List.drop_zero, Nat.sub_zero, take_tw]
    exact all_tw _ _
  clear hdl
  obtain ⟨t, ht⟩ : ∃ t, s.extract 0 d = t := ⟨_, rfl⟩
  rw [ht] at hall
  have HL := hide hall
  clear hall
  have hz : t.size = d := by rw [← ht, ByteArray.size_extract]; omega
  have HX := hide ht
  have HZ := hide hz
  rw [ht] at hb
  have hpi := parse_int t.data.toList (fun e => by rw [← ByteArray.size_data, ← Array.length_toList, e] at hz; simp at hz; omega) (by simp; omega) (unhide HL)
  rw [if_neg (by omega)] at hpi
  rw [ht] at hV
  rw [← hV] at hpi
  have hV0 : 0 ≤ V := by omega
  have hV1 : V ≤ 9223372036854775807 := by omega
  have HP := hide hpi
  clear hb hpi hV
  clear ht
  have hzi : (t.size : Int) = (d : Int) := by omega
  clear hz
  go_enter Tryz.func144, Tryz.ntmps144
  go_wp2_with fail
  refine (countDig _ _ (by first | omega | (rw [ByteArray.size_extract]; omega))).mono ?_
  rintro e w' ⟨rfl, rfl⟩
  rw [unhide HC]
  go_wp2_with fail
  rw [unhide HX]
  refine (parseInt_ok t _ (by rw [unhide HZ]; omega) _ (unhide HP)).mono ?_
  rintro e w1 ⟨rfl, hb1⟩
  obtain ⟨hc, hf⟩ := bcell hb1
  go_wp2_with fail
  refine bodyPost_ret (v := .tuple #[.agg #[.int .i64 0, .int .i64 0, .int .i64 (V), .string (s.extract 0 (d)), .int .i64 0], .bool true]) (by simp [results, Tryz.results144, go_sem, hc]) rfl ⟨rfl, ?_⟩
  exact below_four hb1 _ _ _ _ _

set_option maxHeartbeats 1000000 in
theorem cutLow_long (s : ByteArray) (w : World) (d : Nat) (h0 : 0 < s.size) (h5 : ((s[0].toNat : Int) == 95) = true) (hs : s.size ≤ 200) (hdl : ((s.data.toList.drop 1).takeWhile dU).length = d) (hdb : 1 + d ≤ s.size) (h19 : 19 < d) :
    Calls Tryz.prog 144 #[.string s] w fun e w' => e = .returned (.tuple #[tokV 0 0 ⟨#[]⟩ 0, .bool false]) ∧ Below w.heap.size w w' := by
  have HC : Hid ((((s.extract 1 s.size).data.toList.takeWhile dU).length : Int) = (d : Int)) := by rw [← hdl, ext_tail s]; rfl
  have hall : (s.extract 1 (1 + d)).data.toList.all dU = true := by
    rw [ext_list, ← hdl]
    simp only [Nat.add_sub_cancel_left, take_tw]
    exact all_tw _ _
  clear hdl
  obtain ⟨t, ht⟩ : ∃ t, s.extract 1 (1 + d) = t := ⟨_, rfl⟩
  rw [ht] at hall
  have HL := hide hall
  clear hall
  have hz : t.size = d := by rw [← ht, ByteArray.size_extract]; omega
  have HX := hide ht
  have HZ := hide hz
  clear ht
  have hzi : (t.size : Int) = (d : Int) := by omega
  clear hz
  go_enter Tryz.func144, Tryz.ntmps144
  go_wp2_with fail
  refine (countDig _ _ (by first | omega | (rw [ByteArray.size_extract]; omega))).mono ?_
  rintro e w' ⟨rfl, rfl⟩
  rw [unhide HC]
  go_wp2_with fail
  refine bodyPost_ret (v := .tuple #[.agg #[.int .i64 0, .int .i64 0, .int .i64 0, .string ⟨#[]⟩, .int .i64 0], .bool false]) (by simp [results, Tryz.results144, go_sem]) rfl ⟨rfl, ?_⟩
  exact (Below.refl _ _).alloc (Nat.le_refl _) _

set_option maxHeartbeats 1000000 in
theorem cutLow_bad (s : ByteArray) (w : World) (d : Nat) (h0 : 0 < s.size) (h5 : ((s[0].toNat : Int) == 95) = true) (hs : s.size ≤ 200) (hdl : ((s.data.toList.drop 1).takeWhile dU).length = d) (hdb : 1 + d ≤ s.size) (hv : Evs w) (h19 : d ≤ 19) (hb : d = 0 ∨ 9223372036854775807 < val (s.extract 1 (1 + d)).data.toList) :
    Calls Tryz.prog 144 #[.string s] w fun e w' => e = .returned (.tuple #[tokV 0 0 ⟨#[]⟩ 0, .bool false]) ∧ Below w.heap.size w w' := by
  have HC : Hid ((((s.extract 1 s.size).data.toList.takeWhile dU).length : Int) = (d : Int)) := by rw [← hdl, ext_tail s]; rfl
  have hall : (s.extract 1 (1 + d)).data.toList.all dU = true := by
    rw [ext_list, ← hdl]
    simp only [Nat.add_sub_cancel_left, take_tw]
    exact all_tw _ _
  clear hdl
  obtain ⟨t, ht⟩ : ∃ t, s.extract 1 (1 + d) = t := ⟨_, rfl⟩
  rw [ht] at hall
  have HL := hide hall
  clear hall
  have hz : t.size = d := by rw [← ht, ByteArray.size_extract]; omega
  have HX := hide ht
  have HZ := hide hz
  rw [ht] at hb
  have HB := hide hb
  have HV := hide hv
  clear hb hv
  clear ht
  have hzi : (t.size : Int) = (d : Int) := by omega
  clear hz
  go_enter Tryz.func144, Tryz.ntmps144
  go_wp2_with fail
  refine (countDig _ _ (by first | omega | (rw [ByteArray.size_extract]; omega))).mono ?_
  rintro e w' ⟨rfl, rfl⟩
  rw [unhide HC]
  go_wp2_with fail
  rw [unhide HX]
  refine (parseInt_bad t _ (by rw [unhide HZ]; exact h19) ((unhide HV).alloc _) ?_).mono ?_
  · rcases unhide HB with h | h
    · exact Or.inl (by rw [unhide HZ]; exact h)
    · exact Or.inr ⟨unhide HL, h⟩
  rintro e w1 ⟨v, N, rfl, hb1⟩
  obtain ⟨hc, hf⟩ := bcell hb1
  go_wp2_with fail
  refine bodyPost_ret (v := .tuple #[.agg #[.int .i64 0, .int .i64 0, .int .i64 0, .string ⟨#[]⟩, .int .i64 0], .bool false]) (by simp [results, Tryz.results144, go_sem, hc]) rfl ⟨rfl, ?_⟩
  exact below_four hb1 _ _ _ _ _

set_option maxHeartbeats 1000000 in
theorem cutLow_ok (s : ByteArray) (w : World) (d : Nat) (h0 : 0 < s.size) (h5 : ((s[0].toNat : Int) == 95) = true) (hs : s.size ≤ 200) (hdl : ((s.data.toList.drop 1).takeWhile dU).length = d) (hdb : 1 + d ≤ s.size) (h19 : d ≤ 19) (hd1 : 1 ≤ d) (V : Int) (hV : V = (val (s.extract 1 (1 + d)).data.toList : Int)) (hb : val (s.extract 1 (1 + d)).data.toList ≤ 9223372036854775807) :
    Calls Tryz.prog 144 #[.string s] w fun e w' => e = .returned (.tuple #[tokX 0 0 (-V) (s.extract 0 (1 + d)) 0, .bool true]) ∧ Below w.heap.size w w' := by
  have HC : Hid ((((s.extract 1 s.size).data.toList.takeWhile dU).length : Int) = (d : Int)) := by rw [← hdl, ext_tail s]; rfl
  have hall : (s.extract 1 (1 + d)).data.toList.all dU = true := by
    rw [ext_list, ← hdl]
    simp only [Nat.add_sub_cancel_left, take_tw]
    exact all_tw _ _
  clear hdl
  obtain ⟨t, ht⟩ : ∃ t, s.extract 1 (1 + d) = t := ⟨_, rfl⟩
  rw [ht] at hall
  have HL := hide hall
  clear hall
  have hz : t.size = d := by rw [← ht, ByteArray.size_extract]; omega
  have HX := hide ht
  have HZ := hide hz
  rw [ht] at hb
  have hpi := parse_int t.data.toList (fun e => by rw [← ByteArray.size_data, ← Array.length_toList, e] at hz; simp at hz; omega) (by simp; omega) (unhide HL)
  rw [if_neg (by omega)] at hpi
  rw [ht] at hV
  rw [← hV] at hpi
  have hV0 : 0 ≤ V := by omega
  have hV1 : V ≤ 9223372036854775807 := by omega
  have HP := hide hpi
  clear hb hpi hV
  clear ht
  have hzi : (t.size : Int) = (d : Int) := by omega
  clear hz
  go_enter Tryz.func144, Tryz.ntmps144
  go_wp2_with fail
  refine (countDig _ _ (by first | omega | (rw [ByteArray.size_extract]; omega))).mono ?_
  rintro e w' ⟨rfl, rfl⟩
  rw [unhide HC]
  go_wp2_with fail
  rw [unhide HX]
  refine (parseInt_ok t _ (by rw [unhide HZ]; omega) _ (unhide HP)).mono ?_
  rintro e w1 ⟨rfl, hb1⟩
  obtain ⟨hc, hf⟩ := bcell hb1
  go_wp2_with fail
  refine bodyPost_ret (v := .tuple #[.agg #[.int .i64 0, .int .i64 0, .int .i64 (-V), .string (s.extract 0 (1 + d)), .int .i64 0], .bool true]) (by simp [results, Tryz.results144, go_sem, hc]) rfl ⟨rfl, ?_⟩
  exact below_four hb1 _ _ _ _ _
end Go.Proofs.YtjobgpahajhbnaaGreatDoor
