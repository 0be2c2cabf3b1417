import Derived.Test.YtjobgpahajhbnaaGreatDoorPl
import Derived.Test.YtjobgpahajhbnaaGreatDoorShelf
import Derived.Test.YtjobgpahajhbnaaGreatDoorSa
namespace Go.Proofs.YtjobgpahajhbnaaGreatDoor
open Go.RowKit

set_option maxHeartbeats 400000 in
theorem isDigit_any (c : Int) (w : World) :
    Calls Tryz.prog 143 #[.int .u8 c] w fun e w' => e = .returned (.bool (digB c)) ∧ w' = w := by
  by_cases h : 48 ≤ c
  all_goals
    go_enter Tryz.func143, Tryz.ntmps143
    go_wp2
    go_ret
    refine ⟨?_, rfl⟩
    unfold digB
    congr 2
    simp; try omega

set_option maxHeartbeats 400000 in
theorem isLetter_any (c : Int) (w : World) :
    Calls Tryz.prog 145 #[.int .u8 c] w fun e w' => e = .returned (.bool (letB c)) ∧ w' = w := by
  by_cases h : 97 ≤ c
  all_goals
    go_enter Tryz.func145, Tryz.ntmps145
    go_wp2
    go_ret
    refine ⟨?_, rfl⟩
    unfold letB
    congr 2
    simp; try omega

def wRole (t : ByteArray) : Int :=
  bif t.toList == [105, 111, 116, 97] then 1 else bif t.toList == [117, 112] then 1 else bif t.toList == [100, 111, 119, 110] then 1 else bif t.toList == [102, 108, 105, 112] then 1 else bif t.toList == [114, 97, 118, 101, 108] then 1 else bif t.toList == [114, 104, 111] then 3 else bif t.toList == [114, 101, 118] then 3 else bif t.toList == [116, 97, 107, 101] then 2 else bif t.toList == [100, 114, 111, 112] then 2 else bif t.toList == [99, 97, 116] then 2 else bif t.toList == [105, 110] then 2 else bif t.toList == [97, 116] then 2 else bif t.toList == [107, 101, 101, 112] then 2 else 0
set_option maxHeartbeats 1000000 in
theorem wordRoles_any (t : ByteArray) (w : World) :
    Calls Tryz.prog 172 #[.string t] w fun e w' => e = .returned (.int .i64 (wRole t)) ∧ w' = w := by
  cases h0 : (t.toList == [105, 111, 116, 97])
  rotate_left
  · have H0 := hide h0
    go_enter Tryz.func172, Tryz.ntmps172
    go_wp2_with fail
    go_ret
    exact ⟨ret_int (by simp [wRole, unhide H0]), rfl⟩
  have H0 := hide h0
  cases h1 : (t.toList == [117, 112])
  rotate_left
  · have H1 := hide h1
    go_enter Tryz.func172, Tryz.ntmps172
    go_wp2_with fail
    go_ret
    exact ⟨ret_int (by simp [wRole, unhide H0, unhide H1]), rfl⟩
  have H1 := hide h1
  cases h2 : (t.toList == [100, 111, 119, 110])
  rotate_left
  · have H2 := hide h2
    go_enter Tryz.func172, Tryz.ntmps172
    go_wp2_with fail
    go_ret
    exact ⟨ret_int (by simp [wRole, unhide H0, unhide H1, unhide H2]), rfl⟩
  have H2 := hide h2
  cases h3 : (t.toList == [102, 108, 105, 112])
  rotate_left
  · have H3 := hide h3
    go_enter Tryz.func172, Tryz.ntmps172
    go_wp2_with fail
    go_ret
    exact ⟨ret_int (by simp [wRole, unhide H0, unhide H1, unhide H2, unhide H3]), rfl⟩
  have H3 := hide h3
  cases h4 : (t.toList == [114, 97, 118, 101, 108])
  rotate_left
  · have H4 := hide h4
    go_enter Tryz.func172, Tryz.ntmps172
    go_wp2_with fail
    go_ret
    exact ⟨ret_int (by simp [wRole, unhide H0, unhide H1, unhide H2, unhide H3, unhide H4]), rfl⟩
  have H4 := hide h4
  cases h5 : (t.toList == [114, 104, 111])
  rotate_left
  · have H5 := hide h5
    go_enter Tryz.func172, Tryz.ntmps172
    go_wp2_with fail
    go_ret
    exact ⟨ret_int (by simp [wRole, unhide H0, unhide H1, unhide H2, unhide H3, unhide H4, unhide H5]), rfl⟩
  have H5 := hide h5
  cases h6 : (t.toList == [114, 101, 118])
  rotate_left
  · have H6 := hide h6
    go_enter Tryz.func172, Tryz.ntmps172
    go_wp2_with fail
    go_ret
    exact ⟨ret_int (by simp [wRole, unhide H0, unhide H1, unhide H2, unhide H3, unhide H4, unhide H5, unhide H6]), rfl⟩
  have H6 := hide h6
  cases h7 : (t.toList == [116, 97, 107, 101])
  rotate_left
  · have H7 := hide h7
    go_enter Tryz.func172, Tryz.ntmps172
    go_wp2_with fail
    go_ret
    exact ⟨ret_int (by simp [wRole, unhide H0, unhide H1, unhide H2, unhide H3, unhide H4, unhide H5, unhide H6, unhide H7]), rfl⟩
  have H7 := hide h7
  cases h8 : (t.toList == [100, 114, 111, 112])
  rotate_left
  · have H8 := hide h8
    go_enter Tryz.func172, Tryz.ntmps172
    go_wp2_with fail
    go_ret
    exact ⟨ret_int (by simp [wRole, unhide H0, unhide H1, unhide H2, unhide H3, unhide H4, unhide H5, unhide H6, unhide H7, unhide H8]), rfl⟩
  have H8 := hide h8
  cases h9 : (t.toList == [99, 97, 116])
  rotate_left
  · have H9 := hide h9
    go_enter Tryz.func172, Tryz.ntmps172
    go_wp2_with fail
    go_ret
    exact ⟨ret_int (by simp [wRole, unhide H0, unhide H1, unhide H2, unhide H3, unhide H4, unhide H5, unhide H6, unhide H7, unhide H8, unhide H9]), rfl⟩
  have H9 := hide h9
  cases h10 : (t.toList == [105, 110])
  rotate_left
  · have H10 := hide h10
    go_enter Tryz.func172, Tryz.ntmps172
    go_wp2_with fail
    go_ret
    exact ⟨ret_int (by simp [wRole, unhide H0, unhide H1, unhide H2, unhide H3, unhide H4, unhide H5, unhide H6, unhide H7, unhide H8, unhide H9, unhide H10]), rfl⟩
  have H10 := hide h10
  cases h11 : (t.toList == [97, 116])
  rotate_left
  · have H11 := hide h11
    go_enter Tryz.func172, Tryz.ntmps172
    go_wp2_with fail
    go_ret
    exact ⟨ret_int (by simp [wRole, unhide H0, unhide H1, unhide H2, unhide H3, unhide H4, unhide H5, unhide H6, unhide H7, unhide H8, unhide H9, unhide H10, unhide H11]), rfl⟩
  have H11 := hide h11
  cases h12 : (t.toList == [107, 101, 101, 112])
  rotate_left
  · have H12 := hide h12
    go_enter Tryz.func172, Tryz.ntmps172
    go_wp2_with fail
    go_ret
    exact ⟨ret_int (by simp [wRole, unhide H0, unhide H1, unhide H2, unhide H3, unhide H4, unhide H5, unhide H6, unhide H7, unhide H8, unhide H9, unhide H10, unhide H11, unhide H12]), rfl⟩
  have H12 := hide h12
  go_enter Tryz.func172, Tryz.ntmps172
  go_wp2_with fail
  go_ret
  exact ⟨ret_int (by simp [wRole, unhide H0, unhide H1, unhide H2, unhide H3, unhide H4, unhide H5, unhide H6, unhide H7, unhide H8, unhide H9, unhide H10, unhide H11, unhide H12]), rfl⟩

theorem countDig_stop (t : ByteArray) (k : Nat) (hk : k ≤ t.size) (ha : (t.data.toList.take k).all dU = true) (hs : ∀ c, t.data.toList[k]? = some c → dU c = false) : (k : Int) = (t.data.toList.takeWhile dU).length := by
  rw [tw_stop ha hs, List.length_take]
  have : t.data.toList.length = t.size := by simp
  omega
set_option maxHeartbeats 400000 in
theorem countDig (t : ByteArray) (w : World) (hs : t.size ≤ 200) :
    Calls Tryz.prog 170 #[.string t, .func (Fn.func 143) #[] #[]] w fun e w' => e = .returned (.int .i64 (t.data.toList.takeWhile dU).length) ∧ w' = w := by
  go_enter Tryz.func170, Tryz.ntmps170
  go_wp2_with fail
  go_loop [8] (fun i => ∃ k : Nat, k ≤ t.size ∧ i = .int .i64 k ∧ (t.data.toList.take k).all dU = true) (fun i => t.size - (intOf i).toNat)
  case atStart => exact ⟨0, Nat.zero_le _, rfl, by simp⟩
  case round =>
    obtain ⟨k, hk, rfl, hall⟩ := hrel
    have HA := hide hall
    clear hall
    by_cases hlt : k < t.size
    · have hat := at_drop t 0 k (by omega)
      simp only [List.drop_zero, Nat.zero_add] at hat
      have HT := hide hat
      clear hat
      cases hg : digB ((t[k]'hlt).toNat : Int)
      · have HG := hide hg
        go_wp2_with (go_at_call 143; refine (isDigit_any _ _).mono ?_; rintro e w' ⟨rfl, rfl⟩)
        go_ret
        exact ⟨ret_int (countDig_stop t k hk (unhide HA) (by
          intro c hc
          rw [unhide HT] at hc
          injection hc with e
          subst e
          exact unhide HG)), rfl⟩
      · have HG := hide hg
        go_wp2_with (go_at_call 143; refine (isDigit_any _ _).mono ?_; rintro e w' ⟨rfl, rfl⟩)
        go_round
        case rel => exact ⟨k + 1, by omega, by go_num, all_snoc (unhide HT) (unhide HA) (unhide HG)⟩
        case measure => simp [intOf]; omega
    · have he : k = t.size := by omega
      have HE := hide he
      clear he
      go_wp2_with (go_at_call 143; refine (isDigit_any _ _).mono ?_; rintro e w' ⟨rfl, rfl⟩)
      go_ret
      refine ⟨ret_int ?_, rfl⟩
      rw [← countDig_stop t k hk (unhide HA) (by
          intro c hc
          rw [List.getElem?_eq_none (by have := unhide HE; simp; omega)] at hc
          cases hc)]
      rw [unhide HE]
theorem countLet_stop (t : ByteArray) (k : Nat) (hk : k ≤ t.size) (ha : (t.data.toList.take k).all lU = true) (hs : ∀ c, t.data.toList[k]? = some c → lU c = false) : (k : Int) = (t.data.toList.takeWhile lU).length := by
  rw [tw_stop ha hs, List.length_take]
  have : t.data.toList.length = t.size := by simp
  omega
set_option maxHeartbeats 400000 in
theorem countLet (t : ByteArray) (w : World) (hs : t.size ≤ 200) :
    Calls Tryz.prog 170 #[.string t, .func (Fn.func 145) #[] #[]] w fun e w' => e = .returned (.int .i64 (t.data.toList.takeWhile lU).length) ∧ w' = w := by
  go_enter Tryz.func170, Tryz.ntmps170
  go_wp2_with fail
  go_loop [8] (fun i => ∃ k : Nat, k ≤ t.size ∧ i = .int .i64 k ∧ (t.data.toList.take k).all lU = true) (fun i => t.size - (intOf i).toNat)
  case atStart => exact ⟨0, Nat.zero_le _, rfl, by simp⟩
  case round =>
    obtain ⟨k, hk, rfl, hall⟩ := hrel
    have HA := hide hall
    clear hall
    by_cases hlt : k < t.size
    · have hat := at_drop t 0 k (by omega)
      simp only [List.drop_zero, Nat.zero_add] at hat
      have HT := hide hat
      clear hat
      cases hg : letB ((t[k]'hlt).toNat : Int)
      · have HG := hide hg
        go_wp2_with (go_at_call 145; refine (isLetter_any _ _).mono ?_; rintro e w' ⟨rfl, rfl⟩)
        go_ret
        exact ⟨ret_int (countLet_stop t k hk (unhide HA) (by
          intro c hc
          rw [unhide HT] at hc
          injection hc with e
          subst e
          exact unhide HG)), rfl⟩
      · have HG := hide hg
        go_wp2_with (go_at_call 145; refine (isLetter_any _ _).mono ?_; rintro e w' ⟨rfl, rfl⟩)
        go_round
        case rel => exact ⟨k + 1, by omega, by go_num, all_snoc (unhide HT) (unhide HA) (unhide HG)⟩
        case measure => simp [intOf]; omega
    · have he : k = t.size := by omega
      have HE := hide he
      clear he
      go_wp2_with (go_at_call 145; refine (isLetter_any _ _).mono ?_; rintro e w' ⟨rfl, rfl⟩)
      go_ret
      refine ⟨ret_int ?_, rfl⟩
      rw [← countLet_stop t k hk (unhide HA) (by
          intro c hc
          rw [List.getElem?_eq_none (by have := unhide HE; simp; omega)] at hc
          cases hc)]
      rw [unhide HE]
end Go.Proofs.YtjobgpahajhbnaaGreatDoor
namespace Go.Proofs.YtjobgpahajhbnaaGreatDoor
open Go.RowKit

theorem ix_yes : ∀ (l : List UInt8) (c : UInt8), c ∈ l → 0 ≤ Lib.indexByte l c
  | b :: l, c, h => by
    unfold Lib.indexByte
    by_cases e : (b == c) = true
    · rw [if_pos e]; decide
    · rw [if_neg e]
      have hm : c ∈ l := by
        rcases List.mem_cons.1 h with h | h
        · exact absurd (beq_iff_eq.2 h.symm) e
        · exact h
      have := ix_yes l c hm
      have h2 : ¬ (Lib.indexByte l c == -1) = true := by rw [beq_iff_eq]; omega
      rw [if_neg h2]; omega
theorem ix_no : ∀ (l : List UInt8) (c : UInt8), c ∉ l → Lib.indexByte l c = -1
  | [], _, _ => rfl
  | b :: l, c, h => by
    unfold Lib.indexByte
    have h1 : ¬ (b == c) = true := by
      intro e
      exact h (List.mem_cons.2 (Or.inl (beq_iff_eq.1 e).symm))
    rw [if_neg h1]
    have := ix_no l c (fun hm => h (List.mem_cons.2 (Or.inr hm)))
    rw [this]
    rfl
theorem u8_back (c : UInt8) : ((c.toNat : Int).toNat.toUInt8) = c := by
  simp
theorem tail_mem (c : UInt8) : tailU c = true ↔ c ∈ ([47, 92, 46] : List UInt8) := by
  simp [tailU, or_assoc]
theorem ixTail_yes (c : UInt8) (w : World) (h : tailU c = true) :
    Calls Tryz.prog 147 #[.string ⟨#[47, 92, 46]⟩, .int .u8 c.toNat] w fun e w' => ∃ v : Int, 0 ≤ v ∧ e = .returned (.int .i64 v) ∧ w' = w := by
  refine (Tryz.strings_IndexByte _ _ w).mono ?_
  rintro e w' ⟨rfl, rfl⟩
  refine ⟨_, ?_, rfl, rfl⟩
  rw [u8_back]
  exact ix_yes _ _ ((tail_mem c).1 h)
theorem ixTail_no (c : UInt8) (w : World) (h : tailU c = false) :
    Calls Tryz.prog 147 #[.string ⟨#[47, 92, 46]⟩, .int .u8 c.toNat] w fun e w' => e = .returned (.int .i64 (-1)) ∧ w' = w := by
  refine (Tryz.strings_IndexByte _ _ w).mono ?_
  rintro e w' ⟨rfl, rfl⟩
  refine ⟨ret_int ?_, rfl⟩
  rw [u8_back]
  exact ix_no _ _ (fun hm => by rw [(tail_mem c).2 hm] at h; cases h)
theorem sgn_mem (c : UInt8) : gU c = true ↔ c ∈ ([43, 45, 42, 37, 124, 38, 33, 61, 60] : List UInt8) := by
  have e : ∀ n : Nat, n < 256 → (((c.toNat : Int) = (n : Int)) ↔ c = UInt8.ofNat n) := by
    intro n hn
    constructor
    · intro h
      apply UInt8.toNat_inj.1
      rw [UInt8.toNat_ofNat_of_lt' (by simpa using hn)]
      omega
    · intro h
      rw [h, UInt8.toNat_ofNat_of_lt' (by simpa using hn)]
  have e1 := e 43 (by decide)
  have e2 := e 45 (by decide)
  have e3 := e 42 (by decide)
  have e4 := e 37 (by decide)
  have e5 := e 124 (by decide)
  have e6 := e 38 (by decide)
  have e7 := e 33 (by decide)
  have e8 := e 61 (by decide)
  have e9 := e 60 (by decide)
  unfold gU sgnB
  rw [decide_eq_true_iff]
  simp only [List.mem_cons, List.not_mem_nil, or_false]
  exact (or_congr e1 (or_congr e2 (or_congr e3 (or_congr e4 (or_congr e5 (or_congr e6 (or_congr e7 (or_congr e8 e9))))))))
theorem ixSgn_yes (c : UInt8) (w : World) (h : gU c = true) :
    Calls Tryz.prog 147 #[.string ⟨#[43, 45, 42, 37, 124, 38, 33, 61, 60]⟩, .int .u8 c.toNat] w fun e w' => ∃ v : Int, 0 ≤ v ∧ e = .returned (.int .i64 v) ∧ w' = w := by
  refine (Tryz.strings_IndexByte _ _ w).mono ?_
  rintro e w' ⟨rfl, rfl⟩
  refine ⟨_, ?_, rfl, rfl⟩
  rw [u8_back]
  exact ix_yes _ _ ((sgn_mem c).1 h)
theorem ixSgn_no (c : UInt8) (w : World) (h : gU c = false) :
    Calls Tryz.prog 147 #[.string ⟨#[43, 45, 42, 37, 124, 38, 33, 61, 60]⟩, .int .u8 c.toNat] w fun e w' => e = .returned (.int .i64 (-1)) ∧ w' = w := by
  refine (Tryz.strings_IndexByte _ _ w).mono ?_
  rintro e w' ⟨rfl, rfl⟩
  refine ⟨ret_int ?_, rfl⟩
  rw [u8_back]
  exact ix_no _ _ (fun hm => by rw [(sgn_mem c).2 hm] at h; cases h)

/-- the roles of a sign -/
def sRole (t : ByteArray) : Int :=
  bif Lib.hasSuffix t.data.toList [46] then 2 else bif decide (1 < t.size) then 1 else bif decide (0 ≤ Lib.indexByte [43, 45, 42, 124] (t.data.toList.headD 0)) then 3 else 2

set_option maxHeartbeats 400000 in
theorem signRoles_any (t : ByteArray) (w : World) (h0 : 0 < t.size) (hs : t.size ≤ 200) :
    Calls Tryz.prog 174 #[.string t] w fun e w' => e = .returned (.int .i64 (sRole t)) ∧ w' = w := by
  cases hx : Lib.hasSuffix t.data.toList [46]
  · have HX := hide hx
    by_cases h1 : 1 < t.size
    · go_enter Tryz.func174, Tryz.ntmps174
      go_wp2_with fail
      refine (Tryz.strings_HasSuffix _ _ _ (by omega)).mono ?_
      rintro e w' ⟨rfl, rfl⟩
      go_wp2_with fail
      go_ret
      exact ⟨ret_int (by simp [sRole, unhide HX, h1]), rfl⟩
    · obtain ⟨c, rfl⟩ : ∃ c, t = ⟨#[c]⟩ := by
        obtain ⟨⟨l⟩⟩ := t
        match l, h0, h1 with
        | [c], _, _ => exact ⟨c, rfl⟩
        | c :: d :: l, _, h1 => exact absurd (show 1 < (c :: d :: l).length by simp) h1
      cases hi : decide (0 ≤ Lib.indexByte [43, 45, 42, 124] c)
      all_goals
        have HI := hide hi
        go_enter Tryz.func174, Tryz.ntmps174
        go_wp2_with fail
        refine (Tryz.strings_HasSuffix _ _ _ (by omega)).mono ?_
        rintro e w' ⟨rfl, rfl⟩
        go_wp2_with fail
        refine (Tryz.strings_Contains_one _ _ _).mono ?_
        rintro e w' ⟨rfl, rfl⟩
        go_wp2_with fail
        go_ret
        refine ⟨ret_int ?_, rfl⟩
        simp only [sRole]
        rw [unhide HX]
        simp [ByteArray.size, unhide HI]
  · have HX := hide hx
    go_enter Tryz.func174, Tryz.ntmps174
    go_wp2_with fail
    refine (Tryz.strings_HasSuffix _ _ _ (by omega)).mono ?_
    rintro e w' ⟨rfl, rfl⟩
    go_wp2_with fail
    go_ret
    exact ⟨ret_int (by simp [sRole, unhide HX]), rfl⟩
end Go.Proofs.YtjobgpahajhbnaaGreatDoor
namespace Go.Proofs.YtjobgpahajhbnaaGreatDoor
open Go.RowKit

theorem sgnE_yes (s : ByteArray) (h : 1 < s.size) (ht : tailU s[1] = true) : sgnE (s.data.toList.drop 1) = 2 := by
  rw [drop_cons s 1 h]; simp only [sgnE, ht, if_true]
theorem sgnE_not (s : ByteArray) (h : 1 < s.size) (ht : tailU s[1] = false) : sgnE (s.data.toList.drop 1) = 1 := by
  rw [drop_cons s 1 h]; simp only [sgnE, ht]; rfl
theorem sgnE_short (s : ByteArray) (h : ¬ 1 < s.size) : sgnE (s.data.toList.drop 1) = 1 := by
  rw [List.drop_eq_nil_of_le (by simp; omega)]; rfl
theorem ext_size (s : ByteArray) (n : Nat) (h : n ≤ s.size) : (s.extract 0 n).size = n := by
  rw [ByteArray.size_extract]; omega


def tokV (k r : Int) (t : ByteArray) (p : Int) : Value := .agg #[.int .i64 k, .int .i64 r, .int .i64 0, .string t, .int .i64 p]

set_option maxHeartbeats 400000 in
theorem cutSign_any (s : ByteArray) (w : World) (h0 : 0 < s.size) (hs : s.size ≤ 200) (n : Nat) (hn : n = sgnE (s.data.toList.drop 1)) :
    Calls Tryz.prog 148 #[.string s] w fun e w' => e = .returned (tokV 3 (sRole (s.extract 0 n)) (s.extract 0 n) 0) ∧ Below w.heap.size w w' := by
  by_cases h1 : 1 < s.size
  · cases ht : tailU s[1]
    · rw [sgnE_not s h1 ht] at hn
      subst hn
      have hz := ext_size s 1 (by omega)
      have HZ := hide hz
      clear hz
      have HT := hide ht
      clear ht
      go_enter Tryz.func148, Tryz.ntmps148
      go_wp2_with fail
      refine (ixTail_no _ _ (unhide HT)).mono ?_
      rintro e w' ⟨rfl, rfl⟩
      go_wp2_with fail
      refine (signRoles_any _ _ (by rw [unhide HZ]; omega) (by rw [unhide HZ]; omega)).mono ?_
      rintro e w' ⟨rfl, rfl⟩
      go_wp2_with fail
      refine bodyPost_ret (v := .agg #[.int .i64 3, .int .i64 (sRole (s.extract 0 1)), .int .i64 0, .string (s.extract 0 1), .int .i64 0]) (by simp [results, Tryz.results148, go_sem]) rfl ⟨rfl, ?_⟩
      exact (Below.refl _ _).alloc (Nat.le_refl _) _
    · rw [sgnE_yes s h1 ht] at hn
      subst hn
      have hz := ext_size s 2 (by omega)
      have HZ := hide hz
      clear hz
      have HT := hide ht
      clear ht
      go_enter Tryz.func148, Tryz.ntmps148
      go_wp2_with fail
      refine (ixTail_yes _ _ (unhide HT)).mono ?_
      rintro e w' ⟨v, hv, rfl, rfl⟩
      go_wp2_with fail
      refine (signRoles_any _ _ (by rw [unhide HZ]; omega) (by rw [unhide HZ]; omega)).mono ?_
      rintro e w' ⟨rfl, rfl⟩
      go_wp2_with fail
      refine bodyPost_ret (v := .agg #[.int .i64 3, .int .i64 (sRole (s.extract 0 2)), .int .i64 0, .string (s.extract 0 2), .int .i64 0]) (by simp [results, Tryz.results148, go_sem]) rfl ⟨rfl, ?_⟩
      exact (Below.refl _ _).alloc (Nat.le_refl _) _
  · rw [sgnE_short s h1] at hn
    subst hn
    have hz := ext_size s 1 (by omega)
    have HZ := hide hz
    clear hz
    go_enter Tryz.func148, Tryz.ntmps148
    go_wp2_with fail
    refine (signRoles_any _ _ (by rw [unhide HZ]; omega) (by rw [unhide HZ]; omega)).mono ?_
    rintro e w' ⟨rfl, rfl⟩
    go_wp2_with fail
    refine bodyPost_ret (v := .agg #[.int .i64 3, .int .i64 (sRole (s.extract 0 1)), .int .i64 0, .string (s.extract 0 1), .int .i64 0]) (by simp [results, Tryz.results148, go_sem]) rfl ⟨rfl, ?_⟩
    exact (Below.refl _ _).alloc (Nat.le_refl _) _

/-- the length of the word with which a text begins -/
def wlen (s : ByteArray) : Nat := (s.data.toList.takeWhile lU).length
theorem wlen_le (s : ByteArray) : wlen s ≤ s.size := by
  unfold wlen
  have h := (List.takeWhile_sublist (l := s.data.toList) lU).length_le
  simpa using h
def wKind (t : ByteArray) : Int := bif wRole t != 0 then 3 else bif t.toList == [105, 115] then 2 else 1
def wOk (t : ByteArray) : Bool := wRole t != 0 || t.toList == [105, 115] || decide ((t.size : Int) ≤ 4)

set_option maxHeartbeats 400000 in
theorem cutWord_any (s : ByteArray) (w : World) (hs : s.size ≤ 200) (n : Nat) (hn : n = wlen s) :
    Calls Tryz.prog 146 #[.string s] w fun e w' => e = .returned (.tuple #[tokV (wKind (s.extract 0 n)) (wRole (s.extract 0 n)) (s.extract 0 n) 0, .bool (wOk (s.extract 0 n))]) ∧ Below w.heap.size w w' := by
  have hle := wlen_le s
  have HW : Hid (((s.data.toList.takeWhile lU).length : Int) = (n : Int)) := by rw [hn]; rfl
  have hnl : n ≤ s.size := by omega
  clear hn hle
  obtain ⟨t, hx⟩ : ∃ t, s.extract 0 n = t := ⟨_, rfl⟩
  have HX := hide hx
  have hts : t.size ≤ 200 := by rw [← hx, ext_size s n hnl]; omega
  rw [hx]
  clear hx
  cases hr : (wRole t != 0)
  · have HR := hide (show wRole t = 0 by simpa using hr)
    clear hr
    cases hi : (t.toList == [105, 115])
    · have HI := hide hi
      go_enter Tryz.func146, Tryz.ntmps146
      go_wp2_with fail
      refine (countLet _ _ hs).mono ?_
      rintro e w' ⟨rfl, rfl⟩
      rw [unhide HW]
      go_wp2_with fail
      rw [unhide HX]
      refine (wordRoles_any _ _).mono ?_
      rintro e w' ⟨rfl, rfl⟩
      rw [unhide HR]
      go_wp2_with fail
      refine bodyPost_ret (v := .tuple #[.agg #[.int .i64 1, .int .i64 0, .int .i64 0, .string t, .int .i64 0], .bool (decide ((t.size : Int) ≤ 4))]) (by simp [results, Tryz.results146, go_sem]) rfl ⟨?_, ?_⟩
      · simp [tokV, wKind, wOk, unhide HR, unhide HI]
      · exact (Below.refl _ _).alloc (Nat.le_refl _) _
    · have HI := hide hi
      go_enter Tryz.func146, Tryz.ntmps146
      go_wp2_with fail
      refine (countLet _ _ hs).mono ?_
      rintro e w' ⟨rfl, rfl⟩
      rw [unhide HW]
      go_wp2_with fail
      rw [unhide HX]
      refine (wordRoles_any _ _).mono ?_
      rintro e w' ⟨rfl, rfl⟩
      rw [unhide HR]
      go_wp2_with fail
      refine bodyPost_ret (v := .tuple #[.agg #[.int .i64 2, .int .i64 0, .int .i64 0, .string t, .int .i64 0], .bool true]) (by simp [results, Tryz.results146, go_sem]) rfl ⟨?_, ?_⟩
      · simp [tokV, wKind, wOk, unhide HR, unhide HI]
      · exact (Below.refl _ _).alloc (Nat.le_refl _) _
  · have HR := hide hr
    go_enter Tryz.func146, Tryz.ntmps146
    go_wp2_with fail
    refine (countLet _ _ hs).mono ?_
    rintro e w' ⟨rfl, rfl⟩
    rw [unhide HW]
    go_wp2_with fail
    rw [unhide HX]
    refine (wordRoles_any _ _).mono ?_
    rintro e w' ⟨rfl, rfl⟩
    go_wp2_with fail
    refine bodyPost_ret (v := .tuple #[.agg #[.int .i64 3, .int .i64 (wRole t), .int .i64 0, .string t, .int .i64 0], .bool true]) (by simp [results, Tryz.results146, go_sem]) rfl ⟨?_, ?_⟩
    · simp [tokV, wKind, wOk, unhide HR]
    · exact (Below.refl _ _).alloc (Nat.le_refl _) _
end Go.Proofs.YtjobgpahajhbnaaGreatDoor
