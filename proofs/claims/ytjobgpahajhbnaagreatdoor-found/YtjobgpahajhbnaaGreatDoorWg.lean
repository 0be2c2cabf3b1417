import Derived.Test.YtjobgpahajhbnaaGreatDoorPl
import Derived.Test.YtjobgpahajhbnaaGreatDoorShelf
namespace Go.Proofs.YtjobgpahajhbnaaGreatDoor
open Go.RowKit

set_option maxHeartbeats 400000 in
theorem isDigit_any (c : Int) (w : World) :
    Calls Tryz.prog 143 #[.int .u8 c] w fun e w' => e = .returned (.bool (digB c)) ∧ w' = w := by
  by_cases h : 48 ≤ c
  all_goals
    go_enter Tryz.func143, Tryz.ntmps143
    go_wp2
    go_ret
    refine ⟨?_, rfl⟩
    unfold digB
    congr 2
    simp; try omega

set_option maxHeartbeats 400000 in
theorem isLetter_any (c : Int) (w : World) :
    Calls Tryz.prog 145 #[.int .u8 c] w fun e w' => e = .returned (.bool (letB c)) ∧ w' = w := by
  by_cases h : 97 ≤ c
  all_goals
    go_enter Tryz.func145, Tryz.ntmps145
    go_wp2
    go_ret
    refine ⟨?_, rfl⟩
    unfold letB
    congr 2
    simp; try omega

def wRole (t : ByteArray) : Int :=
  bif t.toList == [105, 111, 116, 97] then 1 else bif t.toList == [117, 112] then 1 else bif t.toList == [100, 111, 119, 110] then 1 else bif t.toList == [102, 108, 105, 112] then 1 else bif t.toList == [114, 97, 118, 101, 108] then 1 else bif t.toList == [114, 104, 111] then 3 else bif t.toList == [114, 101, 118] then 3 else bif t.toList == [116, 97, 107, 101] then 2 else bif t.toList == [100, 114, 111, 112] then 2 else bif t.toList == [99, 97, 116] then 2 else bif t.toList == [105, 110] then 2 else bif t.toList == [97, 116] then 2 else bif t.toList == [107, 101, 101, 112] then 2 else 0
set_option maxHeartbeats 1000000 in
theorem wordRoles_any (t : ByteArray) (w : World) :
    Calls Tryz.prog 172 #[.string t] w fun e w' => e = .returned (.int .i64 (wRole t)) ∧ w' = w := by
  cases h0 : (t.toList == [105, 111, 116, 97])
  rotate_left
  · have H0 := hide h0
    go_enter Tryz.func172, Tryz.ntmps172
    go_wp2_with fail
    go_ret
    exact ⟨ret_int (by simp [wRole, unhide H0]), rfl⟩
  have H0 := hide h0
  cases h1 : (t.toList == [117, 112])
  rotate_left
  · have H1 := hide h1
    go_enter Tryz.func172, Tryz.ntmps172
    go_wp2_with fail
    go_ret
    exact ⟨ret_int (by simp [wRole, unhide H0, unhide H1]), rfl⟩
  have H1 := hide h1
  cases h2 : (t.toList == [100, 111, 119, 110])
  rotate_left
  · have H2 := hide h2
    go_enter Tryz.func172, Tryz.ntmps172
    go_wp2_with fail
    go_ret
    exact ⟨ret_int (by simp [wRole, unhide H0, unhide H1, unhide H2]), rfl⟩
  have H2 := hide h2
  cases h3 : (t.toList == [102, 108, 105, 112])
  rotate_left
  · have H3 := hide h3
    go_enter Tryz.func172, Tryz.ntmps172
    go_wp2_with fail
    go_ret
    exact ⟨ret_int (by simp [wRole, unhide H0, unhide H1, unhide H2, unhide H3]), rfl⟩
  have H3 := hide h3
  cases h4 : (t.toList == [114, 97, 118, 101, 108])
  rotate_left
  · have H4 := hide h4
    go_enter Tryz.func172, Tryz.ntmps172
    go_wp2_with fail
    go_ret
    exact ⟨ret_int (by simp [wRole, unhide H0, unhide H1, unhide H2, unhide H3, unhide H4]), rfl⟩
  have H4 := hide h4
  cases h5 : (t.toList == [114, 104, 111])
  rotate_left
  · have H5 := hide h5
    go_enter Tryz.func172, Tryz.ntmps172
    go_wp2_with fail
    go_ret
    exact ⟨ret_int (by simp [wRole, unhide H0, unhide H1, unhide H2, unhide H3, unhide H4, unhide H5]), rfl⟩
  have H5 := hide h5
  cases h6 : (t.toList == [114, 101, 118])
  rotate_left
  · have H6 := hide h6
    go_enter Tryz.func172, Tryz.ntmps172
    go_wp2_with fail
    go_ret
    exact ⟨ret_int (by simp [wRole, unhide H0, unhide H1, unhide H2, unhide H3, unhide H4, unhide H5, unhide H6]), rfl⟩
  have H6 := hide h6
  cases h7 : (t.toList == [116, 97, 107, 101])
  rotate_left
  · have H7 := hide h7
    go_enter Tryz.func172, Tryz.ntmps172
    go_wp2_with fail
    go_ret
    exact ⟨ret_int (by simp [wRole, unhide H0, unhide H1, unhide H2, unhide H3, unhide H4, unhide H5, unhide H6, unhide H7]), rfl⟩
  have H7 := hide h7
  cases h8 : (t.toList == [100, 114, 111, 112])
  rotate_left
  · have H8 := hide h8
    go_enter Tryz.func172, Tryz.ntmps172
    go_wp2_with fail
    go_ret
    exact ⟨ret_int (by simp [wRole, unhide H0, unhide H1, unhide H2, unhide H3, unhide H4, unhide H5, unhide H6, unhide H7, unhide H8]), rfl⟩
  have H8 := hide h8
  cases h9 : (t.toList == [99, 97, 116])
  rotate_left
  · have H9 := hide h9
    go_enter Tryz.func172, Tryz.ntmps172
    go_wp2_with fail
    go_ret
    exact ⟨ret_int (by simp [wRole, unhide H0, unhide H1, unhide H2, unhide H3, unhide H4, unhide H5, unhide H6, unhide H7, unhide H8, unhide H9]), rfl⟩
  have H9 := hide h9
  cases h10 : (t.toList == [105, 110])
  rotate_left
  · have H10 := hide h10
    go_enter Tryz.func172, Tryz.ntmps172
    go_wp2_with fail
    go_ret
    exact ⟨ret_int (by simp [wRole, unhide H0, unhide H1, unhide H2, unhide H3, unhide H4, unhide H5, unhide H6, unhide H7, unhide H8, unhide H9, unhide H10]), rfl⟩
  have H10 := hide h10
  cases h11 : (t.toList == [97, 116])
  rotate_left
  · have H11 := hide h11
    go_enter Tryz.func172, Tryz.ntmps172
    go_wp2_with fail
    go_ret
    exact ⟨ret_int (by simp [wRole, unhide H0, unhide H1, unhide H2, unhide H3, unhide H4, unhide H5, unhide H6, unhide H7, unhide H8, unhide H9, unhide H10, unhide H11]), rfl⟩
  have H11 := hide h11
  cases h12 : (t.toList == [107, 101, 101, 112])
  rotate_left
  · have H12 := hide h12
    go_enter Tryz.func172, Tryz.ntmps172
    go_wp2_with fail
    go_ret
    exact ⟨ret_int (by simp [wRole, unhide H0, unhide H1, unhide H2, unhide H3, unhide H4, unhide H5, unhide H6, unhide H7, unhide H8, unhide H9, unhide H10, unhide H11, unhide H12]), rfl⟩
  have H12 := hide h12
  go_enter Tryz.func172, Tryz.ntmps172
  go_wp2_with fail
  go_ret
  exact ⟨ret_int (by simp [wRole, unhide H0, unhide H1, unhide H2, unhide H3, unhide H4, unhide H5, unhide H6, unhide H7, unhide H8, unhide H9, unhide H10, unhide H11, unhide H12]), rfl⟩

theorem countDig_stop (t : ByteArray) (k : Nat) (hk : k ≤ t.size) (ha : (t.data.toList.take k).all dU = true) (hs : ∀ c, t.data.toList[k]? = some c → dU c = false) : (k : Int) = (t.data.toList.takeWhile dU).length := by
  rw [tw_stop ha hs, List.length_take]
  have : t.data.toList.length = t.size := by simp
  omega
set_option maxHeartbeats 400000 in
theorem countDig (t : ByteArray) (w : World) (hs : t.size ≤ 200) :
    Calls Tryz.prog 170 #[.string t, .func (Fn.func 143) #[] #[]] w fun e w' => e = .returned (.int .i64 (t.data.toList.takeWhile dU).length) ∧ w' = w := by
  go_enter Tryz.func170, Tryz.ntmps170
  go_wp2_with fail
  go_loop [8] (fun i => ∃ k : Nat, k ≤ t.size ∧ i = .int .i64 k ∧ (t.data.toList.take k).all dU = true) (fun i => t.size - (intOf i).toNat)
  case atStart => exact ⟨0, Nat.zero_le _, rfl, by simp⟩
  case round =>
    obtain ⟨k, hk, rfl, hall⟩ := hrel
    have HA := hide hall
    clear hall
    by_cases hlt : k < t.size
    · have hat := at_drop t 0 k (by omega)
      simp only [List.drop_zero, Nat.zero_add] at hat
      have HT := hide hat
      clear hat
      cases hg : digB ((t[k]'hlt).toNat : Int)
      · have HG := hide hg
        go_wp2_with (go_at_call 143; refine (isDigit_any _ _).mono ?_; rintro e w' ⟨rfl, rfl⟩)
        go_ret
        exact ⟨ret_int (countDig_stop t k hk (unhide HA) (by
          intro c hc
          rw [unhide HT] at hc
          injection hc with e
          subst e
          exact unhide HG)), rfl⟩
      · have HG := hide hg
        go_wp2_with (go_at_call 143; refine (isDigit_any _ _).mono ?_; rintro e w' ⟨rfl, rfl⟩)
        go_round
        case rel => exact ⟨k + 1, by omega, by go_num, all_snoc (unhide HT) (unhide HA) (unhide HG)⟩
        case measure => simp [intOf]; omega
    · have he : k = t.size := by omega
      have HE := hide he
      clear he
      go_wp2_with (go_at_call 143; refine (isDigit_any _ _).mono ?_; rintro e w' ⟨rfl, rfl⟩)
      go_ret
      refine ⟨ret_int ?_, rfl⟩
      rw [← countDig_stop t k hk (unhide HA) (by
          intro c hc
          rw [List.getElem?_eq_none (by have := unhide HE; simp; omega)] at hc
          cases hc)]
      rw [unhide HE]
theorem countLet_stop (t : ByteArray) (k : Nat) (hk : k ≤ t.size) (ha : (t.data.toList.take k).all lU = true) (hs : ∀ c, t.data.toList[k]? = some c → lU c = false) : (k : Int) = (t.data.toList.takeWhile lU).length := by
  rw [tw_stop ha hs, List.length_take]
  have : t.data.toList.length = t.size := by simp
  omega
set_option maxHeartbeats 400000 in
theorem countLet (t : ByteArray) (w : World) (hs : t.size ≤ 200) :
    Calls Tryz.prog 170 #[.string t, .func (Fn.func 145) #[] #[]] w fun e w' => e = .returned (.int .i64 (t.data.toList.takeWhile lU).length) ∧ w' = w := by
  go_enter Tryz.func170, Tryz.ntmps170
  go_wp2_with fail
  go_loop [8] (fun i => ∃ k : Nat, k ≤ t.size ∧ i = .int .i64 k ∧ (t.data.toList.take k).all lU = true) (fun i => t.size - (intOf i).toNat)
  case atStart => exact ⟨0, Nat.zero_le _, rfl, by simp⟩
  case round =>
    obtain ⟨k, hk, rfl, hall⟩ := hrel
    have HA := hide hall
    clear hall
    by_cases hlt : k < t.size
    · have hat := at_drop t 0 k (by omega)
      simp only [List.drop_zero, Nat.zero_add] at hat
      have HT := hide hat
      clear hat
      cases hg : letB ((t[k]'hlt).toNat : Int)
      · have HG := hide hg
        go_wp2_with (go_at_call 145; refine (isLetter_any _ _).mono ?_; rintro e w' ⟨rfl, rfl⟩)
        go_ret
        exact ⟨ret_int (countLet_stop t k hk (unhide HA) (by
          intro c hc
          rw [unhide HT] at hc
          injection hc with e
          subst e
          exact unhide HG)), rfl⟩
      · have HG := hide hg
        go_wp2_with (go_at_call 145; refine (isLetter_any _ _).mono ?_; rintro e w' ⟨rfl, rfl⟩)
        go_round
        case rel => exact ⟨k + 1, by omega, by go_num, all_snoc (unhide HT) (unhide HA) (unhide HG)⟩
        case measure => simp [intOf]; omega
    · have he : k = t.size := by omega
      have HE := hide he
      clear he
      go_wp2_with (go_at_call 145; refine (isLetter_any _ _).mono ?_; rintro e w' ⟨rfl, rfl⟩)
      go_ret
      refine ⟨ret_int ?_, rfl⟩
      rw [← countLet_stop t k hk (unhide HA) (by
          intro c hc
          rw [List.getElem?_eq_none (by have := unhide HE; simp; omega)] at hc
          cases hc)]
      rw [unhide HE]
end Go.Proofs.YtjobgpahajhbnaaGreatDoor
