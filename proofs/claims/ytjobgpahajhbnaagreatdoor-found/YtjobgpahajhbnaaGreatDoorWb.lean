import Derived.Test.YtjobgpahajhbnaaGreatDoorPl
import Derived.Deep.QuietTactic
import Derived.BigQuiet
import Derived.Deep.RegionWith
namespace Go.Proofs.YtjobgpahajhbnaaGreatDoor
open Go.RowKit

def rch (s : ByteArray) (a : Nat) : Int := match tl (s.data.toList.drop a) with
  | none => -1
  | some n => ((a + n : Nat) : Int)
theorem rch_at (s : ByteArray) (a : Nat) (h : a < s.size) : rch s a = match tl (s[a] :: s.data.toList.drop (a + 1)) with
  | none => -1
  | some n => ((a + n : Nat) : Int) := by
  unfold rch; rw [drop_cons s a h]

/-- the number's end: a number begins at f -/
def nrch (s : ByteArray) (f : Nat) : Int := match numE 0 (s.data.toList.drop f) with
  | none => -1
  | some n => ((f + n : Nat) : Int)
theorem rch_dig (s : ByteArray) (a : Nat) (h : a < s.size) (hd : digB (s[a].toNat : Int) = true) : rch s a = nrch s a := by
  rw [rch_at s a h, nrch, drop_cons s a h]
  have : dU s[a] = true := hd
  simp only [tl, this, cond_true]
theorem numE_one (l : List UInt8) : numE 1 l = (numE 0 l).map (· + 1) := by
  simp only [numE]
  split <;> simp; omega
theorem rch_low (s : ByteArray) (a : Nat) (h : a < s.size) (hd : digB (s[a].toNat : Int) = false) (h9 : (s[a].toNat : Int) = 95) : rch s a = nrch s (a + 1) := by
  rw [rch_at s a h, nrch]
  have h1 : dU s[a] = false := hd
  have h2 : (s[a] == 95) = true := by
    rw [beq_iff_eq]; exact UInt8.toNat_inj.1 (by have : UInt8.toNat 95 = 95 := rfl; omega)
  simp only [tl, h1, h2, cond_true, cond_false]
  rw [numE_one]
  cases numE 0 (s.data.toList.drop (a + 1)) with
  | none => rfl
  | some n =>
    show ((a + (n + 1) : Nat) : Int) = ((a + 1 + n : Nat) : Int)
    omega
theorem nrch_long (s : ByteArray) (f j : Nat) (ha : ((s.data.toList.drop f).take j).all dU = true) (hj : j ≤ (s.data.toList.drop f).length) (hl : 19 < j) : nrch s f = -1 := by
  have := tw_long ha hj
  simp only [nrch, numE]
  rw [if_pos (by left; omega)]
theorem nrch_end (s : ByteArray) (f j : Nat) (hj : j ≤ (s.data.toList.drop f).length) (hl : j ≤ 19) (ha : ((s.data.toList.drop f).take j).all dU = true) (hs : ∀ c, (s.data.toList.drop f)[j]? = some c → dU c = false) :
    nrch s f = if j = 0 ∨ 9223372036854775807 < val ((s.data.toList.drop f).take j) then -1 else ((f + j : Nat) : Int) := by
  have e := tw_stop ha hs
  have hlen : ((s.data.toList.drop f).take j).length = j := by rw [List.length_take]; omega
  simp only [nrch, numE, e, hlen]
  by_cases h : j = 0 ∨ 9223372036854775807 < val ((s.data.toList.drop f).take j)
  · rw [if_pos h, if_pos (by right; exact h)]
  · rw [if_neg h, if_neg (by omega)]
    simp

theorem pow_le (j : Nat) (h : j < 19) : 10 ^ j ≤ 1000000000000000000 := by
  have : 10 ^ j ≤ 10 ^ 18 := Nat.pow_le_pow_right (by decide) (by omega)
  simpa using this
theorem pow_le' (j : Nat) (h : j ≤ 19) : 10 ^ j ≤ 10000000000000000000 := by
  have : 10 ^ j ≤ 10 ^ 19 := Nat.pow_le_pow_right (by decide) h
  simpa using this
theorem nstep {l : List UInt8} {j N : Nat} {c : UInt8} (hN : val (l.take j) = N) (hc : l[j]? = some c) (hd : digB (c.toNat : Int) = true) (hv : N < 1000000000000000000) :
    Value.int .u64 (IntKind.u64.wrap (IntKind.u64.wrap (10 * (N : Int)) + ((c.toNat : Int) - 48) % 256)) = Value.int .u64 ((val (l.take (j + 1)) : Nat) : Int) := by
  rw [take_snoc hc, val_snoc, hN]
  simp [digB] at hd
  have h1 : IntKind.u64.wrap (10 * (N : Int)) = 10 * (N : Int) := IntWalk.u64_in _ (by omega)
  have h2 : ((c.toNat : Int) - 48) % 256 = (c.toNat : Int) - 48 := by omega
  rw [h1, h2, IntWalk.u64_in _ (by omega)]
  congr 1
  omega
theorem nend_bad (s : ByteArray) (f j N : Nat) (x y : Int) (hj : f + j ≤ s.size) (hl : j ≤ 19) (ha : ((s.data.toList.drop f).take j).all dU = true) (hs : ∀ c, (s.data.toList.drop f)[j]? = some c → dU c = false)
    (hN : val ((s.data.toList.drop f).take j) = N) (hx : x = (f : Int) + j) (hy : y = f) (h : (x == y) = true ∨ 9223372036854775807 < (N : Int)) : nrch s f = -1 := by
  rw [nrch_end s f j (by rw [len_drop]; omega) hl ha hs, hN, if_pos]
  rcases h with h | h
  · left; have := beq_iff_eq.1 h; omega
  · right; omega
theorem nend_ok (s : ByteArray) (f j N : Nat) (x y : Int) (hj : f + j ≤ s.size) (hl : j ≤ 19) (ha : ((s.data.toList.drop f).take j).all dU = true) (hs : ∀ c, (s.data.toList.drop f)[j]? = some c → dU c = false)
    (hN : val ((s.data.toList.drop f).take j) = N) (hx : x = (f : Int) + j) (hy : y = f) (h : (x == y) = false ∧ (N : Int) ≤ 9223372036854775807) : nrch s f = x := by
  rw [nrch_end s f j (by rw [len_drop]; omega) hl ha hs, hN, if_neg]
  · omega
  · have := beq_eq_false_iff_ne.1 h.1
    omega
theorem stop_at {p : UInt8 → Bool} {l : List UInt8} {j : Nat} {d : UInt8} (hat : l[j]? = some d) (h : p d = false) : ∀ c, l[j]? = some c → p c = false := by
  intro c hc
  rw [hat] at hc
  injection hc with e
  subst e
  exact h
theorem stop_end {p : UInt8 → Bool} {l : List UInt8} {j : Nat} (hat : l[j]? = none) : ∀ c, l[j]? = some c → p c = false := by
  intro c hc
  rw [hat] at hc
  cases hc

set_option maxHeartbeats 1000000 in
theorem reach_dig (s : ByteArray) (a : Nat) (w : World) (hs : s.size ≤ 200) (h : a < s.size) (hd : digB (s[a].toNat : Int) = true) :
    Calls Tryz.prog 113 #[.string s, .int .i64 a] w fun e w' => e = .returned (.int .i64 (nrch s (a))) ∧ w' = w := by
  have HD := hide hd
  go_enter Tryz.func113, Tryz.ntmps113
  go_wp2_with fail
  refine (digit_any _ _).mono ?_
  rintro e w' ⟨rfl, rfl⟩
  go_wp2_with fail
  refine (letter_any _ _).mono ?_
  rintro e w' ⟨rfl, rfl⟩
  go_wp2_with fail
  refine (sign_any _ _).mono ?_
  rintro e w' ⟨rfl, rfl⟩
  go_wp2_with fail
  go_loop [6, 11] (fun k n => ∃ j : Nat, j ≤ 19 ∧ a + j ≤ s.size ∧ k = .int .i64 ((a : Int) + (j : Int)) ∧ n = .int .u64 (val ((s.data.toList.drop (a)).take j)) ∧ ((s.data.toList.drop (a)).take j).all dU = true) (fun k _ => s.size - (intOf k).toNat)
  case atStart => exact ⟨0, by omega, by omega, by simp, by simp [val], by simp⟩
  case round =>
    obtain ⟨j, hj, hjs, rfl, rfl, hall⟩ := hrel
    have HA := hide hall
    clear hall
    have hlen := take_len s (a) j hjs
    have hv := val_lt j _ hlen (unhide HA)
    clear hlen
    obtain ⟨N, hN⟩ : ∃ N, val ((s.data.toList.drop (a)).take j) = N := ⟨_, rfl⟩
    rw [hN] at hv ⊢
    have HN := hide hN
    clear hN
    by_cases hlt : a + j < s.size
    · have hat := hide (at_drop s (a) j hlt)
      cases hdg : digB ((s[a + j]'hlt).toNat : Int)
      · have HG := hide hdg
        clear hv
        go_wp2_with (go_at_call 160; refine (digit_any _ _).mono ?_; rintro e w' ⟨rfl, rfl⟩)
        all_goals go_ret
        · exact ⟨ret_int (nend_bad s (a) j N ((a : Int) + (j : Int)) ((a : Int)) hjs hj (unhide HA) (stop_at (unhide hat) (unhide HG)) (unhide HN) (by omega) (by omega) (Or.inl (by simp; omega))).symm, rfl⟩
        · exact ⟨ret_int (nend_bad s (a) j N ((a : Int) + (j : Int)) ((a : Int)) hjs hj (unhide HA) (stop_at (unhide hat) (unhide HG)) (unhide HN) (by omega) (by omega) (by assumption)).symm, rfl⟩
        · exact ⟨ret_int (nend_ok s (a) j N ((a : Int) + (j : Int)) ((a : Int)) hjs hj (unhide HA) (stop_at (unhide hat) (unhide HG)) (unhide HN) (by omega) (by omega) (by assumption)).symm, rfl⟩
      · have HG := hide hdg
        by_cases h19 : j < 19
        · have hp := pow_le j h19
          have hv2 : N < 1000000000000000000 := by omega
          have HV := hide hv2
          clear hv hp hv2
          go_wp2_with (go_at_call 160; refine (digit_any _ _).mono ?_; rintro e w' ⟨rfl, rfl⟩)
          go_round
          case rel => exact ⟨j + 1, by omega, by omega, by go_num, nstep (unhide HN) (unhide hat) (unhide HG) (unhide HV), all_snoc (unhide hat) (unhide HA) (unhide HG)⟩
          case measure => simp [intOf]; omega
        · clear hv
          go_wp2_with (go_at_call 160; refine (digit_any _ _).mono ?_; rintro e w' ⟨rfl, rfl⟩)
          go_ret
          exact ⟨ret_int (nrch_long s (a) (j + 1) (all_snoc (unhide hat) (unhide HA) (unhide HG)) (by rw [len_drop]; omega) (by omega)).symm, rfl⟩
    · have hat := hide (at_drop_none s (a) j (by omega))
      clear hv
      by_cases hj0 : j = 0
      · omega
      · go_wp2_with (go_at_call 160; refine (digit_any _ _).mono ?_; rintro e w' ⟨rfl, rfl⟩)
        all_goals go_ret
        · exact ⟨ret_int (nend_bad s (a) j N ((a : Int) + (j : Int)) ((a : Int)) hjs hj (unhide HA) (stop_end (unhide hat)) (unhide HN) (by omega) (by omega) (by assumption)).symm, rfl⟩
        · exact ⟨ret_int (nend_ok s (a) j N ((a : Int) + (j : Int)) ((a : Int)) hjs hj (unhide HA) (stop_end (unhide hat)) (unhide HN) (by omega) (by omega) (by assumption)).symm, rfl⟩
set_option maxHeartbeats 1000000 in
theorem reach_low (s : ByteArray) (a : Nat) (w : World) (hs : s.size ≤ 200) (h : a < s.size) (hd : digB (s[a].toNat : Int) = false) (h9 : (s[a].toNat : Int) = 95) :
    Calls Tryz.prog 113 #[.string s, .int .i64 a] w fun e w' => e = .returned (.int .i64 (nrch s (a + 1))) ∧ w' = w := by
  have HD := hide hd
  go_enter Tryz.func113, Tryz.ntmps113
  go_wp2_with fail
  refine (digit_any _ _).mono ?_
  rintro e w' ⟨rfl, rfl⟩
  go_wp2_with fail
  refine (letter_any _ _).mono ?_
  rintro e w' ⟨rfl, rfl⟩
  go_wp2_with fail
  refine (sign_any _ _).mono ?_
  rintro e w' ⟨rfl, rfl⟩
  go_wp2_with fail
  go_loop [6, 11] (fun k n => ∃ j : Nat, j ≤ 19 ∧ a + 1 + j ≤ s.size ∧ k = .int .i64 ((a : Int) + 1 + (j : Int)) ∧ n = .int .u64 (val ((s.data.toList.drop (a + 1)).take j)) ∧ ((s.data.toList.drop (a + 1)).take j).all dU = true) (fun k _ => s.size - (intOf k).toNat)
  case atStart => exact ⟨0, by omega, by omega, by simp, by simp [val], by simp⟩
  case round =>
    obtain ⟨j, hj, hjs, rfl, rfl, hall⟩ := hrel
    have HA := hide hall
    clear hall
    have hlen := take_len s (a + 1) j hjs
    have hv := val_lt j _ hlen (unhide HA)
    clear hlen
    obtain ⟨N, hN⟩ : ∃ N, val ((s.data.toList.drop (a + 1)).take j) = N := ⟨_, rfl⟩
    rw [hN] at hv ⊢
    have HN := hide hN
    clear hN
    by_cases hlt : a + 1 + j < s.size
    · have hat := hide (at_drop s (a + 1) j hlt)
      cases hdg : digB ((s[a + 1 + j]'hlt).toNat : Int)
      · have HG := hide hdg
        clear hv
        go_wp2_with (go_at_call 160; refine (digit_any _ _).mono ?_; rintro e w' ⟨rfl, rfl⟩)
        all_goals go_ret
        · exact ⟨ret_int (nend_bad s (a + 1) j N ((a : Int) + 1 + (j : Int)) ((a : Int) + 1) hjs hj (unhide HA) (stop_at (unhide hat) (unhide HG)) (unhide HN) (by omega) (by omega) (Or.inl (by simp; omega))).symm, rfl⟩
        · exact ⟨ret_int (nend_bad s (a + 1) j N ((a : Int) + 1 + (j : Int)) ((a : Int) + 1) hjs hj (unhide HA) (stop_at (unhide hat) (unhide HG)) (unhide HN) (by omega) (by omega) (by assumption)).symm, rfl⟩
        · exact ⟨ret_int (nend_ok s (a + 1) j N ((a : Int) + 1 + (j : Int)) ((a : Int) + 1) hjs hj (unhide HA) (stop_at (unhide hat) (unhide HG)) (unhide HN) (by omega) (by omega) (by assumption)).symm, rfl⟩
      · have HG := hide hdg
        by_cases h19 : j < 19
        · have hp := pow_le j h19
          have hv2 : N < 1000000000000000000 := by omega
          have HV := hide hv2
          clear hv hp hv2
          go_wp2_with (go_at_call 160; refine (digit_any _ _).mono ?_; rintro e w' ⟨rfl, rfl⟩)
          go_round
          case rel => exact ⟨j + 1, by omega, by omega, by go_num, nstep (unhide HN) (unhide hat) (unhide HG) (unhide HV), all_snoc (unhide hat) (unhide HA) (unhide HG)⟩
          case measure => simp [intOf]; omega
        · clear hv
          go_wp2_with (go_at_call 160; refine (digit_any _ _).mono ?_; rintro e w' ⟨rfl, rfl⟩)
          go_ret
          exact ⟨ret_int (nrch_long s (a + 1) (j + 1) (all_snoc (unhide hat) (unhide HA) (unhide HG)) (by rw [len_drop]; omega) (by omega)).symm, rfl⟩
    · have hat := hide (at_drop_none s (a + 1) j (by omega))
      clear hv
      by_cases hj0 : j = 0
      · subst hj0
        go_wp2_with (go_at_call 160; refine (digit_any _ _).mono ?_; rintro e w' ⟨rfl, rfl⟩)
        go_ret
        exact ⟨ret_int (nend_bad s (a + 1) 0 N ((a : Int) + 1 + ((0 : Nat) : Int)) ((a : Int) + 1) hjs hj (unhide HA) (stop_end (unhide hat)) (unhide HN) (by omega) (by omega) (Or.inl (by simp))).symm, rfl⟩
      · go_wp2_with (go_at_call 160; refine (digit_any _ _).mono ?_; rintro e w' ⟨rfl, rfl⟩)
        all_goals go_ret
        · exact ⟨ret_int (nend_bad s (a + 1) j N ((a : Int) + 1 + (j : Int)) ((a : Int) + 1) hjs hj (unhide HA) (stop_end (unhide hat)) (unhide HN) (by omega) (by omega) (by assumption)).symm, rfl⟩
        · exact ⟨ret_int (nend_ok s (a + 1) j N ((a : Int) + 1 + (j : Int)) ((a : Int) + 1) hjs hj (unhide HA) (stop_end (unhide hat)) (unhide HN) (by omega) (by omega) (by assumption)).symm, rfl⟩
end Go.Proofs.YtjobgpahajhbnaaGreatDoor
