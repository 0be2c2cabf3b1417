import Derived.Test.YtjobgpahajhbnaaGreatDoorPl
import Derived.Deep.QuietTactic
import Derived.BigQuiet
import Derived.Deep.RegionWith
namespace Go.Proofs.YtjobgpahajhbnaaGreatDoor
open Go.RowKit

def rch (s : ByteArray) (a : Nat) : Int := match tl (s.data.toList.drop a) with
  | none => -1
  | some n => ((a + n : Nat) : Int)
theorem rch_at (s : ByteArray) (a : Nat) (h : a < s.size) : rch s a = match tl (s[a] :: s.data.toList.drop (a + 1)) with
  | none => -1
  | some n => ((a + n : Nat) : Int) := by
  unfold rch; rw [drop_cons s a h]

/-- the number's end: a number begins at f -/
def nrch (s : ByteArray) (f : Nat) : Int := match numE 0 (s.data.toList.drop f) with
  | none => -1
  | some n => ((f + n : Nat) : Int)
theorem rch_dig (s : ByteArray) (a : Nat) (h : a < s.size) (hd : digB (s[a].toNat : Int) = true) : rch s a = nrch s a := by
  rw [rch_at s a h, nrch, drop_cons s a h]
  have : dU s[a] = true := hd
  simp only [tl, this, cond_true]
theorem numE_one (l : List UInt8) : numE 1 l = (numE 0 l).map (· + 1) := by
  simp only [numE]
  split <;> simp; omega
theorem rch_low (s : ByteArray) (a : Nat) (h : a < s.size) (hd : digB (s[a].toNat : Int) = false) (h9 : (s[a].toNat : Int) = 95) : rch s a = nrch s (a + 1) := by
  rw [rch_at s a h, nrch]
  have h1 : dU s[a] = false := hd
  have h2 : (s[a] == 95) = true := by
    rw [beq_iff_eq]; exact UInt8.toNat_inj.1 (by have : UInt8.toNat 95 = 95 := rfl; omega)
  simp only [tl, h1, h2, cond_true, cond_false]
  rw [numE_one]
  cases numE 0 (s.data.toList.drop (a + 1)) with
  | none => rfl
  | some n =>
    show ((a + (n + 1) : Nat) : Int) = ((a + 1 + n : Nat) : Int)
    omega
theorem nrch_long (s : ByteArray) (f j : Nat) (ha : ((s.data.toList.drop f).take j).all dU = true) (hj : j ≤ (s.data.toList.drop f).length) (hl : 19 < j) : nrch s f = -1 := by
  have := tw_long ha hj
  simp only [nrch, numE]
  rw [if_pos (by left; omega)]
theorem nrch_end (s : ByteArray) (f j : Nat) (hj : j ≤ (s.data.toList.drop f).length) (hl : j ≤ 19) (ha : ((s.data.toList.drop f).take j).all dU = true) (hs : ∀ c, (s.data.toList.drop f)[j]? = some c → dU c = false) :
    nrch s f = if j = 0 ∨ 9223372036854775807 < val ((s.data.toList.drop f).take j) then -1 else ((f + j : Nat) : Int) := by
  have e := tw_stop ha hs
  have hlen : ((s.data.toList.drop f).take j).length = j := by rw [List.length_take]; omega
  simp only [nrch, numE, e, hlen]
  by_cases h : j = 0 ∨ 9223372036854775807 < val ((s.data.toList.drop f).take j)
  · rw [if_pos h, if_pos (by right; exact h)]
  · rw [if_neg h, if_neg (by omega)]
    simp

theorem pow_le (j : Nat) (h : j < 19) : 10 ^ j ≤ 1000000000000000000 := by
  have : 10 ^ j ≤ 10 ^ 18 := Nat.pow_le_pow_right (by decide) (by omega)
  simpa using this
theorem pow_le' (j : Nat) (h : j ≤ 19) : 10 ^ j ≤ 10000000000000000000 := by
  have : 10 ^ j ≤ 10 ^ 19 := Nat.pow_le_pow_right (by decide) h
  simpa using this
theorem nstep {l : List UInt8} {j N : Nat} {c : UInt8} (hN : val (l.take j) = N) (hc : l[j]? = some c) (hd : digB (c.toNat : Int) = true) (hv : N < 1000000000000000000) :
    Value.int .u64 (IntKind.u64.wrap (IntKind.u64.wrap (10 * (N : Int)) + ((c.toNat : Int) - 48) % 256)) = Value.int .u64 ((val (l.take (j + 1)) : Nat) : Int) := by
  rw [take_snoc hc, val_snoc, hN]
  simp [digB] at hd
  have h1 : IntKind.u64.wrap (10 * (N : Int)) = 10 * (N : Int) := IntWalk.u64_in _ (by omega)
  have h2 : ((c.toNat : Int) - 48) % 256 = (c.toNat : Int) - 48 := by omega
  rw [h1, h2, IntWalk.u64_in _ (by omega)]
  congr 1
  omega
theorem nend_bad (s : ByteArray) (f j N : Nat) (x y : Int) (hj : f + j ≤ s.size) (hl : j ≤ 19) (ha : ((s.data.toList.drop f).take j).all dU = true) (hs : ∀ c, (s.data.toList.drop f)[j]? = some c → dU c = false)
    (hN : val ((s.data.toList.drop f).take j) = N) (hx : x = (f : Int) + j) (hy : y = f) (h : (x == y) = true ∨ 9223372036854775807 < (N : Int)) : nrch s f = -1 := by
  rw [nrch_end s f j (by rw [len_drop]; omega) hl ha hs, hN, if_pos]
  rcases h with h | h
  · left; have := beq_iff_eq.1 h; omega
  · right; omega
theorem nend_ok (s : ByteArray) (f j N : Nat) (x y : Int) (hj : f + j ≤ s.size) (hl : j ≤ 19) (ha : ((s.data.toList.drop f).take j).all dU = true) (hs : ∀ c, (s.data.toList.drop f)[j]? = some c → dU c = false)
    (hN : val ((s.data.toList.drop f).take j) = N) (hx : x = (f : Int) + j) (hy : y = f) (h : (x == y) = false ∧ (N : Int) ≤ 9223372036854775807) : nrch s f = x := by
  rw [nrch_end s f j (by rw [len_drop]; omega) hl ha hs, hN, if_neg]
  · omega
  · have := beq_eq_false_iff_ne.1 h.1
    omega
theorem stop_at {p : UInt8 → Bool} {l : List UInt8} {j : Nat} {d : UInt8} (hat : l[j]? = some d) (h : p d = false) : ∀ c, l[j]? = some c → p c = false := by
  intro c hc
  rw [hat] at hc
  injection hc with e
  subst e
  exact h
theorem stop_end {p : UInt8 → Bool} {l : List UInt8} {j : Nat} (hat : l[j]? = none) : ∀ c, l[j]? = some c → p c = false := by
  intro c hc
  rw [hat] at hc
  cases hc

set_option maxHeartbeats 1000000 in
theorem reach_dig (s : ByteArray) (a : Nat) (w : World) (hs : s.size ≤ 200) (h : a < s.size) (hd : digB (s[a].toNat : Int) = true) :
    Calls Tryz.prog 113 #[.string s, .int .i64 a] w fun e w' => e = .returned (.int .i64 (nrch s (a))) ∧ w' = w := by
  have HD := hide hd
  go_enter Tryz.func113, Tryz.ntmps113
  go_wp2_with fail
  refine (digit_any _ _).mono ?_
  rintro e w' ⟨rfl, rfl⟩
  go_wp2_with fail
  refine (letter_any _ _).mono ?_
  rintro e w' ⟨rfl, rfl⟩
  go_wp2_with fail
  refine (sign_any _ _).mono ?_
  rintro e w' ⟨rfl, rfl⟩
  go_wp2_with fail
  go_loop [6, 11] (fun k n => ∃ j : Nat, j ≤ 19 ∧ a + j ≤ s.size ∧ k = .int .i64 ((a : Int) + (j : Int)) ∧ n = .int .u64 (val ((s.data.toList.drop (a)).take j)) ∧ ((s.data.toList.drop (a)).take j).all dU = true) (fun k _ => s.size - (intOf k).toNat)
  case atStart => exact ⟨0, by omega, by omega, by simp, by simp [val], by simp⟩
  case round =>
    obtain ⟨j, hj, hjs, rfl, rfl, hall⟩ := hrel
    have HA := hide hall
    clear hall
    have hlen := take_len s (a) j hjs
    have hv := val_lt j _ hlen (unhide HA)
    clear hlen
    obtain ⟨N, hN⟩ : ∃ N, val ((s.data.toList.drop (a)).take j) = N := ⟨_, rfl⟩
    rw [hN] at hv ⊢
    have HN := hide hN
    clear hN
    by_cases hlt : a + j < s.size
    · have hat := hide (at_drop s (a) j hlt)
      cases hdg : digB ((s[a + j]'hlt).toNat : Int)
      · have HG := hide hdg
        clear hv
        go_wp2_with (go_at_call 160; refine (digit_any _ _).mono ?_; rintro e w' ⟨rfl, rfl⟩)
        all_goals go_ret
        · exact ⟨ret_int (nend_bad s (a) j N ((a : Int) + (j : Int)) ((a : Int)) hjs hj (unhide HA) (stop_at (unhide hat) (unhide HG)) (unhide HN) (by omega) (by omega) (Or.inl (by simp; omega))).symm, rfl⟩
        · exact ⟨ret_int (nend_bad s (a) j N ((a : Int) + (j : Int)) ((a : Int)) hjs hj (unhide HA) (stop_at (unhide hat) (unhide HG)) (unhide HN) (by omega) (by omega) (by assumption)).symm, rfl⟩
        · exact ⟨ret_int (nend_ok s (a) j N ((a : Int) + (j : Int)) ((a : Int)) hjs hj (unhide HA) (stop_at (unhide hat) (unhide HG)) (unhide HN) (by omega) (by omega) (by assumption)).symm, rfl⟩
      · have HG := hide hdg
        by_cases h19 : j < 19
        · have hp := pow_le j h19
          have hv2 : N < 1000000000000000000 := by omega
          have HV := hide hv2
          clear hv hp hv2
          go_wp2_with (go_at_call 160; refine (digit_any _ _).mono ?_; rintro e w' ⟨rfl, rfl⟩)
          go_round
          case rel => exact ⟨j + 1, by omega, by omega, by go_num, nstep (unhide HN) (unhide hat) (unhide HG) (unhide HV), all_snoc (unhide hat) (unhide HA) (unhide HG)⟩
          case measure => simp [intOf]; omega
        · clear hv
          go_wp2_with (go_at_call 160; refine (digit_any _ _).mono ?_; rintro e w' ⟨rfl, rfl⟩)
          go_ret
          exact ⟨ret_int (nrch_long s (a) (j + 1) (all_snoc (unhide hat) (unhide HA) (unhide HG)) (by rw [len_drop]; omega) (by omega)).symm, rfl⟩
    · have hat := hide (at_drop_none s (a) j (by omega))
      clear hv
      by_cases hj0 : j = 0
      · omega
      · go_wp2_with (go_at_call 160; refine (digit_any _ _).mono ?_; rintro e w' ⟨rfl, rfl⟩)
        all_goals go_ret
        · exact ⟨ret_int (nend_bad s (a) j N ((a : Int) + (j : Int)) ((a : Int)) hjs hj (unhide HA) (stop_end (unhide hat)) (unhide HN) (by omega) (by omega) (by assumption)).symm, rfl⟩
        · exact ⟨ret_int (nend_ok s (a) j N ((a : Int) + (j : Int)) ((a : Int)) hjs hj (unhide HA) (stop_end (unhide hat)) (unhide HN) (by omega) (by omega) (by assumption)).symm, rfl⟩
set_option maxHeartbeats 1000000 in
theorem reach_low (s : ByteArray) (a : Nat) (w : World) (hs : s.size ≤ 200) (h : a < s.size) (hd : digB (s[a].toNat : Int) = false) (h9 : (s[a].toNat : Int) = 95) :
    Calls Tryz.prog 113 #[.string s, .int .i64 a] w fun e w' => e = .returned (.int .i64 (nrch s (a + 1))) ∧ w' = w := by
  have HD := hide hd
  go_enter Tryz.func113, Tryz.ntmps113
  go_wp2_with fail
  refine (digit_any _ _).mono ?_
  rintro e w' ⟨rfl, rfl⟩
  go_wp2_with fail
  refine (letter_any _ _).mono ?_
  rintro e w' ⟨rfl, rfl⟩
  go_wp2_with fail
  refine (sign_any _ _).mono ?_
  rintro e w' ⟨rfl, rfl⟩
  go_wp2_with fail
  go_loop [6, 11] (fun k n => ∃ j : Nat, j ≤ 19 ∧ a + 1 + j ≤ s.size ∧ k = .int .i64 ((a : Int) + 1 + (j : Int)) ∧ n = .int .u64 (val ((s.data.toList.drop (a + 1)).take j)) ∧ ((s.data.toList.drop (a + 1)).take j).all dU = true) (fun k _ => s.size - (intOf k).toNat)
  case atStart => exact ⟨0, by omega, by omega, by simp, by simp [val], by simp⟩
  case round =>
    obtain ⟨j, hj, hjs, rfl, rfl, hall⟩ := hrel
    have HA := hide hall
    clear hall
    have hlen := take_len s (a + 1) j hjs
    have hv := val_lt j _ hlen (unhide HA)
    clear hlen
    obtain ⟨N, hN⟩ : ∃ N, val ((s.data.toList.drop (a + 1)).take j) = N := ⟨_, rfl⟩
    rw [hN] at hv ⊢
    have HN := hide hN
    clear hN
    by_cases hlt : a + 1 + j < s.size
    · have hat := hide (at_drop s (a + 1) j hlt)
      cases hdg : digB ((s[a + 1 + j]'hlt).toNat : Int)
      · have HG := hide hdg
        clear hv
        go_wp2_with (go_at_call 160; refine (digit_any _ _).mono ?_; rintro e w' ⟨rfl, rfl⟩)
        all_goals go_ret
        · exact ⟨ret_int (nend_bad s (a + 1) j N ((a : Int) + 1 + (j : Int)) ((a : Int) + 1) hjs hj (unhide HA) (stop_at (unhide hat) (unhide HG)) (unhide HN) (by omega) (by omega) (Or.inl (by simp; omega))).symm, rfl⟩
        · exact ⟨ret_int (nend_bad s (a + 1) j N ((a : Int) + 1 + (j : Int)) ((a : Int) + 1) hjs hj (unhide HA) (stop_at (unhide hat) (unhide HG)) (unhide HN) (by omega) (by omega) (by assumption)).symm, rfl⟩
        · exact ⟨ret_int (nend_ok s (a + 1) j N ((a : Int) + 1 + (j : Int)) ((a : Int) + 1) hjs hj (unhide HA) (stop_at (unhide hat) (unhide HG)) (unhide HN) (by omega) (by omega) (by assumption)).symm, rfl⟩
      · have HG := hide hdg
        by_cases h19 : j < 19
        · have hp := pow_le j h19
          have hv2 : N < 1000000000000000000 := by omega
          have HV := hide hv2
          clear hv hp hv2
          go_wp2_with (go_at_call 160; refine (digit_any _ _).mono ?_; rintro e w' ⟨rfl, rfl⟩)
          go_round
          case rel => exact ⟨j + 1, by omega, by omega, by go_num, nstep (unhide HN) (unhide hat) (unhide HG) (unhide HV), all_snoc (unhide hat) (unhide HA) (unhide HG)⟩
          case measure => simp [intOf]; omega
        · clear hv
          go_wp2_with (go_at_call 160; refine (digit_any _ _).mono ?_; rintro e w' ⟨rfl, rfl⟩)
          go_ret
          exact ⟨ret_int (nrch_long s (a + 1) (j + 1) (all_snoc (unhide hat) (unhide HA) (unhide HG)) (by rw [len_drop]; omega) (by omega)).symm, rfl⟩
    · have hat := hide (at_drop_none s (a + 1) j (by omega))
      clear hv
      by_cases hj0 : j = 0
      · subst hj0
        go_wp2_with (go_at_call 160; refine (digit_any _ _).mono ?_; rintro e w' ⟨rfl, rfl⟩)
        go_ret
        exact ⟨ret_int (nend_bad s (a + 1) 0 N ((a : Int) + 1 + ((0 : Nat) : Int)) ((a : Int) + 1) hjs hj (unhide HA) (stop_end (unhide hat)) (unhide HN) (by omega) (by omega) (Or.inl (by simp))).symm, rfl⟩
      · go_wp2_with (go_at_call 160; refine (digit_any _ _).mono ?_; rintro e w' ⟨rfl, rfl⟩)
        all_goals go_ret
        · exact ⟨ret_int (nend_bad s (a + 1) j N ((a : Int) + 1 + (j : Int)) ((a : Int) + 1) hjs hj (unhide HA) (stop_end (unhide hat)) (unhide HN) (by omega) (by omega) (by assumption)).symm, rfl⟩
        · exact ⟨ret_int (nend_ok s (a + 1) j N ((a : Int) + 1 + (j : Int)) ((a : Int) + 1) hjs hj (unhide HA) (stop_end (unhide hat)) (unhide HN) (by omega) (by omega) (by assumption)).symm, rfl⟩
end Go.Proofs.YtjobgpahajhbnaaGreatDoor
namespace Go.Proofs.YtjobgpahajhbnaaGreatDoor
open Go.RowKit
theorem u8_eq (c : UInt8) (n : Nat) (h : n < 256) : ((c.toNat : Int) == (n : Int)) = (c == UInt8.ofNat n) := by
  rw [Bool.eq_iff_iff]
  simp only [beq_iff_eq]
  constructor
  · intro e
    apply UInt8.toNat_inj.1
    rw [UInt8.toNat_ofNat_of_lt' (by simpa using h)]
    omega
  · intro e
    rw [e, UInt8.toNat_ofNat_of_lt' (by simpa using h)]
theorem rch_br (s : ByteArray) (a : Nat) (h : a < s.size) (hd : digB (s[a].toNat : Int) = false) (h9 : ((s[a].toNat : Int) == 95) = false) (hl : letB (s[a].toNat : Int) = false) (hb : ((s[a].toNat : Int) == 40) = true ∨ ((s[a].toNat : Int) == 41) = true) :
    rch s a = (a : Int) + 1 := by
  have h1 : dU s[a] = false := hd
  have h3 : lU s[a] = false := hl
  have h2 : (s[a] == 95) = false := (u8_eq s[a] 95 (by decide)).symm.trans h9
  have h4 : (s[a] == 40 || s[a] == 41) = true := by
    rcases hb with hb | hb
    · rw [show (s[a] == 40) = true from (u8_eq s[a] 40 (by decide)).symm.trans hb]; rfl
    · rw [show (s[a] == 41) = true from (u8_eq s[a] 41 (by decide)).symm.trans hb]; simp
  rw [rch_at s a h]
  simp only [tl, h1, h2, h3, h4, cond_true, cond_false]
  rfl
theorem rch_sg (s : ByteArray) (a : Nat) (h : a < s.size) (hd : digB (s[a].toNat : Int) = false) (h9 : ((s[a].toNat : Int) == 95) = false) (hl : letB (s[a].toNat : Int) = false) (hb : ((s[a].toNat : Int) == 40) = false) (hc : ((s[a].toNat : Int) == 41) = false)
    (hg : sgnB (s[a].toNat : Int) = true) :
    rch s a = (a : Int) + sgnE (s.data.toList.drop (a + 1)) := by
  have h1 : dU s[a] = false := hd
  have h3 : lU s[a] = false := hl
  have h2 : (s[a] == 95) = false := (u8_eq s[a] 95 (by decide)).symm.trans h9
  have h4 : (s[a] == 40 || s[a] == 41) = false := by
    rw [show (s[a] == 40) = false from (u8_eq s[a] 40 (by decide)).symm.trans hb, show (s[a] == 41) = false from (u8_eq s[a] 41 (by decide)).symm.trans hc]; rfl
  have h5 : gU s[a] = true := hg
  rw [rch_at s a h]
  simp only [tl, h1, h2, h3, h4, h5, cond_true, cond_false]
  simp
theorem rch_no (s : ByteArray) (a : Nat) (h : a < s.size) (hd : digB (s[a].toNat : Int) = false) (h9 : ((s[a].toNat : Int) == 95) = false) (hl : letB (s[a].toNat : Int) = false) (hb : ((s[a].toNat : Int) == 40) = false) (hc : ((s[a].toNat : Int) == 41) = false)
    (hg : sgnB (s[a].toNat : Int) = false) : rch s a = -1 := by
  have h1 : dU s[a] = false := hd
  have h3 : lU s[a] = false := hl
  have h2 : (s[a] == 95) = false := (u8_eq s[a] 95 (by decide)).symm.trans h9
  have h4 : (s[a] == 40 || s[a] == 41) = false := by
    rw [show (s[a] == 40) = false from (u8_eq s[a] 40 (by decide)).symm.trans hb, show (s[a] == 41) = false from (u8_eq s[a] 41 (by decide)).symm.trans hc]; rfl
  have h5 : gU s[a] = false := hg
  rw [rch_at s a h]
  simp only [tl, h1, h2, h3, h4, h5, cond_false]
theorem sgnE_end (s : ByteArray) (b : Nat) (h : s.size ≤ b) : sgnE (s.data.toList.drop b) = 1 := by
  rw [List.drop_eq_nil_of_le (by simpa using h)]; rfl
theorem sgnE_two (s : ByteArray) (b : Nat) (h : b < s.size) (ht : ((s[b].toNat : Int) == 47) = true ∨ ((s[b].toNat : Int) == 92) = true ∨ ((s[b].toNat : Int) == 46) = true) : sgnE (s.data.toList.drop b) = 2 := by
  rw [drop_cons s b h]
  have : tailU s[b] = true := by
    unfold tailU
    rcases ht with ht | ht | ht
    · rw [show (s[b] == 47) = true from (u8_eq s[b] 47 (by decide)).symm.trans ht]; rfl
    · rw [show (s[b] == 92) = true from (u8_eq s[b] 92 (by decide)).symm.trans ht]; simp
    · rw [show (s[b] == 46) = true from (u8_eq s[b] 46 (by decide)).symm.trans ht]; simp
  simp only [sgnE, this, if_true]
theorem sgnE_one (s : ByteArray) (b : Nat) (h : b < s.size) (h1 : ((s[b].toNat : Int) == 47) = false) (h2 : ((s[b].toNat : Int) == 92) = false) (h3 : ((s[b].toNat : Int) == 46) = false) : sgnE (s.data.toList.drop b) = 1 := by
  rw [drop_cons s b h]
  have : tailU s[b] = false := by
    unfold tailU
    rw [show (s[b] == 47) = false from (u8_eq s[b] 47 (by decide)).symm.trans h1, show (s[b] == 92) = false from (u8_eq s[b] 92 (by decide)).symm.trans h2, show (s[b] == 46) = false from (u8_eq s[b] 46 (by decide)).symm.trans h3]; rfl
  simp only [sgnE, this]
  rfl
end Go.Proofs.YtjobgpahajhbnaaGreatDoor
namespace Go.Proofs.YtjobgpahajhbnaaGreatDoor
open Go.RowKit

theorem below_drew {w w2 : World} (h : Below w.drew.heap.size w.drew w2) : Below w.heap.size w w2 := (Below.refl w.heap.size w).drew.trans h
theorem rch_word (s : ByteArray) (a j : Nat) (h : a < s.size) (hd : digB (s[a].toNat : Int) = false) (hl : letB (s[a].toNat : Int) = true) (hj : a + j ≤ s.size)
    (ha : ((s.data.toList.drop a).take j).all lU = true) (hs : ∀ c, (s.data.toList.drop a)[j]? = some c → lU c = false) :
    rch s a = if 4 < j ∧ amid fnL (s.extract a (a + j)) = false then -1 else (a : Int) + j := by
  have e := tw_stop ha hs
  have hlen := take_len s a j hj
  have h1 : dU s[a] = false := hd
  have h3 : lU s[a] = true := hl
  have h2 : (s[a] == 95) = false := by
    rw [beq_eq_false_iff_ne]
    intro e
    simp [letB] at hl
    rw [e] at hl
    revert hl; decide
  have hx : amid fnL (s.extract a (a + j)) = isFn ((s.data.toList.drop a).take j) := by
    unfold isFn
    apply amid_congr
    rw [ext_list]
    simp
  rw [rch_at s a h, hx]
  simp only [tl, h1, h2, h3, cond_true, cond_false]
  rw [← drop_cons s a h]
  simp only [wrdE, e, hlen]
  by_cases hc : 4 < j ∧ isFn ((s.data.toList.drop a).take j) = false
  · rw [if_pos hc, if_pos hc]
  · rw [if_neg hc, if_neg hc]
    simp

set_option maxHeartbeats 1000000 in
theorem reach_word (s : ByteArray) (a : Nat) (w : World) (hs : s.size ≤ 200) (h : a < s.size) (hd : digB (s[a].toNat : Int) = false) (h9 : ((s[a].toNat : Int) == 95) = false) (hl : letB (s[a].toNat : Int) = true) :
    Calls Tryz.prog 113 #[.string s, .int .i64 a] w fun e w' => e = .returned (.int .i64 (rch s a)) ∧ Below w.heap.size w w' := by
  have HD := hide hd
  have HL := hide hl
  go_enter Tryz.func113, Tryz.ntmps113
  go_wp2_with fail
  refine (digit_any _ _).mono ?_
  rintro e w' ⟨rfl, rfl⟩
  go_wp2_with fail
  refine (letter_any _ _).mono ?_
  rintro e w' ⟨rfl, rfl⟩
  go_wp2_with fail
  refine (sign_any _ _).mono ?_
  rintro e w' ⟨rfl, rfl⟩
  go_wp2_with fail
  go_loop [6] (fun k => ∃ j : Nat, 1 ≤ j ∧ a + j ≤ s.size ∧ k = .int .i64 ((a : Int) + (j : Int)) ∧ ((s.data.toList.drop a).take j).all lU = true) (fun k => s.size - (intOf k).toNat)
  case atStart => exact ⟨1, by omega, by omega, by simp, all_snoc (at_drop s a 0 h) (by simp) (unhide HL)⟩
  case round =>
    obtain ⟨j, hj, hjs, rfl, hall⟩ := hrel
    have HA := hide hall
    clear hall
    have fin : Hid (∀ (st : ∀ c, (s.data.toList.drop a)[j]? = some c → lU c = false), rch s a = if 4 < j ∧ amid fnL (s.extract a (a + j)) = false then -1 else (a : Int) + j) :=
      fun st => rch_word s a j h (unhide HD) (unhide HL) hjs (unhide HA) st
    by_cases hlt : a + j < s.size
    · have hat := hide (at_drop s a j hlt)
      cases hdg : letB ((s[a + j]'hlt).toNat : Int)
      · have HG := hide hdg
        go_wp2_with (go_at_call 116; refine (letter_any _ _).mono ?_; rintro e w' ⟨rfl, rfl⟩)
        go_region_with (first | (go_at_call 115; refine (functions_any _).mono ?_; rintro e w1 ⟨b, rfl, hcs, hbel⟩) | (go_at_call 114; refine (in_any _ fnL 13 13 _ _ rfl (by decide) (by assumption)).mono ?_; rintro e w2 ⟨rfl, rfl⟩))
        all_goals
          cases hm : amid fnL (s.extract a (a + j))
          all_goals
            have HM := hide hm
            by_cases h4 : 4 < j
            all_goals
              go_wp2
              go_ret
              refine ⟨ret_int ?_, ?_⟩
              · rw [unhide fin (stop_at (unhide hat) (unhide HG)), unhide HM]; simp; try omega
              · first | exact hbel | exact below_drew hbel
      · have HG := hide hdg
        go_wp2_with (go_at_call 116; refine (letter_any _ _).mono ?_; rintro e w' ⟨rfl, rfl⟩)
        go_round
        case rel => exact ⟨j + 1, by omega, by omega, by go_num, all_snoc (unhide hat) (unhide HA) (unhide HG)⟩
        case measure => simp [intOf]; omega
    · have hat := hide (at_drop_none s a j (by omega))
      go_wp2_with (go_at_call 116; refine (letter_any _ _).mono ?_; rintro e w' ⟨rfl, rfl⟩)
      go_region_with (first | (go_at_call 115; refine (functions_any _).mono ?_; rintro e w1 ⟨b, rfl, hcs, hbel⟩) | (go_at_call 114; refine (in_any _ fnL 13 13 _ _ rfl (by decide) (by assumption)).mono ?_; rintro e w2 ⟨rfl, rfl⟩))
      all_goals
        cases hm : amid fnL (s.extract a (a + j))
        all_goals
          have HM := hide hm
          by_cases h4 : 4 < j
          all_goals
            go_wp2
            go_ret
            refine ⟨ret_int ?_, ?_⟩
            · rw [unhide fin (stop_end (unhide hat)), unhide HM]; simp; try omega
            · first | exact hbel | exact below_drew hbel

end Go.Proofs.YtjobgpahajhbnaaGreatDoor
namespace Go.Proofs.YtjobgpahajhbnaaGreatDoor
open Go.RowKit

set_option maxHeartbeats 1000000 in
theorem reach_rest (s : ByteArray) (a : Nat) (w : World) (hs : s.size ≤ 200) (h : a < s.size) (hd : digB (s[a].toNat : Int) = false) (h9 : ((s[a].toNat : Int) == 95) = false) (hl : letB (s[a].toNat : Int) = false) :
    Calls Tryz.prog 113 #[.string s, .int .i64 a] w fun e w' => e = .returned (.int .i64 (rch s a)) ∧ w' = w := by
  have HD := hide hd
  have HL := hide hl
  have H9 := hide h9
  cases hb : ((s[a].toNat : Int) == 40)
  · have HB := hide hb
    cases hc : ((s[a].toNat : Int) == 41)
    · have HC := hide hc
      cases hg : sgnB (s[a].toNat : Int)
      · have HG := hide hg
        go_enter Tryz.func113, Tryz.ntmps113
        go_wp2_with (first | (go_at_call 160; refine (digit_any _ _).mono ?_; rintro e w' ⟨rfl, rfl⟩) | (go_at_call 116; refine (letter_any _ _).mono ?_; rintro e w' ⟨rfl, rfl⟩) | (go_at_call 120; refine (sign_any _ _).mono ?_; rintro e w' ⟨rfl, rfl⟩))
        go_ret
        exact ⟨ret_int (rch_no s a h (unhide HD) (unhide H9) (unhide HL) (unhide HB) (unhide HC) (unhide HG)).symm, rfl⟩
      · have HR := hide (rch_sg s a h hd h9 hl hb hc hg)
        by_cases h1 : a + 1 < s.size
        · cases t1 : ((s[a + 1].toNat : Int) == 47)
          · cases t2 : ((s[a + 1].toNat : Int) == 92)
            · cases t3 : ((s[a + 1].toNat : Int) == 46)
              · have HE := hide (sgnE_one s (a + 1) h1 t1 t2 t3)
                go_enter Tryz.func113, Tryz.ntmps113
                go_wp2_with (first | (go_at_call 160; refine (digit_any _ _).mono ?_; rintro e w' ⟨rfl, rfl⟩) | (go_at_call 116; refine (letter_any _ _).mono ?_; rintro e w' ⟨rfl, rfl⟩) | (go_at_call 120; refine (sign_any _ _).mono ?_; rintro e w' ⟨rfl, rfl⟩))
                go_ret
                exact ⟨ret_int (by rw [unhide HR, unhide HE]; rfl), rfl⟩
              · have HE := hide (sgnE_two s (a + 1) h1 (Or.inr (Or.inr t3)))
                go_enter Tryz.func113, Tryz.ntmps113
                go_wp2_with (first | (go_at_call 160; refine (digit_any _ _).mono ?_; rintro e w' ⟨rfl, rfl⟩) | (go_at_call 116; refine (letter_any _ _).mono ?_; rintro e w' ⟨rfl, rfl⟩) | (go_at_call 120; refine (sign_any _ _).mono ?_; rintro e w' ⟨rfl, rfl⟩))
                go_ret
                exact ⟨ret_int (by rw [unhide HR, unhide HE]; omega), rfl⟩
            · have HE := hide (sgnE_two s (a + 1) h1 (Or.inr (Or.inl t2)))
              go_enter Tryz.func113, Tryz.ntmps113
              go_wp2_with (first | (go_at_call 160; refine (digit_any _ _).mono ?_; rintro e w' ⟨rfl, rfl⟩) | (go_at_call 116; refine (letter_any _ _).mono ?_; rintro e w' ⟨rfl, rfl⟩) | (go_at_call 120; refine (sign_any _ _).mono ?_; rintro e w' ⟨rfl, rfl⟩))
              go_ret
              exact ⟨ret_int (by rw [unhide HR, unhide HE]; omega), rfl⟩
          · have HE := hide (sgnE_two s (a + 1) h1 (Or.inl t1))
            go_enter Tryz.func113, Tryz.ntmps113
            go_wp2_with (first | (go_at_call 160; refine (digit_any _ _).mono ?_; rintro e w' ⟨rfl, rfl⟩) | (go_at_call 116; refine (letter_any _ _).mono ?_; rintro e w' ⟨rfl, rfl⟩) | (go_at_call 120; refine (sign_any _ _).mono ?_; rintro e w' ⟨rfl, rfl⟩))
            go_ret
            exact ⟨ret_int (by rw [unhide HR, unhide HE]; omega), rfl⟩
        · have HE := hide (sgnE_end s (a + 1) (by omega))
          go_enter Tryz.func113, Tryz.ntmps113
          go_wp2_with (first | (go_at_call 160; refine (digit_any _ _).mono ?_; rintro e w' ⟨rfl, rfl⟩) | (go_at_call 116; refine (letter_any _ _).mono ?_; rintro e w' ⟨rfl, rfl⟩) | (go_at_call 120; refine (sign_any _ _).mono ?_; rintro e w' ⟨rfl, rfl⟩))
          go_ret
          exact ⟨ret_int (by rw [unhide HR, unhide HE]; rfl), rfl⟩
    · have HR := hide (rch_br s a h hd h9 hl (Or.inr hc))
      go_enter Tryz.func113, Tryz.ntmps113
      go_wp2_with (first | (go_at_call 160; refine (digit_any _ _).mono ?_; rintro e w' ⟨rfl, rfl⟩) | (go_at_call 116; refine (letter_any _ _).mono ?_; rintro e w' ⟨rfl, rfl⟩) | (go_at_call 120; refine (sign_any _ _).mono ?_; rintro e w' ⟨rfl, rfl⟩))
      go_ret
      exact ⟨ret_int (unhide HR).symm, rfl⟩
  · have HR := hide (rch_br s a h hd h9 hl (Or.inl hb))
    go_enter Tryz.func113, Tryz.ntmps113
    go_wp2_with (first | (go_at_call 160; refine (digit_any _ _).mono ?_; rintro e w' ⟨rfl, rfl⟩) | (go_at_call 116; refine (letter_any _ _).mono ?_; rintro e w' ⟨rfl, rfl⟩) | (go_at_call 120; refine (sign_any _ _).mono ?_; rintro e w' ⟨rfl, rfl⟩))
    go_ret
    exact ⟨ret_int (unhide HR).symm, rfl⟩

theorem reach_any (s : ByteArray) (a : Nat) (w : World) (hs : s.size ≤ 200) (h : a < s.size) :
    Calls Tryz.prog 113 #[.string s, .int .i64 a] w fun e w' => e = .returned (.int .i64 (rch s a)) ∧ Below w.heap.size w w' := by
  cases hd : digB (s[a].toNat : Int)
  · cases h9 : ((s[a].toNat : Int) == 95)
    · cases hl : letB (s[a].toNat : Int)
      · refine (reach_rest s a w hs h hd h9 hl).mono ?_
        rintro e w' ⟨rfl, rfl⟩
        exact ⟨rfl, Below.refl _ _⟩
      · exact reach_word s a w hs h hd h9 hl
    · have h9 := beq_iff_eq.1 h9
      refine (reach_low s a w hs h hd h9).mono ?_
      rintro e w' ⟨rfl, rfl⟩
      exact ⟨ret_int (rch_low s a h hd h9).symm, Below.refl _ _⟩
  · refine (reach_dig s a w hs h hd).mono ?_
    rintro e w' ⟨rfl, rfl⟩
    exact ⟨ret_int (rch_dig s a h hd).symm, Below.refl _ _⟩
end Go.Proofs.YtjobgpahajhbnaaGreatDoor
