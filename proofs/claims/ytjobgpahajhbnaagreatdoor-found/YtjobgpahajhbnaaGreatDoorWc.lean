import Derived.Test.YtjobgpahajhbnaaGreatDoorWb
namespace Go.Proofs.YtjobgpahajhbnaaGreatDoor
open Go.RowKit

theorem below_drew {w w2 : World} (h : Below w.drew.heap.size w.drew w2) : Below w.heap.size w w2 := (Below.refl w.heap.size w).drew.trans h
theorem rch_word (s : ByteArray) (a j : Nat) (h : a < s.size) (hd : digB (s[a].toNat : Int) = false) (hl : letB (s[a].toNat : Int) = true) (hj : a + j ≤ s.size)
    (ha : ((s.data.toList.drop a).take j).all lU = true) (hs : ∀ c, (s.data.toList.drop a)[j]? = some c → lU c = false) :
    rch s a = if 4 < j ∧ amid fnL (s.extract a (a + j)) = false then -1 else (a : Int) + j := by
  have e := tw_stop ha hs
  have hlen := take_len s a j hj
  have h1 : dU s[a] = false := hd
  have h3 : lU s[a] = true := hl
  have h2 : (s[a] == 95) = false := by
    rw [beq_eq_false_iff_ne]
    intro e
    simp [letB] at hl
    rw [e] at hl
    revert hl; decide
  have hx : amid fnL (s.extract a (a + j)) = isFn ((s.data.toList.drop a).take j) := by
    unfold isFn
    apply amid_congr
    rw [ext_list]
    simp
  rw [rch_at s a h, hx]
  simp only [tl, h1, h2, h3, cond_true, cond_false]
  rw [← drop_cons s a h]
  simp only [wrdE, e, hlen]
  by_cases hc : 4 < j ∧ isFn ((s.data.toList.drop a).take j) = false
  · rw [if_pos hc, if_pos hc]
  · rw [if_neg hc, if_neg hc]
    simp

set_option maxHeartbeats 1000000 in
theorem reach_word (s : ByteArray) (a : Nat) (w : World) (hs : s.size ≤ 200) (h : a < s.size) (hd : digB (s[a].toNat : Int) = false) (h9 : ((s[a].toNat : Int) == 95) = false) (hl : letB (s[a].toNat : Int) = true) :
    Calls Tryz.prog 113 #[.string s, .int .i64 a] w fun e w' => e = .returned (.int .i64 (rch s a)) ∧ Below w.heap.size w w' := by
  have HD := hide hd
  have HL := hide hl
  go_enter Tryz.func113, Tryz.ntmps113
  go_wp2_with fail
  refine (digit_any _ _).mono ?_
  rintro e w' ⟨rfl, rfl⟩
  go_wp2_with fail
  refine (letter_any _ _).mono ?_
  rintro e w' ⟨rfl, rfl⟩
  go_wp2_with fail
  refine (sign_any _ _).mono ?_
  rintro e w' ⟨rfl, rfl⟩
  go_wp2_with fail
  go_loop [6] (fun k => ∃ j : Nat, 1 ≤ j ∧ a + j ≤ s.size ∧ k = .int .i64 ((a : Int) + (j : Int)) ∧ ((s.data.toList.drop a).take j).all lU = true) (fun k => s.size - (intOf k).toNat)
  case atStart => exact ⟨1, by omega, by omega, by simp, all_snoc (at_drop s a 0 h) (by simp) (unhide HL)⟩
  case round =>
    obtain ⟨j, hj, hjs, rfl, hall⟩ := hrel
    have HA := hide hall
    clear hall
    have fin : Hid (∀ (st : ∀ c, (s.data.toList.drop a)[j]? = some c → lU c = false), rch s a = if 4 < j ∧ amid fnL (s.extract a (a + j)) = false then -1 else (a : Int) + j) :=
      fun st => rch_word s a j h (unhide HD) (unhide HL) hjs (unhide HA) st
    by_cases hlt : a + j < s.size
    · have hat := hide (at_drop s a j hlt)
      cases hdg : letB ((s[a + j]'hlt).toNat : Int)
      · have HG := hide hdg
        go_wp2_with (go_at_call 116; refine (letter_any _ _).mono ?_; rintro e w' ⟨rfl, rfl⟩)
        go_region_with (first | (go_at_call 115; refine (functions_any _).mono ?_; rintro e w1 ⟨b, rfl, hcs, hbel⟩) | (go_at_call 114; refine (in_any _ fnL 13 13 _ _ rfl (by decide) (by assumption)).mono ?_; rintro e w2 ⟨rfl, rfl⟩))
        all_goals
          cases hm : amid fnL (s.extract a (a + j))
          all_goals
            have HM := hide hm
            by_cases h4 : 4 < j
            all_goals
              go_wp2
              go_ret
              refine ⟨ret_int ?_, ?_⟩
              · rw [unhide fin (stop_at (unhide hat) (unhide HG)), unhide HM]; simp; try omega
              · first | exact hbel | exact below_drew hbel
      · have HG := hide hdg
        go_wp2_with (go_at_call 116; refine (letter_any _ _).mono ?_; rintro e w' ⟨rfl, rfl⟩)
        go_round
        case rel => exact ⟨j + 1, by omega, by omega, by go_num, all_snoc (unhide hat) (unhide HA) (unhide HG)⟩
        case measure => simp [intOf]; omega
    · have hat := hide (at_drop_none s a j (by omega))
      go_wp2_with (go_at_call 116; refine (letter_any _ _).mono ?_; rintro e w' ⟨rfl, rfl⟩)
      go_region_with (first | (go_at_call 115; refine (functions_any _).mono ?_; rintro e w1 ⟨b, rfl, hcs, hbel⟩) | (go_at_call 114; refine (in_any _ fnL 13 13 _ _ rfl (by decide) (by assumption)).mono ?_; rintro e w2 ⟨rfl, rfl⟩))
      all_goals
        cases hm : amid fnL (s.extract a (a + j))
        all_goals
          have HM := hide hm
          by_cases h4 : 4 < j
          all_goals
            go_wp2
            go_ret
            refine ⟨ret_int ?_, ?_⟩
            · rw [unhide fin (stop_end (unhide hat)), unhide HM]; simp; try omega
            · first | exact hbel | exact below_drew hbel

end Go.Proofs.YtjobgpahajhbnaaGreatDoor
