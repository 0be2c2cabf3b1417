import Derived.Test.YtjobgpahajhbnaaGreatDoorWc
import Derived.Test.YtjobgpahajhbnaaGreatDoorPm
namespace Go.Proofs.YtjobgpahajhbnaaGreatDoor
open Go.RowKit

set_option maxHeartbeats 1000000 in
theorem reach_rest (s : ByteArray) (a : Nat) (w : World) (hs : s.size ≤ 200) (h : a < s.size) (hd : digB (s[a].toNat : Int) = false) (h9 : ((s[a].toNat : Int) == 95) = false) (hl : letB (s[a].toNat : Int) = false) :
    Calls Tryz.prog 113 #[.string s, .int .i64 a] w fun e w' => e = .returned (.int .i64 (rch s a)) ∧ w' = w := by
  have HD := hide hd
  have HL := hide hl
  have H9 := hide h9
  cases hb : ((s[a].toNat : Int) == 40)
  · have HB := hide hb
    cases hc : ((s[a].toNat : Int) == 41)
    · have HC := hide hc
      cases hg : sgnB (s[a].toNat : Int)
      · have HG := hide hg
        go_enter Tryz.func113, Tryz.ntmps113
        go_wp2_with (first | (go_at_call 160; refine (digit_any _ _).mono ?_; rintro e w' ⟨rfl, rfl⟩) | (go_at_call 116; refine (letter_any _ _).mono ?_; rintro e w' ⟨rfl, rfl⟩) | (go_at_call 120; refine (sign_any _ _).mono ?_; rintro e w' ⟨rfl, rfl⟩))
        go_ret
        exact ⟨ret_int (rch_no s a h (unhide HD) (unhide H9) (unhide HL) (unhide HB) (unhide HC) (unhide HG)).symm, rfl⟩
      · have HR := hide (rch_sg s a h hd h9 hl hb hc hg)
        by_cases h1 : a + 1 < s.size
        · cases t1 : ((s[a + 1].toNat : Int) == 47)
          · cases t2 : ((s[a + 1].toNat : Int) == 92)
            · cases t3 : ((s[a + 1].toNat : Int) == 46)
              · have HE := hide (sgnE_one s (a + 1) h1 t1 t2 t3)
                go_enter Tryz.func113, Tryz.ntmps113
                go_wp2_with (first | (go_at_call 160; refine (digit_any _ _).mono ?_; rintro e w' ⟨rfl, rfl⟩) | (go_at_call 116; refine (letter_any _ _).mono ?_; rintro e w' ⟨rfl, rfl⟩) | (go_at_call 120; refine (sign_any _ _).mono ?_; rintro e w' ⟨rfl, rfl⟩))
                go_ret
                exact ⟨ret_int (by rw [unhide HR, unhide HE]; rfl), rfl⟩
              · have HE := hide (sgnE_two s (a + 1) h1 (Or.inr (Or.inr t3)))
                go_enter Tryz.func113, Tryz.ntmps113
                go_wp2_with (first | (go_at_call 160; refine (digit_any _ _).mono ?_; rintro e w' ⟨rfl, rfl⟩) | (go_at_call 116; refine (letter_any _ _).mono ?_; rintro e w' ⟨rfl, rfl⟩) | (go_at_call 120; refine (sign_any _ _).mono ?_; rintro e w' ⟨rfl, rfl⟩))
                go_ret
                exact ⟨ret_int (by rw [unhide HR, unhide HE]; omega), rfl⟩
            · have HE := hide (sgnE_two s (a + 1) h1 (Or.inr (Or.inl t2)))
              go_enter Tryz.func113, Tryz.ntmps113
              go_wp2_with (first | (go_at_call 160; refine (digit_any _ _).mono ?_; rintro e w' ⟨rfl, rfl⟩) | (go_at_call 116; refine (letter_any _ _).mono ?_; rintro e w' ⟨rfl, rfl⟩) | (go_at_call 120; refine (sign_any _ _).mono ?_; rintro e w' ⟨rfl, rfl⟩))
              go_ret
              exact ⟨ret_int (by rw [unhide HR, unhide HE]; omega), rfl⟩
          · have HE := hide (sgnE_two s (a + 1) h1 (Or.inl t1))
            go_enter Tryz.func113, Tryz.ntmps113
            go_wp2_with (first | (go_at_call 160; refine (digit_any _ _).mono ?_; rintro e w' ⟨rfl, rfl⟩) | (go_at_call 116; refine (letter_any _ _).mono ?_; rintro e w' ⟨rfl, rfl⟩) | (go_at_call 120; refine (sign_any _ _).mono ?_; rintro e w' ⟨rfl, rfl⟩))
            go_ret
            exact ⟨ret_int (by rw [unhide HR, unhide HE]; omega), rfl⟩
        · have HE := hide (sgnE_end s (a + 1) (by omega))
          go_enter Tryz.func113, Tryz.ntmps113
          go_wp2_with (first | (go_at_call 160; refine (digit_any _ _).mono ?_; rintro e w' ⟨rfl, rfl⟩) | (go_at_call 116; refine (letter_any _ _).mono ?_; rintro e w' ⟨rfl, rfl⟩) | (go_at_call 120; refine (sign_any _ _).mono ?_; rintro e w' ⟨rfl, rfl⟩))
          go_ret
          exact ⟨ret_int (by rw [unhide HR, unhide HE]; rfl), rfl⟩
    · have HR := hide (rch_br s a h hd h9 hl (Or.inr hc))
      go_enter Tryz.func113, Tryz.ntmps113
      go_wp2_with (first | (go_at_call 160; refine (digit_any _ _).mono ?_; rintro e w' ⟨rfl, rfl⟩) | (go_at_call 116; refine (letter_any _ _).mono ?_; rintro e w' ⟨rfl, rfl⟩) | (go_at_call 120; refine (sign_any _ _).mono ?_; rintro e w' ⟨rfl, rfl⟩))
      go_ret
      exact ⟨ret_int (unhide HR).symm, rfl⟩
  · have HR := hide (rch_br s a h hd h9 hl (Or.inl hb))
    go_enter Tryz.func113, Tryz.ntmps113
    go_wp2_with (first | (go_at_call 160; refine (digit_any _ _).mono ?_; rintro e w' ⟨rfl, rfl⟩) | (go_at_call 116; refine (letter_any _ _).mono ?_; rintro e w' ⟨rfl, rfl⟩) | (go_at_call 120; refine (sign_any _ _).mono ?_; rintro e w' ⟨rfl, rfl⟩))
    go_ret
    exact ⟨ret_int (unhide HR).symm, rfl⟩

theorem reach_any (s : ByteArray) (a : Nat) (w : World) (hs : s.size ≤ 200) (h : a < s.size) :
    Calls Tryz.prog 113 #[.string s, .int .i64 a] w fun e w' => e = .returned (.int .i64 (rch s a)) ∧ Below w.heap.size w w' := by
  cases hd : digB (s[a].toNat : Int)
  · cases h9 : ((s[a].toNat : Int) == 95)
    · cases hl : letB (s[a].toNat : Int)
      · refine (reach_rest s a w hs h hd h9 hl).mono ?_
        rintro e w' ⟨rfl, rfl⟩
        exact ⟨rfl, Below.refl _ _⟩
      · exact reach_word s a w hs h hd h9 hl
    · have h9 := beq_iff_eq.1 h9
      refine (reach_low s a w hs h hd h9).mono ?_
      rintro e w' ⟨rfl, rfl⟩
      exact ⟨ret_int (rch_low s a h hd h9).symm, Below.refl _ _⟩
  · refine (reach_dig s a w hs h hd).mono ?_
    rintro e w' ⟨rfl, rfl⟩
    exact ⟨ret_int (rch_dig s a h hd).symm, Below.refl _ _⟩
end Go.Proofs.YtjobgpahajhbnaaGreatDoor
