import Derived.Test.YtjobgpahajhbnaaGreatDoorWg
namespace Go.Proofs.YtjobgpahajhbnaaGreatDoor
open Go.RowKit

theorem ix_yes : ∀ (l : List UInt8) (c : UInt8), c ∈ l → 0 ≤ Lib.indexByte l c
  | b :: l, c, h => by
    unfold Lib.indexByte
    by_cases e : (b == c) = true
    · rw [if_pos e]; decide
    · rw [if_neg e]
      have hm : c ∈ l := by
        rcases List.mem_cons.1 h with h | h
        · exact absurd (beq_iff_eq.2 h.symm) e
        · exact h
      have := ix_yes l c hm
      have h2 : ¬ (Lib.indexByte l c == -1) = true := by rw [beq_iff_eq]; omega
      rw [if_neg h2]; omega
theorem ix_no : ∀ (l : List UInt8) (c : UInt8), c ∉ l → Lib.indexByte l c = -1
  | [], _, _ => rfl
  | b :: l, c, h => by
    unfold Lib.indexByte
    have h1 : ¬ (b == c) = true := by
      intro e
      exact h (List.mem_cons.2 (Or.inl (beq_iff_eq.1 e).symm))
    rw [if_neg h1]
    have := ix_no l c (fun hm => h (List.mem_cons.2 (Or.inr hm)))
    rw [this]
    rfl
theorem u8_back (c : UInt8) : ((c.toNat : Int).toNat.toUInt8) = c := by
  simp
theorem tail_mem (c : UInt8) : tailU c = true ↔ c ∈ ([47, 92, 46] : List UInt8) := by
  simp [tailU, or_assoc]
theorem ixTail_yes (c : UInt8) (w : World) (h : tailU c = true) :
    Calls Tryz.prog 147 #[.string ⟨#[47, 92, 46]⟩, .int .u8 c.toNat] w fun e w' => ∃ v : Int, 0 ≤ v ∧ e = .returned (.int .i64 v) ∧ w' = w := by
  refine (Tryz.strings_IndexByte _ _ w).mono ?_
  rintro e w' ⟨rfl, rfl⟩
  refine ⟨_, ?_, rfl, rfl⟩
  rw [u8_back]
  exact ix_yes _ _ ((tail_mem c).1 h)
theorem ixTail_no (c : UInt8) (w : World) (h : tailU c = false) :
    Calls Tryz.prog 147 #[.string ⟨#[47, 92, 46]⟩, .int .u8 c.toNat] w fun e w' => e = .returned (.int .i64 (-1)) ∧ w' = w := by
  refine (Tryz.strings_IndexByte _ _ w).mono ?_
  rintro e w' ⟨rfl, rfl⟩
  refine ⟨ret_int ?_, rfl⟩
  rw [u8_back]
  exact ix_no _ _ (fun hm => by rw [(tail_mem c).2 hm] at h; cases h)
theorem sgn_mem (c : UInt8) : gU c = true ↔ c ∈ ([43, 45, 42, 37, 124, 38, 33, 61, 60] : List UInt8) := by
  have e : ∀ n : Nat, n < 256 → (((c.toNat : Int) = (n : Int)) ↔ c = UInt8.ofNat n) := by
    intro n hn
    constructor
    · intro h
      apply UInt8.toNat_inj.1
      rw [UInt8.toNat_ofNat_of_lt' (by simpa using hn)]
      omega
    · intro h
      rw [h, UInt8.toNat_ofNat_of_lt' (by simpa using hn)]
  have e1 := e 43 (by decide)
  have e2 := e 45 (by decide)
  have e3 := e 42 (by decide)
  have e4 := e 37 (by decide)
  have e5 := e 124 (by decide)
  have e6 := e 38 (by decide)
  have e7 := e 33 (by decide)
  have e8 := e 61 (by decide)
  have e9 := e 60 (by decide)
  unfold gU sgnB
  rw [decide_eq_true_iff]
  simp only [List.mem_cons, List.not_mem_nil, or_false]
  exact (or_congr e1 (or_congr e2 (or_congr e3 (or_congr e4 (or_congr e5 (or_congr e6 (or_congr e7 (or_congr e8 e9))))))))
theorem ixSgn_yes (c : UInt8) (w : World) (h : gU c = true) :
    Calls Tryz.prog 147 #[.string ⟨#[43, 45, 42, 37, 124, 38, 33, 61, 60]⟩, .int .u8 c.toNat] w fun e w' => ∃ v : Int, 0 ≤ v ∧ e = .returned (.int .i64 v) ∧ w' = w := by
  refine (Tryz.strings_IndexByte _ _ w).mono ?_
  rintro e w' ⟨rfl, rfl⟩
  refine ⟨_, ?_, rfl, rfl⟩
  rw [u8_back]
  exact ix_yes _ _ ((sgn_mem c).1 h)
theorem ixSgn_no (c : UInt8) (w : World) (h : gU c = false) :
    Calls Tryz.prog 147 #[.string ⟨#[43, 45, 42, 37, 124, 38, 33, 61, 60]⟩, .int .u8 c.toNat] w fun e w' => e = .returned (.int .i64 (-1)) ∧ w' = w := by
  refine (Tryz.strings_IndexByte _ _ w).mono ?_
  rintro e w' ⟨rfl, rfl⟩
  refine ⟨ret_int ?_, rfl⟩
  rw [u8_back]
  exact ix_no _ _ (fun hm => by rw [(sgn_mem c).2 hm] at h; cases h)

/-- the roles of a sign -/
def sRole (t : ByteArray) : Int :=
  bif Lib.hasSuffix t.data.toList [46] then 2 else bif decide (1 < t.size) then 1 else bif decide (0 ≤ Lib.indexByte [43, 45, 42, 124] (t.data.toList.headD 0)) then 3 else 2

set_option maxHeartbeats 400000 in
theorem signRoles_any (t : ByteArray) (w : World) (h0 : 0 < t.size) (hs : t.size ≤ 200) :
    Calls Tryz.prog 174 #[.string t] w fun e w' => e = .returned (.int .i64 (sRole t)) ∧ w' = w := by
  cases hx : Lib.hasSuffix t.data.toList [46]
  · have HX := hide hx
    by_cases h1 : 1 < t.size
    · go_enter Tryz.func174, Tryz.ntmps174
      go_wp2_with fail
      refine (Tryz.strings_HasSuffix _ _ _ (by omega)).mono ?_
      rintro e w' ⟨rfl, rfl⟩
      go_wp2_with fail
      go_ret
      exact ⟨ret_int (by simp [sRole, unhide HX, h1]), rfl⟩
    · obtain ⟨c, rfl⟩ : ∃ c, t = ⟨#[c]⟩ := by
        obtain ⟨⟨l⟩⟩ := t
        match l, h0, h1 with
        | [c], _, _ => exact ⟨c, rfl⟩
        | c :: d :: l, _, h1 => exact absurd (show 1 < (c :: d :: l).length by simp) h1
      cases hi : decide (0 ≤ Lib.indexByte [43, 45, 42, 124] c)
      all_goals
        have HI := hide hi
        go_enter Tryz.func174, Tryz.ntmps174
        go_wp2_with fail
        refine (Tryz.strings_HasSuffix _ _ _ (by omega)).mono ?_
        rintro e w' ⟨rfl, rfl⟩
        go_wp2_with fail
        refine (Tryz.strings_Contains_one _ _ _).mono ?_
        rintro e w' ⟨rfl, rfl⟩
        go_wp2_with fail
        go_ret
        refine ⟨ret_int ?_, rfl⟩
        simp only [sRole]
        rw [unhide HX]
        simp [ByteArray.size, unhide HI]
  · have HX := hide hx
    go_enter Tryz.func174, Tryz.ntmps174
    go_wp2_with fail
    refine (Tryz.strings_HasSuffix _ _ _ (by omega)).mono ?_
    rintro e w' ⟨rfl, rfl⟩
    go_wp2_with fail
    go_ret
    exact ⟨ret_int (by simp [sRole, unhide HX]), rfl⟩
end Go.Proofs.YtjobgpahajhbnaaGreatDoor
