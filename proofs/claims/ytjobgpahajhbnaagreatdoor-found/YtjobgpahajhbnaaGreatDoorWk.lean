import Derived.Test.YtjobgpahajhbnaaGreatDoorWj
namespace Go.Proofs.YtjobgpahajhbnaaGreatDoor
open Go.RowKit

set_option maxHeartbeats 1000000 in
theorem cut_open (s : ByteArray) (w : World) (h0 : 0 < s.size) (hs : s.size ≤ 200) (h40 : ((s[0].toNat : Int) == 40) = true) :
    Calls Tryz.prog 105 #[.string s] w fun e w' => e = .returned (.tuple #[tokV 4 0 (s.extract 0 1) 0, .bool true]) ∧ Below w.heap.size w w' := by
  go_enter Tryz.func105, Tryz.ntmps105
  go_wp2_with (first | (go_at_call 143; refine (isDigit_any _ _).mono ?_; rintro e w' ⟨rfl, rfl⟩) | (go_at_call 145; refine (isLetter_any _ _).mono ?_; rintro e w' ⟨rfl, rfl⟩))
  refine bodyPost_ret (v := .tuple #[.agg #[.int .i64 4, .int .i64 0, .int .i64 0, .string (s.extract 0 1), .int .i64 0], .bool true]) (by simp [results, Tryz.results105, go_sem]) rfl ⟨rfl, ?_⟩
  exact (Below.refl _ _).alloc (Nat.le_refl _) _

set_option maxHeartbeats 1000000 in
theorem cut_close (s : ByteArray) (w : World) (h0 : 0 < s.size) (hs : s.size ≤ 200) (h40 : ((s[0].toNat : Int) == 40) = false) (h41 : ((s[0].toNat : Int) == 41) = true) :
    Calls Tryz.prog 105 #[.string s] w fun e w' => e = .returned (.tuple #[tokV 5 0 (s.extract 0 1) 0, .bool true]) ∧ Below w.heap.size w w' := by
  go_enter Tryz.func105, Tryz.ntmps105
  go_wp2_with (first | (go_at_call 143; refine (isDigit_any _ _).mono ?_; rintro e w' ⟨rfl, rfl⟩) | (go_at_call 145; refine (isLetter_any _ _).mono ?_; rintro e w' ⟨rfl, rfl⟩))
  refine bodyPost_ret (v := .tuple #[.agg #[.int .i64 5, .int .i64 0, .int .i64 0, .string (s.extract 0 1), .int .i64 0], .bool true]) (by simp [results, Tryz.results105, go_sem]) rfl ⟨rfl, ?_⟩
  exact (Below.refl _ _).alloc (Nat.le_refl _) _

set_option maxHeartbeats 1000000 in
theorem cut_none (s : ByteArray) (w : World) (h0 : 0 < s.size) (h40 : ((s[0].toNat : Int) == 40) = false) (h41 : ((s[0].toNat : Int) == 41) = false) (h95 : ((s[0].toNat : Int) == 95) = false) (hd : digB (s[0].toNat : Int) = false) (hl : letB (s[0].toNat : Int) = false) (hg : gU s[0] = false) :
    Calls Tryz.prog 105 #[.string s] w fun e w' => e = .returned (.tuple #[tokV 0 0 (⟨#[]⟩) 0, .bool false]) ∧ Below w.heap.size w w' := by
  have HG := hide hg
  clear hg
  go_enter Tryz.func105, Tryz.ntmps105
  go_wp2_with (first | (go_at_call 143; refine (isDigit_any _ _).mono ?_; rintro e w' ⟨rfl, rfl⟩) | (go_at_call 145; refine (isLetter_any _ _).mono ?_; rintro e w' ⟨rfl, rfl⟩) | (go_at_call 147; refine (ixSgn_no _ _ (unhide HG)).mono ?_; rintro e w2 ⟨rfl, rfl⟩))
  refine bodyPost_ret (v := .tuple #[.agg #[.int .i64 0, .int .i64 0, .int .i64 0, .string (⟨#[]⟩), .int .i64 0], .bool false]) (by simp [results, Tryz.results105, go_sem]) rfl ⟨rfl, ?_⟩
  exact (Below.refl _ _).alloc (Nat.le_refl _) _

set_option maxHeartbeats 1000000 in
theorem cut_low (s : ByteArray) (w : World) (h0 : 0 < s.size) (k r x : Int) (t : ByteArray) (b : Bool) (hk : ∀ W, Evs W → Calls Tryz.prog 144 #[.string s] W fun e w' => e = .returned (.tuple #[tokX k r x t 0, .bool b]) ∧ Below W.heap.size W w') (hv : Evs w) (h40 : ((s[0].toNat : Int) == 40) = false) (h41 : ((s[0].toNat : Int) == 41) = false) (h95 : ((s[0].toNat : Int) == 95) = true) :
    Calls Tryz.prog 105 #[.string s] w fun e w' => e = .returned (.tuple #[tokX k r x t 0, .bool (b)]) ∧ Below w.heap.size w w' := by
  have HK : Hid (∀ o, Calls Tryz.prog 144 #[.string s] (w.alloc o) fun e w' => e = .returned (.tuple #[tokX k r x t 0, .bool b]) ∧ Below (w.alloc o).heap.size (w.alloc o) w') := fun o => hk _ (hv.alloc o)
  clear hk
  have HV := hide hv
  clear hv
  go_enter Tryz.func105, Tryz.ntmps105
  go_wp2_with (first | (go_at_call 143; refine (isDigit_any _ _).mono ?_; rintro e w' ⟨rfl, rfl⟩) | (go_at_call 145; refine (isLetter_any _ _).mono ?_; rintro e w' ⟨rfl, rfl⟩))
  refine (unhide HK _).mono ?_
  rintro e w1 ⟨rfl, hb1⟩
  unfold tokX
  obtain ⟨hc, hf⟩ := bcell hb1
  go_wp2_with fail
  refine bodyPost_ret (v := .tuple #[.agg #[.int .i64 (k), .int .i64 (r), .int .i64 x, .string (t), .int .i64 0], .bool (b)]) (by simp [results, Tryz.results105, go_sem, hc]) rfl ⟨rfl, ?_⟩
  exact below_four hb1 _ _ _ _ _

set_option maxHeartbeats 1000000 in
theorem cut_dig (s : ByteArray) (w : World) (h0 : 0 < s.size) (k r x : Int) (t : ByteArray) (b : Bool) (hk : ∀ W, Evs W → Calls Tryz.prog 144 #[.string s] W fun e w' => e = .returned (.tuple #[tokX k r x t 0, .bool b]) ∧ Below W.heap.size W w') (hv : Evs w) (h40 : ((s[0].toNat : Int) == 40) = false) (h41 : ((s[0].toNat : Int) == 41) = false) (h95 : ((s[0].toNat : Int) == 95) = false) (hd : digB (s[0].toNat : Int) = true) :
    Calls Tryz.prog 105 #[.string s] w fun e w' => e = .returned (.tuple #[tokX k r x t 0, .bool (b)]) ∧ Below w.heap.size w w' := by
  have HK : Hid (∀ o, Calls Tryz.prog 144 #[.string s] (w.alloc o) fun e w' => e = .returned (.tuple #[tokX k r x t 0, .bool b]) ∧ Below (w.alloc o).heap.size (w.alloc o) w') := fun o => hk _ (hv.alloc o)
  clear hk
  have HV := hide hv
  clear hv
  go_enter Tryz.func105, Tryz.ntmps105
  go_wp2_with (first | (go_at_call 143; refine (isDigit_any _ _).mono ?_; rintro e w' ⟨rfl, rfl⟩) | (go_at_call 145; refine (isLetter_any _ _).mono ?_; rintro e w' ⟨rfl, rfl⟩))
  refine (unhide HK _).mono ?_
  rintro e w1 ⟨rfl, hb1⟩
  unfold tokX
  obtain ⟨hc, hf⟩ := bcell hb1
  go_wp2_with fail
  refine bodyPost_ret (v := .tuple #[.agg #[.int .i64 (k), .int .i64 (r), .int .i64 x, .string (t), .int .i64 0], .bool (b)]) (by simp [results, Tryz.results105, go_sem, hc]) rfl ⟨rfl, ?_⟩
  exact below_four hb1 _ _ _ _ _

set_option maxHeartbeats 1000000 in
theorem cut_word (s : ByteArray) (w : World) (h0 : 0 < s.size) (k r : Int) (t : ByteArray) (b : Bool) (hk : ∀ W, Evs W → Calls Tryz.prog 146 #[.string s] W fun e w' => e = .returned (.tuple #[tokV k r t 0, .bool b]) ∧ Below W.heap.size W w') (hv : Evs w) (h40 : ((s[0].toNat : Int) == 40) = false) (h41 : ((s[0].toNat : Int) == 41) = false) (h95 : ((s[0].toNat : Int) == 95) = false) (hd : digB (s[0].toNat : Int) = false) (hl : letB (s[0].toNat : Int) = true) :
    Calls Tryz.prog 105 #[.string s] w fun e w' => e = .returned (.tuple #[tokV (k) (r) (t) 0, .bool (b)]) ∧ Below w.heap.size w w' := by
  have HK : Hid (∀ o, Calls Tryz.prog 146 #[.string s] (w.alloc o) fun e w' => e = .returned (.tuple #[tokV k r t 0, .bool b]) ∧ Below (w.alloc o).heap.size (w.alloc o) w') := fun o => hk _ (hv.alloc o)
  clear hk
  have HV := hide hv
  clear hv
  go_enter Tryz.func105, Tryz.ntmps105
  go_wp2_with (first | (go_at_call 143; refine (isDigit_any _ _).mono ?_; rintro e w' ⟨rfl, rfl⟩) | (go_at_call 145; refine (isLetter_any _ _).mono ?_; rintro e w' ⟨rfl, rfl⟩))
  refine (unhide HK _).mono ?_
  rintro e w1 ⟨rfl, hb1⟩
  unfold tokV
  obtain ⟨hc, hf⟩ := bcell hb1
  go_wp2_with fail
  refine bodyPost_ret (v := .tuple #[.agg #[.int .i64 (k), .int .i64 (r), .int .i64 0, .string (t), .int .i64 0], .bool (b)]) (by simp [results, Tryz.results105, go_sem, hc]) rfl ⟨rfl, ?_⟩
  exact below_four hb1 _ _ _ _ _

set_option maxHeartbeats 1000000 in
theorem cut_sign (s : ByteArray) (w : World) (h0 : 0 < s.size) (k r : Int) (t : ByteArray) (hk : ∀ W, Evs W → Calls Tryz.prog 148 #[.string s] W fun e w' => e = .returned (tokV k r t 0) ∧ Below W.heap.size W w') (hv : Evs w) (h40 : ((s[0].toNat : Int) == 40) = false) (h41 : ((s[0].toNat : Int) == 41) = false) (h95 : ((s[0].toNat : Int) == 95) = false) (hd : digB (s[0].toNat : Int) = false) (hl : letB (s[0].toNat : Int) = false) (hg : gU s[0] = true) :
    Calls Tryz.prog 105 #[.string s] w fun e w' => e = .returned (.tuple #[tokV (k) (r) (t) 0, .bool (true)]) ∧ Below w.heap.size w w' := by
  have HK : Hid (∀ o, Calls Tryz.prog 148 #[.string s] (w.alloc o) fun e w' => e = .returned (tokV k r t 0) ∧ Below (w.alloc o).heap.size (w.alloc o) w') := fun o => hk _ (hv.alloc o)
  clear hk
  have HV := hide hv
  clear hv
  have HG := hide hg
  clear hg
  go_enter Tryz.func105, Tryz.ntmps105
  go_wp2_with (first | (go_at_call 143; refine (isDigit_any _ _).mono ?_; rintro e w' ⟨rfl, rfl⟩) | (go_at_call 145; refine (isLetter_any _ _).mono ?_; rintro e w' ⟨rfl, rfl⟩) | (go_at_call 147; refine (ixSgn_yes _ _ (unhide HG)).mono ?_; rintro e w2 ⟨v, hv, rfl, rfl⟩))
  refine (unhide HK _).mono ?_
  rintro e w1 ⟨rfl, hb1⟩
  unfold tokV
  obtain ⟨hc, hf⟩ := bcell hb1
  go_wp2_with fail
  refine bodyPost_ret (v := .tuple #[.agg #[.int .i64 (k), .int .i64 (r), .int .i64 0, .string (t), .int .i64 0], .bool (true)]) (by simp [results, Tryz.results105, go_sem, hc]) rfl ⟨rfl, ?_⟩
  exact below_four hb1 _ _ _ _ _
end Go.Proofs.YtjobgpahajhbnaaGreatDoor
