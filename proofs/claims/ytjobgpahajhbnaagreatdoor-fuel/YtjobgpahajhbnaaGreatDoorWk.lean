import Derived.Test.YtjobgpahajhbnaaGreatDoorWh
import Derived.Test.YtjobgpahajhbnaaGreatDoorWa
import Derived.Deep.QuietTactic
import Derived.BigQuiet
import Derived.Deep.RegionWith
namespace Go.Proofs.YtjobgpahajhbnaaGreatDoor
open Go.RowKit

set_option maxHeartbeats 1000000 in
theorem cut_open (s : ByteArray) (w : World) (h0 : 0 < s.size) (hs : s.size ≤ 200) (h40 : ((s[0].toNat : Int) == 40) = true) :
    Calls Tryz.prog 105 #[.string s] w fun e w' => e = .returned (.tuple #[tokV 4 0 (s.extract 0 1) 0, .bool true]) ∧ Below w.heap.size w w' := by
  go_enter Tryz.func105, Tryz.ntmps105
  go_wp2_with (first | (go_at_call 143; refine (isDigit_any _ _).mono ?_; rintro e w' ⟨rfl, rfl⟩) | (go_at_call 145; refine (isLetter_any _ _).mono ?_; rintro e w' ⟨rfl, rfl⟩))
  refine bodyPost_ret (v := .tuple #[.agg #[.int .i64 4, .int .i64 0, .int .i64 0, .string (s.extract 0 1), .int .i64 0], .bool true]) (by simp [results, Tryz.results105, go_sem]) rfl ⟨rfl, ?_⟩
  exact (Below.refl _ _).alloc (Nat.le_refl _) _

set_option maxHeartbeats 1000000 in
theorem cut_close (s : ByteArray) (w : World) (h0 : 0 < s.size) (hs : s.size ≤ 200) (h40 : ((s[0].toNat : Int) == 40) = false) (h41 : ((s[0].toNat : Int) == 41) = true) :
    Calls Tryz.prog 105 #[.string s] w fun e w' => e = .returned (.tuple #[tokV 5 0 (s.extract 0 1) 0, .bool true]) ∧ Below w.heap.size w w' := by
  go_enter Tryz.func105, Tryz.ntmps105
  go_wp2_with (first | (go_at_call 143; refine (isDigit_any _ _).mono ?_; rintro e w' ⟨rfl, rfl⟩) | (go_at_call 145; refine (isLetter_any _ _).mono ?_; rintro e w' ⟨rfl, rfl⟩))
  refine bodyPost_ret (v := .tuple #[.agg #[.int .i64 5, .int .i64 0, .int .i64 0, .string (s.extract 0 1), .int .i64 0], .bool true]) (by simp [results, Tryz.results105, go_sem]) rfl ⟨rfl, ?_⟩
  exact (Below.refl _ _).alloc (Nat.le_refl _) _

set_option maxHeartbeats 1000000 in
theorem cut_none (s : ByteArray) (w : World) (h0 : 0 < s.size) (h40 : ((s[0].toNat : Int) == 40) = false) (h41 : ((s[0].toNat : Int) == 41) = false) (h95 : ((s[0].toNat : Int) == 95) = false) (hd : digB (s[0].toNat : Int) = false) (hl : letB (s[0].toNat : Int) = false) (hg : gU s[0] = false) :
    Calls Tryz.prog 105 #[.string s] w fun e w' => e = .returned (.tuple #[tokV 0 0 (⟨#[]⟩) 0, .bool false]) ∧ Below w.heap.size w w' := by
  have HG := hide hg
  clear hg
  go_enter Tryz.func105, Tryz.ntmps105
  go_wp2_with (first | (go_at_call 143; refine (isDigit_any _ _).mono ?_; rintro e w' ⟨rfl, rfl⟩) | (go_at_call 145; refine (isLetter_any _ _).mono ?_; rintro e w' ⟨rfl, rfl⟩) | (go_at_call 147; refine (ixSgn_no _ _ (unhide HG)).mono ?_; rintro e w2 ⟨rfl, rfl⟩))
  refine bodyPost_ret (v := .tuple #[.agg #[.int .i64 0, .int .i64 0, .int .i64 0, .string (⟨#[]⟩), .int .i64 0], .bool false]) (by simp [results, Tryz.results105, go_sem]) rfl ⟨rfl, ?_⟩
  exact (Below.refl _ _).alloc (Nat.le_refl _) _

set_option maxHeartbeats 1000000 in
theorem cut_low (s : ByteArray) (w : World) (h0 : 0 < s.size) (k r x : Int) (t : ByteArray) (b : Bool) (hk : ∀ W, Evs W → Calls Tryz.prog 144 #[.string s] W fun e w' => e = .returned (.tuple #[tokX k r x t 0, .bool b]) ∧ Below W.heap.size W w') (hv : Evs w) (h40 : ((s[0].toNat : Int) == 40) = false) (h41 : ((s[0].toNat : Int) == 41) = false) (h95 : ((s[0].toNat : Int) == 95) = true) :
    Calls Tryz.prog 105 #[.string s] w fun e w' => e = .returned (.tuple #[tokX k r x t 0, .bool (b)]) ∧ Below w.heap.size w w' := by
  have HK : Hid (∀ o, Calls Tryz.prog 144 #[.string s] (w.alloc o) fun e w' => e = .returned (.tuple #[tokX k r x t 0, .bool b]) ∧ Below (w.alloc o).heap.size (w.alloc o) w') := fun o => hk _ (hv.alloc o)
  clear hk
  have HV := hide hv
  clear hv
  go_enter Tryz.func105, Tryz.ntmps105
  go_wp2_with (first | (go_at_call 143; refine (isDigit_any _ _).mono ?_; rintro e w' ⟨rfl, rfl⟩) | (go_at_call 145; refine (isLetter_any _ _).mono ?_; rintro e w' ⟨rfl, rfl⟩))
  refine (unhide HK _).mono ?_
  rintro e w1 ⟨rfl, hb1⟩
  unfold tokX
  obtain ⟨hc, hf⟩ := bcell hb1
  go_wp2_with fail
  refine bodyPost_ret (v := .tuple #[.agg #[.int .i64 (k), .int .i64 (r), .int .i64 x, .string (t), .int .i64 0], .bool (b)]) (by simp [results, Tryz.results105, go_sem, hc]) rfl ⟨rfl, ?_⟩
  exact below_four hb1 _ _ _ _ _

set_option maxHeartbeats 1000000 in
theorem cut_dig (s : ByteArray) (w : World) (h0 : 0 < s.size) (k r x : Int) (t : ByteArray) (b : Bool) (hk : ∀ W, Evs W → Calls Tryz.prog 144 #[.string s] W fun e w' => e = .returned (.tuple #[tokX k r x t 0, .bool b]) ∧ Below W.heap.size W w') (hv : Evs w) (h40 : ((s[0].toNat : Int) == 40) = false) (h41 : ((s[0].toNat : Int) == 41) = false) (h95 : ((s[0].toNat : Int) == 95) = false) (hd : digB (s[0].toNat : Int) = true) :
    Calls Tryz.prog 105 #[.string s] w fun e w' => e = .returned (.tuple #[tokX k r x t 0, .bool (b)]) ∧ Below w.heap.size w w' := by
  have HK : Hid (∀ o, Calls Tryz.prog 144 #[.string s] (w.alloc o) fun e w' => e = .returned (.tuple #[tokX k r x t 0, .bool b]) ∧ Below (w.alloc o).heap.size (w.alloc o) w') := fun o => hk _ (hv.alloc o)
  clear hk
  have HV := hide hv
  clear hv
  go_enter Tryz.func105, Tryz.ntmps105
  go_wp2_with (first | (go_at_call 143; refine (isDigit_any _ _).mono ?_; rintro e w' ⟨rfl, rfl⟩) | (go_at_call 145; refine (isLetter_any _ _).mono ?_; rintro e w' ⟨rfl, rfl⟩))
  refine (unhide HK _).mono ?_
  rintro e w1 ⟨rfl, hb1⟩
  unfold tokX
  obtain ⟨hc, hf⟩ := bcell hb1
  go_wp2_with fail
  refine bodyPost_ret (v := .tuple #[.agg #[.int .i64 (k), .int .i64 (r), .int .i64 x, .string (t), .int .i64 0], .bool (b)]) (by simp [results, Tryz.results105, go_sem, hc]) rfl ⟨rfl, ?_⟩
  exact below_four hb1 _ _ _ _ _

set_option maxHeartbeats 1000000 in
theorem cut_word (s : ByteArray) (w : World) (h0 : 0 < s.size) (k r : Int) (t : ByteArray) (b : Bool) (hk : ∀ W, Evs W → Calls Tryz.prog 146 #[.string s] W fun e w' => e = .returned (.tuple #[tokV k r t 0, .bool b]) ∧ Below W.heap.size W w') (hv : Evs w) (h40 : ((s[0].toNat : Int) == 40) = false) (h41 : ((s[0].toNat : Int) == 41) = false) (h95 : ((s[0].toNat : Int) == 95) = false) (hd : digB (s[0].toNat : Int) = false) (hl : letB (s[0].toNat : Int) = true) :
    Calls Tryz.prog 105 #[.string s] w fun e w' => e = .returned (.tuple #[tokV (k) (r) (t) 0, .bool (b)]) ∧ Below w.heap.size w w' := by
  have HK : Hid (∀ o, Calls Tryz.prog 146 #[.string s] (w.alloc o) fun e w' => e = .returned (.tuple #[tokV k r t 0, .bool b]) ∧ Below (w.alloc o).heap.size (w.alloc o) w') := fun o => hk _ (hv.alloc o)
  clear hk
  have HV := hide hv
  clear hv
  go_enter Tryz.func105, Tryz.ntmps105
  go_wp2_with (first | (go_at_call 143; refine (isDigit_any _ _).mono ?_; rintro e w' ⟨rfl, rfl⟩) | (go_at_call 145; refine (isLetter_any _ _).mono ?_; rintro e w' ⟨rfl, rfl⟩))
  refine (unhide HK _).mono ?_
  rintro e w1 ⟨rfl, hb1⟩
  unfold tokV
  obtain ⟨hc, hf⟩ := bcell hb1
  go_wp2_with fail
  refine bodyPost_ret (v := .tuple #[.agg #[.int .i64 (k), .int .i64 (r), .int .i64 0, .string (t), .int .i64 0], .bool (b)]) (by simp [results, Tryz.results105, go_sem, hc]) rfl ⟨rfl, ?_⟩
  exact below_four hb1 _ _ _ _ _

set_option maxHeartbeats 1000000 in
theorem cut_sign (s : ByteArray) (w : World) (h0 : 0 < s.size) (k r : Int) (t : ByteArray) (hk : ∀ W, Evs W → Calls Tryz.prog 148 #[.string s] W fun e w' => e = .returned (tokV k r t 0) ∧ Below W.heap.size W w') (hv : Evs w) (h40 : ((s[0].toNat : Int) == 40) = false) (h41 : ((s[0].toNat : Int) == 41) = false) (h95 : ((s[0].toNat : Int) == 95) = false) (hd : digB (s[0].toNat : Int) = false) (hl : letB (s[0].toNat : Int) = false) (hg : gU s[0] = true) :
    Calls Tryz.prog 105 #[.string s] w fun e w' => e = .returned (.tuple #[tokV (k) (r) (t) 0, .bool (true)]) ∧ Below w.heap.size w w' := by
  have HK : Hid (∀ o, Calls Tryz.prog 148 #[.string s] (w.alloc o) fun e w' => e = .returned (tokV k r t 0) ∧ Below (w.alloc o).heap.size (w.alloc o) w') := fun o => hk _ (hv.alloc o)
  clear hk
  have HV := hide hv
  clear hv
  have HG := hide hg
  clear hg
  go_enter Tryz.func105, Tryz.ntmps105
  go_wp2_with (first | (go_at_call 143; refine (isDigit_any _ _).mono ?_; rintro e w' ⟨rfl, rfl⟩) | (go_at_call 145; refine (isLetter_any _ _).mono ?_; rintro e w' ⟨rfl, rfl⟩) | (go_at_call 147; refine (ixSgn_yes _ _ (unhide HG)).mono ?_; rintro e w2 ⟨v, hv, rfl, rfl⟩))
  refine (unhide HK _).mono ?_
  rintro e w1 ⟨rfl, hb1⟩
  unfold tokV
  obtain ⟨hc, hf⟩ := bcell hb1
  go_wp2_with fail
  refine bodyPost_ret (v := .tuple #[.agg #[.int .i64 (k), .int .i64 (r), .int .i64 0, .string (t), .int .i64 0], .bool (true)]) (by simp [results, Tryz.results105, go_sem, hc]) rfl ⟨rfl, ?_⟩
  exact below_four hb1 _ _ _ _ _
end Go.Proofs.YtjobgpahajhbnaaGreatDoor
namespace Go.Proofs.YtjobgpahajhbnaaGreatDoor
open Go.RowKit
theorem u8_eq (c : UInt8) (n : Nat) (h : n < 256) : ((c.toNat : Int) == (n : Int)) = (c == UInt8.ofNat n) := by
  rw [Bool.eq_iff_iff]
  simp only [beq_iff_eq]
  constructor
  · intro e
    apply UInt8.toNat_inj.1
    rw [UInt8.toNat_ofNat_of_lt' (by simpa using h)]
    omega
  · intro e
    rw [e, UInt8.toNat_ofNat_of_lt' (by simpa using h)]
end Go.Proofs.YtjobgpahajhbnaaGreatDoor
namespace Go.Proofs.YtjobgpahajhbnaaGreatDoor
open Go.RowKit

def kindT (t : ByteArray) : Int :=
  bif hd t == 40 then 4 else bif hd t == 41 then 5 else bif hd t == 95 || digB (hd t) then 0 else bif letB (hd t) then wKind t else 3
def roleT (t : ByteArray) : Int :=
  bif hd t == 40 then 0 else bif hd t == 41 then 0 else bif hd t == 95 || digB (hd t) then 0 else bif letB (hd t) then wRole t else sRole t
/-- what a number is worth; of other tokens 0 -/
def worthT (t : ByteArray) : Int :=
  bif hd t == 95 then -(val (t.data.toList.drop 1) : Int) else bif digB (hd t) then (val t.data.toList : Int) else 0
def CutR (s : ByteArray) (e : Ending) : Prop := match tl s.data.toList with
  | some n => e = .returned (.tuple #[tokX (kindT (s.extract 0 n)) (roleT (s.extract 0 n)) (worthT (s.extract 0 n)) (s.extract 0 n) 0, .bool true])
  | none => ∃ k r t, e = .returned (.tuple #[tokV k r t 0, .bool false])
theorem cutR_some {s : ByteArray} {n : Nat} {e : Ending} (h : tl s.data.toList = some n) (he : e = .returned (.tuple #[tokX (kindT (s.extract 0 n)) (roleT (s.extract 0 n)) (worthT (s.extract 0 n)) (s.extract 0 n) 0, .bool true])) : CutR s e := by
  unfold CutR; rw [h]; exact he
theorem cutR_none {s : ByteArray} {e : Ending} (h : tl s.data.toList = none) {k r : Int} {t : ByteArray} (he : e = .returned (.tuple #[tokV k r t 0, .bool false])) : CutR s e := by
  unfold CutR; rw [h]; exact ⟨k, r, t, he⟩
theorem hd_ext (s : ByteArray) (n : Nat) (h : 0 < s.size) (hn : 0 < n) : hd (s.extract 0 n) = hd s := by
  unfold hd
  rw [ext_list]
  obtain ⟨⟨l⟩⟩ := s
  match l, n, h, hn with
  | c :: l, n + 1, _, _ => simp
theorem list_cons (s : ByteArray) (h : 0 < s.size) : s.data.toList = s[0] :: s.data.toList.drop 1 := by
  have := drop_cons s 0 h
  simpa using this
theorem low_dig (c : Int) (h : (c == 95) = true) : digB c = false := by
  have := beq_iff_eq.1 h; subst this; decide
theorem tl_low (s : ByteArray) (h0 : 0 < s.size) (h : ((s[0].toNat : Int) == 95) = true) : tl s.data.toList = numE 1 (s.data.toList.drop 1) := by
  have h1 : dU s[0] = false := low_dig _ h
  have h2 : (s[0] == 95) = true := (u8_eq s[0] 95 (by decide)).symm.trans h
  rw [list_cons s h0]
  simp only [tl, h1, h2, cond_true, cond_false, List.drop_succ_cons, List.drop_zero]
theorem tl_dig (s : ByteArray) (h0 : 0 < s.size) (h : digB (s[0].toNat : Int) = true) : tl s.data.toList = numE 0 s.data.toList := by
  have h1 : dU s[0] = true := h
  rw [list_cons s h0]
  simp only [tl, h1, cond_true]
theorem tl_word (s : ByteArray) (h0 : 0 < s.size) (h95 : ((s[0].toNat : Int) == 95) = false) (hd : digB (s[0].toNat : Int) = false) (hl : letB (s[0].toNat : Int) = true) : tl s.data.toList = wrdE s.data.toList := by
  have h1 : dU s[0] = false := hd
  have h2 : (s[0] == 95) = false := (u8_eq s[0] 95 (by decide)).symm.trans h95
  have h3 : lU s[0] = true := hl
  rw [list_cons s h0]
  simp only [tl, h1, h2, h3, cond_true, cond_false]
theorem br_facts (c : UInt8) (h : ((c.toNat : Int) == 40) = true ∨ ((c.toNat : Int) == 41) = true) : dU c = false ∧ (c == 95) = false ∧ lU c = false ∧ (c == 40 || c == 41) = true := by
  have e : c = 40 ∨ c = 41 := by
    rcases h with h | h
    · exact Or.inl (beq_iff_eq.1 ((u8_eq c 40 (by decide)).symm.trans h))
    · exact Or.inr (beq_iff_eq.1 ((u8_eq c 41 (by decide)).symm.trans h))
  rcases e with rfl | rfl <;> decide
theorem tl_br (s : ByteArray) (h0 : 0 < s.size) (h : ((s[0].toNat : Int) == 40) = true ∨ ((s[0].toNat : Int) == 41) = true) : tl s.data.toList = some 1 := by
  obtain ⟨h1, h2, h3, h4⟩ := br_facts _ h
  rw [list_cons s h0]
  simp only [tl, h1, h2, h3, h4, cond_true, cond_false]
theorem tl_rest (s : ByteArray) (h0 : 0 < s.size) (h40 : ((s[0].toNat : Int) == 40) = false) (h41 : ((s[0].toNat : Int) == 41) = false) (h95 : ((s[0].toNat : Int) == 95) = false) (hd : digB (s[0].toNat : Int) = false) (hl : letB (s[0].toNat : Int) = false) :
    tl s.data.toList = bif gU s[0] then some (sgnE (s.data.toList.drop 1)) else none := by
  have h1 : dU s[0] = false := hd
  have h2 : (s[0] == 95) = false := (u8_eq s[0] 95 (by decide)).symm.trans h95
  have h3 : lU s[0] = false := hl
  have h4 : (s[0] == 40 || s[0] == 41) = false := by
    rw [show (s[0] == 40) = false from (u8_eq s[0] 40 (by decide)).symm.trans h40, show (s[0] == 41) = false from (u8_eq s[0] 41 (by decide)).symm.trans h41]; rfl
  rw [list_cons s h0]
  simp only [tl, h1, h2, h3, h4, cond_false, List.drop_succ_cons, List.drop_zero]
end Go.Proofs.YtjobgpahajhbnaaGreatDoor
namespace Go.Proofs.YtjobgpahajhbnaaGreatDoor
open Go.RowKit

theorem bif_ne (p : Bool) (k x : Int) (hk : k ≠ 0) : ((bif p then k else x) != 0) = (p || x != 0) := by
  cases p
  · rfl
  · simpa using hk
theorem amid_cons (x : ByteArray) (L : List ByteArray) (t : ByteArray) : amid (x :: L) t = (t.toList == x.toList || amid L t) := by
  unfold amid
  rw [List.any_cons]
  congr 1
  exact Bool.beq_comm
theorem amid_nil (t : ByteArray) : amid [] t = false := rfl
theorem fn_role (t : ByteArray) : amid fnL t = (wRole t != 0) := by
  unfold fnL wRole
  rw [bif_ne _ 1 _ (by decide), bif_ne _ 1 _ (by decide), bif_ne _ 1 _ (by decide), bif_ne _ 1 _ (by decide), bif_ne _ 1 _ (by decide), bif_ne _ 3 _ (by decide), bif_ne _ 3 _ (by decide),
    bif_ne _ 2 _ (by decide), bif_ne _ 2 _ (by decide), bif_ne _ 2 _ (by decide), bif_ne _ 2 _ (by decide), bif_ne _ 2 _ (by decide), bif_ne _ 2 _ (by decide)]
  simp only [amid_cons, amid_nil, ByteArray.toList_mk]
  rw [show ((0 : Int) != 0) = false from rfl]
  ac_rfl
theorem isFn_ext (s : ByteArray) (n : Nat) : isFn (s.data.toList.take n) = amid fnL (s.extract 0 n) := by
  unfold isFn
  apply amid_congr
  rw [ext_list]
  simp
theorem hd0 (s : ByteArray) (h0 : 0 < s.size) (n : Nat) (hn : 0 < n) : hd (s.extract 0 n) = (s[0].toNat : Int) := by
  rw [hd_ext s n h0 hn, hd_eq s h0]
theorem dig_facts (c : Int) (h : digB c = true) : (c == 40) = false ∧ (c == 41) = false ∧ (c == 95) = false := by
  simp [digB] at h
  simp
  omega
theorem num_none {k : Nat} {l : List UInt8} {d : Nat} (hd : (l.takeWhile dU).length = d) (h : 19 < d ∨ d = 0 ∨ 9223372036854775807 < val (l.take d)) : numE k l = none := by
  subst hd
  rw [take_tw] at h
  simp only [numE]
  rw [if_pos h]
theorem num_some {k : Nat} {l : List UInt8} {d : Nat} (hd : (l.takeWhile dU).length = d) (h1 : d ≤ 19) (h2 : 1 ≤ d) (h3 : val (l.take d) ≤ 9223372036854775807) : numE k l = some (k + d) := by
  subst hd
  rw [take_tw] at h3
  simp only [numE]
  rw [if_neg (by omega)]
theorem tw_le (p : UInt8 → Bool) (l : List UInt8) : (l.takeWhile p).length ≤ l.length := (List.takeWhile_sublist (l := l) p).length_le

theorem cut_any (s : ByteArray) (w : World) (h0 : 0 < s.size) (hs : s.size ≤ 200) (hv : Evs w) :
    Calls Tryz.prog 105 #[.string s] w fun e w' => CutR s e ∧ Below w.heap.size w w' := by
  cases h40 : ((s[0].toNat : Int) == 40)
  rotate_left
  · refine (cut_open s w h0 hs h40).mono ?_
    rintro e w' ⟨rfl, hb⟩
    refine ⟨cutR_some (tl_br s h0 (Or.inl h40)) ?_, hb⟩
    simp only [kindT, roleT, worthT, tokX, tokV, hd0 s h0 1 (by decide), h40, cond_true, show ((s[0].toNat : Int) == 95) = false by rw [beq_iff_eq.1 h40]; rfl, show digB (s[0].toNat : Int) = false by rw [beq_iff_eq.1 h40]; rfl, cond_false]
  cases h41 : ((s[0].toNat : Int) == 41)
  rotate_left
  · refine (cut_close s w h0 hs h40 h41).mono ?_
    rintro e w' ⟨rfl, hb⟩
    refine ⟨cutR_some (tl_br s h0 (Or.inr h41)) ?_, hb⟩
    simp only [kindT, roleT, worthT, tokX, tokV, hd0 s h0 1 (by decide), h40, h41, cond_true, cond_false, show ((s[0].toNat : Int) == 95) = false by rw [beq_iff_eq.1 h41]; rfl, show digB (s[0].toNat : Int) = false by rw [beq_iff_eq.1 h41]; rfl]
  cases h95 : ((s[0].toNat : Int) == 95)
  rotate_left
  · obtain ⟨d, hd⟩ : ∃ d, ((s.data.toList.drop 1).takeWhile dU).length = d := ⟨_, rfl⟩
    have hdb : 1 + d ≤ s.size := by have := tw_le dU (s.data.toList.drop 1); rw [len_drop] at this; omega
    have hx : (s.extract 1 (1 + d)).data.toList = (s.data.toList.drop 1).take d := by rw [ext_list]; simp
    have ht := tl_low s h0 h95
    by_cases hbad : 19 < d ∨ d = 0 ∨ 9223372036854775807 < val ((s.data.toList.drop 1).take d)
    · rw [num_none hd hbad] at ht
      refine (cut_low s w h0 0 0 0 ⟨#[]⟩ false ?_ hv h40 h41 h95).mono ?_
      · intro W hW
        by_cases h19 : 19 < d
        · exact cutLow_long s W d h0 h95 hs hd hdb h19
        · exact cutLow_bad s W d h0 h95 hs hd hdb hW (by omega) (by rw [hx]; omega)
      · rintro e w' ⟨rfl, hb⟩
        exact ⟨cutR_none ht rfl, hb⟩
    · rw [num_some hd (by omega) (by omega) (by omega)] at ht
      refine (cut_low s w h0 0 0 (-(val (s.extract 1 (1 + d)).data.toList : Int)) (s.extract 0 (1 + d)) true ?_ hv h40 h41 h95).mono ?_
      · intro W _
        exact cutLow_ok s W d h0 h95 hs hd hdb (by omega) (by omega) _ rfl (by rw [hx]; omega)
      · rintro e w' ⟨rfl, hb⟩
        refine ⟨cutR_some ht ?_, hb⟩
        have hdrop : (s.extract 0 (1 + d)).data.toList.drop 1 = (s.extract 1 (1 + d)).data.toList := by
          rw [ext_list, ext_list]
          simp [List.drop_take]
        simp only [kindT, roleT, worthT, tokX, hdrop, hd0 s h0 (1 + d) (by omega), h40, h41, h95, cond_true, cond_false, Bool.true_or]
  cases hdg : digB (s[0].toNat : Int)
  rotate_left
  · obtain ⟨d, hd⟩ : ∃ d, (s.data.toList.takeWhile dU).length = d := ⟨_, rfl⟩
    have hdb : 0 + d ≤ s.size := by have := tw_le dU s.data.toList; simp at this; omega
    have hx : (s.extract 0 d).data.toList = s.data.toList.take d := by rw [ext_list]; simp
    have ht := tl_dig s h0 hdg
    by_cases hbad : 19 < d ∨ d = 0 ∨ 9223372036854775807 < val (s.data.toList.take d)
    · rw [num_none hd hbad] at ht
      refine (cut_dig s w h0 0 0 0 ⟨#[]⟩ false ?_ hv h40 h41 h95 hdg).mono ?_
      · intro W hW
        by_cases h19 : 19 < d
        · exact cutNum_long s W d h0 h95 hs hd hdb h19
        · exact cutNum_bad s W d h0 h95 hs hd hdb hW (by omega) (by rw [hx]; omega)
      · rintro e w' ⟨rfl, hb⟩
        exact ⟨cutR_none ht rfl, hb⟩
    · rw [num_some hd (by omega) (by omega) (by omega)] at ht
      rw [Nat.zero_add] at ht
      refine (cut_dig s w h0 0 0 (val (s.extract 0 d).data.toList : Int) (s.extract 0 d) true ?_ hv h40 h41 h95 hdg).mono ?_
      · intro W _
        exact cutNum_ok s W d h0 h95 hs hd hdb (by omega) (by omega) _ rfl (by rw [hx]; omega)
      · rintro e w' ⟨rfl, hb⟩
        refine ⟨cutR_some ht ?_, hb⟩
        simp only [kindT, roleT, worthT, tokX, hd0 s h0 d (by omega), h40, h41, h95, hdg, cond_true, cond_false, Bool.or_true]
  cases hl : letB (s[0].toNat : Int)
  rotate_left
  · obtain ⟨n, hn⟩ : ∃ n, wlen s = n := ⟨_, rfl⟩
    have hnl : n ≤ s.size := by have := wlen_le s; omega
    have hn1 : 1 ≤ n := by
      rw [← hn]
      unfold wlen
      rw [list_cons s h0, List.takeWhile, show lU s[0] = true from hl]
      simp
    have ht := tl_word s h0 h95 hdg hl
    have hz := ext_size s n hnl
    have hw : wrdE s.data.toList = if 4 < n ∧ (wRole (s.extract 0 n) != 0) = false then none else some n := by
      simp only [wrdE]
      have e1 : (s.data.toList.takeWhile lU).length = n := hn
      rw [e1, isFn_ext, fn_role]
    rw [hw] at ht
    refine (cut_word s w h0 (wKind (s.extract 0 n)) (wRole (s.extract 0 n)) (s.extract 0 n) (wOk (s.extract 0 n)) ?_ hv h40 h41 h95 hdg hl).mono ?_
    · intro W _
      exact cutWord_any s W hs n hn.symm
    · rintro e w' ⟨rfl, hb⟩
      refine ⟨?_, hb⟩
      by_cases hc : 4 < n ∧ (wRole (s.extract 0 n) != 0) = false
      · rw [if_pos hc] at ht
        refine cutR_none ht (k := wKind (s.extract 0 n)) (r := wRole (s.extract 0 n)) (t := s.extract 0 n) ?_
        have hi : ((s.extract 0 n).toList == [105, 115]) = false := by
          rw [beq_eq_false_iff_ne]
          intro e
          have : (s.extract 0 n).toList.length = n := by rw [ByteArray.toList_eq]; simpa using hz
          rw [e] at this
          simp at this
          omega
        have : wOk (s.extract 0 n) = false := by
          unfold wOk
          rw [hc.2, hi, hz]
          simp
          omega
        rw [this]
      · rw [if_neg hc] at ht
        refine cutR_some ht ?_
        have : wOk (s.extract 0 n) = true := by
          unfold wOk
          rw [hz]
          by_cases h4 : 4 < n
          · have : (wRole (s.extract 0 n) != 0) = true := by
              cases hh : (wRole (s.extract 0 n) != 0)
              · exact absurd ⟨h4, hh⟩ hc
              · rfl
            rw [this]; rfl
          · rw [show decide ((n : Int) ≤ 4) = true from decide_eq_true (by omega)]
            simp
        rw [this]
        simp only [kindT, roleT, worthT, tokX, tokV, hd0 s h0 n hn1, h40, h41, h95, hdg, hl, cond_true, cond_false, Bool.or_false]
  have ht := tl_rest s h0 h40 h41 h95 hdg hl
  cases hg : gU s[0]
  · rw [hg, cond_false] at ht
    refine (cut_none s w h0 h40 h41 h95 hdg hl hg).mono ?_
    rintro e w' ⟨rfl, hb⟩
    exact ⟨cutR_none ht rfl, hb⟩
  · rw [hg, cond_true] at ht
    obtain ⟨n, hn⟩ : ∃ n, sgnE (s.data.toList.drop 1) = n := ⟨_, rfl⟩
    rw [hn] at ht
    have hn1 : 0 < n := by
      rw [← hn]
      unfold sgnE
      split
      · decide
      · split <;> decide
    refine (cut_sign s w h0 3 (sRole (s.extract 0 n)) (s.extract 0 n) ?_ hv h40 h41 h95 hdg hl hg).mono ?_
    · intro W _
      exact cutSign_any s W h0 hs n hn.symm
    · rintro e w' ⟨rfl, hb⟩
      refine ⟨cutR_some ht ?_, hb⟩
      simp only [kindT, roleT, worthT, tokX, tokV, hd0 s h0 n hn1, h40, h41, h95, hdg, hl, cond_false, Bool.or_false]
end Go.Proofs.YtjobgpahajhbnaaGreatDoor
namespace Go.Proofs.YtjobgpahajhbnaaGreatDoor
open Go.RowKit

theorem below_drew {w w2 : World} (h : Below w.drew.heap.size w.drew w2) : Below w.heap.size w w2 := (Below.refl w.heap.size w).drew.trans h
end Go.Proofs.YtjobgpahajhbnaaGreatDoor
namespace Go.Proofs.YtjobgpahajhbnaaGreatDoor
open Go.RowKit

/-- the tokens of a text from place p on, as pairs of places; the place at which none begins, or -1 -/
def lexS (s : ByteArray) : Nat → Nat → List (Nat × Nat) → List (Nat × Nat) × Int
  | 0, _, A => (A, -1)
  | f + 1, p, A => if h : p < s.size then (bif (s[p].toNat : Int) == 32 then lexS s f (p + 1) A else match tl (s.data.toList.drop p) with
    | none => ([], p)
    | some n => lexS s f (p + n) (A ++ [(p, p + n)])) else (A, -1)
def lexR (s : ByteArray) : List (Nat × Nat) × Int := lexS s s.size 0 []
theorem lex_end (s : ByteArray) (f p : Nat) (A : List (Nat × Nat)) (h : s.size ≤ p) : lexS s f p A = (A, -1) := by
  cases f with
  | zero => rfl
  | succ f => unfold lexS; rw [dif_neg (by omega)]
theorem lex_blank (s : ByteArray) (f p : Nat) (A : List (Nat × Nat)) (h : p < s.size) (hb : ((s[p].toNat : Int) == 32) = true) : lexS s (f + 1) p A = lexS s f (p + 1) A := by
  rw [lexS]; rw [dif_pos h, hb, cond_true]
theorem lex_bad (s : ByteArray) (f p : Nat) (A : List (Nat × Nat)) (h : p < s.size) (hb : ((s[p].toNat : Int) == 32) = false) (ht : tl (s.data.toList.drop p) = none) : lexS s (f + 1) p A = ([], (p : Int)) := by
  rw [lexS]; rw [dif_pos h, hb, cond_false, ht]
theorem lex_tok (s : ByteArray) (f p n : Nat) (A : List (Nat × Nat)) (h : p < s.size) (hb : ((s[p].toNat : Int) == 32) = false) (ht : tl (s.data.toList.drop p) = some n) : lexS s (f + 1) p A = lexS s f (p + n) (A ++ [(p, p + n)]) := by
  rw [lexS]; rw [dif_pos h, hb, cond_false, ht]
theorem numE_bd {k n : Nat} {l : List UInt8} (h : numE k l = some n) : 1 ≤ n ∧ n ≤ k + l.length := by
  have hl := tw_le dU l
  simp only [numE] at h
  split at h
  · cases h
  · injection h with h; omega
theorem tl_bd {l : List UInt8} {n : Nat} (h : tl l = some n) : 1 ≤ n ∧ n ≤ l.length := by
  match l with
  | [] => cases h
  | c :: r =>
    simp only [tl] at h
    cases h1 : dU c
    · rw [h1, cond_false] at h
      cases h2 : (c == 95)
      · rw [h2, cond_false] at h
        cases h3 : lU c
        · rw [h3, cond_false] at h
          cases h4 : (c == 40 || c == 41)
          · rw [h4, cond_false] at h
            cases h5 : gU c
            · rw [h5, cond_false] at h; cases h
            · rw [h5, cond_true] at h
              injection h with h
              subst h
              unfold sgnE
              split
              · simp
              · split <;> simp
          · rw [h4, cond_true] at h
            injection h with h
            simp; omega
        · rw [h3, cond_true] at h
          have hl := tw_le lU (c :: r)
          have hp : 1 ≤ ((c :: r).takeWhile lU).length := by rw [List.takeWhile, h3]; simp
          simp only [wrdE] at h
          split at h
          · cases h
          · injection h with h; omega
      · rw [h2, cond_true] at h
        have := numE_bd h
        simp; omega
    · rw [h1, cond_true] at h
      have := numE_bd h
      omega
def cellsC (s : ByteArray) (A : List (Nat × Nat)) : List Value := A.flatMap fun q => [.int .i64 (kindT (s.extract q.1 q.2)), .int .i64 (roleT (s.extract q.1 q.2)), .int .i64 (worthT (s.extract q.1 q.2)), .string (s.extract q.1 q.2), .int .i64 q.1]
theorem cellsC_snoc (s : ByteArray) (A : List (Nat × Nat)) (a b : Nat) : cellsC s (A ++ [(a, b)]) = cellsC s A ++ [.int .i64 (kindT (s.extract a b)), .int .i64 (roleT (s.extract a b)), .int .i64 (worthT (s.extract a b)), .string (s.extract a b), .int .i64 a] := by
  simp [cellsC, List.flatMap_append]
theorem below_grown {w w' : World} (h : Below w.heap.size w w') : w.grownBy w' none := ⟨h.os, h.tape, h.output, h.size, fun k hk _ => h.block k hk⟩
theorem owns_below {w w' : World} {B : Nat} {e : TypeId} {k : Nat} {v : Value} {n : Nat} {xs : List Value} (h : w.ownsRow B e k v n xs) (hb : Below w.heap.size w w') : w'.ownsRow B e k v n xs :=
  h.kept (below_grown hb) (by cases v.ownBlock <;> simp)
theorem tail_ext (s : ByteArray) (p n : Nat) (hp : p + n ≤ s.size) : (s.extract p s.size).extract 0 n = s.extract p (p + n) := by
  have : ∀ a b : ByteArray, a.data.toList = b.data.toList → a = b := by
    intro a b h
    obtain ⟨⟨a⟩⟩ := a
    obtain ⟨⟨b⟩⟩ := b
    simp at h
    rw [h]
  apply this
  rw [ext_list, ext_list, ext_list]
  simp
  rw [List.take_take]
  congr 1
  omega
theorem tail_list (s : ByteArray) (p : Nat) : (s.extract p s.size).data.toList = s.data.toList.drop p := by
  rw [ext_list, List.take_of_length_le (by rw [len_drop]; omega)]
end Go.Proofs.YtjobgpahajhbnaaGreatDoor
