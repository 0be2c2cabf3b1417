import Derived.Test.YtjobgpahajhbnaaGreatDoorWg
import Derived.Test.YtjobgpahajhbnaaGreatDoorPn
namespace Go.Proofs.YtjobgpahajhbnaaGreatDoor
open Go.RowKit
theorem ext_tail (s : ByteArray) : (s.extract 1 s.size).data.toList = s.data.toList.drop 1 := by
  rw [ext_list, List.take_of_length_le (by rw [len_drop]; omega)]
theorem below_four {w w1 : World} {o : Obj} (hb : Below (w.alloc o).heap.size (w.alloc o) w1) (v0 v1 v2 v3 v4 : Value) :
    Below w.heap.size w (((((w1.setCell ⟨w.heap.size, 0, none⟩ v0).setCell ⟨w.heap.size, 1, none⟩ v1).setCell ⟨w.heap.size, 2, none⟩ v2).setCell ⟨w.heap.size, 3, none⟩ v3).setCell ⟨w.heap.size, 4, none⟩ v4) := by
  have h1 : Below w.heap.size w w1 := ((Below.refl w.heap.size w).alloc (Nat.le_refl _) o).trans (hb.mono (by simp))
  exact ((((h1.setCell (Nat.le_refl _) _).setCell (Nat.le_refl _) _).setCell (Nat.le_refl _) _).setCell (Nat.le_refl _) _).setCell (Nat.le_refl _) _
theorem take_tw (p : UInt8 → Bool) (l : List UInt8) : l.take (l.takeWhile p).length = l.takeWhile p := by
  exact (List.prefix_iff_eq_take.1 (List.takeWhile_prefix p)).symm
theorem all_tw (p : UInt8 → Bool) : ∀ l : List UInt8, (l.takeWhile p).all p = true
  | [] => rfl
  | c :: r => by
    by_cases h : p c = true
    · simp only [List.takeWhile, h, List.all_cons, all_tw p r, Bool.and_self]
    · simp [List.takeWhile, h]

set_option maxHeartbeats 1000000 in
theorem cutNum_long (s : ByteArray) (w : World) (d : Nat) (h0 : 0 < s.size) (h5 : ((s[0].toNat : Int) == 95) = false) (hs : s.size ≤ 200) (hdl : ((s.data.toList).takeWhile dU).length = d) (hdb : 0 + d ≤ s.size) (h19 : 19 < d) :
    Calls Tryz.prog 144 #[.string s] w fun e w' => e = .returned (.tuple #[tokV 0 0 ⟨#[]⟩ 0, .bool false]) ∧ Below w.heap.size w w' := by
  have HC : Hid (((s.data.toList.takeWhile dU).length : Int) = (d : Int)) := by rw [← hdl]; rfl
  have hall : (s.extract 0 d).data.toList.all dU = true := by
    rw [ext_list, ← hdl]
    simp only [List.drop_zero, Nat.sub_zero, take_tw]
    exact all_tw _ _
  clear hdl
  obtain ⟨t, ht⟩ : ∃ t, s.extract 0 d = t := ⟨_, rfl⟩
  rw [ht] at hall
  have HL := hide hall
  clear hall
  have hz : t.size = d := by rw [← ht, ByteArray.size_extract]; omega
  have HX := hide ht
  have HZ := hide hz
  clear ht
  have hzi : (t.size : Int) = (d : Int) := by omega
  clear hz
  go_enter Tryz.func144, Tryz.ntmps144
  go_wp2_with fail
  refine (countDig _ _ (by first | omega | (rw [ByteArray.size_extract]; omega))).mono ?_
  rintro e w' ⟨rfl, rfl⟩
  rw [unhide HC]
  go_wp2_with fail
  refine bodyPost_ret (v := .tuple #[.agg #[.int .i64 0, .int .i64 0, .int .i64 0, .string ⟨#[]⟩, .int .i64 0], .bool false]) (by simp [results, Tryz.results144, go_sem]) rfl ⟨rfl, ?_⟩
  exact (Below.refl _ _).alloc (Nat.le_refl _) _

set_option maxHeartbeats 1000000 in
theorem cutNum_bad (s : ByteArray) (w : World) (d : Nat) (h0 : 0 < s.size) (h5 : ((s[0].toNat : Int) == 95) = false) (hs : s.size ≤ 200) (hdl : ((s.data.toList).takeWhile dU).length = d) (hdb : 0 + d ≤ s.size) (hv : Evs w) (h19 : d ≤ 19) (hb : d = 0 ∨ 9223372036854775807 < val (s.extract 0 d).data.toList) :
    Calls Tryz.prog 144 #[.string s] w fun e w' => e = .returned (.tuple #[tokV 0 0 ⟨#[]⟩ 0, .bool false]) ∧ Below w.heap.size w w' := by
  have HC : Hid (((s.data.toList.takeWhile dU).length : Int) = (d : Int)) := by rw [← hdl]; rfl
  have hall : (s.extract 0 d).data.toList.all dU = true := by
    rw [ext_list, ← hdl]
    simp only [List.drop_zero, Nat.sub_zero, take_tw]
    exact all_tw _ _
  clear hdl
  obtain ⟨t, ht⟩ : ∃ t, s.extract 0 d = t := ⟨_, rfl⟩
  rw [ht] at hall
  have HL := hide hall
  clear hall
  have hz : t.size = d := by rw [← ht, ByteArray.size_extract]; omega
  have HX := hide ht
  have HZ := hide hz
  rw [ht] at hb
  have HB := hide hb
  have HV := hide hv
  clear hb hv
  clear ht
  have hzi : (t.size : Int) = (d : Int) := by omega
  clear hz
  go_enter Tryz.func144, Tryz.ntmps144
  go_wp2_with fail
  refine (countDig _ _ (by first | omega | (rw [ByteArray.size_extract]; omega))).mono ?_
  rintro e w' ⟨rfl, rfl⟩
  rw [unhide HC]
  go_wp2_with fail
  rw [unhide HX]
  refine (parseInt_bad t _ (by rw [unhide HZ]; exact h19) ((unhide HV).alloc _) ?_).mono ?_
  · rcases unhide HB with h | h
    · exact Or.inl (by rw [unhide HZ]; exact h)
    · exact Or.inr ⟨unhide HL, h⟩
  rintro e w1 ⟨v, N, rfl, hb1⟩
  obtain ⟨hc, hf⟩ := bcell hb1
  go_wp2_with fail
  refine bodyPost_ret (v := .tuple #[.agg #[.int .i64 0, .int .i64 0, .int .i64 0, .string ⟨#[]⟩, .int .i64 0], .bool false]) (by simp [results, Tryz.results144, go_sem, hc]) rfl ⟨rfl, ?_⟩
  exact below_four hb1 _ _ _ _ _

set_option maxHeartbeats 1000000 in
theorem cutNum_ok (s : ByteArray) (w : World) (d : Nat) (h0 : 0 < s.size) (h5 : ((s[0].toNat : Int) == 95) = false) (hs : s.size ≤ 200) (hdl : ((s.data.toList).takeWhile dU).length = d) (hdb : 0 + d ≤ s.size) (h19 : d ≤ 19) (hd1 : 1 ≤ d) (V : Int) (hV : V = (val (s.extract 0 d).data.toList : Int)) (hb : val (s.extract 0 d).data.toList ≤ 9223372036854775807) :
    Calls Tryz.prog 144 #[.string s] w fun e w' => e = .returned (.tuple #[tokX 0 0 (V) (s.extract 0 (d)) 0, .bool true]) ∧ Below w.heap.size w w' := by
  have HC : Hid (((s.data.toList.takeWhile dU).length : Int) = (d : Int)) := by rw [← hdl]; rfl
  have hall : (s.extract 0 d).data.toList.all dU = true := by
    rw [ext_list, ← hdl]
    simp only [List.drop_zero, Nat.sub_zero, take_tw]
    exact all_tw _ _
  clear hdl
  obtain ⟨t, ht⟩ : ∃ t, s.extract 0 d = t := ⟨_, rfl⟩
  rw [ht] at hall
  have HL := hide hall
  clear hall
  have hz : t.size = d := by rw [← ht, ByteArray.size_extract]; omega
  have HX := hide ht
  have HZ := hide hz
  rw [ht] at hb
  have hpi := parse_int t.data.toList (fun e => by rw [← ByteArray.size_data, ← Array.length_toList, e] at hz; simp at hz; omega) (by simp; omega) (unhide HL)
  rw [if_neg (by omega)] at hpi
  rw [ht] at hV
  rw [← hV] at hpi
  have hV0 : 0 ≤ V := by omega
  have hV1 : V ≤ 9223372036854775807 := by omega
  have HP := hide hpi
  clear hb hpi hV
  clear ht
  have hzi : (t.size : Int) = (d : Int) := by omega
  clear hz
  go_enter Tryz.func144, Tryz.ntmps144
  go_wp2_with fail
  refine (countDig _ _ (by first | omega | (rw [ByteArray.size_extract]; omega))).mono ?_
  rintro e w' ⟨rfl, rfl⟩
  rw [unhide HC]
  go_wp2_with fail
  rw [unhide HX]
  refine (parseInt_ok t _ (by rw [unhide HZ]; omega) _ (unhide HP)).mono ?_
  rintro e w1 ⟨rfl, hb1⟩
  obtain ⟨hc, hf⟩ := bcell hb1
  go_wp2_with fail
  refine bodyPost_ret (v := .tuple #[.agg #[.int .i64 0, .int .i64 0, .int .i64 (V), .string (s.extract 0 (d)), .int .i64 0], .bool true]) (by simp [results, Tryz.results144, go_sem, hc]) rfl ⟨rfl, ?_⟩
  exact below_four hb1 _ _ _ _ _

set_option maxHeartbeats 1000000 in
theorem cutLow_long (s : ByteArray) (w : World) (d : Nat) (h0 : 0 < s.size) (h5 : ((s[0].toNat : Int) == 95) = true) (hs : s.size ≤ 200) (hdl : ((s.data.toList.drop 1).takeWhile dU).length = d) (hdb : 1 + d ≤ s.size) (h19 : 19 < d) :
    Calls Tryz.prog 144 #[.string s] w fun e w' => e = .returned (.tuple #[tokV 0 0 ⟨#[]⟩ 0, .bool false]) ∧ Below w.heap.size w w' := by
  have HC : Hid ((((s.extract 1 s.size).data.toList.takeWhile dU).length : Int) = (d : Int)) := by rw [← hdl, ext_tail s]; rfl
  have hall : (s.extract 1 (1 + d)).data.toList.all dU = true := by
    rw [ext_list, ← hdl]
    simp only [Nat.add_sub_cancel_left, take_tw]
    exact all_tw _ _
  clear hdl
  obtain ⟨t, ht⟩ : ∃ t, s.extract 1 (1 + d) = t := ⟨_, rfl⟩
  rw [ht] at hall
  have HL := hide hall
  clear hall
  have hz : t.size = d := by rw [← ht, ByteArray.size_extract]; omega
  have HX := hide ht
  have HZ := hide hz
  clear ht
  have hzi : (t.size : Int) = (d : Int) := by omega
  clear hz
  go_enter Tryz.func144, Tryz.ntmps144
  go_wp2_with fail
  refine (countDig _ _ (by first | omega | (rw [ByteArray.size_extract]; omega))).mono ?_
  rintro e w' ⟨rfl, rfl⟩
  rw [unhide HC]
  go_wp2_with fail
  refine bodyPost_ret (v := .tuple #[.agg #[.int .i64 0, .int .i64 0, .int .i64 0, .string ⟨#[]⟩, .int .i64 0], .bool false]) (by simp [results, Tryz.results144, go_sem]) rfl ⟨rfl, ?_⟩
  exact (Below.refl _ _).alloc (Nat.le_refl _) _

set_option maxHeartbeats 1000000 in
theorem cutLow_bad (s : ByteArray) (w : World) (d : Nat) (h0 : 0 < s.size) (h5 : ((s[0].toNat : Int) == 95) = true) (hs : s.size ≤ 200) (hdl : ((s.data.toList.drop 1).takeWhile dU).length = d) (hdb : 1 + d ≤ s.size) (hv : Evs w) (h19 : d ≤ 19) (hb : d = 0 ∨ 9223372036854775807 < val (s.extract 1 (1 + d)).data.toList) :
    Calls Tryz.prog 144 #[.string s] w fun e w' => e = .returned (.tuple #[tokV 0 0 ⟨#[]⟩ 0, .bool false]) ∧ Below w.heap.size w w' := by
  have HC : Hid ((((s.extract 1 s.size).data.toList.takeWhile dU).length : Int) = (d : Int)) := by rw [← hdl, ext_tail s]; rfl
  have hall : (s.extract 1 (1 + d)).data.toList.all dU = true := by
    rw [ext_list, ← hdl]
    simp only [Nat.add_sub_cancel_left, take_tw]
    exact all_tw _ _
  clear hdl
  obtain ⟨t, ht⟩ : ∃ t, s.extract 1 (1 + d) = t := ⟨_, rfl⟩
  rw [ht] at hall
  have HL := hide hall
  clear hall
  have hz : t.size = d := by rw [← ht, ByteArray.size_extract]; omega
  have HX := hide ht
  have HZ := hide hz
  rw [ht] at hb
  have HB := hide hb
  have HV := hide hv
  clear hb hv
  clear ht
  have hzi : (t.size : Int) = (d : Int) := by omega
  clear hz
  go_enter Tryz.func144, Tryz.ntmps144
  go_wp2_with fail
  refine (countDig _ _ (by first | omega | (rw [ByteArray.size_extract]; omega))).mono ?_
  rintro e w' ⟨rfl, rfl⟩
  rw [unhide HC]
  go_wp2_with fail
  rw [unhide HX]
  refine (parseInt_bad t _ (by rw [unhide HZ]; exact h19) ((unhide HV).alloc _) ?_).mono ?_
  · rcases unhide HB with h | h
    · exact Or.inl (by rw [unhide HZ]; exact h)
    · exact Or.inr ⟨unhide HL, h⟩
  rintro e w1 ⟨v, N, rfl, hb1⟩
  obtain ⟨hc, hf⟩ := bcell hb1
  go_wp2_with fail
  refine bodyPost_ret (v := .tuple #[.agg #[.int .i64 0, .int .i64 0, .int .i64 0, .string ⟨#[]⟩, .int .i64 0], .bool false]) (by simp [results, Tryz.results144, go_sem, hc]) rfl ⟨rfl, ?_⟩
  exact below_four hb1 _ _ _ _ _

set_option maxHeartbeats 1000000 in
theorem cutLow_ok (s : ByteArray) (w : World) (d : Nat) (h0 : 0 < s.size) (h5 : ((s[0].toNat : Int) == 95) = true) (hs : s.size ≤ 200) (hdl : ((s.data.toList.drop 1).takeWhile dU).length = d) (hdb : 1 + d ≤ s.size) (h19 : d ≤ 19) (hd1 : 1 ≤ d) (V : Int) (hV : V = (val (s.extract 1 (1 + d)).data.toList : Int)) (hb : val (s.extract 1 (1 + d)).data.toList ≤ 9223372036854775807) :
    Calls Tryz.prog 144 #[.string s] w fun e w' => e = .returned (.tuple #[tokX 0 0 (-V) (s.extract 0 (1 + d)) 0, .bool true]) ∧ Below w.heap.size w w' := by
  have HC : Hid ((((s.extract 1 s.size).data.toList.takeWhile dU).length : Int) = (d : Int)) := by rw [← hdl, ext_tail s]; rfl
  have hall : (s.extract 1 (1 + d)).data.toList.all dU = true := by
    rw [ext_list, ← hdl]
    simp only [Nat.add_sub_cancel_left, take_tw]
    exact all_tw _ _
  clear hdl
  obtain ⟨t, ht⟩ : ∃ t, s.extract 1 (1 + d) = t := ⟨_, rfl⟩
  rw [ht] at hall
  have HL := hide hall
  clear hall
  have hz : t.size = d := by rw [← ht, ByteArray.size_extract]; omega
  have HX := hide ht
  have HZ := hide hz
  rw [ht] at hb
  have hpi := parse_int t.data.toList (fun e => by rw [← ByteArray.size_data, ← Array.length_toList, e] at hz; simp at hz; omega) (by simp; omega) (unhide HL)
  rw [if_neg (by omega)] at hpi
  rw [ht] at hV
  rw [← hV] at hpi
  have hV0 : 0 ≤ V := by omega
  have hV1 : V ≤ 9223372036854775807 := by omega
  have HP := hide hpi
  clear hb hpi hV
  clear ht
  have hzi : (t.size : Int) = (d : Int) := by omega
  clear hz
  go_enter Tryz.func144, Tryz.ntmps144
  go_wp2_with fail
  refine (countDig _ _ (by first | omega | (rw [ByteArray.size_extract]; omega))).mono ?_
  rintro e w' ⟨rfl, rfl⟩
  rw [unhide HC]
  go_wp2_with fail
  rw [unhide HX]
  refine (parseInt_ok t _ (by rw [unhide HZ]; omega) _ (unhide HP)).mono ?_
  rintro e w1 ⟨rfl, hb1⟩
  obtain ⟨hc, hf⟩ := bcell hb1
  go_wp2_with fail
  refine bodyPost_ret (v := .tuple #[.agg #[.int .i64 0, .int .i64 0, .int .i64 (-V), .string (s.extract 0 (1 + d)), .int .i64 0], .bool true]) (by simp [results, Tryz.results144, go_sem, hc]) rfl ⟨rfl, ?_⟩
  exact below_four hb1 _ _ _ _ _
end Go.Proofs.YtjobgpahajhbnaaGreatDoor
namespace Go.Proofs.YtjobgpahajhbnaaGreatDoor
open Go.RowKit

set_option maxHeartbeats 1000000 in
theorem cut_open (s : ByteArray) (w : World) (h0 : 0 < s.size) (hs : s.size ≤ 200) (h40 : ((s[0].toNat : Int) == 40) = true) :
    Calls Tryz.prog 105 #[.string s] w fun e w' => e = .returned (.tuple #[tokV 4 0 (s.extract 0 1) 0, .bool true]) ∧ Below w.heap.size w w' := by
  go_enter Tryz.func105, Tryz.ntmps105
  go_wp2_with (first | (go_at_call 143; refine (isDigit_any _ _).mono ?_; rintro e w' ⟨rfl, rfl⟩) | (go_at_call 145; refine (isLetter_any _ _).mono ?_; rintro e w' ⟨rfl, rfl⟩))
  refine bodyPost_ret (v := .tuple #[.agg #[.int .i64 4, .int .i64 0, .int .i64 0, .string (s.extract 0 1), .int .i64 0], .bool true]) (by simp [results, Tryz.results105, go_sem]) rfl ⟨rfl, ?_⟩
  exact (Below.refl _ _).alloc (Nat.le_refl _) _

set_option maxHeartbeats 1000000 in
theorem cut_close (s : ByteArray) (w : World) (h0 : 0 < s.size) (hs : s.size ≤ 200) (h40 : ((s[0].toNat : Int) == 40) = false) (h41 : ((s[0].toNat : Int) == 41) = true) :
    Calls Tryz.prog 105 #[.string s] w fun e w' => e = .returned (.tuple #[tokV 5 0 (s.extract 0 1) 0, .bool true]) ∧ Below w.heap.size w w' := by
  go_enter Tryz.func105, Tryz.ntmps105
  go_wp2_with (first | (go_at_call 143; refine (isDigit_any _ _).mono ?_; rintro e w' ⟨rfl, rfl⟩) | (go_at_call 145; refine (isLetter_any _ _).mono ?_; rintro e w' ⟨rfl, rfl⟩))
  refine bodyPost_ret (v := .tuple #[.agg #[.int .i64 5, .int .i64 0, .int .i64 0, .string (s.extract 0 1), .int .i64 0], .bool true]) (by simp [results, Tryz.results105, go_sem]) rfl ⟨rfl, ?_⟩
  exact (Below.refl _ _).alloc (Nat.le_refl _) _

set_option maxHeartbeats 1000000 in
theorem cut_none (s : ByteArray) (w : World) (h0 : 0 < s.size) (h40 : ((s[0].toNat : Int) == 40) = false) (h41 : ((s[0].toNat : Int) == 41) = false) (h95 : ((s[0].toNat : Int) == 95) = false) (hd : digB (s[0].toNat : Int) = false) (hl : letB (s[0].toNat : Int) = false) (hg : gU s[0] = false) :
    Calls Tryz.prog 105 #[.string s] w fun e w' => e = .returned (.tuple #[tokV 0 0 (⟨#[]⟩) 0, .bool false]) ∧ Below w.heap.size w w' := by
  have HG := hide hg
  clear hg
  go_enter Tryz.func105, Tryz.ntmps105
  go_wp2_with (first | (go_at_call 143; refine (isDigit_any _ _).mono ?_; rintro e w' ⟨rfl, rfl⟩) | (go_at_call 145; refine (isLetter_any _ _).mono ?_; rintro e w' ⟨rfl, rfl⟩) | (go_at_call 147; refine (ixSgn_no _ _ (unhide HG)).mono ?_; rintro e w2 ⟨rfl, rfl⟩))
  refine bodyPost_ret (v := .tuple #[.agg #[.int .i64 0, .int .i64 0, .int .i64 0, .string (⟨#[]⟩), .int .i64 0], .bool false]) (by simp [results, Tryz.results105, go_sem]) rfl ⟨rfl, ?_⟩
  exact (Below.refl _ _).alloc (Nat.le_refl _) _

set_option maxHeartbeats 1000000 in
theorem cut_low (s : ByteArray) (w : World) (h0 : 0 < s.size) (k r x : Int) (t : ByteArray) (b : Bool) (hk : ∀ W, Evs W → Calls Tryz.prog 144 #[.string s] W fun e w' => e = .returned (.tuple #[tokX k r x t 0, .bool b]) ∧ Below W.heap.size W w') (hv : Evs w) (h40 : ((s[0].toNat : Int) == 40) = false) (h41 : ((s[0].toNat : Int) == 41) = false) (h95 : ((s[0].toNat : Int) == 95) = true) :
    Calls Tryz.prog 105 #[.string s] w fun e w' => e = .returned (.tuple #[tokX k r x t 0, .bool (b)]) ∧ Below w.heap.size w w' := by
  have HK : Hid (∀ o, Calls Tryz.prog 144 #[.string s] (w.alloc o) fun e w' => e = .returned (.tuple #[tokX k r x t 0, .bool b]) ∧ Below (w.alloc o).heap.size (w.alloc o) w') := fun o => hk _ (hv.alloc o)
  clear hk
  have HV := hide hv
  clear hv
  go_enter Tryz.func105, Tryz.ntmps105
  go_wp2_with (first | (go_at_call 143; refine (isDigit_any _ _).mono ?_; rintro e w' ⟨rfl, rfl⟩) | (go_at_call 145; refine (isLetter_any _ _).mono ?_; rintro e w' ⟨rfl, rfl⟩))
  refine (unhide HK _).mono ?_
  rintro e w1 ⟨rfl, hb1⟩
  unfold tokX
  obtain ⟨hc, hf⟩ := bcell hb1
  go_wp2_with fail
  refine bodyPost_ret (v := .tuple #[.agg #[.int .i64 (k), .int .i64 (r), .int .i64 x, .string (t), .int .i64 0], .bool (b)]) (by simp [results, Tryz.results105, go_sem, hc]) rfl ⟨rfl, ?_⟩
  exact below_four hb1 _ _ _ _ _

set_option maxHeartbeats 1000000 in
theorem cut_dig (s : ByteArray) (w : World) (h0 : 0 < s.size) (k r x : Int) (t : ByteArray) (b : Bool) (hk : ∀ W, Evs W → Calls Tryz.prog 144 #[.string s] W fun e w' => e = .returned (.tuple #[tokX k r x t 0, .bool b]) ∧ Below W.heap.size W w') (hv : Evs w) (h40 : ((s[0].toNat : Int) == 40) = false) (h41 : ((s[0].toNat : Int) == 41) = false) (h95 : ((s[0].toNat : Int) == 95) = false) (hd : digB (s[0].toNat : Int) = true) :
    Calls Tryz.prog 105 #[.string s] w fun e w' => e = .returned (.tuple #[tokX k r x t 0, .bool (b)]) ∧ Below w.heap.size w w' := by
  have HK : Hid (∀ o, Calls Tryz.prog 144 #[.string s] (w.alloc o) fun e w' => e = .returned (.tuple #[tokX k r x t 0, .bool b]) ∧ Below (w.alloc o).heap.size (w.alloc o) w') := fun o => hk _ (hv.alloc o)
  clear hk
  have HV := hide hv
  clear hv
  go_enter Tryz.func105, Tryz.ntmps105
  go_wp2_with (first | (go_at_call 143; refine (isDigit_any _ _).mono ?_; rintro e w' ⟨rfl, rfl⟩) | (go_at_call 145; refine (isLetter_any _ _).mono ?_; rintro e w' ⟨rfl, rfl⟩))
  refine (unhide HK _).mono ?_
  rintro e w1 ⟨rfl, hb1⟩
  unfold tokX
  obtain ⟨hc, hf⟩ := bcell hb1
  go_wp2_with fail
  refine bodyPost_ret (v := .tuple #[.agg #[.int .i64 (k), .int .i64 (r), .int .i64 x, .string (t), .int .i64 0], .bool (b)]) (by simp [results, Tryz.results105, go_sem, hc]) rfl ⟨rfl, ?_⟩
  exact below_four hb1 _ _ _ _ _

set_option maxHeartbeats 1000000 in
theorem cut_word (s : ByteArray) (w : World) (h0 : 0 < s.size) (k r : Int) (t : ByteArray) (b : Bool) (hk : ∀ W, Evs W → Calls Tryz.prog 146 #[.string s] W fun e w' => e = .returned (.tuple #[tokV k r t 0, .bool b]) ∧ Below W.heap.size W w') (hv : Evs w) (h40 : ((s[0].toNat : Int) == 40) = false) (h41 : ((s[0].toNat : Int) == 41) = false) (h95 : ((s[0].toNat : Int) == 95) = false) (hd : digB (s[0].toNat : Int) = false) (hl : letB (s[0].toNat : Int) = true) :
    Calls Tryz.prog 105 #[.string s] w fun e w' => e = .returned (.tuple #[tokV (k) (r) (t) 0, .bool (b)]) ∧ Below w.heap.size w w' := by
  have HK : Hid (∀ o, Calls Tryz.prog 146 #[.string s] (w.alloc o) fun e w' => e = .returned (.tuple #[tokV k r t 0, .bool b]) ∧ Below (w.alloc o).heap.size (w.alloc o) w') := fun o => hk _ (hv.alloc o)
  clear hk
  have HV := hide hv
  clear hv
  go_enter Tryz.func105, Tryz.ntmps105
  go_wp2_with (first | (go_at_call 143; refine (isDigit_any _ _).mono ?_; rintro e w' ⟨rfl, rfl⟩) | (go_at_call 145; refine (isLetter_any _ _).mono ?_; rintro e w' ⟨rfl, rfl⟩))
  refine (unhide HK _).mono ?_
  rintro e w1 ⟨rfl, hb1⟩
  unfold tokV
  obtain ⟨hc, hf⟩ := bcell hb1
  go_wp2_with fail
  refine bodyPost_ret (v := .tuple #[.agg #[.int .i64 (k), .int .i64 (r), .int .i64 0, .string (t), .int .i64 0], .bool (b)]) (by simp [results, Tryz.results105, go_sem, hc]) rfl ⟨rfl, ?_⟩
  exact below_four hb1 _ _ _ _ _

set_option maxHeartbeats 1000000 in
theorem cut_sign (s : ByteArray) (w : World) (h0 : 0 < s.size) (k r : Int) (t : ByteArray) (hk : ∀ W, Evs W → Calls Tryz.prog 148 #[.string s] W fun e w' => e = .returned (tokV k r t 0) ∧ Below W.heap.size W w') (hv : Evs w) (h40 : ((s[0].toNat : Int) == 40) = false) (h41 : ((s[0].toNat : Int) == 41) = false) (h95 : ((s[0].toNat : Int) == 95) = false) (hd : digB (s[0].toNat : Int) = false) (hl : letB (s[0].toNat : Int) = false) (hg : gU s[0] = true) :
    Calls Tryz.prog 105 #[.string s] w fun e w' => e = .returned (.tuple #[tokV (k) (r) (t) 0, .bool (true)]) ∧ Below w.heap.size w w' := by
  have HK : Hid (∀ o, Calls Tryz.prog 148 #[.string s] (w.alloc o) fun e w' => e = .returned (tokV k r t 0) ∧ Below (w.alloc o).heap.size (w.alloc o) w') := fun o => hk _ (hv.alloc o)
  clear hk
  have HV := hide hv
  clear hv
  have HG := hide hg
  clear hg
  go_enter Tryz.func105, Tryz.ntmps105
  go_wp2_with (first | (go_at_call 143; refine (isDigit_any _ _).mono ?_; rintro e w' ⟨rfl, rfl⟩) | (go_at_call 145; refine (isLetter_any _ _).mono ?_; rintro e w' ⟨rfl, rfl⟩) | (go_at_call 147; refine (ixSgn_yes _ _ (unhide HG)).mono ?_; rintro e w2 ⟨v, hv, rfl, rfl⟩))
  refine (unhide HK _).mono ?_
  rintro e w1 ⟨rfl, hb1⟩
  unfold tokV
  obtain ⟨hc, hf⟩ := bcell hb1
  go_wp2_with fail
  refine bodyPost_ret (v := .tuple #[.agg #[.int .i64 (k), .int .i64 (r), .int .i64 0, .string (t), .int .i64 0], .bool (true)]) (by simp [results, Tryz.results105, go_sem, hc]) rfl ⟨rfl, ?_⟩
  exact below_four hb1 _ _ _ _ _
end Go.Proofs.YtjobgpahajhbnaaGreatDoor
