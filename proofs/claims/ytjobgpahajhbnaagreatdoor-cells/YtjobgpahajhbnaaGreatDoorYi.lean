import Derived.Test.YtjobgpahajhbnaaGreatDoorYe
import Derived.Deep.CutRange
namespace Go.Proofs.YtjobgpahajhbnaaGreatDoor
open Go.RowKit Go.Proofs
attribute [local go_sem ↓] Go.wp_at_zero Go.wp_at_succ

set_option maxHeartbeats 4000000 in
set_option maxRecDepth 20000 in
theorem cells_law (a b : Int) (ha : fit64 a) (hb : fit64 b) (w : World) (hE : Evs w) (hT : Tab w) :
    Calls Tryz.prog 4 #[.int .i64 a, .int .i64 b] w fun e w' => e = .returned (.bool true) ∧ Below w.heap.size w w' := by
  have HL := hide (lit_any a ha)
  have HM := hide (lit_any b hb)
  have HFa := hide ha
  have HFb := hide hb
  have HT := hide hT
  have hd0 : Below w.heap.size w (w.alloc (.cells #[.int .i64 1000, .map none] 91)) := (Below.refl _ _).alloc (Nat.le_refl _) _
  have HD0 : Hid (Desk0 w.heap.size (w.alloc (.cells #[.int .i64 1000, .map none] 91))) := hide ⟨by simp, hE.1, by simp, by simp, hE.alloc _⟩
  have HB0 := hide hd0
  clear ha hb hT hE hd0
  go_enter Tryz.func4, Tryz.ntmps4
  go_wp2_with (go_at_call 15; refine (desk_any _).mono ?_; rintro e w' ⟨rfl, rfl⟩)
  refine (unhide HL _ ((unhide HT).below (unhide HB0))).mono ?_
  rintro e w1 ⟨⟨ta, rfl, ha⟩, hb1⟩
  have HOa := hide ha
  have hla := ha.1
  have HB1 : Hid (Below w.heap.size w w1) := hide ((unhide HB0).trans (hb1.mono (unhide HB0).size))
  have HD1 : Hid (Desk0 w.heap.size w1) := hide ((unhide HD0).keep hb1)
  clear ha hb1
  go_wp2_with fail
  refine (unhide HM _ ((unhide HT).below (unhide HB1))).mono ?_
  rintro e w2 ⟨⟨tb, rfl, hb⟩, hb2⟩
  have HOb := hide hb
  have hlb := hb.1
  have HB2 : Hid (Below w.heap.size w w2) := hide ((unhide HB1).trans (hb2.mono (unhide HB1).size))
  have HD2 : Hid (Desk0 w.heap.size w2) := hide ((unhide HD1).keep hb2)
  clear hb hb2
  obtain ⟨db, hdb⟩ : ∃ db, w.heap.size = db := ⟨_, rfl⟩
  obtain ⟨x, hx⟩ : ∃ x : ByteArray, (⟨ta.toArray⟩ : ByteArray) = x := ⟨_, rfl⟩
  obtain ⟨y, hy⟩ : ∃ y : ByteArray, (⟨tb.toArray⟩ : ByteArray) = y := ⟨_, rfl⟩
  have hxs : x.size = ta.length := by rw [← hx]; simp [ByteArray.size]
  have hys : y.size = tb.length := by rw [← hy]; simp [ByteArray.size]
  have hxl : x.size ≤ 40 := by omega
  have hyl : y.size ≤ 40 := by omega
  have H1 : Hid (∀ n w', n = (sgF 43 a b).1 → Desk0 db w' → Calls Tryz.prog 17 #[.pointer (some ⟨db, 0, none⟩), .string (x ++ ByteArray.mk #[32, 43, 32] ++ y), .int .i64 n] w' fun e w'' => e = .returned (.bool true) ∧ Desk0 db w'' ∧ Below w'.heap.size w' w'') := hide (fun n w' hn hD => by
    have := one_of (line_two (unhide HOa) (unhide HOb) 43 (by decide) (rfl)) db w' hD
    rw [← hn] at this
    rw [← hx, ← hy, sum3]
    exact this)
  have H2 : Hid (∀ n w', n = (sgF 45 a b).1 → Desk0 db w' → Calls Tryz.prog 17 #[.pointer (some ⟨db, 0, none⟩), .string (x ++ ByteArray.mk #[32, 45, 32] ++ y), .int .i64 n] w' fun e w'' => e = .returned (.bool true) ∧ Desk0 db w'' ∧ Below w'.heap.size w' w'') := hide (fun n w' hn hD => by
    have := one_of (line_two (unhide HOa) (unhide HOb) 45 (by decide) (rfl)) db w' hD
    rw [← hn] at this
    rw [← hx, ← hy, sum3]
    exact this)
  have H3 : Hid (∀ n w', n = (sgF 42 a b).1 → Desk0 db w' → Calls Tryz.prog 17 #[.pointer (some ⟨db, 0, none⟩), .string (x ++ ByteArray.mk #[32, 42, 32] ++ y), .int .i64 n] w' fun e w'' => e = .returned (.bool true) ∧ Desk0 db w'' ∧ Below w'.heap.size w' w'') := hide (fun n w' hn hD => by
    have := one_of (line_two (unhide HOa) (unhide HOb) 42 (by decide) (rfl)) db w' hD
    rw [← hn] at this
    rw [← hx, ← hy, sum3]
    exact this)
  have H4 : Hid (∀ n w', n = (sgF 38 a b).1 → Desk0 db w' → Calls Tryz.prog 17 #[.pointer (some ⟨db, 0, none⟩), .string (x ++ ByteArray.mk #[32, 38, 32] ++ y), .int .i64 n] w' fun e w'' => e = .returned (.bool true) ∧ Desk0 db w'' ∧ Below w'.heap.size w' w'') := hide (fun n w' hn hD => by
    have := one_of (line_two (unhide HOa) (unhide HOb) 38 (by decide) (rfl)) db w' hD
    rw [← hn] at this
    rw [← hx, ← hy, sum3]
    exact this)
  have H5 : Hid (∀ n w', n = (sgF 33 a b).1 → Desk0 db w' → Calls Tryz.prog 17 #[.pointer (some ⟨db, 0, none⟩), .string (x ++ ByteArray.mk #[32, 33, 32] ++ y), .int .i64 n] w' fun e w'' => e = .returned (.bool true) ∧ Desk0 db w'' ∧ Below w'.heap.size w' w'') := hide (fun n w' hn hD => by
    have := one_of (line_two (unhide HOa) (unhide HOb) 33 (by decide) (rfl)) db w' hD
    rw [← hn] at this
    rw [← hx, ← hy, sum3]
    exact this)
  have H6 : Hid (∀ n w', n = (sgF 61 a b).1 → Desk0 db w' → Calls Tryz.prog 17 #[.pointer (some ⟨db, 0, none⟩), .string (x ++ ByteArray.mk #[32, 61, 32] ++ y), .int .i64 n] w' fun e w'' => e = .returned (.bool true) ∧ Desk0 db w'' ∧ Below w'.heap.size w' w'') := hide (fun n w' hn hD => by
    have := one_of (line_two (unhide HOa) (unhide HOb) 61 (by decide) (rfl)) db w' hD
    rw [← hn] at this
    rw [← hx, ← hy, sum3]
    exact this)
  have H7 : Hid (∀ n w', n = (sgF 60 a b).1 → Desk0 db w' → Calls Tryz.prog 17 #[.pointer (some ⟨db, 0, none⟩), .string (x ++ ByteArray.mk #[32, 60, 32] ++ y), .int .i64 n] w' fun e w'' => e = .returned (.bool true) ∧ Desk0 db w'' ∧ Below w'.heap.size w' w'') := hide (fun n w' hn hD => by
    have := one_of (line_two (unhide HOa) (unhide HOb) 60 (by decide) (rfl)) db w' hD
    rw [← hn] at this
    rw [← hx, ← hy, sum3]
    exact this)
  have K1 : Hid (∀ n w', n = negatedF a → Desk0 db w' → Calls Tryz.prog 17 #[.pointer (some ⟨db, 0, none⟩), .string (ByteArray.mk #[45, 32] ++ x), .int .i64 n] w' fun e w'' => e = .returned (.bool true) ∧ Desk0 db w'' ∧ Below w'.heap.size w' w'') := hide (fun n w' hn hD => by
    have := one_of (line_one (unhide HOa) [45] fn1_minus (by decide) negated_one (v := negatedF a) rfl) db w' hD
    rw [← hn] at this
    rw [← hx, sum2]
    exact this)
  have K2 : Hid (∀ n w', n = directionF a → Desk0 db w' → Calls Tryz.prog 17 #[.pointer (some ⟨db, 0, none⟩), .string (ByteArray.mk #[42, 32] ++ x), .int .i64 n] w' fun e w'' => e = .returned (.bool true) ∧ Desk0 db w'' ∧ Below w'.heap.size w' w'') := hide (fun n w' hn hD => by
    have := one_of (line_one (unhide HOa) [42] fn1_star (by decide) direction_one (v := directionF a) rfl) db w' hD
    rw [← hn] at this
    rw [← hx, sum2]
    exact this)
  have K3 : Hid (∀ n w', n = a → Desk0 db w' → Calls Tryz.prog 17 #[.pointer (some ⟨db, 0, none⟩), .string (ByteArray.mk #[43, 32] ++ x), .int .i64 n] w' fun e w'' => e = .returned (.bool true) ∧ Desk0 db w'' ∧ Below w'.heap.size w' w'') := hide (fun n w' hn hD => by
    have := one_of (line_one (unhide HOa) [43] fn1_plus (by decide) itself_one (v := a) rfl) db w' hD
    rw [← hn] at this
    rw [← hx, sum2]
    exact this)
  have K4 : Hid (∀ n w', n = magnitudeF a → Desk0 db w' → Calls Tryz.prog 17 #[.pointer (some ⟨db, 0, none⟩), .string (ByteArray.mk #[124, 32] ++ x), .int .i64 n] w' fun e w'' => e = .returned (.bool true) ∧ Desk0 db w'' ∧ Below w'.heap.size w' w'') := hide (fun n w' hn hD => by
    have := one_of (line_one (unhide HOa) [124] fn1_bar (by decide) magnitude_one (v := magnitudeF a) rfl) db w' hD
    rw [← hn] at this
    rw [← hx, sum2]
    exact this)
  have R1 : Hid (∀ n w', n = wrap64 (a + b) → Desk0 db w' → Calls Tryz.prog 19 #[.pointer (some ⟨db, 0, none⟩), .string (ByteArray.mk #[40, 114, 97, 118, 101, 108, 32] ++ x ++ ByteArray.mk #[41, 32, 43, 32] ++ y), .slice (some ⟨w'.heap.size, 0, none⟩) 1 1] (w'.alloc (.cells #[.int .i64 n] 2)) fun e w'' => e = .returned (.bool true) ∧ Desk0 db w'' ∧ Below w'.heap.size w' w'') := hide (fun n w' hn hD => by
    have := row_of (line_rowL (unhide HOa) (unhide HOb)) db w' hD
    rw [← hn] at this
    have e : (ByteArray.mk #[40, 114, 97, 118, 101, 108, 32] ++ x ++ ByteArray.mk #[41, 32, 43, 32] ++ y) = ⟨((40 :: (([114, 97, 118, 101, 108] ++ (32 :: ta)) ++ [41])) ++ ([32, 43, 32] ++ tb)).toArray⟩ := by
      rw [← hx, ← hy]
      apply ba_ext
      simp
    rw [e]
    exact this)
  have R2 : Hid (∀ n w', n = wrap64 (a - b) → Desk0 db w' → Calls Tryz.prog 19 #[.pointer (some ⟨db, 0, none⟩), .string (x ++ ByteArray.mk #[32, 45, 32, 114, 97, 118, 101, 108, 32] ++ y), .slice (some ⟨w'.heap.size, 0, none⟩) 1 1] (w'.alloc (.cells #[.int .i64 n] 2)) fun e w'' => e = .returned (.bool true) ∧ Desk0 db w'' ∧ Below w'.heap.size w' w'') := hide (fun n w' hn hD => by
    have := row_of (line_rowR (unhide HOa) (unhide HOb)) db w' hD
    rw [← hn] at this
    have e : (x ++ ByteArray.mk #[32, 45, 32, 114, 97, 118, 101, 108, 32] ++ y) = ⟨(ta ++ ([32, 45, 32] ++ ([114, 97, 118, 101, 108] ++ (32 :: tb)))).toArray⟩ := by
      rw [← hx, ← hy]
      apply ba_ext
      simp
    rw [e]
    exact this)
  have Z1 : Hid (∀ w', Desk0 db w' → Calls Tryz.prog 20 #[.pointer (some ⟨db, 0, none⟩), .string (x ++ ByteArray.mk #[32, 37, 32, 48]), .int .i64 7, .int .i64 ((x.size : Int) + 1)] w' fun e w'' => e = .returned (.bool true) ∧ Desk0 db w'' ∧ Below w'.heap.size w' w'') := hide (fun w' hD => by
    have := (fails_gen (Desk0 db) (desk0_lasts db) db _ 7 _ (line_fail (unhide HOa) db) w' hD).mono (fun e w'' h => (⟨h.1, hD.keep h.2, h.2⟩ : e = .returned (.bool true) ∧ Desk0 db w'' ∧ Below w'.heap.size w' w''))
    have e : (x ++ ByteArray.mk #[32, 37, 32, 48]) = ⟨(ta ++ ([32, 37, 32] ++ [48])).toArray⟩ := by
      rw [← hx]
      apply ba_ext
      simp
    rw [e, hxs]
    simpa using this)
  have Z2 : Hid (∀ w', Desk0 db w' → Calls Tryz.prog 17 #[.pointer (some ⟨db, 0, none⟩), .string (ByteArray.mk #[48, 32, 124, 32] ++ x), .int .i64 a] w' fun e w'' => e = .returned (.bool true) ∧ Desk0 db w'' ∧ Below w'.heap.size w' w'') := hide (fun w' hD => by
    have := one_of (line_two opd_zero (unhide HOa) 124 (by decide) (by simp [sgF, restF])) db w' hD
    have hv : (sgF 124 0 a).1 = a := by simp [sgF, restF]
    rw [hv] at this
    have e : (ByteArray.mk #[48, 32, 124, 32] ++ x) = ⟨([48] ++ ([32, 124, 32] ++ ta)).toArray⟩ := by
      rw [← hx]
      apply ba_ext
      simp
    rw [e]
    exact this)
  have Q1 : Hid (b ≠ 0 → ∀ w', Desk0 db w' → Calls Tryz.prog 17 #[.pointer (some ⟨db, 0, none⟩), .string (x ++ ByteArray.mk #[32, 37, 32] ++ y), .int .i64 (overF a b).1] w' fun e w'' => e = .returned (.bool true) ∧ Desk0 db w'' ∧ Below w'.heap.size w' w'') := hide (fun h0 w' hD => by
    have hz : (overF a b).2 = 0 := by unfold overF; rw [if_neg h0]; split <;> rfl
    have := one_of (line_two (unhide HOa) (unhide HOb) 37 (by decide) hz) db w' hD
    rw [← hx, ← hy, sum3]
    exact this)
  have Q2 : Hid (b ≠ 0 → ∀ w', Desk0 db w' → Calls Tryz.prog 17 #[.pointer (some ⟨db, 0, none⟩), .string (y ++ ByteArray.mk #[32, 124, 32] ++ x), .int .i64 (wrap64 (a - wrap64 (b * (overF a b).1)))] w' fun e w'' => e = .returned (.bool true) ∧ Desk0 db w'' ∧ Below w'.heap.size w' w'') := hide (fun h0 w' hD => by
    have hz : (restF b a).2 = 0 := by unfold restF; rw [if_neg h0]; unfold overF; rw [if_neg h0]; simp only []; split <;> rfl
    have hv : (restF b a).1 = wrap64 (a - wrap64 (b * (overF a b).1)) := by unfold restF; rw [if_neg h0]
    have := one_of (line_two (unhide HOb) (unhide HOa) 124 (by decide) hz) db w' hD
    have hv2 : (sgF 124 b a).1 = wrap64 (a - wrap64 (b * (overF a b).1)) := hv
    rw [hv2] at this
    rw [← hx, ← hy, sum3]
    exact this)
  simp only [hx, hy]
  rw [hdb]
  rw [hdb] at HD2 HB2
  have HDB := hide hdb
  clear hx hy hdb HOa HOb HL HM HB0 HB1 HD0 HD1 hla hlb hxs hys
  go_upto_if 29 with fail
  go_cut [9, 10] from 27 to 31 (fun l g wx => l = .int .i64 (min a b) ∧ g = .int .i64 (max a b) ∧ wx = w2)
  case first =>
    go_wp2_with fail
    all_goals go_meet
    all_goals (refine ⟨congrArg (Value.int .i64) ?_, congrArg (Value.int .i64) ?_, rfl⟩ <;> omega)
  case rest =>
    obtain ⟨rfl, rfl, rfl⟩ := hcut
    obtain ⟨lo, hlo⟩ : ∃ lo, min a b = lo := ⟨_, rfl⟩
    obtain ⟨hi, hhi⟩ : ∃ hi, max a b = hi := ⟨_, rfl⟩
    rw [hlo, hhi]
    have HLo := hide hlo
    have HHi := hide hhi
    clear hlo hhi
    have HDwc : Hid (Desk0 db wc) := HD2
    have HBwc : Hid (Below db w wc) := HB2
    clear HD2 HB2
    go_wp2_with fail
    refine (unhide H1 _ _ rfl (unhide HDwc)).mono ?_
    rintro e w3 ⟨rfl, hD, hbk⟩
    have HDw3 := hide hD
    have HBw3 : Hid (Below db w w3) := hide ((unhide HBwc).trans (hbk.mono (by have h1 := (unhide HBwc).size; have h2 := unhide HDB; omega)))
    clear hD hbk HDwc HBwc
    go_wp2_with fail
    refine (unhide H2 _ _ rfl (unhide HDw3)).mono ?_
    rintro e w4 ⟨rfl, hD, hbk⟩
    have HDw4 := hide hD
    have HBw4 : Hid (Below db w w4) := hide ((unhide HBw3).trans (hbk.mono (by have h1 := (unhide HBw3).size; have h2 := unhide HDB; omega)))
    clear hD hbk HDw3 HBw3
    go_wp2_with fail
    refine (unhide H3 _ _ rfl (unhide HDw4)).mono ?_
    rintro e w5 ⟨rfl, hD, hbk⟩
    have HDw5 := hide hD
    have HBw5 : Hid (Below db w w5) := hide ((unhide HBw4).trans (hbk.mono (by have h1 := (unhide HBw4).size; have h2 := unhide HDB; omega)))
    clear hD hbk HDw4 HBw4
    go_wp2_with fail
    refine (unhide H4 _ _ (unhide HLo).symm (unhide HDw5)).mono ?_
    rintro e w6 ⟨rfl, hD, hbk⟩
    have HDw6 := hide hD
    have HBw6 : Hid (Below db w w6) := hide ((unhide HBw5).trans (hbk.mono (by have h1 := (unhide HBw5).size; have h2 := unhide HDB; omega)))
    clear hD hbk HDw5 HBw5
    go_wp2_with fail
    refine (unhide H5 _ _ (unhide HHi).symm (unhide HDw6)).mono ?_
    rintro e w7 ⟨rfl, hD, hbk⟩
    have HDw7 := hide hD
    have HBw7 : Hid (Below db w w7) := hide ((unhide HBw6).trans (hbk.mono (by have h1 := (unhide HBw6).size; have h2 := unhide HDB; omega)))
    clear hD hbk HDw6 HBw6
    go_wp2_with fail
    refine (bit_named _ _).mono ?_
    rintro e w' ⟨r1, hr, rfl, rfl⟩
    have HR1 := hide hr
    clear hr
    go_wp2_with fail
    refine (unhide H6 _ _ (by rw [unhide HR1]; simp [sgF, sameF]) (unhide HDw7)).mono ?_
    rintro e w8 ⟨rfl, hD, hbk⟩
    have HDw8 := hide hD
    have HBw8 : Hid (Below db w w8) := hide ((unhide HBw7).trans (hbk.mono (by have h1 := (unhide HBw7).size; have h2 := unhide HDB; omega)))
    clear hD hbk HDw7 HBw7
    go_wp2_with fail
    refine (bit_named _ _).mono ?_
    rintro e w' ⟨r2, hr, rfl, rfl⟩
    have HR2 := hide hr
    clear hr
    go_wp2_with fail
    refine (unhide H7 _ _ (by rw [unhide HR2]; simp [sgF, belowF]) (unhide HDw8)).mono ?_
    rintro e w9 ⟨rfl, hD, hbk⟩
    have HDw9 := hide hD
    have HBw9 : Hid (Below db w w9) := hide ((unhide HBw8).trans (hbk.mono (by have h1 := (unhide HBw8).size; have h2 := unhide HDB; omega)))
    clear hD hbk HDw8 HBw8
    go_wp2_with fail
    refine (unhide K1 _ _ rfl (unhide HDw9)).mono ?_
    rintro e w10 ⟨rfl, hD, hbk⟩
    have HDw10 := hide hD
    have HBw10 : Hid (Below db w w10) := hide ((unhide HBw9).trans (hbk.mono (by have h1 := (unhide HBw9).size; have h2 := unhide HDB; omega)))
    clear hD hbk HDw9 HBw9
    go_wp2_with fail
    refine (bit_named _ _).mono ?_
    rintro e w' ⟨r3, hr, rfl, rfl⟩
    have HR3 := hide hr
    clear hr
    go_wp2_with fail
    refine (bit_named _ _).mono ?_
    rintro e w' ⟨r4, hr, rfl, rfl⟩
    have HR4 := hide hr
    clear hr
    go_wp2_with fail
    refine (unhide K2 _ _ (dir_of (unhide HR3) (unhide HR4)) (unhide HDw10)).mono ?_
    rintro e w11 ⟨rfl, hD, hbk⟩
    have HDw11 := hide hD
    have HBw11 : Hid (Below db w w11) := hide ((unhide HBw10).trans (hbk.mono (by have h1 := (unhide HBw10).size; have h2 := unhide HDB; omega)))
    clear hD hbk HDw10 HBw10
    go_wp2_with fail
    refine (unhide K3 _ _ rfl (unhide HDw11)).mono ?_
    rintro e w12 ⟨rfl, hD, hbk⟩
    have HDw12 := hide hD
    have HBw12 : Hid (Below db w w12) := hide ((unhide HBw11).trans (hbk.mono (by have h1 := (unhide HBw11).size; have h2 := unhide HDB; omega)))
    clear hD hbk HDw11 HBw11
    go_wp2_with fail
    refine (bit_named _ _).mono ?_
    rintro e w' ⟨r5, hr, rfl, rfl⟩
    have HR5 := hide hr
    clear hr
    go_wp2_with fail
    refine (bit_named _ _).mono ?_
    rintro e w' ⟨r6, hr, rfl, rfl⟩
    have HR6 := hide hr
    clear hr
    go_wp2_with fail
    refine (unhide K4 _ _ (by rw [dir_of (unhide HR5) (unhide HR6)]; exact mag_of (unhide HFa)) (unhide HDw12)).mono ?_
    rintro e w13 ⟨rfl, hD, hbk⟩
    have HDw13 := hide hD
    have HBw13 : Hid (Below db w w13) := hide ((unhide HBw12).trans (hbk.mono (by have h1 := (unhide HBw12).size; have h2 := unhide HDB; omega)))
    clear hD hbk HDw12 HBw12
    go_wp2_with fail
    refine (unhide R1 _ _ rfl (unhide HDw13)).mono ?_
    rintro e w14 ⟨rfl, hD, hbk⟩
    have HDw14 := hide hD
    have HBw14 : Hid (Below db w w14) := hide ((unhide HBw13).trans (hbk.mono (by have h1 := (unhide HBw13).size; have h2 := unhide HDB; omega)))
    clear hD hbk HDw13 HBw13
    go_wp2_with fail
    refine (unhide R2 _ _ rfl (unhide HDw14)).mono ?_
    rintro e w15 ⟨rfl, hD, hbk⟩
    have HDw15 := hide hD
    have HBw15 : Hid (Below db w w15) := hide ((unhide HBw14).trans (hbk.mono (by have h1 := (unhide HBw14).size; have h2 := unhide HDB; omega)))
    clear hD hbk HDw14 HBw14
    by_cases hb0 : b = 0
    · have hb0' : (b == 0) = true := by simpa using hb0
      go_wp2_with fail
      refine (unhide Z1 _ (unhide HDw15)).mono ?_
      rintro e w16 ⟨rfl, hD, hbk⟩
      have HDw16 := hide hD
      have HBw16 : Hid (Below db w w16) := hide ((unhide HBw15).trans (hbk.mono (by have h1 := (unhide HBw15).size; have h2 := unhide HDB; omega)))
      clear hD hbk HDw15 HBw15
      go_wp2_with fail
      refine (unhide Z2 _ (unhide HDw16)).mono ?_
      rintro e w17 ⟨rfl, hD, hbk⟩
      have HDw17 := hide hD
      have HBw17 : Hid (Below db w w17) := hide ((unhide HBw16).trans (hbk.mono (by have h1 := (unhide HBw16).size; have h2 := unhide HDB; omega)))
      clear hD hbk HDw16 HBw16
      go_wp2_with fail
      exact bodyPost_ret (v := .bool true) (by simp [results, Tryz.results4, go_sem]) rfl ⟨rfl, by rw [unhide HDB]; exact unhide HBw17⟩
    · have hb0' : (b == 0) = false := by simpa using hb0
      have HN0 := hide hb0
      go_wp2_with fail
      refine (floor_any a b (unhide HN0) _).mono ?_
      rintro e w' ⟨rfl, rfl⟩
      obtain ⟨q, hq⟩ : ∃ q, (overF a b).1 = q := ⟨_, rfl⟩
      rw [hq] at Q1 Q2 ⊢
      clear hq
      go_wp2_with fail
      refine (unhide Q1 (unhide HN0) _ (unhide HDw15)).mono ?_
      rintro e w16 ⟨rfl, hD, hbk⟩
      have HDw16 := hide hD
      have HBw16 : Hid (Below db w w16) := hide ((unhide HBw15).trans (hbk.mono (by have h1 := (unhide HBw15).size; have h2 := unhide HDB; omega)))
      clear hD hbk HDw15 HBw15
      go_wp2_with fail
      refine (unhide Q2 (unhide HN0) _ (unhide HDw16)).mono ?_
      rintro e w17 ⟨rfl, hD, hbk⟩
      have HDw17 := hide hD
      have HBw17 : Hid (Below db w w17) := hide ((unhide HBw16).trans (hbk.mono (by have h1 := (unhide HBw16).size; have h2 := unhide HDB; omega)))
      clear hD hbk HDw16 HBw16
      go_wp2_with fail
      exact bodyPost_ret (v := .bool true) (by simp [results, Tryz.results4, go_sem]) rfl ⟨rfl, by rw [unhide HDB]; exact unhide HBw17⟩
end Go.Proofs.YtjobgpahajhbnaaGreatDoor
