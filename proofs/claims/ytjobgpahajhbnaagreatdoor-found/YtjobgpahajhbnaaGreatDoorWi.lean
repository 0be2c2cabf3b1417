import Derived.Test.YtjobgpahajhbnaaGreatDoorWh
import Derived.Test.YtjobgpahajhbnaaGreatDoorSa
namespace Go.Proofs.YtjobgpahajhbnaaGreatDoor
open Go.RowKit

theorem sgnE_yes (s : ByteArray) (h : 1 < s.size) (ht : tailU s[1] = true) : sgnE (s.data.toList.drop 1) = 2 := by
  rw [drop_cons s 1 h]; simp only [sgnE, ht, if_true]
theorem sgnE_not (s : ByteArray) (h : 1 < s.size) (ht : tailU s[1] = false) : sgnE (s.data.toList.drop 1) = 1 := by
  rw [drop_cons s 1 h]; simp only [sgnE, ht]; rfl
theorem sgnE_short (s : ByteArray) (h : ¬ 1 < s.size) : sgnE (s.data.toList.drop 1) = 1 := by
  rw [List.drop_eq_nil_of_le (by simp; omega)]; rfl
theorem ext_size (s : ByteArray) (n : Nat) (h : n ≤ s.size) : (s.extract 0 n).size = n := by
  rw [ByteArray.size_extract]; omega


def tokV (k r : Int) (t : ByteArray) (p : Int) : Value := .agg #[.int .i64 k, .int .i64 r, .int .i64 0, .string t, .int .i64 p]

set_option maxHeartbeats 400000 in
theorem cutSign_any (s : ByteArray) (w : World) (h0 : 0 < s.size) (hs : s.size ≤ 200) (n : Nat) (hn : n = sgnE (s.data.toList.drop 1)) :
    Calls Tryz.prog 148 #[.string s] w fun e w' => e = .returned (tokV 3 (sRole (s.extract 0 n)) (s.extract 0 n) 0) ∧ Below w.heap.size w w' := by
  by_cases h1 : 1 < s.size
  · cases ht : tailU s[1]
    · rw [sgnE_not s h1 ht] at hn
      subst hn
      have hz := ext_size s 1 (by omega)
      have HZ := hide hz
      clear hz
      have HT := hide ht
      clear ht
      go_enter Tryz.func148, Tryz.ntmps148
      go_wp2_with fail
      refine (ixTail_no _ _ (unhide HT)).mono ?_
      rintro e w' ⟨rfl, rfl⟩
      go_wp2_with fail
      refine (signRoles_any _ _ (by rw [unhide HZ]; omega) (by rw [unhide HZ]; omega)).mono ?_
      rintro e w' ⟨rfl, rfl⟩
      go_wp2_with fail
      refine bodyPost_ret (v := .agg #[.int .i64 3, .int .i64 (sRole (s.extract 0 1)), .int .i64 0, .string (s.extract 0 1), .int .i64 0]) (by simp [results, Tryz.results148, go_sem]) rfl ⟨rfl, ?_⟩
      exact (Below.refl _ _).alloc (Nat.le_refl _) _
    · rw [sgnE_yes s h1 ht] at hn
      subst hn
      have hz := ext_size s 2 (by omega)
      have HZ := hide hz
      clear hz
      have HT := hide ht
      clear ht
      go_enter Tryz.func148, Tryz.ntmps148
      go_wp2_with fail
      refine (ixTail_yes _ _ (unhide HT)).mono ?_
      rintro e w' ⟨v, hv, rfl, rfl⟩
      go_wp2_with fail
      refine (signRoles_any _ _ (by rw [unhide HZ]; omega) (by rw [unhide HZ]; omega)).mono ?_
      rintro e w' ⟨rfl, rfl⟩
      go_wp2_with fail
      refine bodyPost_ret (v := .agg #[.int .i64 3, .int .i64 (sRole (s.extract 0 2)), .int .i64 0, .string (s.extract 0 2), .int .i64 0]) (by simp [results, Tryz.results148, go_sem]) rfl ⟨rfl, ?_⟩
      exact (Below.refl _ _).alloc (Nat.le_refl _) _
  · rw [sgnE_short s h1] at hn
    subst hn
    have hz := ext_size s 1 (by omega)
    have HZ := hide hz
    clear hz
    go_enter Tryz.func148, Tryz.ntmps148
    go_wp2_with fail
    refine (signRoles_any _ _ (by rw [unhide HZ]; omega) (by rw [unhide HZ]; omega)).mono ?_
    rintro e w' ⟨rfl, rfl⟩
    go_wp2_with fail
    refine bodyPost_ret (v := .agg #[.int .i64 3, .int .i64 (sRole (s.extract 0 1)), .int .i64 0, .string (s.extract 0 1), .int .i64 0]) (by simp [results, Tryz.results148, go_sem]) rfl ⟨rfl, ?_⟩
    exact (Below.refl _ _).alloc (Nat.le_refl _) _

/-- the length of the word with which a text begins -/
def wlen (s : ByteArray) : Nat := (s.data.toList.takeWhile lU).length
theorem wlen_le (s : ByteArray) : wlen s ≤ s.size := by
  unfold wlen
  have h := (List.takeWhile_sublist (l := s.data.toList) lU).length_le
  simpa using h
def wKind (t : ByteArray) : Int := bif wRole t != 0 then 3 else bif t.toList == [105, 115] then 2 else 1
def wOk (t : ByteArray) : Bool := wRole t != 0 || t.toList == [105, 115] || decide ((t.size : Int) ≤ 4)

set_option maxHeartbeats 400000 in
theorem cutWord_any (s : ByteArray) (w : World) (hs : s.size ≤ 200) (n : Nat) (hn : n = wlen s) :
    Calls Tryz.prog 146 #[.string s] w fun e w' => e = .returned (.tuple #[tokV (wKind (s.extract 0 n)) (wRole (s.extract 0 n)) (s.extract 0 n) 0, .bool (wOk (s.extract 0 n))]) ∧ Below w.heap.size w w' := by
  have hle := wlen_le s
  have HW : Hid (((s.data.toList.takeWhile lU).length : Int) = (n : Int)) := by rw [hn]; rfl
  have hnl : n ≤ s.size := by omega
  clear hn hle
  obtain ⟨t, hx⟩ : ∃ t, s.extract 0 n = t := ⟨_, rfl⟩
  have HX := hide hx
  have hts : t.size ≤ 200 := by rw [← hx, ext_size s n hnl]; omega
  rw [hx]
  clear hx
  cases hr : (wRole t != 0)
  · have HR := hide (show wRole t = 0 by simpa using hr)
    clear hr
    cases hi : (t.toList == [105, 115])
    · have HI := hide hi
      go_enter Tryz.func146, Tryz.ntmps146
      go_wp2_with fail
      refine (countLet _ _ hs).mono ?_
      rintro e w' ⟨rfl, rfl⟩
      rw [unhide HW]
      go_wp2_with fail
      rw [unhide HX]
      refine (wordRoles_any _ _).mono ?_
      rintro e w' ⟨rfl, rfl⟩
      rw [unhide HR]
      go_wp2_with fail
      refine bodyPost_ret (v := .tuple #[.agg #[.int .i64 1, .int .i64 0, .int .i64 0, .string t, .int .i64 0], .bool (decide ((t.size : Int) ≤ 4))]) (by simp [results, Tryz.results146, go_sem]) rfl ⟨?_, ?_⟩
      · simp [tokV, wKind, wOk, unhide HR, unhide HI]
      · exact (Below.refl _ _).alloc (Nat.le_refl _) _
    · have HI := hide hi
      go_enter Tryz.func146, Tryz.ntmps146
      go_wp2_with fail
      refine (countLet _ _ hs).mono ?_
      rintro e w' ⟨rfl, rfl⟩
      rw [unhide HW]
      go_wp2_with fail
      rw [unhide HX]
      refine (wordRoles_any _ _).mono ?_
      rintro e w' ⟨rfl, rfl⟩
      rw [unhide HR]
      go_wp2_with fail
      refine bodyPost_ret (v := .tuple #[.agg #[.int .i64 2, .int .i64 0, .int .i64 0, .string t, .int .i64 0], .bool true]) (by simp [results, Tryz.results146, go_sem]) rfl ⟨?_, ?_⟩
      · simp [tokV, wKind, wOk, unhide HR, unhide HI]
      · exact (Below.refl _ _).alloc (Nat.le_refl _) _
  · have HR := hide hr
    go_enter Tryz.func146, Tryz.ntmps146
    go_wp2_with fail
    refine (countLet _ _ hs).mono ?_
    rintro e w' ⟨rfl, rfl⟩
    rw [unhide HW]
    go_wp2_with fail
    rw [unhide HX]
    refine (wordRoles_any _ _).mono ?_
    rintro e w' ⟨rfl, rfl⟩
    go_wp2_with fail
    refine bodyPost_ret (v := .tuple #[.agg #[.int .i64 3, .int .i64 (wRole t), .int .i64 0, .string t, .int .i64 0], .bool true]) (by simp [results, Tryz.results146, go_sem]) rfl ⟨?_, ?_⟩
    · simp [tokV, wKind, wOk, unhide HR]
    · exact (Below.refl _ _).alloc (Nat.le_refl _) _
end Go.Proofs.YtjobgpahajhbnaaGreatDoor
