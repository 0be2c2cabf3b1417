import Derived.Test.YtjobgpahajhbnabGreatDoorWa
import Derived.Deep.QuietTactic
import Derived.BigQuiet
import Derived.Deep.RegionWith
namespace Go.Proofs.YtjobgpahajhbnabGreatDoor
open Go.RowKit
theorem Ji5 (s : ByteArray) (h : 1 < s.size) (ht : Vu s[1] = true) : sgnE (s.data.toList.drop 1) = 2 := by
  rw [Kx s 1 h]; simp only [sgnE, ht, if_true]
theorem Ji6 (s : ByteArray) (h : 1 < s.size) (ht : Vu s[1] = false) : sgnE (s.data.toList.drop 1) = 1 := by
  rw [Kx s 1 h]; simp only [sgnE, ht]; rfl
theorem Jds (s : ByteArray) (h : ¬ 1 < s.size) : sgnE (s.data.toList.drop 1) = 1 := by
  rw [List.drop_eq_nil_of_le (by simp; omega)]; rfl
theorem Q1 (s : ByteArray) (n : Nat) (h : n ≤ s.size) : (s.extract 0 n).size = n := by
  rw [ByteArray.size_extract]; omega
def tokV (k r : Int) (t : ByteArray) (p : Int) : Value := .agg #[.int .i64 k, .int .i64 r, .int .i64 0, .string t, .int .i64 p]
set_option maxHeartbeats 400000 in
theorem Jb0 (s : ByteArray) (w : World) (h0 : 0 < s.size) (hs : s.size ≤ 200) (n : Nat) (hn : n = sgnE (s.data.toList.drop 1)) :
    Calls Tryz.prog 68 #[.string s] w fun e w' => e = .returned (tokV 3 (Gi (s.extract 0 n)) (s.extract 0 n) 0) ∧ Below w.heap.size w w' := by
  by_cases h1 : 1 < s.size
  · cases ht : Vu s[1]
    · rw [Ji6 s h1 ht] at hn
      subst hn
      have hz := Q1 s 1 (by omega)
      have HZ := hide hz
      clear hz
      have HT := hide ht
      clear ht
      go_enter Tryz.func68, Tryz.ntmps68
      go_wp2_with fail
      refine (Jhk _ _ (Ja HT)).mono ?_
      rintro e w' ⟨rfl, rfl⟩
      go_wp2_with fail
      refine (Kh _ _ (by rw [Ja HZ]; omega) (by rw [Ja HZ]; omega)).mono ?_
      rintro e w' ⟨rfl, rfl⟩
      go_wp2_with fail
      refine bodyPost_ret (v := .agg #[.int .i64 3, .int .i64 (Gi (s.extract 0 1)), .int .i64 0, .string (s.extract 0 1), .int .i64 0]) (by simp [results, Tryz.results68, go_sem]) rfl ⟨rfl, ?_⟩
      exact (Below.refl _ _).alloc (Nat.le_refl _) _
    · rw [Ji5 s h1 ht] at hn
      subst hn
      have hz := Q1 s 2 (by omega)
      have HZ := hide hz
      clear hz
      have HT := hide ht
      clear ht
      go_enter Tryz.func68, Tryz.ntmps68
      go_wp2_with fail
      refine (Jeg _ _ (Ja HT)).mono ?_
      rintro e w' ⟨v, hv, rfl, rfl⟩
      go_wp2_with fail
      refine (Kh _ _ (by rw [Ja HZ]; omega) (by rw [Ja HZ]; omega)).mono ?_
      rintro e w' ⟨rfl, rfl⟩
      go_wp2_with fail
      refine bodyPost_ret (v := .agg #[.int .i64 3, .int .i64 (Gi (s.extract 0 2)), .int .i64 0, .string (s.extract 0 2), .int .i64 0]) (by simp [results, Tryz.results68, go_sem]) rfl ⟨rfl, ?_⟩
      exact (Below.refl _ _).alloc (Nat.le_refl _) _
  · rw [Jds s h1] at hn
    subst hn
    have hz := Q1 s 1 (by omega)
    have HZ := hide hz
    clear hz
    go_enter Tryz.func68, Tryz.ntmps68
    go_wp2_with fail
    refine (Kh _ _ (by rw [Ja HZ]; omega) (by rw [Ja HZ]; omega)).mono ?_
    rintro e w' ⟨rfl, rfl⟩
    go_wp2_with fail
    refine bodyPost_ret (v := .agg #[.int .i64 3, .int .i64 (Gi (s.extract 0 1)), .int .i64 0, .string (s.extract 0 1), .int .i64 0]) (by simp [results, Tryz.results68, go_sem]) rfl ⟨rfl, ?_⟩
    exact (Below.refl _ _).alloc (Nat.le_refl _) _
def wlen (s : ByteArray) : Nat := (s.data.toList.takeWhile lU).length
theorem Jex (s : ByteArray) : wlen s ≤ s.size := by
  unfold wlen
  have h := (List.takeWhile_sublist (l := s.data.toList) lU).length_le
  simpa using h
def Fc (t : ByteArray) : Int := bif Yk t != 0 then 3 else bif t.toList == [105, 115] then 2 else 1
def wOk (t : ByteArray) : Bool := Yk t != 0 || t.toList == [105, 115] || decide ((t.size : Int) ≤ 4)
set_option maxHeartbeats 400000 in
theorem Jbz (s : ByteArray) (w : World) (hs : s.size ≤ 200) (n : Nat) (hn : n = wlen s) :
    Calls Tryz.prog 66 #[.string s] w fun e w' => e = .returned (.tuple #[tokV (Fc (s.extract 0 n)) (Yk (s.extract 0 n)) (s.extract 0 n) 0, .bool (wOk (s.extract 0 n))]) ∧ Below w.heap.size w w' := by
  have hle := Jex s
  have HW : Hid (((s.data.toList.takeWhile lU).length : Int) = (n : Int)) := by rw [hn]; rfl
  have hnl : n ≤ s.size := by omega
  clear hn hle
  obtain ⟨t, hx⟩ : ∃ t, s.extract 0 n = t := ⟨_, rfl⟩
  have HX := hide hx
  have hts : t.size ≤ 200 := by rw [← hx, Q1 s n hnl]; omega
  rw [hx]
  clear hx
  cases hr : (Yk t != 0)
  · have HR := hide (show Yk t = 0 by simpa using hr)
    clear hr
    cases hi : (t.toList == [105, 115])
    · have HI := hide hi
      go_enter Tryz.func66, Tryz.ntmps66
      go_wp2_with fail
      refine (F5 _ _ hs).mono ?_
      rintro e w' ⟨rfl, rfl⟩
      rw [Ja HW]
      go_wp2_with fail
      rw [Ja HX]
      refine (Kg _ _).mono ?_
      rintro e w' ⟨rfl, rfl⟩
      rw [Ja HR]
      go_wp2_with fail
      refine bodyPost_ret (v := .tuple #[.agg #[.int .i64 1, .int .i64 0, .int .i64 0, .string t, .int .i64 0], .bool (decide ((t.size : Int) ≤ 4))]) (by simp [results, Tryz.results66, go_sem]) rfl ⟨?_, ?_⟩
      · simp [tokV, Fc, wOk, Ja HR, Ja HI]
      · exact (Below.refl _ _).alloc (Nat.le_refl _) _
    · have HI := hide hi
      go_enter Tryz.func66, Tryz.ntmps66
      go_wp2_with fail
      refine (F5 _ _ hs).mono ?_
      rintro e w' ⟨rfl, rfl⟩
      rw [Ja HW]
      go_wp2_with fail
      rw [Ja HX]
      refine (Kg _ _).mono ?_
      rintro e w' ⟨rfl, rfl⟩
      rw [Ja HR]
      go_wp2_with fail
      refine bodyPost_ret (v := .tuple #[.agg #[.int .i64 2, .int .i64 0, .int .i64 0, .string t, .int .i64 0], .bool true]) (by simp [results, Tryz.results66, go_sem]) rfl ⟨?_, ?_⟩
      · simp [tokV, Fc, wOk, Ja HR, Ja HI]
      · exact (Below.refl _ _).alloc (Nat.le_refl _) _
  · have HR := hide hr
    go_enter Tryz.func66, Tryz.ntmps66
    go_wp2_with fail
    refine (F5 _ _ hs).mono ?_
    rintro e w' ⟨rfl, rfl⟩
    rw [Ja HW]
    go_wp2_with fail
    rw [Ja HX]
    refine (Kg _ _).mono ?_
    rintro e w' ⟨rfl, rfl⟩
    go_wp2_with fail
    refine bodyPost_ret (v := .tuple #[.agg #[.int .i64 3, .int .i64 (Yk t), .int .i64 0, .string t, .int .i64 0], .bool true]) (by simp [results, Tryz.results66, go_sem]) rfl ⟨?_, ?_⟩
    · simp [tokV, Fc, wOk, Ja HR]
    · exact (Below.refl _ _).alloc (Nat.le_refl _) _
end Go.Proofs.YtjobgpahajhbnabGreatDoor
namespace Go.Proofs.YtjobgpahajhbnabGreatDoor
open Go.RowKit
def valF (a : Nat) (l : List UInt8) : Nat := l.foldl (fun n c => 10 * n + (c.toNat - 48)) a
theorem Nt (M : Nat) (hM : 10000000000000000000 ≤ M) : ∀ (l : List UInt8) (a : Nat), l.all dU = true → (a + 1) * 10 ^ l.length ≤ 10000000000000000000 → Lib.parseUintM M a l = .ok (valF a l)
  | [], a, _, _ => rfl
  | c :: r, a, ha, hb => by
    simp only [List.all_cons, Bool.and_eq_true] at ha
    have hc : dU c = true := ha.1
    simp [dU, digB] at hc
    have hp : 1 ≤ 10 ^ r.length := Nat.pow_pos (by decide)
    rw [List.length_cons, Nat.pow_succ] at hb
    have hb2 : (a + 1) * 10 * 10 ^ r.length ≤ 10000000000000000000 := by
      rw [Nat.mul_assoc, Nat.mul_comm 10]; exact hb
    have hb3 : (a + 1) * 10 ≤ 10000000000000000000 := Nat.le_trans (by simpa using Nat.mul_le_mul_left ((a + 1) * 10) hp) hb2
    have ih := Nt M hM r (a * 10 + (c.toNat - 48)) ha.2 (Nat.le_trans (Nat.mul_le_mul_right _ (by omega)) hb2)
    unfold Lib.parseUintM
    rw [if_pos (by omega), if_neg (by omega), if_neg (by omega), ih]
    show _ = Lib.NumEnd.ok (valF (10 * a + (c.toNat - 48)) r)
    rw [Nat.mul_comm]
theorem Xp (l : List UInt8) (h0 : l ≠ []) (hl : l.length ≤ 19) (ha : l.all dU = true) : Lib.parseIntB 64 l = if 9223372036854775807 < val l then .range else .ok (val l : Int) := by
  match l, h0 with
  | c :: r, _ =>
    have hu : Lib.parseUintB 64 (c :: r) = .ok (val (c :: r)) := by
      unfold Lib.parseUintB
      rw [if_neg (by simp)]
      exact Nt _ (by decide) _ _ ha (by
        have : 10 ^ (c :: r).length ≤ 10 ^ 19 := Nat.pow_le_pow_right (by decide) hl
        simpa using this)
    simp only [List.all_cons, Bool.and_eq_true] at ha
    have hc : dU c = true := ha.1
    simp [dU, digB] at hc
    unfold Lib.parseIntB
    have h1 : ¬ (c.toNat = 43 ∨ c.toNat = 45) := by omega
    have h2 : ¬ (c.toNat = 45) := by omega
    have e : (if c.toNat = 43 ∨ c.toNat = 45 then r else c :: r) = c :: r := if_neg h1
    simp only [e, hu]
    by_cases hv : 9223372036854775807 < val (c :: r)
    · rw [if_pos hv, if_pos ⟨h2, by have : 2 ^ (64 - 1) = 9223372036854775808 := rfl; omega⟩]
    · rw [if_neg hv, if_neg (fun h => hv (by have : 2 ^ (64 - 1) = 9223372036854775808 := rfl; omega)), if_neg (fun h => h2 h.1), if_neg h2]
def ErrV (w : World) (b : Nat) : Prop := ∃ ev, w.cell? ⟨b, 0, none⟩ = some ev ∧ (ev = .nilIface ∨ ∃ te pe, ev = .iface te pe)
def Evs (w : World) : Prop := 6 ≤ w.heap.size ∧ ErrV w 4 ∧ ErrV w 5
theorem Evs.below {B : Nat} {w w' : World} (h : Evs w) (hb : Below B w w') (hB : 6 ≤ B) : Evs w' := by
  obtain ⟨h0, ⟨e1, c1, d1⟩, ⟨e2, c2, d2⟩⟩ := h
  exact ⟨Nat.le_trans h0 hb.size, ⟨e1, (hb.cell (p := ⟨4, 0, none⟩) (show 4 < B by omega)).trans c1, d1⟩, ⟨e2, (hb.cell (p := ⟨5, 0, none⟩) (show 5 < B by omega)).trans c2, d2⟩⟩
theorem Evs.alloc {w : World} (h : Evs w) (o : Obj) : Evs (w.alloc o) :=
  h.below ((Below.refl w.heap.size w).alloc (Nat.le_refl _) o) h.1
theorem Jcb (w : World) (e : TypeId) (s : ByteArray) : Below w.heap.size w (Lib.bytesWorld w e s) := by
  have h1 : Below w.heap.size w (w.drew.alloc (.cells (Lib.bytesCells w e s) e)) := ((Below.refl w.heap.size w).drew).alloc (Nat.le_refl _) _
  refine h1.trans ?_
  unfold Lib.bytesWorld
  refine ⟨rfl, rfl, rfl, ?_, ?_⟩
  · simp [World.freeze]
  · intro k hk
    unfold World.freeze
    rw [if_neg (by decide)]
    dsimp only
    rw [Array.getElem?_modify, if_neg (by omega)]
theorem Xq (s : ByteArray) (w : World) (hs : s.size ≤ 200) (v : Int) (h : Lib.parseIntB 64 s.data.toList = .ok v) :
    Calls Tryz.prog 91 #[.string s, .int .i64 10, .int .i64 64] w fun e w' => e = .returned (.tuple #[.int .i64 v, .nilIface]) ∧ Below w.heap.size w w' := by
  refine (Tryz.strconv_ParseInt_10_at64_ok s (by omega) v h w).mono ?_
  rintro e w' ⟨he, hw⟩
  refine ⟨he, ?_⟩
  rcases hw with rfl | ⟨t, rfl⟩
  · exact Below.refl _ _
  · exact Jcb _ _ _
theorem Vr (s : ByteArray) (w : World) (hs : s.size ≤ 19) (hv : Evs w) (h : s.size = 0 ∨ (s.data.toList.all dU = true ∧ 9223372036854775807 < val s.data.toList)) :
    Calls Tryz.prog 91 #[.string s, .int .i64 10, .int .i64 64] w fun e w' => ∃ v N, e = .returned (.tuple #[.int .i64 v, .iface 219 (.pointer (some ⟨N, 0, none⟩))]) ∧ Below w.heap.size w w' := by
  obtain ⟨_, ⟨e1, c1, d1⟩, ⟨e2, c2, d2⟩⟩ := hv
  by_cases h0 : s.size = 0
  · exact Tryz.strconv_ParseInt_10_at64_none s h0 e1 w c1 d1
  · rcases h with h | ⟨ha, hb⟩
    · exact absurd h h0
    · refine Tryz.strconv_ParseInt_10_at64_range s (by omega) ?_ e2 w c2 d2
      rw [Xp _ (fun e => h0 (by rw [← ByteArray.size_data, ← Array.length_toList, e]; rfl)) (by simpa using hs) ha, if_pos hb]
end Go.Proofs.YtjobgpahajhbnabGreatDoor
namespace Go.Proofs.YtjobgpahajhbnabGreatDoor
open Go.RowKit
theorem F0 (s : ByteArray) : (s.extract 1 s.size).data.toList = s.data.toList.drop 1 := by
  rw [Jv, List.take_of_length_le (by rw [K9]; omega)]
theorem Yz {w w1 : World} {o : Obj} (hb : Below (w.alloc o).heap.size (w.alloc o) w1) (v0 v1 v2 v3 v4 : Value) :
    Below w.heap.size w (((((w1.setCell ⟨w.heap.size, 0, none⟩ v0).setCell ⟨w.heap.size, 1, none⟩ v1).setCell ⟨w.heap.size, 2, none⟩ v2).setCell ⟨w.heap.size, 3, none⟩ v3).setCell ⟨w.heap.size, 4, none⟩ v4) := by
  have h1 : Below w.heap.size w w1 := ((Below.refl w.heap.size w).alloc (Nat.le_refl _) o).trans (hb.mono (by simp))
  exact ((((h1.setCell (Nat.le_refl _) _).setCell (Nat.le_refl _) _).setCell (Nat.le_refl _) _).setCell (Nat.le_refl _) _).setCell (Nat.le_refl _) _
theorem Ku (p : UInt8 → Bool) (l : List UInt8) : l.take (l.takeWhile p).length = l.takeWhile p := by
  exact (List.prefix_iff_eq_take.1 (List.takeWhile_prefix p)).symm
theorem Gb (p : UInt8 → Bool) : ∀ l : List UInt8, (l.takeWhile p).all p = true
  | [] => rfl
  | c :: r => by
    by_cases h : p c = true
    · simp only [List.takeWhile, h, List.all_cons, Gb p r, Bool.and_self]
    · simp [List.takeWhile, h]
set_option maxHeartbeats 1000000 in
theorem Jb1 (s : ByteArray) (w : World) (d : Nat) (h0 : 0 < s.size) (h5 : ((s[0].toNat : Int) == 95) = false) (hs : s.size ≤ 200) (hdl : ((s.data.toList).takeWhile dU).length = d) (hdb : 0 + d ≤ s.size) (h19 : 19 < d) :
    Calls Tryz.prog 64 #[.string s] w fun e w' => e = .returned (.tuple #[tokV 0 0 ⟨#[]⟩ 0, .bool false]) ∧ Below w.heap.size w w' := by
  have HC : Hid (((s.data.toList.takeWhile dU).length : Int) = (d : Int)) := by rw [← hdl]; rfl
  have hall : (s.extract 0 d).data.toList.all dU = true := by
    rw [Jv, ← hdl]
    simp only [List.drop_zero, Nat.sub_zero, Ku]
    exact Gb _ _
  clear hdl
  obtain ⟨t, ht⟩ : ∃ t, s.extract 0 d = t := ⟨_, rfl⟩
  rw [ht] at hall
  have HL := hide hall
  clear hall
  have hz : t.size = d := by rw [← ht, ByteArray.size_extract]; omega
  have HX := hide ht
  have HZ := hide hz
  clear ht
  have hzi : (t.size : Int) = (d : Int) := by omega
  clear hz
  go_enter Tryz.func64, Tryz.ntmps64
  go_wp2_with fail
  refine (Qd _ _ (by first | omega | (rw [ByteArray.size_extract]; omega))).mono ?_
  rintro e w' ⟨rfl, rfl⟩
  rw [Ja HC]
  go_wp2_with fail
  refine bodyPost_ret (v := .tuple #[.agg #[.int .i64 0, .int .i64 0, .int .i64 0, .string ⟨#[]⟩, .int .i64 0], .bool false]) (by simp [results, Tryz.results64, go_sem]) rfl ⟨rfl, ?_⟩
  exact (Below.refl _ _).alloc (Nat.le_refl _) _
set_option maxHeartbeats 1000000 in
theorem Jen (s : ByteArray) (w : World) (d : Nat) (h0 : 0 < s.size) (h5 : ((s[0].toNat : Int) == 95) = false) (hs : s.size ≤ 200) (hdl : ((s.data.toList).takeWhile dU).length = d) (hdb : 0 + d ≤ s.size) (hv : Evs w) (h19 : d ≤ 19) (hb : d = 0 ∨ 9223372036854775807 < val (s.extract 0 d).data.toList) :
    Calls Tryz.prog 64 #[.string s] w fun e w' => e = .returned (.tuple #[tokV 0 0 ⟨#[]⟩ 0, .bool false]) ∧ Below w.heap.size w w' := by
  have HC : Hid (((s.data.toList.takeWhile dU).length : Int) = (d : Int)) := by rw [← hdl]; rfl
  have hall : (s.extract 0 d).data.toList.all dU = true := by
    rw [Jv, ← hdl]
    simp only [List.drop_zero, Nat.sub_zero, Ku]
    exact Gb _ _
  clear hdl
  obtain ⟨t, ht⟩ : ∃ t, s.extract 0 d = t := ⟨_, rfl⟩
  rw [ht] at hall
  have HL := hide hall
  clear hall
  have hz : t.size = d := by rw [← ht, ByteArray.size_extract]; omega
  have HX := hide ht
  have HZ := hide hz
  rw [ht] at hb
  have HB := hide hb
  have HV := hide hv
  clear hb hv
  clear ht
  have hzi : (t.size : Int) = (d : Int) := by omega
  clear hz
  go_enter Tryz.func64, Tryz.ntmps64
  go_wp2_with fail
  refine (Qd _ _ (by first | omega | (rw [ByteArray.size_extract]; omega))).mono ?_
  rintro e w' ⟨rfl, rfl⟩
  rw [Ja HC]
  go_wp2_with fail
  rw [Ja HX]
  refine (Vr t _ (by rw [Ja HZ]; exact h19) ((Ja HV).alloc _) ?_).mono ?_
  · rcases Ja HB with h | h
    · exact Or.inl (by rw [Ja HZ]; exact h)
    · exact Or.inr ⟨Ja HL, h⟩
  rintro e w1 ⟨v, N, rfl, hb1⟩
  obtain ⟨hc, hf⟩ := Jr hb1
  go_wp2_with fail
  refine bodyPost_ret (v := .tuple #[.agg #[.int .i64 0, .int .i64 0, .int .i64 0, .string ⟨#[]⟩, .int .i64 0], .bool false]) (by simp [results, Tryz.results64, go_sem, hc]) rfl ⟨rfl, ?_⟩
  exact Yz hb1 _ _ _ _ _
set_option maxHeartbeats 1000000 in
theorem Jh7 (s : ByteArray) (w : World) (d : Nat) (h0 : 0 < s.size) (h5 : ((s[0].toNat : Int) == 95) = false) (hs : s.size ≤ 200) (hdl : ((s.data.toList).takeWhile dU).length = d) (hdb : 0 + d ≤ s.size) (h19 : d ≤ 19) (hd1 : 1 ≤ d) (V : Int) (hV : V = (val (s.extract 0 d).data.toList : Int)) (hb : val (s.extract 0 d).data.toList ≤ 9223372036854775807) :
    Calls Tryz.prog 64 #[.string s] w fun e w' => e = .returned (.tuple #[tokX 0 0 (V) (s.extract 0 (d)) 0, .bool true]) ∧ Below w.heap.size w w' := by
  have HC : Hid (((s.data.toList.takeWhile dU).length : Int) = (d : Int)) := by rw [← hdl]; rfl
  have hall : (s.extract 0 d).data.toList.all dU = true := by
    rw [Jv, ← hdl]
    simp only [List.drop_zero, Nat.sub_zero, Ku]
    exact Gb _ _
  clear hdl
  obtain ⟨t, ht⟩ : ∃ t, s.extract 0 d = t := ⟨_, rfl⟩
  rw [ht] at hall
  have HL := hide hall
  clear hall
  have hz : t.size = d := by rw [← ht, ByteArray.size_extract]; omega
  have HX := hide ht
  have HZ := hide hz
  rw [ht] at hb
  have hpi := Xp t.data.toList (fun e => by rw [← ByteArray.size_data, ← Array.length_toList, e] at hz; simp at hz; omega) (by simp; omega) (Ja HL)
  rw [if_neg (by omega)] at hpi
  rw [ht] at hV
  rw [← hV] at hpi
  have hV0 : 0 ≤ V := by omega
  have hV1 : V ≤ 9223372036854775807 := by omega
  have HP := hide hpi
  clear hb hpi hV
  clear ht
  have hzi : (t.size : Int) = (d : Int) := by omega
  clear hz
  go_enter Tryz.func64, Tryz.ntmps64
  go_wp2_with fail
  refine (Qd _ _ (by first | omega | (rw [ByteArray.size_extract]; omega))).mono ?_
  rintro e w' ⟨rfl, rfl⟩
  rw [Ja HC]
  go_wp2_with fail
  rw [Ja HX]
  refine (Xq t _ (by rw [Ja HZ]; omega) _ (Ja HP)).mono ?_
  rintro e w1 ⟨rfl, hb1⟩
  obtain ⟨hc, hf⟩ := Jr hb1
  go_wp2_with fail
  refine bodyPost_ret (v := .tuple #[.agg #[.int .i64 0, .int .i64 0, .int .i64 (V), .string (s.extract 0 (d)), .int .i64 0], .bool true]) (by simp [results, Tryz.results64, go_sem, hc]) rfl ⟨rfl, ?_⟩
  exact Yz hb1 _ _ _ _ _
set_option maxHeartbeats 1000000 in
theorem Jb2 (s : ByteArray) (w : World) (d : Nat) (h0 : 0 < s.size) (h5 : ((s[0].toNat : Int) == 95) = true) (hs : s.size ≤ 200) (hdl : ((s.data.toList.drop 1).takeWhile dU).length = d) (hdb : 1 + d ≤ s.size) (h19 : 19 < d) :
    Calls Tryz.prog 64 #[.string s] w fun e w' => e = .returned (.tuple #[tokV 0 0 ⟨#[]⟩ 0, .bool false]) ∧ Below w.heap.size w w' := by
  have HC : Hid ((((s.extract 1 s.size).data.toList.takeWhile dU).length : Int) = (d : Int)) := by rw [← hdl, F0 s]; rfl
  have hall : (s.extract 1 (1 + d)).data.toList.all dU = true := by
    rw [Jv, ← hdl]
    simp only [Nat.add_sub_cancel_left, Ku]
    exact Gb _ _
  clear hdl
  obtain ⟨t, ht⟩ : ∃ t, s.extract 1 (1 + d) = t := ⟨_, rfl⟩
  rw [ht] at hall
  have HL := hide hall
  clear hall
  have hz : t.size = d := by rw [← ht, ByteArray.size_extract]; omega
  have HX := hide ht
  have HZ := hide hz
  clear ht
  have hzi : (t.size : Int) = (d : Int) := by omega
  clear hz
  go_enter Tryz.func64, Tryz.ntmps64
  go_wp2_with fail
  refine (Qd _ _ (by first | omega | (rw [ByteArray.size_extract]; omega))).mono ?_
  rintro e w' ⟨rfl, rfl⟩
  rw [Ja HC]
  go_wp2_with fail
  refine bodyPost_ret (v := .tuple #[.agg #[.int .i64 0, .int .i64 0, .int .i64 0, .string ⟨#[]⟩, .int .i64 0], .bool false]) (by simp [results, Tryz.results64, go_sem]) rfl ⟨rfl, ?_⟩
  exact (Below.refl _ _).alloc (Nat.le_refl _) _
set_option maxHeartbeats 1000000 in
theorem Jeo (s : ByteArray) (w : World) (d : Nat) (h0 : 0 < s.size) (h5 : ((s[0].toNat : Int) == 95) = true) (hs : s.size ≤ 200) (hdl : ((s.data.toList.drop 1).takeWhile dU).length = d) (hdb : 1 + d ≤ s.size) (hv : Evs w) (h19 : d ≤ 19) (hb : d = 0 ∨ 9223372036854775807 < val (s.extract 1 (1 + d)).data.toList) :
    Calls Tryz.prog 64 #[.string s] w fun e w' => e = .returned (.tuple #[tokV 0 0 ⟨#[]⟩ 0, .bool false]) ∧ Below w.heap.size w w' := by
  have HC : Hid ((((s.extract 1 s.size).data.toList.takeWhile dU).length : Int) = (d : Int)) := by rw [← hdl, F0 s]; rfl
  have hall : (s.extract 1 (1 + d)).data.toList.all dU = true := by
    rw [Jv, ← hdl]
    simp only [Nat.add_sub_cancel_left, Ku]
    exact Gb _ _
  clear hdl
  obtain ⟨t, ht⟩ : ∃ t, s.extract 1 (1 + d) = t := ⟨_, rfl⟩
  rw [ht] at hall
  have HL := hide hall
  clear hall
  have hz : t.size = d := by rw [← ht, ByteArray.size_extract]; omega
  have HX := hide ht
  have HZ := hide hz
  rw [ht] at hb
  have HB := hide hb
  have HV := hide hv
  clear hb hv
  clear ht
  have hzi : (t.size : Int) = (d : Int) := by omega
  clear hz
  go_enter Tryz.func64, Tryz.ntmps64
  go_wp2_with fail
  refine (Qd _ _ (by first | omega | (rw [ByteArray.size_extract]; omega))).mono ?_
  rintro e w' ⟨rfl, rfl⟩
  rw [Ja HC]
  go_wp2_with fail
  rw [Ja HX]
  refine (Vr t _ (by rw [Ja HZ]; exact h19) ((Ja HV).alloc _) ?_).mono ?_
  · rcases Ja HB with h | h
    · exact Or.inl (by rw [Ja HZ]; exact h)
    · exact Or.inr ⟨Ja HL, h⟩
  rintro e w1 ⟨v, N, rfl, hb1⟩
  obtain ⟨hc, hf⟩ := Jr hb1
  go_wp2_with fail
  refine bodyPost_ret (v := .tuple #[.agg #[.int .i64 0, .int .i64 0, .int .i64 0, .string ⟨#[]⟩, .int .i64 0], .bool false]) (by simp [results, Tryz.results64, go_sem, hc]) rfl ⟨rfl, ?_⟩
  exact Yz hb1 _ _ _ _ _
set_option maxHeartbeats 1000000 in
theorem Jh8 (s : ByteArray) (w : World) (d : Nat) (h0 : 0 < s.size) (h5 : ((s[0].toNat : Int) == 95) = true) (hs : s.size ≤ 200) (hdl : ((s.data.toList.drop 1).takeWhile dU).length = d) (hdb : 1 + d ≤ s.size) (h19 : d ≤ 19) (hd1 : 1 ≤ d) (V : Int) (hV : V = (val (s.extract 1 (1 + d)).data.toList : Int)) (hb : val (s.extract 1 (1 + d)).data.toList ≤ 9223372036854775807) :
    Calls Tryz.prog 64 #[.string s] w fun e w' => e = .returned (.tuple #[tokX 0 0 (-V) (s.extract 0 (1 + d)) 0, .bool true]) ∧ Below w.heap.size w w' := by
  have HC : Hid ((((s.extract 1 s.size).data.toList.takeWhile dU).length : Int) = (d : Int)) := by rw [← hdl, F0 s]; rfl
  have hall : (s.extract 1 (1 + d)).data.toList.all dU = true := by
    rw [Jv, ← hdl]
    simp only [Nat.add_sub_cancel_left, Ku]
    exact Gb _ _
  clear hdl
  obtain ⟨t, ht⟩ : ∃ t, s.extract 1 (1 + d) = t := ⟨_, rfl⟩
  rw [ht] at hall
  have HL := hide hall
  clear hall
  have hz : t.size = d := by rw [← ht, ByteArray.size_extract]; omega
  have HX := hide ht
  have HZ := hide hz
  rw [ht] at hb
  have hpi := Xp t.data.toList (fun e => by rw [← ByteArray.size_data, ← Array.length_toList, e] at hz; simp at hz; omega) (by simp; omega) (Ja HL)
  rw [if_neg (by omega)] at hpi
  rw [ht] at hV
  rw [← hV] at hpi
  have hV0 : 0 ≤ V := by omega
  have hV1 : V ≤ 9223372036854775807 := by omega
  have HP := hide hpi
  clear hb hpi hV
  clear ht
  have hzi : (t.size : Int) = (d : Int) := by omega
  clear hz
  go_enter Tryz.func64, Tryz.ntmps64
  go_wp2_with fail
  refine (Qd _ _ (by first | omega | (rw [ByteArray.size_extract]; omega))).mono ?_
  rintro e w' ⟨rfl, rfl⟩
  rw [Ja HC]
  go_wp2_with fail
  rw [Ja HX]
  refine (Xq t _ (by rw [Ja HZ]; omega) _ (Ja HP)).mono ?_
  rintro e w1 ⟨rfl, hb1⟩
  obtain ⟨hc, hf⟩ := Jr hb1
  go_wp2_with fail
  refine bodyPost_ret (v := .tuple #[.agg #[.int .i64 0, .int .i64 0, .int .i64 (-V), .string (s.extract 0 (1 + d)), .int .i64 0], .bool true]) (by simp [results, Tryz.results64, go_sem, hc]) rfl ⟨rfl, ?_⟩
  exact Yz hb1 _ _ _ _ _
end Go.Proofs.YtjobgpahajhbnabGreatDoor
namespace Go.Proofs.YtjobgpahajhbnabGreatDoor
open Go.RowKit
set_option maxHeartbeats 1000000 in
theorem Jk2 (s : ByteArray) (w : World) (h0 : 0 < s.size) (hs : s.size ≤ 200) (h40 : ((s[0].toNat : Int) == 40) = true) :
    Calls Tryz.prog 43 #[.string s] w fun e w' => e = .returned (.tuple #[tokV 4 0 (s.extract 0 1) 0, .bool true]) ∧ Below w.heap.size w w' := by
  go_enter Tryz.func43, Tryz.ntmps43
  go_wp2_with (first | (go_at_call 63; refine (Ya _ _).mono ?_; rintro e w' ⟨rfl, rfl⟩) | (go_at_call 65; refine (Jy _ _).mono ?_; rintro e w' ⟨rfl, rfl⟩))
  refine bodyPost_ret (v := .tuple #[.agg #[.int .i64 4, .int .i64 0, .int .i64 0, .string (s.extract 0 1), .int .i64 0], .bool true]) (by simp [results, Tryz.results43, go_sem]) rfl ⟨rfl, ?_⟩
  exact (Below.refl _ _).alloc (Nat.le_refl _) _
set_option maxHeartbeats 1000000 in
theorem Jh5 (s : ByteArray) (w : World) (h0 : 0 < s.size) (hs : s.size ≤ 200) (h40 : ((s[0].toNat : Int) == 40) = false) (h41 : ((s[0].toNat : Int) == 41) = true) :
    Calls Tryz.prog 43 #[.string s] w fun e w' => e = .returned (.tuple #[tokV 5 0 (s.extract 0 1) 0, .bool true]) ∧ Below w.heap.size w w' := by
  go_enter Tryz.func43, Tryz.ntmps43
  go_wp2_with (first | (go_at_call 63; refine (Ya _ _).mono ?_; rintro e w' ⟨rfl, rfl⟩) | (go_at_call 65; refine (Jy _ _).mono ?_; rintro e w' ⟨rfl, rfl⟩))
  refine bodyPost_ret (v := .tuple #[.agg #[.int .i64 5, .int .i64 0, .int .i64 0, .string (s.extract 0 1), .int .i64 0], .bool true]) (by simp [results, Tryz.results43, go_sem]) rfl ⟨rfl, ?_⟩
  exact (Below.refl _ _).alloc (Nat.le_refl _) _
set_option maxHeartbeats 1000000 in
theorem Jk3 (s : ByteArray) (w : World) (h0 : 0 < s.size) (h40 : ((s[0].toNat : Int) == 40) = false) (h41 : ((s[0].toNat : Int) == 41) = false) (h95 : ((s[0].toNat : Int) == 95) = false) (hd : digB (s[0].toNat : Int) = false) (hl : letB (s[0].toNat : Int) = false) (hg : gU s[0] = false) :
    Calls Tryz.prog 43 #[.string s] w fun e w' => e = .returned (.tuple #[tokV 0 0 (⟨#[]⟩) 0, .bool false]) ∧ Below w.heap.size w w' := by
  have HG := hide hg
  clear hg
  go_enter Tryz.func43, Tryz.ntmps43
  go_wp2_with (first | (go_at_call 63; refine (Ya _ _).mono ?_; rintro e w' ⟨rfl, rfl⟩) | (go_at_call 65; refine (Jy _ _).mono ?_; rintro e w' ⟨rfl, rfl⟩) | (go_at_call 67; refine (Jki _ _ (Ja HG)).mono ?_; rintro e w2 ⟨rfl, rfl⟩))
  refine bodyPost_ret (v := .tuple #[.agg #[.int .i64 0, .int .i64 0, .int .i64 0, .string (⟨#[]⟩), .int .i64 0], .bool false]) (by simp [results, Tryz.results43, go_sem]) rfl ⟨rfl, ?_⟩
  exact (Below.refl _ _).alloc (Nat.le_refl _) _
set_option maxHeartbeats 1000000 in
theorem Jh3 (s : ByteArray) (w : World) (h0 : 0 < s.size) (k r x : Int) (t : ByteArray) (b : Bool) (hk : ∀ W, Evs W → Calls Tryz.prog 64 #[.string s] W fun e w' => e = .returned (.tuple #[tokX k r x t 0, .bool b]) ∧ Below W.heap.size W w') (hv : Evs w) (h40 : ((s[0].toNat : Int) == 40) = false) (h41 : ((s[0].toNat : Int) == 41) = false) (h95 : ((s[0].toNat : Int) == 95) = true) :
    Calls Tryz.prog 43 #[.string s] w fun e w' => e = .returned (.tuple #[tokX k r x t 0, .bool (b)]) ∧ Below w.heap.size w w' := by
  have HK : Hid (∀ o, Calls Tryz.prog 64 #[.string s] (w.alloc o) fun e w' => e = .returned (.tuple #[tokX k r x t 0, .bool b]) ∧ Below (w.alloc o).heap.size (w.alloc o) w') := fun o => hk _ (hv.alloc o)
  clear hk
  have HV := hide hv
  clear hv
  go_enter Tryz.func43, Tryz.ntmps43
  go_wp2_with (first | (go_at_call 63; refine (Ya _ _).mono ?_; rintro e w' ⟨rfl, rfl⟩) | (go_at_call 65; refine (Jy _ _).mono ?_; rintro e w' ⟨rfl, rfl⟩))
  refine (Ja HK _).mono ?_
  rintro e w1 ⟨rfl, hb1⟩
  unfold tokX
  obtain ⟨hc, hf⟩ := Jr hb1
  go_wp2_with fail
  refine bodyPost_ret (v := .tuple #[.agg #[.int .i64 (k), .int .i64 (r), .int .i64 x, .string (t), .int .i64 0], .bool (b)]) (by simp [results, Tryz.results43, go_sem, hc]) rfl ⟨rfl, ?_⟩
  exact Yz hb1 _ _ _ _ _
set_option maxHeartbeats 1000000 in
theorem Jh4 (s : ByteArray) (w : World) (h0 : 0 < s.size) (k r x : Int) (t : ByteArray) (b : Bool) (hk : ∀ W, Evs W → Calls Tryz.prog 64 #[.string s] W fun e w' => e = .returned (.tuple #[tokX k r x t 0, .bool b]) ∧ Below W.heap.size W w') (hv : Evs w) (h40 : ((s[0].toNat : Int) == 40) = false) (h41 : ((s[0].toNat : Int) == 41) = false) (h95 : ((s[0].toNat : Int) == 95) = false) (hd : digB (s[0].toNat : Int) = true) :
    Calls Tryz.prog 43 #[.string s] w fun e w' => e = .returned (.tuple #[tokX k r x t 0, .bool (b)]) ∧ Below w.heap.size w w' := by
  have HK : Hid (∀ o, Calls Tryz.prog 64 #[.string s] (w.alloc o) fun e w' => e = .returned (.tuple #[tokX k r x t 0, .bool b]) ∧ Below (w.alloc o).heap.size (w.alloc o) w') := fun o => hk _ (hv.alloc o)
  clear hk
  have HV := hide hv
  clear hv
  go_enter Tryz.func43, Tryz.ntmps43
  go_wp2_with (first | (go_at_call 63; refine (Ya _ _).mono ?_; rintro e w' ⟨rfl, rfl⟩) | (go_at_call 65; refine (Jy _ _).mono ?_; rintro e w' ⟨rfl, rfl⟩))
  refine (Ja HK _).mono ?_
  rintro e w1 ⟨rfl, hb1⟩
  unfold tokX
  obtain ⟨hc, hf⟩ := Jr hb1
  go_wp2_with fail
  refine bodyPost_ret (v := .tuple #[.agg #[.int .i64 (k), .int .i64 (r), .int .i64 x, .string (t), .int .i64 0], .bool (b)]) (by simp [results, Tryz.results43, go_sem, hc]) rfl ⟨rfl, ?_⟩
  exact Yz hb1 _ _ _ _ _
set_option maxHeartbeats 1000000 in
theorem Jk0 (s : ByteArray) (w : World) (h0 : 0 < s.size) (k r : Int) (t : ByteArray) (b : Bool) (hk : ∀ W, Evs W → Calls Tryz.prog 66 #[.string s] W fun e w' => e = .returned (.tuple #[tokV k r t 0, .bool b]) ∧ Below W.heap.size W w') (hv : Evs w) (h40 : ((s[0].toNat : Int) == 40) = false) (h41 : ((s[0].toNat : Int) == 41) = false) (h95 : ((s[0].toNat : Int) == 95) = false) (hd : digB (s[0].toNat : Int) = false) (hl : letB (s[0].toNat : Int) = true) :
    Calls Tryz.prog 43 #[.string s] w fun e w' => e = .returned (.tuple #[tokV (k) (r) (t) 0, .bool (b)]) ∧ Below w.heap.size w w' := by
  have HK : Hid (∀ o, Calls Tryz.prog 66 #[.string s] (w.alloc o) fun e w' => e = .returned (.tuple #[tokV k r t 0, .bool b]) ∧ Below (w.alloc o).heap.size (w.alloc o) w') := fun o => hk _ (hv.alloc o)
  clear hk
  have HV := hide hv
  clear hv
  go_enter Tryz.func43, Tryz.ntmps43
  go_wp2_with (first | (go_at_call 63; refine (Ya _ _).mono ?_; rintro e w' ⟨rfl, rfl⟩) | (go_at_call 65; refine (Jy _ _).mono ?_; rintro e w' ⟨rfl, rfl⟩))
  refine (Ja HK _).mono ?_
  rintro e w1 ⟨rfl, hb1⟩
  unfold tokV
  obtain ⟨hc, hf⟩ := Jr hb1
  go_wp2_with fail
  refine bodyPost_ret (v := .tuple #[.agg #[.int .i64 (k), .int .i64 (r), .int .i64 0, .string (t), .int .i64 0], .bool (b)]) (by simp [results, Tryz.results43, go_sem, hc]) rfl ⟨rfl, ?_⟩
  exact Yz hb1 _ _ _ _ _
set_option maxHeartbeats 1000000 in
theorem Jk1 (s : ByteArray) (w : World) (h0 : 0 < s.size) (k r : Int) (t : ByteArray) (hk : ∀ W, Evs W → Calls Tryz.prog 68 #[.string s] W fun e w' => e = .returned (tokV k r t 0) ∧ Below W.heap.size W w') (hv : Evs w) (h40 : ((s[0].toNat : Int) == 40) = false) (h41 : ((s[0].toNat : Int) == 41) = false) (h95 : ((s[0].toNat : Int) == 95) = false) (hd : digB (s[0].toNat : Int) = false) (hl : letB (s[0].toNat : Int) = false) (hg : gU s[0] = true) :
    Calls Tryz.prog 43 #[.string s] w fun e w' => e = .returned (.tuple #[tokV (k) (r) (t) 0, .bool (true)]) ∧ Below w.heap.size w w' := by
  have HK : Hid (∀ o, Calls Tryz.prog 68 #[.string s] (w.alloc o) fun e w' => e = .returned (tokV k r t 0) ∧ Below (w.alloc o).heap.size (w.alloc o) w') := fun o => hk _ (hv.alloc o)
  clear hk
  have HV := hide hv
  clear hv
  have HG := hide hg
  clear hg
  go_enter Tryz.func43, Tryz.ntmps43
  go_wp2_with (first | (go_at_call 63; refine (Ya _ _).mono ?_; rintro e w' ⟨rfl, rfl⟩) | (go_at_call 65; refine (Jy _ _).mono ?_; rintro e w' ⟨rfl, rfl⟩) | (go_at_call 67; refine (Jhl _ _ (Ja HG)).mono ?_; rintro e w2 ⟨v, hv, rfl, rfl⟩))
  refine (Ja HK _).mono ?_
  rintro e w1 ⟨rfl, hb1⟩
  unfold tokV
  obtain ⟨hc, hf⟩ := Jr hb1
  go_wp2_with fail
  refine bodyPost_ret (v := .tuple #[.agg #[.int .i64 (k), .int .i64 (r), .int .i64 0, .string (t), .int .i64 0], .bool (true)]) (by simp [results, Tryz.results43, go_sem, hc]) rfl ⟨rfl, ?_⟩
  exact Yz hb1 _ _ _ _ _
end Go.Proofs.YtjobgpahajhbnabGreatDoor
namespace Go.Proofs.YtjobgpahajhbnabGreatDoor
open Go.RowKit
theorem Ja5 (c : UInt8) (n : Nat) (h : n < 256) : ((c.toNat : Int) == (n : Int)) = (c == UInt8.ofNat n) := by
  rw [Bool.eq_iff_iff]
  simp only [beq_iff_eq]
  constructor
  · intro e
    apply UInt8.toNat_inj.1
    rw [UInt8.toNat_ofNat_of_lt' (by simpa using h)]
    omega
  · intro e
    rw [e, UInt8.toNat_ofNat_of_lt' (by simpa using h)]
end Go.Proofs.YtjobgpahajhbnabGreatDoor
namespace Go.Proofs.YtjobgpahajhbnabGreatDoor
open Go.RowKit
def Zb (t : ByteArray) : Int :=
  bif hd t == 40 then 4 else bif hd t == 41 then 5 else bif hd t == 95 || digB (hd t) then 0 else bif letB (hd t) then Fc t else 3
def Y0 (t : ByteArray) : Int :=
  bif hd t == 40 then 0 else bif hd t == 41 then 0 else bif hd t == 95 || digB (hd t) then 0 else bif letB (hd t) then Yk t else Gi t
def Yh (t : ByteArray) : Int :=
  bif hd t == 95 then -(val (t.data.toList.drop 1) : Int) else bif digB (hd t) then (val t.data.toList : Int) else 0
def CutR (s : ByteArray) (e : Ending) : Prop := match tl s.data.toList with
  | some n => e = .returned (.tuple #[tokX (Zb (s.extract 0 n)) (Y0 (s.extract 0 n)) (Yh (s.extract 0 n)) (s.extract 0 n) 0, .bool true])
  | none => ∃ k r t, e = .returned (.tuple #[tokV k r t 0, .bool false])
theorem Ke {s : ByteArray} {n : Nat} {e : Ending} (h : tl s.data.toList = some n) (he : e = .returned (.tuple #[tokX (Zb (s.extract 0 n)) (Y0 (s.extract 0 n)) (Yh (s.extract 0 n)) (s.extract 0 n) 0, .bool true])) : CutR s e := by
  unfold CutR; rw [h]; exact he
theorem Q4 {s : ByteArray} {e : Ending} (h : tl s.data.toList = none) {k r : Int} {t : ByteArray} (he : e = .returned (.tuple #[tokV k r t 0, .bool false])) : CutR s e := by
  unfold CutR; rw [h]; exact ⟨k, r, t, he⟩
theorem Jn1 (s : ByteArray) (n : Nat) (h : 0 < s.size) (hn : 0 < n) : hd (s.extract 0 n) = hd s := by
  unfold hd
  rw [Jv]
  obtain ⟨⟨l⟩⟩ := s
  match l, n, h, hn with
  | c :: l, n + 1, _, _ => simp
theorem Kd (s : ByteArray) (h : 0 < s.size) : s.data.toList = s[0] :: s.data.toList.drop 1 := by
  have := Kx s 0 h
  simpa using this
theorem Jmf (c : Int) (h : (c == 95) = true) : digB c = false := by
  have := beq_iff_eq.1 h; subst this; decide
theorem Jng (s : ByteArray) (h0 : 0 < s.size) (h : ((s[0].toNat : Int) == 95) = true) : tl s.data.toList = numE 1 (s.data.toList.drop 1) := by
  have h1 : dU s[0] = false := Jmf _ h
  have h2 : (s[0] == 95) = true := (Ja5 s[0] 95 (by decide)).symm.trans h
  rw [Kd s h0]
  simp only [tl, h1, h2, cond_true, cond_false, List.drop_succ_cons, List.drop_zero]
theorem Jnh (s : ByteArray) (h0 : 0 < s.size) (h : digB (s[0].toNat : Int) = true) : tl s.data.toList = numE 0 s.data.toList := by
  have h1 : dU s[0] = true := h
  rw [Kd s h0]
  simp only [tl, h1, cond_true]
theorem Jlx (s : ByteArray) (h0 : 0 < s.size) (h95 : ((s[0].toNat : Int) == 95) = false) (hd : digB (s[0].toNat : Int) = false) (hl : letB (s[0].toNat : Int) = true) : tl s.data.toList = wrdE s.data.toList := by
  have h1 : dU s[0] = false := hd
  have h2 : (s[0] == 95) = false := (Ja5 s[0] 95 (by decide)).symm.trans h95
  have h3 : lU s[0] = true := hl
  rw [Kd s h0]
  simp only [tl, h1, h2, h3, cond_true, cond_false]
theorem Jk6 (c : UInt8) (h : ((c.toNat : Int) == 40) = true ∨ ((c.toNat : Int) == 41) = true) : dU c = false ∧ (c == 95) = false ∧ lU c = false ∧ (c == 40 || c == 41) = true := by
  have e : c = 40 ∨ c = 41 := by
    rcases h with h | h
    · exact Or.inl (beq_iff_eq.1 ((Ja5 c 40 (by decide)).symm.trans h))
    · exact Or.inr (beq_iff_eq.1 ((Ja5 c 41 (by decide)).symm.trans h))
  rcases e with rfl | rfl <;> decide
theorem Jni (s : ByteArray) (h0 : 0 < s.size) (h : ((s[0].toNat : Int) == 40) = true ∨ ((s[0].toNat : Int) == 41) = true) : tl s.data.toList = some 1 := by
  obtain ⟨h1, h2, h3, h4⟩ := Jk6 _ h
  rw [Kd s h0]
  simp only [tl, h1, h2, h3, h4, cond_true, cond_false]
theorem Jlz (s : ByteArray) (h0 : 0 < s.size) (h40 : ((s[0].toNat : Int) == 40) = false) (h41 : ((s[0].toNat : Int) == 41) = false) (h95 : ((s[0].toNat : Int) == 95) = false) (hd : digB (s[0].toNat : Int) = false) (hl : letB (s[0].toNat : Int) = false) :
    tl s.data.toList = bif gU s[0] then some (sgnE (s.data.toList.drop 1)) else none := by
  have h1 : dU s[0] = false := hd
  have h2 : (s[0] == 95) = false := (Ja5 s[0] 95 (by decide)).symm.trans h95
  have h3 : lU s[0] = false := hl
  have h4 : (s[0] == 40 || s[0] == 41) = false := by
    rw [show (s[0] == 40) = false from (Ja5 s[0] 40 (by decide)).symm.trans h40, show (s[0] == 41) = false from (Ja5 s[0] 41 (by decide)).symm.trans h41]; rfl
  rw [Kd s h0]
  simp only [tl, h1, h2, h3, h4, cond_false, List.drop_succ_cons, List.drop_zero]
end Go.Proofs.YtjobgpahajhbnabGreatDoor
