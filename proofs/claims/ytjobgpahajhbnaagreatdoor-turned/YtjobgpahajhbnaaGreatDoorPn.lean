import Derived.Test.YtjobgpahajhbnaaGreatDoorWg
namespace Go.Proofs.YtjobgpahajhbnaaGreatDoor
open Go.RowKit

def valF (a : Nat) (l : List UInt8) : Nat := l.foldl (fun n c => 10 * n + (c.toNat - 48)) a
theorem parse_dig (M : Nat) (hM : 10000000000000000000 ≤ M) : ∀ (l : List UInt8) (a : Nat), l.all dU = true → (a + 1) * 10 ^ l.length ≤ 10000000000000000000 → Lib.parseUintM M a l = .ok (valF a l)
  | [], a, _, _ => rfl
  | c :: r, a, ha, hb => by
    simp only [List.all_cons, Bool.and_eq_true] at ha
    have hc : dU c = true := ha.1
    simp [dU, digB] at hc
    have hp : 1 ≤ 10 ^ r.length := Nat.pow_pos (by decide)
    rw [List.length_cons, Nat.pow_succ] at hb
    have hb2 : (a + 1) * 10 * 10 ^ r.length ≤ 10000000000000000000 := by
      rw [Nat.mul_assoc, Nat.mul_comm 10]; exact hb
    have hb3 : (a + 1) * 10 ≤ 10000000000000000000 := Nat.le_trans (by simpa using Nat.mul_le_mul_left ((a + 1) * 10) hp) hb2
    have ih := parse_dig M hM r (a * 10 + (c.toNat - 48)) ha.2 (Nat.le_trans (Nat.mul_le_mul_right _ (by omega)) hb2)
    unfold Lib.parseUintM
    rw [if_pos (by omega), if_neg (by omega), if_neg (by omega), ih]
    show _ = Lib.NumEnd.ok (valF (10 * a + (c.toNat - 48)) r)
    rw [Nat.mul_comm]
theorem parse_int (l : List UInt8) (h0 : l ≠ []) (hl : l.length ≤ 19) (ha : l.all dU = true) : Lib.parseIntB 64 l = if 9223372036854775807 < val l then .range else .ok (val l : Int) := by
  match l, h0 with
  | c :: r, _ =>
    have hu : Lib.parseUintB 64 (c :: r) = .ok (val (c :: r)) := by
      unfold Lib.parseUintB
      rw [if_neg (by simp)]
      exact parse_dig _ (by decide) _ _ ha (by
        have : 10 ^ (c :: r).length ≤ 10 ^ 19 := Nat.pow_le_pow_right (by decide) hl
        simpa using this)
    simp only [List.all_cons, Bool.and_eq_true] at ha
    have hc : dU c = true := ha.1
    simp [dU, digB] at hc
    unfold Lib.parseIntB
    have h1 : ¬ (c.toNat = 43 ∨ c.toNat = 45) := by omega
    have h2 : ¬ (c.toNat = 45) := by omega
    have e : (if c.toNat = 43 ∨ c.toNat = 45 then r else c :: r) = c :: r := if_neg h1
    simp only [e, hu]
    by_cases hv : 9223372036854775807 < val (c :: r)
    · rw [if_pos hv, if_pos ⟨h2, by have : 2 ^ (64 - 1) = 9223372036854775808 := rfl; omega⟩]
    · rw [if_neg hv, if_neg (fun h => hv (by have : 2 ^ (64 - 1) = 9223372036854775808 := rfl; omega)), if_neg (fun h => h2 h.1), if_neg h2]

/-- what the package variables of strconv hold, as far as it matters -/
def ErrV (w : World) (b : Nat) : Prop := ∃ ev, w.cell? ⟨b, 0, none⟩ = some ev ∧ (ev = .nilIface ∨ ∃ te pe, ev = .iface te pe)
def Evs (w : World) : Prop := 6 ≤ w.heap.size ∧ ErrV w 4 ∧ ErrV w 5
theorem Evs.below {B : Nat} {w w' : World} (h : Evs w) (hb : Below B w w') (hB : 6 ≤ B) : Evs w' := by
  obtain ⟨h0, ⟨e1, c1, d1⟩, ⟨e2, c2, d2⟩⟩ := h
  exact ⟨Nat.le_trans h0 hb.size, ⟨e1, (hb.cell (p := ⟨4, 0, none⟩) (show 4 < B by omega)).trans c1, d1⟩, ⟨e2, (hb.cell (p := ⟨5, 0, none⟩) (show 5 < B by omega)).trans c2, d2⟩⟩
theorem Evs.alloc {w : World} (h : Evs w) (o : Obj) : Evs (w.alloc o) :=
  h.below ((Below.refl w.heap.size w).alloc (Nat.le_refl _) o) h.1

theorem below_bytes (w : World) (e : TypeId) (s : ByteArray) : Below w.heap.size w (Lib.bytesWorld w e s) := by
  have h1 : Below w.heap.size w (w.drew.alloc (.cells (Lib.bytesCells w e s) e)) := ((Below.refl w.heap.size w).drew).alloc (Nat.le_refl _) _
  refine h1.trans ?_
  unfold Lib.bytesWorld
  refine ⟨rfl, rfl, rfl, ?_, ?_⟩
  · simp [World.freeze]
  · intro k hk
    unfold World.freeze
    rw [if_neg (by decide)]
    dsimp only
    rw [Array.getElem?_modify, if_neg (by omega)]
theorem parseInt_ok (s : ByteArray) (w : World) (hs : s.size ≤ 200) (v : Int) (h : Lib.parseIntB 64 s.data.toList = .ok v) :
    Calls Tryz.prog 171 #[.string s, .int .i64 10, .int .i64 64] w fun e w' => e = .returned (.tuple #[.int .i64 v, .nilIface]) ∧ Below w.heap.size w w' := by
  refine (Tryz.strconv_ParseInt_10_at64_ok s (by omega) v h w).mono ?_
  rintro e w' ⟨he, hw⟩
  refine ⟨he, ?_⟩
  rcases hw with rfl | ⟨t, rfl⟩
  · exact Below.refl _ _
  · exact below_bytes _ _ _
theorem parseInt_bad (s : ByteArray) (w : World) (hs : s.size ≤ 19) (hv : Evs w) (h : s.size = 0 ∨ (s.data.toList.all dU = true ∧ 9223372036854775807 < val s.data.toList)) :
    Calls Tryz.prog 171 #[.string s, .int .i64 10, .int .i64 64] w fun e w' => ∃ v N, e = .returned (.tuple #[.int .i64 v, .iface 300 (.pointer (some ⟨N, 0, none⟩))]) ∧ Below w.heap.size w w' := by
  obtain ⟨_, ⟨e1, c1, d1⟩, ⟨e2, c2, d2⟩⟩ := hv
  by_cases h0 : s.size = 0
  · exact Tryz.strconv_ParseInt_10_at64_none s h0 e1 w c1 d1
  · rcases h with h | ⟨ha, hb⟩
    · exact absurd h h0
    · refine Tryz.strconv_ParseInt_10_at64_range s (by omega) ?_ e2 w c2 d2
      rw [parse_int _ (fun e => h0 (by rw [← ByteArray.size_data, ← Array.length_toList, e]; rfl)) (by simpa using hs) ha, if_pos hb]
end Go.Proofs.YtjobgpahajhbnaaGreatDoor
