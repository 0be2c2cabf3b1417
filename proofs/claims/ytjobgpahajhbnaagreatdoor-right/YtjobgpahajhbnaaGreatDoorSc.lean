import Derived.Test.YtjobgpahajhbnaaGreatDoorSb
namespace Go.Proofs.YtjobgpahajhbnaaGreatDoor
open Go.RowKit

def tokAt (S : List Tok) (j : Nat) : Tok := S.getD j ⟨0, 0, 0, ⟨#[]⟩, 0⟩
theorem tokAt_lt {S : List Tok} {j : Nat} (h : j < S.length) : tokAt S j = S[j] := by simp [tokAt, List.getD, h]
theorem kr_at {S : List Tok} {j : Nat} (h : j < S.length) : (kr S)[j]? = some (S[j].k, S[j].r) := by simp [kr, h]
theorem kr_out {S : List Tok} {j : Nat} (h : S.length ≤ j) : (kr S)[j]? = none := by simp [kr, h]
theorem fB_at {S : List Tok} {j : Nat} (h : j < S.length) (a : Int) : fB (kr S) j a = roleB S[j].r a := by unfold fB; rw [kr_at h]
theorem kB_at {S : List Tok} {j : Nat} (h : j < S.length) (a : Int) : kB (kr S) j a = (S[j].k == a) := by unfold kB; rw [kr_at h]
theorem fB_out {S : List Tok} {j : Nat} (h : S.length ≤ j) (a : Int) : fB (kr S) j a = false := by unfold fB; rw [kr_out h]
theorem kB_out {S : List Tok} {j : Nat} (h : S.length ≤ j) (a : Int) : kB (kr S) j a = false := by unfold kB; rw [kr_out h]
theorem Kp.alloc {W0 w w' : World} (h : Kp W0 w w') (o : Obj) : Kp W0 w (w'.alloc o) := h.trans (Kp.of_below ((Below.refl _ _).alloc (Nat.le_refl _) o))
theorem Rd.alloc {W0 : World} {tk : Value} {j o : Nat} {w : World} (h : Rd W0 tk j o w) (ob : Obj) : Rd W0 tk j o (w.alloc ob) := h.keep ((Below.refl _ _).alloc (Nat.le_refl _) ob)
theorem Kp.cell {W0 w w' : World} (h : Kp W0 w w') {b : Nat} (hb : b < w.heap.size) (hn : b ≠ W0.heap.size) (i : Nat) : w'.cell? ⟨b, i, none⟩ = w.cell? ⟨b, i, none⟩ :=
  World.cell?_of_block (h.block b hb (fun e => hn (Option.some.inj e)))
theorem Kp.frozen {W0 w w' : World} (h : Kp W0 w w') {b : Nat} (hb : b < w.heap.size) (hn : b ≠ W0.heap.size) (i : Nat) : w'.frozen? ⟨b, i, none⟩ = w.frozen? ⟨b, i, none⟩ :=
  World.frozen?_of_block (h.block b hb (fun e => hn (Option.some.inj e)))

theorem ifR_any (W0 : World) (ao : Option Addr) (tb cap : Nat) (S : List Tok) (a : Int) (j o B : Nat) (w : World) (hT : TokIn W0 ao tb S) (hjl : j ≤ S.length) (hw : Rd W0 (.slice ao S.length cap) j o w) (hB : B < w.heap.size) (hBc : w.cell? ⟨B, 0, none⟩ = some (.int .i64 a)) (hBR : B ≠ W0.heap.size) :
    Calls Tryz.prog 215 #[.pointer (some ⟨W0.heap.size, 0, none⟩), .func (.func 216) #[] #[.pointer (some ⟨B, 0, none⟩)]] w fun e w' => e = .returned (.tuple #[bif fB (kr S) j a then (tokAt S j).v else zt, .bool (fB (kr S) j a)]) ∧ Rd W0 (.slice ao S.length cap) (bif fB (kr S) j a then j + 1 else j) o w' ∧ Kp W0 w w' := by
  by_cases hj : j < S.length
  · obtain ⟨rfl, hlt⟩ := hT.addr (by omega)
    have hf := hT.few
    obtain ⟨c0, c1, c2, c3, c4⟩ := hT.cell j hj
    have d := fun i => hw.below.cell (p := ⟨tb, i, none⟩) hlt
    have e := fB_at hj a
    rw [tokAt_lt hj]
    cases ht : fB (kr S) j a
    · exact ifR_no W0 tb S.length cap S[j] a j o B w hw hB hBc hBR hlt ((d _).trans c0) ((d _).trans c1) ((d _).trans c2) ((d _).trans c3) ((d _).trans c4) (by omega) (by rw [← e]; exact ht)
    · exact ifR_yes W0 tb S.length cap S[j] a j o B w hw hB hBc hBR hlt ((d _).trans c0) ((d _).trans c1) ((d _).trans c2) ((d _).trans c3) ((d _).trans c4) (by omega) hf (by rw [← e]; exact ht)
  · rw [fB_out (by omega) a]
    exact ifR_end W0 ao S.length cap j o B w hw (by omega) hT.few

set_option maxHeartbeats 600000 in
theorem func_b (W0 : World) (ao : Option Addr) (tb cap : Nat) (S : List Tok) (a : Int) (j o : Nat) (w : World) (hT : TokIn W0 ao tb S) (hjl : j ≤ S.length) (hw : Rd W0 (.slice ao S.length cap) j o w) (b : Bool) (hb : fB (kr S) j a = b) (q : Tok) (hq : (bif b then (tokAt S j).v else zt) = q.v) :
    Calls Tryz.prog 175 #[.pointer (some ⟨W0.heap.size, 0, none⟩), .int .i64 a] w fun e w' => e = .returned (.tuple #[q.v, .bool b]) ∧ Rd W0 (.slice ao S.length cap) (bif b then j + 1 else j) o w' ∧ Kp W0 w w' := by
  have HW := hide hw
  have HT := hide hT
  have hlt := hw.lt
  have hne : w.heap.size ≠ W0.heap.size := by omega
  have hne2 : w.heap.size + 1 ≠ W0.heap.size := by omega
  have HB := hide hb
  have HQ := hide hq
  obtain ⟨k, r, x, t, p⟩ := q
  clear hw hT hb hq
  go_enter Tryz.func175, Tryz.ntmps175
  go_wp2_with fail
  refine (ifR_any W0 ao tb cap S a j o w.heap.size _ (unhide HT) hjl (((unhide HW).alloc _).alloc _) (by simp; omega) (by simp) hne).mono ?_
  rintro e w1 ⟨rfl, hw1, hk1⟩
  rw [unhide HB, unhide HQ]
  rw [unhide HB] at hw1
  unfold Tok.v tokX
  have HW1 := hide hw1
  have HK1 := hide hk1
  have d0 := hk1.cell (b := w.heap.size + 1) (by simp) hne2 0
  have d1 := hk1.cell (b := w.heap.size + 1) (by simp) hne2 1
  have d2 := hk1.cell (b := w.heap.size + 1) (by simp) hne2 2
  have d3 := hk1.cell (b := w.heap.size + 1) (by simp) hne2 3
  have d4 := hk1.cell (b := w.heap.size + 1) (by simp) hne2 4
  have f0 := hk1.frozen (b := w.heap.size + 1) (by simp) hne2 0
  have f1 := hk1.frozen (b := w.heap.size + 1) (by simp) hne2 1
  have f2 := hk1.frozen (b := w.heap.size + 1) (by simp) hne2 2
  have f3 := hk1.frozen (b := w.heap.size + 1) (by simp) hne2 3
  have f4 := hk1.frozen (b := w.heap.size + 1) (by simp) hne2 4
  simp at d0 d1 d2 d3 d4 f0 f1 f2 f3 f4
  clear hw1 hk1
  go_wp2_with fail
  refine bodyPost_ret (v := .tuple #[.agg #[.int .i64 k, .int .i64 r, .int .i64 x, .string t, .int .i64 p], .bool b]) (by simp [results, Tryz.results175, go_sem, d0, d1, d2, d3, d4]) rfl ⟨rfl, ?_, ?_⟩
  · have hl : W0.heap.size < w.heap.size + 1 := by omega
    exact (((((unhide HW1).other hl _ _).other hl _ _).other hl _ _).other hl _ _).other hl _ _
  · have h1 : Kp W0 w w1 := (((Kp.refl W0 w).alloc _).alloc _).trans (unhide HK1)
    have hl : w.heap.size ≤ w.heap.size + 1 := by omega
    exact ((((h1.new hl _ _).new hl _ _).new hl _ _).new hl _ _).new hl _ _
theorem func_any (W0 : World) (ao : Option Addr) (tb cap : Nat) (S : List Tok) (a : Int) (j o : Nat) (w : World) (hT : TokIn W0 ao tb S) (hjl : j ≤ S.length) (hw : Rd W0 (.slice ao S.length cap) j o w) :
    Calls Tryz.prog 175 #[.pointer (some ⟨W0.heap.size, 0, none⟩), .int .i64 a] w fun e w' => e = .returned (.tuple #[(bif fB (kr S) j a then tokAt S j else ⟨0, 0, 0, ⟨#[]⟩, 0⟩ : Tok).v, .bool (fB (kr S) j a)]) ∧ Rd W0 (.slice ao S.length cap) (bif fB (kr S) j a then j + 1 else j) o w' ∧ Kp W0 w w' :=
  func_b W0 ao tb cap S a j o w hT hjl hw _ rfl _ (by cases fB (kr S) j a <;> rfl)

theorem ifK_any (W0 : World) (ao : Option Addr) (tb cap : Nat) (S : List Tok) (a : Int) (j o B : Nat) (w : World) (hT : TokIn W0 ao tb S) (hjl : j ≤ S.length) (hw : Rd W0 (.slice ao S.length cap) j o w) (hB : B < w.heap.size) (hBc : w.cell? ⟨B, 0, none⟩ = some (.int .i64 a)) (hBR : B ≠ W0.heap.size) :
    Calls Tryz.prog 215 #[.pointer (some ⟨W0.heap.size, 0, none⟩), .func (.func 271) #[] #[.pointer (some ⟨B, 0, none⟩)]] w fun e w' => e = .returned (.tuple #[bif kB (kr S) j a then (tokAt S j).v else zt, .bool (kB (kr S) j a)]) ∧ Rd W0 (.slice ao S.length cap) (bif kB (kr S) j a then j + 1 else j) o w' ∧ Kp W0 w w' := by
  by_cases hj : j < S.length
  · obtain ⟨rfl, hlt⟩ := hT.addr (by omega)
    have hf := hT.few
    obtain ⟨c0, c1, c2, c3, c4⟩ := hT.cell j hj
    have d := fun i => hw.below.cell (p := ⟨tb, i, none⟩) hlt
    have e := kB_at hj a
    rw [tokAt_lt hj]
    cases ht : kB (kr S) j a
    · exact ifK_no W0 tb S.length cap S[j] a j o B w hw hB hBc hBR hlt ((d _).trans c0) ((d _).trans c1) ((d _).trans c2) ((d _).trans c3) ((d _).trans c4) (by omega) (by rw [← e]; exact ht)
    · exact ifK_yes W0 tb S.length cap S[j] a j o B w hw hB hBc hBR hlt ((d _).trans c0) ((d _).trans c1) ((d _).trans c2) ((d _).trans c3) ((d _).trans c4) (by omega) hf (by rw [← e]; exact ht)
  · rw [kB_out (by omega) a]
    exact ifK_end W0 ao S.length cap j o B w hw (by omega) hT.few

set_option maxHeartbeats 600000 in
theorem acc_b (W0 : World) (ao : Option Addr) (tb cap : Nat) (S : List Tok) (a : Int) (j o : Nat) (w : World) (hT : TokIn W0 ao tb S) (hjl : j ≤ S.length) (hw : Rd W0 (.slice ao S.length cap) j o w) (b : Bool) (hb : kB (kr S) j a = b) (q : Tok) (hq : (bif b then (tokAt S j).v else zt) = q.v) :
    Calls Tryz.prog 217 #[.pointer (some ⟨W0.heap.size, 0, none⟩), .int .i64 a] w fun e w' => e = .returned (.tuple #[q.v, .bool b]) ∧ Rd W0 (.slice ao S.length cap) (bif b then j + 1 else j) o w' ∧ Kp W0 w w' := by
  have HW := hide hw
  have HT := hide hT
  have hlt := hw.lt
  have hne : w.heap.size ≠ W0.heap.size := by omega
  have hne2 : w.heap.size + 1 ≠ W0.heap.size := by omega
  have HB := hide hb
  have HQ := hide hq
  obtain ⟨k, r, x, t, p⟩ := q
  clear hw hT hb hq
  go_enter Tryz.func217, Tryz.ntmps217
  go_wp2_with fail
  refine (ifK_any W0 ao tb cap S a j o w.heap.size _ (unhide HT) hjl (((unhide HW).alloc _).alloc _) (by simp; omega) (by simp) hne).mono ?_
  rintro e w1 ⟨rfl, hw1, hk1⟩
  rw [unhide HB, unhide HQ]
  rw [unhide HB] at hw1
  unfold Tok.v tokX
  have HW1 := hide hw1
  have HK1 := hide hk1
  have d0 := hk1.cell (b := w.heap.size + 1) (by simp) hne2 0
  have d1 := hk1.cell (b := w.heap.size + 1) (by simp) hne2 1
  have d2 := hk1.cell (b := w.heap.size + 1) (by simp) hne2 2
  have d3 := hk1.cell (b := w.heap.size + 1) (by simp) hne2 3
  have d4 := hk1.cell (b := w.heap.size + 1) (by simp) hne2 4
  have f0 := hk1.frozen (b := w.heap.size + 1) (by simp) hne2 0
  have f1 := hk1.frozen (b := w.heap.size + 1) (by simp) hne2 1
  have f2 := hk1.frozen (b := w.heap.size + 1) (by simp) hne2 2
  have f3 := hk1.frozen (b := w.heap.size + 1) (by simp) hne2 3
  have f4 := hk1.frozen (b := w.heap.size + 1) (by simp) hne2 4
  simp at d0 d1 d2 d3 d4 f0 f1 f2 f3 f4
  clear hw1 hk1
  go_wp2_with fail
  refine bodyPost_ret (v := .tuple #[.agg #[.int .i64 k, .int .i64 r, .int .i64 x, .string t, .int .i64 p], .bool b]) (by simp [results, Tryz.results217, go_sem, d0, d1, d2, d3, d4]) rfl ⟨rfl, ?_, ?_⟩
  · have hl : W0.heap.size < w.heap.size + 1 := by omega
    exact (((((unhide HW1).other hl _ _).other hl _ _).other hl _ _).other hl _ _).other hl _ _
  · have h1 : Kp W0 w w1 := (((Kp.refl W0 w).alloc _).alloc _).trans (unhide HK1)
    have hl : w.heap.size ≤ w.heap.size + 1 := by omega
    exact ((((h1.new hl _ _).new hl _ _).new hl _ _).new hl _ _).new hl _ _
theorem acc_any (W0 : World) (ao : Option Addr) (tb cap : Nat) (S : List Tok) (a : Int) (j o : Nat) (w : World) (hT : TokIn W0 ao tb S) (hjl : j ≤ S.length) (hw : Rd W0 (.slice ao S.length cap) j o w) :
    Calls Tryz.prog 217 #[.pointer (some ⟨W0.heap.size, 0, none⟩), .int .i64 a] w fun e w' => e = .returned (.tuple #[(bif kB (kr S) j a then tokAt S j else ⟨0, 0, 0, ⟨#[]⟩, 0⟩ : Tok).v, .bool (kB (kr S) j a)]) ∧ Rd W0 (.slice ao S.length cap) (bif kB (kr S) j a then j + 1 else j) o w' ∧ Kp W0 w w' :=
  acc_b W0 ao tb cap S a j o w hT hjl hw _ rfl _ (by cases kB (kr S) j a <;> rfl)
end Go.Proofs.YtjobgpahajhbnaaGreatDoor
