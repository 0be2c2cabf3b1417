import Derived.Test.YtjobgpahajhbnabGreatDoorWl
import Derived.Laws.OwnMore
import Derived.Deep.LoopGhost
namespace Go.Proofs.YtjobgpahajhbnabGreatDoor
open Go.RowKit
def J5 (S : List Tok) (j : Nat) : Tok := S.getD j ⟨0, 0, 0, ⟨#[]⟩, 0⟩
theorem Yo {S : List Tok} {j : Nat} (h : j < S.length) : J5 S j = S[j] := by simp [J5, List.getD, h]
theorem Jnw {S : List Tok} {j : Nat} (h : j < S.length) : (kr S)[j]? = some (S[j].k, S[j].r) := by simp [kr, h]
theorem Jcz {S : List Tok} {j : Nat} (h : S.length ≤ j) : (kr S)[j]? = none := by simp [kr, h]
theorem Jn6 {S : List Tok} {j : Nat} (h : j < S.length) (a : Int) : fB (kr S) j a = Y1 S[j].r a := by unfold fB; rw [Jnw h]
theorem Jae {S : List Tok} {j : Nat} (h : j < S.length) (a : Int) : kB (kr S) j a = (S[j].k == a) := by unfold kB; rw [Jnw h]
theorem Jlk {S : List Tok} {j : Nat} (h : S.length ≤ j) (a : Int) : fB (kr S) j a = false := by unfold fB; rw [Jcz h]
theorem Jc1 {S : List Tok} {j : Nat} (h : S.length ≤ j) (a : Int) : kB (kr S) j a = false := by unfold kB; rw [Jcz h]
theorem Kp.alloc {W0 w w' : World} (h : Kp W0 w w') (o : Obj) : Kp W0 w (w'.alloc o) := h.trans (Kp.of_below ((Below.refl _ _).alloc (Nat.le_refl _) o))
theorem Rd.alloc {W0 : World} {tk : Value} {j o : Nat} {w : World} (h : Rd W0 tk j o w) (ob : Obj) : Rd W0 tk j o (w.alloc ob) := h.keep ((Below.refl _ _).alloc (Nat.le_refl _) ob)
theorem Kp.cell {W0 w w' : World} (h : Kp W0 w w') {b : Nat} (hb : b < w.heap.size) (hn : b ≠ W0.heap.size) (i : Nat) : w'.cell? ⟨b, i, none⟩ = w.cell? ⟨b, i, none⟩ :=
  World.cell?_of_block (h.block b hb (fun e => hn (Option.some.inj e)))
theorem Kp.frozen {W0 w w' : World} (h : Kp W0 w w') {b : Nat} (hb : b < w.heap.size) (hn : b ≠ W0.heap.size) (i : Nat) : w'.frozen? ⟨b, i, none⟩ = w.frozen? ⟨b, i, none⟩ :=
  World.frozen?_of_block (h.block b hb (fun e => hn (Option.some.inj e)))
theorem Jmp (W0 : World) (ao : Option Addr) (tb cap : Nat) (S : List Tok) (a : Int) (j o B : Nat) (w : World) (hT : TokIn W0 ao tb S) (hjl : j ≤ S.length) (hw : Rd W0 (.slice ao S.length cap) j o w) (hB : B < w.heap.size) (hBc : w.cell? ⟨B, 0, none⟩ = some (.int .i64 a)) (hBR : B ≠ W0.heap.size) :
    Calls Tryz.prog 138 #[.pointer (some ⟨W0.heap.size, 0, none⟩), .func (.func 139) #[] #[.pointer (some ⟨B, 0, none⟩)]] w fun e w' => e = .returned (.tuple #[bif fB (kr S) j a then (J5 S j).v else zt, .bool (fB (kr S) j a)]) ∧ Rd W0 (.slice ao S.length cap) (bif fB (kr S) j a then j + 1 else j) o w' ∧ Kp W0 w w' := by
  by_cases hj : j < S.length
  · obtain ⟨rfl, hlt⟩ := hT.addr (by omega)
    have hf := hT.few
    obtain ⟨c0, c1, c2, c3, c4⟩ := hT.cell j hj
    have d := fun i => hw.below.cell (p := ⟨tb, i, none⟩) hlt
    have e := Jn6 hj a
    rw [Yo hj]
    cases ht : fB (kr S) j a
    · exact Jnz W0 tb S.length cap S[j] a j o B w hw hB hBc hBR hlt ((d _).trans c0) ((d _).trans c1) ((d _).trans c2) ((d _).trans c3) ((d _).trans c4) (by omega) (by rw [← e]; exact ht)
    · exact Jmn W0 tb S.length cap S[j] a j o B w hw hB hBc hBR hlt ((d _).trans c0) ((d _).trans c1) ((d _).trans c2) ((d _).trans c3) ((d _).trans c4) (by omega) hf (by rw [← e]; exact ht)
  · rw [Jlk (by omega) a]
    exact Jmo W0 ao S.length cap j o B w hw (by omega) hT.few
set_option maxHeartbeats 600000 in
theorem Jn2 (W0 : World) (ao : Option Addr) (tb cap : Nat) (S : List Tok) (a : Int) (j o : Nat) (w : World) (hT : TokIn W0 ao tb S) (hjl : j ≤ S.length) (hw : Rd W0 (.slice ao S.length cap) j o w) (b : Bool) (hb : fB (kr S) j a = b) (q : Tok) (hq : (bif b then (J5 S j).v else zt) = q.v) :
    Calls Tryz.prog 95 #[.pointer (some ⟨W0.heap.size, 0, none⟩), .int .i64 a] w fun e w' => e = .returned (.tuple #[q.v, .bool b]) ∧ Rd W0 (.slice ao S.length cap) (bif b then j + 1 else j) o w' ∧ Kp W0 w w' := by
  have HW := hide hw
  have HT := hide hT
  have hlt := hw.lt
  have hne : w.heap.size ≠ W0.heap.size := by omega
  have hne2 : w.heap.size + 1 ≠ W0.heap.size := by omega
  have HB := hide hb
  have HQ := hide hq
  obtain ⟨k, r, x, t, p⟩ := q
  clear hw hT hb hq
  go_enter Tryz.func95, Tryz.ntmps95
  go_wp2_with fail
  refine (Jmp W0 ao tb cap S a j o w.heap.size _ (Ja HT) hjl (((Ja HW).alloc _).alloc _) (by simp; omega) (by simp) hne).mono ?_
  rintro e w1 ⟨rfl, hw1, hk1⟩
  rw [Ja HB, Ja HQ]
  rw [Ja HB] at hw1
  unfold Tok.v tokX
  have HW1 := hide hw1
  have HK1 := hide hk1
  have d0 := hk1.cell (b := w.heap.size + 1) (by simp) hne2 0
  have d1 := hk1.cell (b := w.heap.size + 1) (by simp) hne2 1
  have d2 := hk1.cell (b := w.heap.size + 1) (by simp) hne2 2
  have d3 := hk1.cell (b := w.heap.size + 1) (by simp) hne2 3
  have d4 := hk1.cell (b := w.heap.size + 1) (by simp) hne2 4
  have f0 := hk1.frozen (b := w.heap.size + 1) (by simp) hne2 0
  have f1 := hk1.frozen (b := w.heap.size + 1) (by simp) hne2 1
  have f2 := hk1.frozen (b := w.heap.size + 1) (by simp) hne2 2
  have f3 := hk1.frozen (b := w.heap.size + 1) (by simp) hne2 3
  have f4 := hk1.frozen (b := w.heap.size + 1) (by simp) hne2 4
  simp at d0 d1 d2 d3 d4 f0 f1 f2 f3 f4
  clear hw1 hk1
  go_wp2_with fail
  refine bodyPost_ret (v := .tuple #[.agg #[.int .i64 k, .int .i64 r, .int .i64 x, .string t, .int .i64 p], .bool b]) (by simp [results, Tryz.results95, go_sem, d0, d1, d2, d3, d4]) rfl ⟨rfl, ?_, ?_⟩
  · have hl : W0.heap.size < w.heap.size + 1 := by omega
    exact (((((Ja HW1).other hl _ _).other hl _ _).other hl _ _).other hl _ _).other hl _ _
  · have h1 : Kp W0 w w1 := (((Kp.refl W0 w).alloc _).alloc _).trans (Ja HK1)
    have hl : w.heap.size ≤ w.heap.size + 1 := by omega
    exact ((((h1.new hl _ _).new hl _ _).new hl _ _).new hl _ _).new hl _ _
theorem V5 (W0 : World) (ao : Option Addr) (tb cap : Nat) (S : List Tok) (a : Int) (j o : Nat) (w : World) (hT : TokIn W0 ao tb S) (hjl : j ≤ S.length) (hw : Rd W0 (.slice ao S.length cap) j o w) :
    Calls Tryz.prog 95 #[.pointer (some ⟨W0.heap.size, 0, none⟩), .int .i64 a] w fun e w' => e = .returned (.tuple #[(bif fB (kr S) j a then J5 S j else ⟨0, 0, 0, ⟨#[]⟩, 0⟩ : Tok).v, .bool (fB (kr S) j a)]) ∧ Rd W0 (.slice ao S.length cap) (bif fB (kr S) j a then j + 1 else j) o w' ∧ Kp W0 w w' :=
  Jn2 W0 ao tb cap S a j o w hT hjl hw _ rfl _ (by cases fB (kr S) j a <;> rfl)
theorem Jms (W0 : World) (ao : Option Addr) (tb cap : Nat) (S : List Tok) (a : Int) (j o B : Nat) (w : World) (hT : TokIn W0 ao tb S) (hjl : j ≤ S.length) (hw : Rd W0 (.slice ao S.length cap) j o w) (hB : B < w.heap.size) (hBc : w.cell? ⟨B, 0, none⟩ = some (.int .i64 a)) (hBR : B ≠ W0.heap.size) :
    Calls Tryz.prog 138 #[.pointer (some ⟨W0.heap.size, 0, none⟩), .func (.func 196) #[] #[.pointer (some ⟨B, 0, none⟩)]] w fun e w' => e = .returned (.tuple #[bif kB (kr S) j a then (J5 S j).v else zt, .bool (kB (kr S) j a)]) ∧ Rd W0 (.slice ao S.length cap) (bif kB (kr S) j a then j + 1 else j) o w' ∧ Kp W0 w w' := by
  by_cases hj : j < S.length
  · obtain ⟨rfl, hlt⟩ := hT.addr (by omega)
    have hf := hT.few
    obtain ⟨c0, c1, c2, c3, c4⟩ := hT.cell j hj
    have d := fun i => hw.below.cell (p := ⟨tb, i, none⟩) hlt
    have e := Jae hj a
    rw [Yo hj]
    cases ht : kB (kr S) j a
    · exact Jn0 W0 tb S.length cap S[j] a j o B w hw hB hBc hBR hlt ((d _).trans c0) ((d _).trans c1) ((d _).trans c2) ((d _).trans c3) ((d _).trans c4) (by omega) (by rw [← e]; exact ht)
    · exact Jmq W0 tb S.length cap S[j] a j o B w hw hB hBc hBR hlt ((d _).trans c0) ((d _).trans c1) ((d _).trans c2) ((d _).trans c3) ((d _).trans c4) (by omega) hf (by rw [← e]; exact ht)
  · rw [Jc1 (by omega) a]
    exact Jmr W0 ao S.length cap j o B w hw (by omega) hT.few
set_option maxHeartbeats 600000 in
theorem Jpa (W0 : World) (ao : Option Addr) (tb cap : Nat) (S : List Tok) (a : Int) (j o : Nat) (w : World) (hT : TokIn W0 ao tb S) (hjl : j ≤ S.length) (hw : Rd W0 (.slice ao S.length cap) j o w) (b : Bool) (hb : kB (kr S) j a = b) (q : Tok) (hq : (bif b then (J5 S j).v else zt) = q.v) :
    Calls Tryz.prog 140 #[.pointer (some ⟨W0.heap.size, 0, none⟩), .int .i64 a] w fun e w' => e = .returned (.tuple #[q.v, .bool b]) ∧ Rd W0 (.slice ao S.length cap) (bif b then j + 1 else j) o w' ∧ Kp W0 w w' := by
  have HW := hide hw
  have HT := hide hT
  have hlt := hw.lt
  have hne : w.heap.size ≠ W0.heap.size := by omega
  have hne2 : w.heap.size + 1 ≠ W0.heap.size := by omega
  have HB := hide hb
  have HQ := hide hq
  obtain ⟨k, r, x, t, p⟩ := q
  clear hw hT hb hq
  go_enter Tryz.func140, Tryz.ntmps140
  go_wp2_with fail
  refine (Jms W0 ao tb cap S a j o w.heap.size _ (Ja HT) hjl (((Ja HW).alloc _).alloc _) (by simp; omega) (by simp) hne).mono ?_
  rintro e w1 ⟨rfl, hw1, hk1⟩
  rw [Ja HB, Ja HQ]
  rw [Ja HB] at hw1
  unfold Tok.v tokX
  have HW1 := hide hw1
  have HK1 := hide hk1
  have d0 := hk1.cell (b := w.heap.size + 1) (by simp) hne2 0
  have d1 := hk1.cell (b := w.heap.size + 1) (by simp) hne2 1
  have d2 := hk1.cell (b := w.heap.size + 1) (by simp) hne2 2
  have d3 := hk1.cell (b := w.heap.size + 1) (by simp) hne2 3
  have d4 := hk1.cell (b := w.heap.size + 1) (by simp) hne2 4
  have f0 := hk1.frozen (b := w.heap.size + 1) (by simp) hne2 0
  have f1 := hk1.frozen (b := w.heap.size + 1) (by simp) hne2 1
  have f2 := hk1.frozen (b := w.heap.size + 1) (by simp) hne2 2
  have f3 := hk1.frozen (b := w.heap.size + 1) (by simp) hne2 3
  have f4 := hk1.frozen (b := w.heap.size + 1) (by simp) hne2 4
  simp at d0 d1 d2 d3 d4 f0 f1 f2 f3 f4
  clear hw1 hk1
  go_wp2_with fail
  refine bodyPost_ret (v := .tuple #[.agg #[.int .i64 k, .int .i64 r, .int .i64 x, .string t, .int .i64 p], .bool b]) (by simp [results, Tryz.results140, go_sem, d0, d1, d2, d3, d4]) rfl ⟨rfl, ?_, ?_⟩
  · have hl : W0.heap.size < w.heap.size + 1 := by omega
    exact (((((Ja HW1).other hl _ _).other hl _ _).other hl _ _).other hl _ _).other hl _ _
  · have h1 : Kp W0 w w1 := (((Kp.refl W0 w).alloc _).alloc _).trans (Ja HK1)
    have hl : w.heap.size ≤ w.heap.size + 1 := by omega
    exact ((((h1.new hl _ _).new hl _ _).new hl _ _).new hl _ _).new hl _ _
theorem Zt (W0 : World) (ao : Option Addr) (tb cap : Nat) (S : List Tok) (a : Int) (j o : Nat) (w : World) (hT : TokIn W0 ao tb S) (hjl : j ≤ S.length) (hw : Rd W0 (.slice ao S.length cap) j o w) :
    Calls Tryz.prog 140 #[.pointer (some ⟨W0.heap.size, 0, none⟩), .int .i64 a] w fun e w' => e = .returned (.tuple #[(bif kB (kr S) j a then J5 S j else ⟨0, 0, 0, ⟨#[]⟩, 0⟩ : Tok).v, .bool (kB (kr S) j a)]) ∧ Rd W0 (.slice ao S.length cap) (bif kB (kr S) j a then j + 1 else j) o w' ∧ Kp W0 w w' :=
  Jpa W0 ao tb cap S a j o w hT hjl hw _ rfl _ (by cases kB (kr S) j a <;> rfl)
end Go.Proofs.YtjobgpahajhbnabGreatDoor
namespace Go.Proofs.YtjobgpahajhbnabGreatDoor
open Go.RowKit
def step (st : Nat) (q : Int × Int) (op : Nat) : Option (Nat × Nat) :=
  if q.1 = 0 then (if st ≠ 2 then some (1, op) else none)
  else if q.1 = 1 then (if st = 0 then some (2, op) else none)
  else if q.1 = 4 then (if st = 0 ∧ op < 8 then some (0, op + 1) else none)
  else if q.1 = 5 then (if st ≠ 0 ∧ 0 < op then some (2, op - 1) else none)
  else if Y1 q.2 (if st = 0 then 1 else 2) = true then some (0, op) else none
def scan : List (Int × Int) → Nat → Nat → Nat → Nat × Nat × Nat
  | [], j, st, op => (j, st, op)
  | q :: r, j, st, op => match step st q op with
    | none => (j, st, op)
    | some x => scan r (j + 1) x.1 x.2
def sc (T : List (Int × Int)) (j st op : Nat) : Nat × Nat × Nat := scan (T.drop j) j st op
def Wf (T : List (Int × Int)) : Prop := ∀ q ∈ T, q.1 = 0 ∨ q.1 = 1 ∨ q.1 = 4 ∨ q.1 = 5 → q.2 = 0
theorem Vf {T : List (Int × Int)} {j st op st' op' : Nat} (h : j < T.length) (hs : step st T[j] op = some (st', op')) : sc T j st op = sc T (j + 1) st' op' := by
  unfold sc
  rw [List.drop_eq_getElem_cons h, scan, hs]
theorem Jft {T : List (Int × Int)} {j st op : Nat} (h : j < T.length) (hs : step st T[j] op = none) : sc T j st op = (j, st, op) := by
  unfold sc
  rw [List.drop_eq_getElem_cons h, scan, hs]
theorem Jfu {T : List (Int × Int)} {j st op : Nat} (h : T.length ≤ j) : sc T j st op = (j, st, op) := by
  unfold sc
  rw [List.drop_eq_nil_of_le h, scan]
theorem Vw {T : List (Int × Int)} {j : Nat} {k : Int} (h : kB T j k = true) : ∃ hj : j < T.length, T[j].1 = k := by
  unfold kB at h
  by_cases hj : j < T.length
  · rw [List.getElem?_eq_getElem hj] at h
    exact ⟨hj, beq_iff_eq.1 h⟩
  · rw [List.getElem?_eq_none (by omega)] at h
    cases h
theorem Jhi {T : List (Int × Int)} {j : Nat} {k : Int} (h : kB T j k = false) (hj : j < T.length) : T[j].1 ≠ k := by
  unfold kB at h
  rw [List.getElem?_eq_getElem hj] at h
  exact beq_eq_false_iff_ne.1 h
theorem Jdx : Y1 0 1 = false := by decide
theorem Jdw : Y1 0 2 = false := by decide
theorem Jmx {T : List (Int × Int)} {j : Nat} {r : Int} (h : fB T j r = true) : ∃ hj : j < T.length, Y1 T[j].2 r = true := by
  unfold fB at h
  by_cases hj : j < T.length
  · rw [List.getElem?_eq_getElem hj] at h
    exact ⟨hj, h⟩
  · rw [List.getElem?_eq_none (by omega)] at h
    cases h
theorem Jn5 {T : List (Int × Int)} {j : Nat} {r : Int} (h : fB T j r = false) (hj : j < T.length) : Y1 T[j].2 r = false := by
  unfold fB at h
  rw [List.getElem?_eq_getElem hj] at h
  exact h
theorem Jez {T : List (Int × Int)} {j : Nat} {r : Int} (hw : Wf T) (hj : j < T.length) (hr : Y1 T[j].2 r = true) (h1 : r = 1 ∨ r = 2) : T[j].1 ≠ 0 ∧ T[j].1 ≠ 1 ∧ T[j].1 ≠ 4 ∧ T[j].1 ≠ 5 := by
  have key : ¬ (T[j].1 = 0 ∨ T[j].1 = 1 ∨ T[j].1 = 4 ∨ T[j].1 = 5) := by
    intro h
    have h0 := hw _ (List.getElem_mem hj) h
    rw [h0] at hr
    rcases h1 with rfl | rfl
    · rw [Jdx] at hr; cases hr
    · rw [Jdw] at hr; cases hr
  omega
theorem Jcl {T : List (Int × Int)} {j op : Nat} (hw : Wf T) (h : fB T j 1 = true) : j < T.length ∧ sc T j 0 op = sc T (j + 1) 0 op := by
  obtain ⟨hj, hr⟩ := Jmx h
  obtain ⟨a, b, c, d⟩ := Jez hw hj hr (Or.inl rfl)
  refine ⟨hj, Vf hj ?_⟩
  simp only [step, a, b, c, d, if_false, if_true, hr]
theorem Gt {T : List (Int × Int)} {j op st : Nat} (hw : Wf T) (hst : st ≠ 0) (h : fB T j 2 = true) : j < T.length ∧ sc T j st op = sc T (j + 1) 0 op := by
  obtain ⟨hj, hr⟩ := Jmx h
  obtain ⟨a, b, c, d⟩ := Jez hw hj hr (Or.inr rfl)
  refine ⟨hj, Vf hj ?_⟩
  simp only [step, a, b, c, d, if_false, hst, hr, if_true]
theorem Jld {T : List (Int × Int)} {j op st : Nat} (hst : st ≠ 2) (h : kB T j 0 = true) : j < T.length ∧ sc T j st op = sc T (j + 1) 1 op := by
  obtain ⟨hj, hr⟩ := Vw h
  refine ⟨hj, Vf hj ?_⟩
  simp only [step, hr, if_true, hst, ne_eq, not_false_eq_true]
theorem Jfs {T : List (Int × Int)} {j op : Nat} (h : kB T j 1 = true) : j < T.length ∧ sc T j 0 op = sc T (j + 1) 2 op := by
  obtain ⟨hj, hr⟩ := Vw h
  refine ⟨hj, Vf hj ?_⟩
  simp [step, hr]
theorem Jfr {T : List (Int × Int)} {j op : Nat} (h : kB T j 4 = true) (ho : op < 8) : j < T.length ∧ sc T j 0 op = sc T (j + 1) 0 (op + 1) := by
  obtain ⟨hj, hr⟩ := Vw h
  refine ⟨hj, Vf hj ?_⟩
  simp [step, hr, ho]
theorem Jck {T : List (Int × Int)} {j op st : Nat} (hst : st ≠ 0) (h : kB T j 5 = true) : j < T.length ∧ sc T j st (op + 1) = sc T (j + 1) 2 op := by
  obtain ⟨hj, hr⟩ := Vw h
  refine ⟨hj, Vf hj ?_⟩
  simp [step, hr, hst]
theorem Jlc {T : List (Int × Int)} {j op : Nat} (h1 : fB T j 1 = false) (h2 : kB T j 0 = false) (h3 : kB T j 1 = false) (h4 : kB T j 4 = false ∨ 8 ≤ op) : sc T j 0 op = (j, 0, op) := by
  by_cases hj : j < T.length
  · apply Jft hj
    have a := Jhi h2 hj
    have b := Jhi h3 hj
    have c := Jn5 h1 hj
    unfold step
    rw [if_neg a, if_neg b]
    by_cases h : T[j].1 = 4
    · rw [if_pos h, if_neg]
      rcases h4 with h4 | h4
      · exact absurd h (Jhi h4 hj)
      · omega
    · rw [if_neg h]
      by_cases h5 : T[j].1 = 5
      · rw [if_pos h5, if_neg (by omega)]
      · rw [if_neg h5, if_pos rfl, c, if_neg (by decide)]
  · exact Jfu (by omega)
theorem Jnj {T : List (Int × Int)} {j op st : Nat} (hst : st = 1 ∨ st = 2) (hn : st = 1 → kB T j 0 = false) (h1 : fB T j 2 = false) (h5 : kB T j 5 = false ∨ op = 0) : sc T j st op = (j, st, op) := by
  by_cases hl : j < T.length
  · apply Jft hl
    have c := Jn5 h1 hl
    unfold step
    by_cases h0 : T[j].1 = 0
    · rw [if_pos h0, if_neg]
      rcases hst with rfl | rfl
      · exact absurd h0 (Jhi (hn rfl) hl)
      · simp
    · rw [if_neg h0]
      by_cases e1 : T[j].1 = 1
      · rw [if_pos e1, if_neg (by omega)]
      · rw [if_neg e1]
        by_cases e4 : T[j].1 = 4
        · rw [if_pos e4, if_neg (by omega)]
        · rw [if_neg e4]
          by_cases e5 : T[j].1 = 5
          · rw [if_pos e5, if_neg]
            rcases h5 with h5 | h5
            · exact absurd e5 (Jhi h5 hl)
            · omega
          · have hs0 : ¬ st = 0 := by omega
            rw [if_neg e5]
            simp [hs0, c]
  · exact Jfu (by omega)
end Go.Proofs.YtjobgpahajhbnabGreatDoor
namespace Go.Proofs.YtjobgpahajhbnabGreatDoor
open Go.RowKit
theorem Jgp {w : World} {B : Nat} {e : TypeId} {k : Nat} {v : Value} {n : Nat} {xs : List Value} (h : w.ownsRow B e k v n xs) :
    ∃ ao cap g, v = .slice ao n cap ∧ n ≤ cap ∧ (0 < n → ao = some ⟨g, 0, none⟩ ∧ g < w.heap.size) ∧ ∀ j, j < n * k → w.cell? ⟨g, j, none⟩ = xs[j]? := by
  obtain ⟨hl, ⟨rfl, rfl⟩ | ⟨g, cap, cur, rfl, hg, hc, hn, hm, hz, ht⟩⟩ := h
  · exact ⟨none, 0, 0, rfl, Nat.le_refl _, fun h => absurd h (by omega), fun j h => absurd h (by omega)⟩
  · have hw : w.ownsRow B e k (.slice (some ⟨g, 0, none⟩) n cap) n xs := ⟨hl, Or.inr ⟨g, cap, cur, rfl, hg, hc, hn, hm, hz, ht⟩⟩
    exact ⟨some ⟨g, 0, none⟩, cap, g, rfl, hn, fun _ => ⟨rfl, (hw.lt g rfl).2⟩, fun j hj => hw.cellAt j hj⟩
theorem Jn3 {α : Type} (f g p r t : α → Value) : ∀ (A : List α) (i : Nat) (h : i < A.length), (A.flatMap fun q => [f q, g q, p q, r q, t q])[i * 5]? = some (f A[i]) ∧ (A.flatMap fun q => [f q, g q, p q, r q, t q])[i * 5 + 1]? = some (g A[i]) ∧ (A.flatMap fun q => [f q, g q, p q, r q, t q])[i * 5 + 2]? = some (p A[i]) ∧ (A.flatMap fun q => [f q, g q, p q, r q, t q])[i * 5 + 3]? = some (r A[i]) ∧ (A.flatMap fun q => [f q, g q, p q, r q, t q])[i * 5 + 4]? = some (t A[i])
  | q :: A, 0, _ => by simp
  | q :: A, i + 1, h => by
    have ih := Jn3 f g p r t A i (by simpa using h)
    have e1 : (i + 1) * 5 = (i * 5) + 1 + 1 + 1 + 1 + 1 := by omega
    have e2 : (i + 1) * 5 + 1 = (i * 5 + 1) + 1 + 1 + 1 + 1 + 1 := by omega
    have e3 : (i + 1) * 5 + 2 = (i * 5 + 2) + 1 + 1 + 1 + 1 + 1 := by omega
    have e4 : (i + 1) * 5 + 3 = (i * 5 + 3) + 1 + 1 + 1 + 1 + 1 := by omega
    have e5 : (i + 1) * 5 + 4 = (i * 5 + 4) + 1 + 1 + 1 + 1 + 1 := by omega
    rw [List.flatMap_cons, e5, e4, e3, e2, e1]
    simp only [List.cons_append, List.nil_append, List.getElem?_cons_succ, List.getElem_cons_succ]
    exact ih
def toks (s : ByteArray) (A : List (Nat × Nat)) : List Tok := A.map fun q => ⟨Zb (s.extract q.1 q.2), Y0 (s.extract q.1 q.2), Yh (s.extract q.1 q.2), s.extract q.1 q.2, q.1⟩
theorem Y3 (s : ByteArray) (A : List (Nat × Nat)) : (toks s A).length = A.length := by simp [toks]
def tks (s : ByteArray) (A : List (Nat × Nat)) : List (Int × Int) := A.map fun q => (Zb (s.extract q.1 q.2), Y0 (s.extract q.1 q.2))
theorem Fg (s : ByteArray) (A : List (Nat × Nat)) : (tks s A).length = A.length := by simp [tks]
theorem Zr (s : ByteArray) (A : List (Nat × Nat)) : kr (toks s A) = tks s A := by simp [kr, toks, tks]
end Go.Proofs.YtjobgpahajhbnabGreatDoor
namespace Go.Proofs.YtjobgpahajhbnabGreatDoor
open Go.RowKit
inductive Ex where
  | num (ws : List Int)
  | name (t : ByteArray) (p : Nat)
  | one (t : ByteArray) (p : Nat) (r : Ex)
  | two (t : ByteArray) (p : Nat) (l r : Ex)
def IntsIn (B : Nat) (w : World) (v : Value) (ws : List Int) : Prop :=
  ∃ b cap, v = .slice (some ⟨b, 0, none⟩) ws.length cap ∧ ws.length ≤ cap ∧ B < b ∧ b < w.heap.size ∧ ∀ i, (h : i < ws.length) → w.cell? ⟨b, i, none⟩ = some (.int .i64 ws[i])
def IsEx (B : Nat) (w : World) : Option Addr → Ex → Prop
  | a, .num ws => ∃ b n, a = some ⟨b, 0, none⟩ ∧ B < b ∧ b < w.heap.size ∧ w.cell? ⟨b, 0, none⟩ = some (.int .i64 0) ∧ w.cell? ⟨b, 7, none⟩ = some n ∧ IntsIn B w n ws ∧ 0 < ws.length ∧ ws.length ≤ 200
  | a, .name t p => ∃ (b : Nat) (rr xx : Int), a = some ⟨b, 0, none⟩ ∧ B < b ∧ b < w.heap.size ∧ w.cell? ⟨b, 0, none⟩ = some (.int .i64 1) ∧ w.cell? ⟨b, 1, none⟩ = some (.int .i64 rr) ∧ w.cell? ⟨b, 2, none⟩ = some (.int .i64 xx) ∧ w.cell? ⟨b, 3, none⟩ = some (.string t) ∧ w.cell? ⟨b, 4, none⟩ = some (.int .i64 p)
  | a, .one t p r => ∃ (b : Nat) (k : Int) (q : Option Addr), a = some ⟨b, 0, none⟩ ∧ B < b ∧ b < w.heap.size ∧ w.cell? ⟨b, 0, none⟩ = some (.int .i64 k) ∧ k ≠ 0 ∧ k ≠ 1 ∧ w.cell? ⟨b, 3, none⟩ = some (.string t) ∧ w.cell? ⟨b, 4, none⟩ = some (.int .i64 p) ∧ w.cell? ⟨b, 5, none⟩ = some (.pointer none) ∧ w.cell? ⟨b, 6, none⟩ = some (.pointer q) ∧ IsEx B w q r
  | a, .two t p l r => ∃ (b : Nat) (k : Int) (ql q : Option Addr), a = some ⟨b, 0, none⟩ ∧ B < b ∧ b < w.heap.size ∧ w.cell? ⟨b, 0, none⟩ = some (.int .i64 k) ∧ k ≠ 0 ∧ k ≠ 1 ∧ w.cell? ⟨b, 3, none⟩ = some (.string t) ∧ w.cell? ⟨b, 4, none⟩ = some (.int .i64 p) ∧ w.cell? ⟨b, 5, none⟩ = some (.pointer ql) ∧ w.cell? ⟨b, 6, none⟩ = some (.pointer q) ∧ IsEx B w ql l ∧ IsEx B w q r
def Behind (B : Nat) (w w' : World) : Prop := w.heap.size ≤ w'.heap.size ∧ ∀ b, B < b → b < w.heap.size → w'.heap[b]? = w.heap[b]?
theorem Behind.cell {B : Nat} {w w' : World} (h : Behind B w w') {b : Nat} (h1 : B < b) (h2 : b < w.heap.size) (i : Nat) : w'.cell? ⟨b, i, none⟩ = w.cell? ⟨b, i, none⟩ := World.cell?_of_block (h.2 b h1 h2)
theorem Behind.of_below {B : Nat} {w w' : World} (h : Below w.heap.size w w') : Behind B w w' := ⟨h.size, fun b _ hb => h.block b hb⟩
theorem IntsIn.keep {B : Nat} {w w' : World} {v : Value} {ws : List Int} (h : IntsIn B w v ws) (hb : Behind B w w') : IntsIn B w' v ws := by
  obtain ⟨b, cap, hv, hl, h1, h2, hc⟩ := h
  exact ⟨b, cap, hv, hl, h1, Nat.lt_of_lt_of_le h2 hb.1, fun i hi => (hb.cell h1 h2 i).trans (hc i hi)⟩
theorem IsEx.keep {B : Nat} {w w' : World} (hb : Behind B w w') : ∀ {e : Ex} {a : Option Addr}, IsEx B w a e → IsEx B w' a e
  | .num ws, a, h => by
    obtain ⟨b, n, ha, h1, h2, c0, c7, hi, hp⟩ := h
    exact ⟨b, n, ha, h1, Nat.lt_of_lt_of_le h2 hb.1, (hb.cell h1 h2 0).trans c0, (hb.cell h1 h2 7).trans c7, hi.keep hb, hp⟩
  | .name t p, a, h => by
    obtain ⟨b, rr, xx, ha, h1, h2, c0, c1, c2, c3, c4⟩ := h
    exact ⟨b, rr, xx, ha, h1, Nat.lt_of_lt_of_le h2 hb.1, (hb.cell h1 h2 0).trans c0, (hb.cell h1 h2 1).trans c1, (hb.cell h1 h2 2).trans c2, (hb.cell h1 h2 3).trans c3, (hb.cell h1 h2 4).trans c4⟩
  | .one t p r, a, h => by
    obtain ⟨b, k, q, ha, h1, h2, c0, k0, k1, c3, c4, c5, c6, hr⟩ := h
    exact ⟨b, k, q, ha, h1, Nat.lt_of_lt_of_le h2 hb.1, (hb.cell h1 h2 0).trans c0, k0, k1, (hb.cell h1 h2 3).trans c3, (hb.cell h1 h2 4).trans c4, (hb.cell h1 h2 5).trans c5, (hb.cell h1 h2 6).trans c6, IsEx.keep hb hr⟩
  | .two t p l r, a, h => by
    obtain ⟨b, k, ql, q, ha, h1, h2, c0, k0, k1, c3, c4, c5, c6, hl, hr⟩ := h
    exact ⟨b, k, ql, q, ha, h1, Nat.lt_of_lt_of_le h2 hb.1, (hb.cell h1 h2 0).trans c0, k0, k1, (hb.cell h1 h2 3).trans c3, (hb.cell h1 h2 4).trans c4, (hb.cell h1 h2 5).trans c5, (hb.cell h1 h2 6).trans c6, IsEx.keep hb hl, IsEx.keep hb hr⟩
theorem IntsIn.mono {B B' : Nat} {w : World} {v : Value} {ws : List Int} (h : IntsIn B w v ws) (hb : B' ≤ B) : IntsIn B' w v ws := by
  obtain ⟨b, cap, hv, hl, h1, h2, hc⟩ := h
  exact ⟨b, cap, hv, hl, by omega, h2, hc⟩
theorem IsEx.mono {B B' : Nat} {w : World} (hb : B' ≤ B) : ∀ {e : Ex} {a : Option Addr}, IsEx B w a e → IsEx B' w a e
  | .num ws, a, h => by
    obtain ⟨b, n, ha, h1, h2, c0, c7, hi, hp⟩ := h
    exact ⟨b, n, ha, by omega, h2, c0, c7, hi.mono hb, hp⟩
  | .name t p, a, h => by
    obtain ⟨b, rr, xx, ha, h1, r⟩ := h
    exact ⟨b, rr, xx, ha, by omega, r⟩
  | .one t p r, a, h => by
    obtain ⟨b, k, q, ha, h1, h2, c0, k0, k1, c3, c4, c5, c6, hr⟩ := h
    exact ⟨b, k, q, ha, by omega, h2, c0, k0, k1, c3, c4, c5, c6, IsEx.mono hb hr⟩
  | .two t p l r, a, h => by
    obtain ⟨b, k, ql, q, ha, h1, h2, c0, k0, k1, c3, c4, c5, c6, hl, hr⟩ := h
    exact ⟨b, k, ql, q, ha, by omega, h2, c0, k0, k1, c3, c4, c5, c6, IsEx.mono hb hl, IsEx.mono hb hr⟩
theorem Kp.behind' {W0 w w' : World} {B : Nat} (h : Kp W0 w w') (hB : W0.heap.size ≤ B) : Behind B w w' := ⟨h.size, fun b hb hl => h.block b hl (fun e => by have := Option.some.inj e; omega)⟩
def Zu (S : List Tok) (j k : Nat) : List Int := ((S.take k).drop j).map Tok.x
theorem K3 (S : List Tok) (j k : Nat) (h : k ≤ S.length) : (Zu S j k).length = k - j := by
  simp [Zu, List.length_take, Nat.min_eq_left h]
theorem Xe (S : List Tok) (j k : Nat) (hj : j ≤ k) (hk : k < S.length) : Zu S j (k + 1) = Zu S j k ++ [(J5 S k).x] := by
  unfold Zu
  rw [Yo hk, List.take_add_one, List.getElem?_eq_getElem hk]
  rw [List.drop_append_of_le_length (by simp; omega)]
  simp
theorem Jdh (S : List Tok) (j : Nat) (hj : j < S.length) : Zu S j (j + 1) = [(J5 S j).x] := by
  rw [Xe S j j (Nat.le_refl _) hj]
  simp [Zu]
inductive PX (S : List Tok) : Bool → Nat → Nat → Ex → Nat → Prop where
  | nums (j o k : Nat) : j < k → k ≤ S.length → (∀ i, j ≤ i → i < k → kB (kr S) i 0 = true) → kB (kr S) k 0 = false → PX S true j o (.num (Zu S j k)) k
  | name (j o : Nat) : kB (kr S) j 1 = true → PX S true j o (.name (J5 S j).t (J5 S j).p) (j + 1)
  | paren (j o : Nat) (e : Ex) (k : Nat) : kB (kr S) j 4 = true → o < 8 → PX S false (j + 1) (o + 1) e k → kB (kr S) k 5 = true → PX S true j o e (k + 1)
  | one (j o : Nat) (r : Ex) (k : Nat) : fB (kr S) j 1 = true → PX S false (j + 1) o r k → PX S false j o (.one (J5 S j).t (J5 S j).p r) k
  | only (j o : Nat) (l : Ex) (k : Nat) : fB (kr S) j 1 = false → PX S true j o l k → fB (kr S) k 2 = false → PX S false j o l k
  | two (j o : Nat) (l : Ex) (k : Nat) (r : Ex) (m : Nat) : fB (kr S) j 1 = false → PX S true j o l k → fB (kr S) k 2 = true → PX S false (k + 1) o r m → PX S false j o (.two (J5 S k).t (J5 S k).p l r) m
theorem Tryz.info2 : (Tryz.prog.info? 2).map (fun i => (i.zero, i.size, i.bytes)) = some (some (.int .i64 0), 1, 8) := by kernel_rfl
theorem Nw {w : World} {B B' : Nat} {e : TypeId} {k : Nat} {v : Value} {n : Nat} {xs : List Value} (h : w.ownsRow B e k v n xs) (hb : B' ≤ B) : w.ownsRow B' e k v n xs := by
  obtain ⟨hl, h | ⟨g, cap, cur, hv, hg, r⟩⟩ := h
  · exact ⟨hl, .inl h⟩
  · exact ⟨hl, .inr ⟨g, cap, cur, hv, Nat.le_trans hb hg, r⟩⟩
theorem Nv {W0 w w' : World} {B : Nat} {e : TypeId} {k : Nat} {v : Value} {n : Nat} {xs : List Value} (h : w.ownsRow B e k v n xs) (hB : W0.heap.size < B) (hk : Kp W0 w w') : w'.ownsRow B e k v n xs :=
  h.kept hk (by
    right
    intro he
    have := (h.lt _ he).1
    omega)
theorem Jhp {w : World} {B : Nat} {v : Value} {ws : List Int} (h : w.ownsRow (B + 1) 2 1 v ws.length (ws.map (Value.int .i64))) (h0 : 0 < ws.length) : IntsIn B w v ws := by
  obtain ⟨hl, ⟨rfl, h⟩ | ⟨g, cap, cur, rfl, hg, r⟩⟩ := h
  · omega
  · have h' : w.ownsRow (B + 1) 2 1 (.slice (some ⟨g, 0, none⟩) ws.length cap) ws.length (ws.map (Value.int .i64)) := ⟨hl, .inr ⟨g, cap, cur, rfl, hg, r⟩⟩
    refine ⟨g, cap, rfl, r.2.1, by omega, (h'.lt g rfl).2, fun i hi => ?_⟩
    rw [h'.cellAt i (by omega)]
    simp [hi]
theorem Kp.grown {W0 w w1 w2 : World} (h : Kp W0 w w1) {row : Option Nat} (hg : w1.grownBy w2 row) (hr : ∀ k, row = some k → w.heap.size ≤ k) : Kp W0 w w2 :=
  ⟨hg.os.trans h.os, hg.tape.trans h.tape, hg.output.trans h.output, Nat.le_trans h.size hg.size, fun k hk hn => (hg.block k (Nat.lt_of_lt_of_le hk h.size) (fun e => by have := hr k e.symm; omega)).trans (h.block k hk hn)⟩
theorem Jmc {W0 w wr w1 w2 : World} {v : Value} {n : Nat} {xs : List Value} {o1 o2 : Obj} (h : Kp W0 w wr) (h1 : Kp W0 wr w1) (ho : w1.ownsRow w.heap.size 2 1 v n xs) (hg : ((w1.alloc o1).alloc o2).grownBy w2 v.ownBlock) (_ : W0.heap.size < w.heap.size) : Kp W0 w w2 :=
  (((h.trans h1).alloc o1).alloc o2).grown hg (fun k hk => (ho.lt k hk).1)
theorem Jnr {W0 w w1 w2 : World} {tk : Value} {j o : Nat} {v : Value} {n : Nat} {xs : List Value} {o1 o2 : Obj} (h : Rd W0 tk j o w1) (hl : W0.heap.size < w.heap.size) (ho : w1.ownsRow w.heap.size 2 1 v n xs) (hg : ((w1.alloc o1).alloc o2).grownBy w2 v.ownBlock) : Rd W0 tk j o w2 := by
  have h2 := (h.alloc o1).alloc o2
  have hb : w2.heap[W0.heap.size]? = ((w1.alloc o1).alloc o2).heap[W0.heap.size]? := hg.block _ h2.lt (fun e => by have := (ho.lt _ e.symm).1; omega)
  exact ⟨(h2.below.grown hg (by have := h2.lt; omega) (fun k hk => by have := (ho.lt k hk).1; omega)), (World.cell?_of_block hb).trans h2.tok, (World.cell?_of_block hb).trans h2.nxt, (World.cell?_of_block hb).trans h2.opn, (World.frozen?_of_block hb).trans h2.fr1, (World.frozen?_of_block hb).trans h2.fr2, Nat.lt_of_lt_of_le h2.lt hg.size⟩
set_option maxHeartbeats 1000000 in
theorem Jbp (W0 : World) (ao : Option Addr) (tb cap : Nat) (S : List Tok) (hT : TokIn W0 ao tb S) (j o : Nat) (w : World) (hj0 : j < S.length) (hw : Rd W0 (.slice ao S.length cap) (j + 1) o w) :
    Calls Tryz.prog 141 #[.pointer (some ⟨W0.heap.size, 0, none⟩), .int .i64 (J5 S j).x] w fun e w' => ∃ k v, e = .returned v ∧ j < k ∧ k ≤ S.length ∧ (∀ i, j < i → i < k → kB (kr S) i 0 = true) ∧ kB (kr S) k 0 = false ∧ Rd W0 (.slice ao S.length cap) k o w' ∧ Kp W0 w w' ∧ w'.ownsRow w.heap.size 2 1 v (k - j) ((Zu S j k).map (Value.int .i64)) := by
  obtain ⟨i0, hi, hz0, hz1, hz2⟩ := info_parts Tryz.info2
  have HI := hide hi
  have HZ0 := hide hz0
  have HZ1 := hide hz1
  have HZ2 := hide hz2
  have HW := hide hw
  have HT := hide hT
  have hfew := hT.few
  have hlt := hw.lt
  have HO : Hid ((w.alloc (.cells #[.int .i64 (J5 S j).x] 2)).ownsRow w.heap.size 2 1 (.slice (some ⟨w.heap.size, 0, none⟩) 1 1) 1 [.int .i64 (J5 S j).x]) :=
    World.ownsRow_lit (e := 2) (size := 1) w #[.int .i64 (J5 S j).x] 1 (Nat.le_refl _) (by unfold maxLen; omega) rfl
  have HX := hide (Jdh S j hj0)
  obtain ⟨x, hx⟩ : ∃ x, (J5 S j).x = x := ⟨_, rfl⟩
  rw [hx] at HO HX ⊢
  clear hi hz0 hz1 hz2 hw hT hx
  go_enter Tryz.func141, Tryz.ntmps141
  go_wp2_with fail
  go_loopg [5] (S.length) (fun g v wr => ∃ k, j < k ∧ k ≤ S.length ∧ S.length - k ≤ g ∧ (∀ i, j < i → i < k → kB (kr S) i 0 = true) ∧ Rd W0 (.slice ao S.length cap) k o wr ∧ Kp W0 w wr ∧ wr.ownsRow w.heap.size 2 1 v (k - j) ((Zu S j k).map (Value.int .i64)))
  case atStart =>
    refine ⟨j + 1, by omega, by omega, by omega, fun i h1 h2 => by omega, (Ja HW).alloc _, (Kp.refl W0 w).alloc _, ?_⟩
    rw [Ja HX]
    have : j + 1 - j = 1 := by omega
    rw [this]
    exact Ja HO
  case round =>
    obtain ⟨k, hjk, hkl, hg, hall, hwr, hkp, hown⟩ := hrel
    have HWr := hide hwr
    have HKp := hide hkp
    have HOw := hide hown
    have HAll := hide hall
    clear hwr hkp hown hall
    cases hk : kB (kr S) k 0
    · have HK := hide hk
      clear hk
      go_wp2_with fail
      refine (Zt W0 ao tb cap S 0 k o _ (Ja HT) hkl (Ja HWr)).mono ?_
      rintro e w1 ⟨rfl, hw1, hk1⟩
      rw [Ja HK] at hw1 ⊢
      unfold Tok.v tokX
      have HW1 : Hid (Rd W0 (.slice ao S.length cap) k o w1) := hw1
      have HK1 := hide hk1
      clear hw1 hk1
      go_wp2_with fail
      go_ret
      refine ⟨k, _, rfl, hjk, hkl, Ja HAll, Ja HK, (Ja HW1).alloc _, ((Ja HKp).trans (Ja HK1)).alloc _, ?_⟩
      exact (Nv (Ja HOw) hlt (Ja HK1)).alloc _
    · obtain ⟨hkl', _⟩ := Vw hk
      rw [Yq] at hkl'
      have HSN := hide (Xe S j k (by omega) hkl')
      have HK := hide hk
      clear hk
      obtain ⟨q, hq⟩ : ∃ q, J5 S k = q := ⟨_, rfl⟩
      have HQ := hide hq
      go_wp2_with fail
      refine (Zt W0 ao tb cap S 0 k o _ (Ja HT) hkl (Ja HWr)).mono ?_
      rintro e w1 ⟨rfl, hw1, hk1⟩
      rw [Ja HK] at hw1 ⊢
      simp only [cond_true, hq]
      rw [hq] at HSN
      obtain ⟨kk, rr, xx, tt, pp⟩ := q
      clear hq
      unfold Tok.v tokX
      have HW1 : Hid (Rd W0 (.slice ao S.length cap) (k + 1) o w1) := hw1
      have HK1 := hide hk1
      clear hw1 hk1
      have hs1 : w.heap.size ≤ w1.heap.size := Nat.le_trans (Ja HKp).size (Ja HK1).size
      have HO1 := hide (Nv (Ja HOw) hlt (Ja HK1))
      go_wp2_with (at_builtin; refine wpList_append_own _ rfl _ _ 32 rfl w.heap.size 2 i0 (.int .i64 0) 1 8 Tryz.underlying32 (Ja HI) (Ja HZ0) (Ja HZ1) (Ja HZ2) rfl (by decide) _ _ _ rfl (((Ja HO1).alloc _).alloc _) ⟨w1.heap.size + 1, 0, none⟩ 1 1 [.int .i64 xx] rfl rfl ?c1 ?c2 ?c3 ?c4 ?c5 ?_)
      case c2 => rfl
      case c3 => unfold maxLen; omega
      case c4 => omega
      case c5 => omega
      · intro v' w2 hown2 hgrow _
        have HR := hide (Jmc (W0 := W0) (Ja HKp) (Ja HK1) (Ja HO1) hgrow hlt)
        have HW2 : Hid (Rd W0 (.slice ao S.length cap) (k + 1) o w2) := Jnr (Ja HW1) hlt (Ja HO1) hgrow
        have HO2 := hide hown2
        clear hown2 hgrow
        go_wp2_with fail
        go_roundg (S.length - (k + 1))
        case measure => omega
        case rel =>
          refine ⟨k + 1, by omega, by omega, by omega, fun i h1 h2 => ?_, Ja HW2, Ja HR, ?_⟩
          · by_cases e : i = k
            · rw [e]; exact Ja HK
            · exact Ja HAll i h1 (by omega)
          · rw [Ja HSN]
            have : k + 1 - j = k - j + 1 := by omega
            rw [this, List.map_append]
            exact Ja HO2
end Go.Proofs.YtjobgpahajhbnabGreatDoor
