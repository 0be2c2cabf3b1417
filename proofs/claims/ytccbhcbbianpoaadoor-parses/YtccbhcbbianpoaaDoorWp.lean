import Derived.Test.YtccbhcbbianpoaaDoorWa
import Derived.Deep.QuietTactic
import Derived.BigQuiet
namespace Go.Proofs.YtccbhcbbianpoaaDoor
open Go.RowKit

/-- the reader lies in block W0.heap.size; below it all is as in W0 -/
structure Rd (W0 : World) (tk : Value) (j o : Nat) (w : World) : Prop where
  below : Below W0.heap.size W0 w
  tok : w.cell? ⟨W0.heap.size, 0, none⟩ = some tk
  nxt : w.cell? ⟨W0.heap.size, 1, none⟩ = some (.int .i64 j)
  opn : w.cell? ⟨W0.heap.size, 2, none⟩ = some (.int .i64 o)
  fr1 : w.frozen? ⟨W0.heap.size, 1, none⟩ = false
  fr2 : w.frozen? ⟨W0.heap.size, 2, none⟩ = false
/-- the tokens of the slice lie in W0: of each its kind and its roles -/
structure TokIn (W0 : World) (ao : Option Addr) (tb : Nat) (T : List (Int × Int)) : Prop where
  few : T.length ≤ 200
  addr : 0 < T.length → ao = some ⟨tb, 0, none⟩ ∧ tb < W0.heap.size
  kind : ∀ i, (h : i < T.length) → W0.cell? ⟨tb, i * 4, none⟩ = some (.int .i64 T[i].1)
  role : ∀ i, (h : i < T.length) → W0.cell? ⟨tb, i * 4 + 1, none⟩ = some (.int .i64 T[i].2)
def roleB (a b : Int) : Bool := bits BinOp.and IntKind.i64 a b != 0
/-- does a function stand at j that has this role? -/
def fB (T : List (Int × Int)) (j : Nat) (role : Int) : Bool := match T[j]? with
  | some q => roleB q.2 role
  | none => false
/-- does a token of this kind stand at j? -/
def kB (T : List (Int × Int)) (j : Nat) (kind : Int) : Bool := match T[j]? with
  | some q => q.1 == kind
  | none => false
theorem Rd.drewN {W0 : World} {tk : Value} {j o : Nat} {w : World} (h : Rd W0 tk j o w) (n : Nat) : Rd W0 tk j o (w.drewN n) :=
  ⟨⟨h.below.os, h.below.tape, h.below.output, h.below.size, h.below.block⟩, h.tok, h.nxt, h.opn, h.fr1, h.fr2⟩
theorem Rd.next {W0 : World} {tk : Value} {j o : Nat} {w : World} (h : Rd W0 tk j o w) (k : Nat) : Rd W0 tk k o (w.setCell ⟨W0.heap.size, 1, none⟩ (.int .i64 k)) :=
  ⟨h.below.setCell (Nat.le_refl _) _, (World.cell?_setCell_other _ _ _ _ (by simp)).trans h.tok, World.cell?_setCell_same _ _ _ h.nxt, (World.cell?_setCell_other _ _ _ _ (by simp)).trans h.opn,
    (World.frozen?_setCell _ _ _ _).trans h.fr1, (World.frozen?_setCell _ _ _ _).trans h.fr2⟩
theorem Rd.opened {W0 : World} {tk : Value} {j o : Nat} {w : World} (h : Rd W0 tk j o w) (k : Nat) : Rd W0 tk j k (w.setCell ⟨W0.heap.size, 2, none⟩ (.int .i64 k)) :=
  ⟨h.below.setCell (Nat.le_refl _) _, (World.cell?_setCell_other _ _ _ _ (by simp)).trans h.tok, (World.cell?_setCell_other _ _ _ _ (by simp)).trans h.nxt, World.cell?_setCell_same _ _ _ h.opn,
    (World.frozen?_setCell _ _ _ _).trans h.fr1, (World.frozen?_setCell _ _ _ _).trans h.fr2⟩

set_option maxHeartbeats 400000 in
theorem func_yes (W0 : World) (tb n cap : Nat) (role x : Int) (j o : Nat) (w : World) (hw : Rd W0 (.slice (some ⟨tb, 0, none⟩) n cap) j o w) (cr : w.cell? ⟨tb, j * 4 + 1, none⟩ = some (.int .i64 x)) (hj : (j : Int) < (n : Int)) (hn : n ≤ 200) (ht : (bits BinOp.and IntKind.i64 x role != 0) = true) :
    Calls Tryd.prog 35 #[.pointer (some ⟨W0.heap.size, 0, none⟩), .int .i64 role] w fun e w' => e = .returned (.bool true) ∧ Rd W0 (.slice (some ⟨tb, 0, none⟩) n cap) (j + 1) o w' := by
  have HW := hide hw
  obtain ⟨_, c0, c1, _, f1, _⟩ := hw
  go_enter Tryd.func35, Tryd.ntmps35
  go_wp2_with fail
  go_quiet (fail)
  go_wp2_with fail
  go_ret
  refine ⟨rfl, ?_⟩
  exact ((unhide HW).next (j + 1)).drewN _
set_option maxHeartbeats 400000 in
theorem func_no (W0 : World) (tb n cap : Nat) (role x : Int) (j o : Nat) (w : World) (hw : Rd W0 (.slice (some ⟨tb, 0, none⟩) n cap) j o w) (cr : w.cell? ⟨tb, j * 4 + 1, none⟩ = some (.int .i64 x)) (hj : (j : Int) < (n : Int)) (ht : (bits BinOp.and IntKind.i64 x role != 0) = false) :
    Calls Tryd.prog 35 #[.pointer (some ⟨W0.heap.size, 0, none⟩), .int .i64 role] w fun e w' => e = .returned (.bool false) ∧ Rd W0 (.slice (some ⟨tb, 0, none⟩) n cap) j o w' := by
  have HW := hide hw
  obtain ⟨_, c0, c1, _, f1, _⟩ := hw
  go_enter Tryd.func35, Tryd.ntmps35
  go_wp2_with fail
  go_quiet (fail)
  go_wp2_with fail
  go_ret
  exact ⟨rfl, (unhide HW).drewN _⟩
set_option maxHeartbeats 400000 in
theorem func_end (W0 : World) (ao : Option Addr) (n cap : Nat) (role : Int) (j o : Nat) (w : World) (hw : Rd W0 (.slice ao n cap) j o w) (hj : decide (j < n) = false) :
    Calls Tryd.prog 35 #[.pointer (some ⟨W0.heap.size, 0, none⟩), .int .i64 role] w fun e w' => e = .returned (.bool false) ∧ Rd W0 (.slice ao n cap) j o w' := by
  have HW := hide hw
  obtain ⟨_, c0, c1, _, _, _⟩ := hw
  go_enter Tryd.func35, Tryd.ntmps35
  go_wp2_with fail
  go_quiet (fail)
  go_wp2_with fail
  go_ret
  exact ⟨rfl, (unhide HW).drewN _⟩

set_option maxHeartbeats 400000 in
theorem acc_yes (W0 : World) (tb n cap : Nat) (kind x : Int) (j o : Nat) (w : World) (hw : Rd W0 (.slice (some ⟨tb, 0, none⟩) n cap) j o w) (cr : w.cell? ⟨tb, j * 4, none⟩ = some (.int .i64 x)) (hj : (j : Int) < (n : Int)) (hn : n ≤ 200) (ht : (x == kind) = true) :
    Calls Tryd.prog 42 #[.pointer (some ⟨W0.heap.size, 0, none⟩), .int .i64 kind] w fun e w' => e = .returned (.bool true) ∧ Rd W0 (.slice (some ⟨tb, 0, none⟩) n cap) (j + 1) o w' := by
  have HW := hide hw
  obtain ⟨_, c0, c1, _, f1, _⟩ := hw
  go_enter Tryd.func42, Tryd.ntmps42
  go_wp2_with fail
  go_quiet (fail)
  go_wp2_with fail
  go_ret
  refine ⟨rfl, ?_⟩
  exact ((unhide HW).next (j + 1)).drewN _
set_option maxHeartbeats 400000 in
theorem acc_no (W0 : World) (tb n cap : Nat) (kind x : Int) (j o : Nat) (w : World) (hw : Rd W0 (.slice (some ⟨tb, 0, none⟩) n cap) j o w) (cr : w.cell? ⟨tb, j * 4, none⟩ = some (.int .i64 x)) (hj : (j : Int) < (n : Int)) (ht : (x == kind) = false) :
    Calls Tryd.prog 42 #[.pointer (some ⟨W0.heap.size, 0, none⟩), .int .i64 kind] w fun e w' => e = .returned (.bool false) ∧ Rd W0 (.slice (some ⟨tb, 0, none⟩) n cap) j o w' := by
  have HW := hide hw
  obtain ⟨_, c0, c1, _, f1, _⟩ := hw
  go_enter Tryd.func42, Tryd.ntmps42
  go_wp2_with fail
  go_quiet (fail)
  go_wp2_with fail
  go_ret
  exact ⟨rfl, (unhide HW).drewN _⟩
set_option maxHeartbeats 400000 in
theorem acc_end (W0 : World) (ao : Option Addr) (n cap : Nat) (kind : Int) (j o : Nat) (w : World) (hw : Rd W0 (.slice ao n cap) j o w) (hj : decide (j < n) = false) :
    Calls Tryd.prog 42 #[.pointer (some ⟨W0.heap.size, 0, none⟩), .int .i64 kind] w fun e w' => e = .returned (.bool false) ∧ Rd W0 (.slice ao n cap) j o w' := by
  have HW := hide hw
  obtain ⟨_, c0, c1, _, _, _⟩ := hw
  go_enter Tryd.func42, Tryd.ntmps42
  go_wp2_with fail
  go_quiet (fail)
  go_wp2_with fail
  go_ret
  exact ⟨rfl, (unhide HW).drewN _⟩

theorem func_any (W0 : World) (ao : Option Addr) (tb cap : Nat) (T : List (Int × Int)) (role : Int) (j o : Nat) (w : World) (hT : TokIn W0 ao tb T) (hw : Rd W0 (.slice ao T.length cap) j o w) :
    Calls Tryd.prog 35 #[.pointer (some ⟨W0.heap.size, 0, none⟩), .int .i64 role] w fun e w' => e = .returned (.bool (fB T j role)) ∧ Rd W0 (.slice ao T.length cap) (bif fB T j role then j + 1 else j) o w' := by
  by_cases hj : j < T.length
  · obtain ⟨rfl, hlt⟩ := hT.addr (by omega)
    have hf := hT.few
    have e : T[j]? = some T[j] := List.getElem?_eq_getElem hj
    have cr := (hw.below.cell (p := ⟨tb, j * 4 + 1, none⟩) hlt).trans (hT.role j hj)
    cases ht : fB T j role
    · exact func_no W0 tb T.length cap role T[j].2 j o w hw cr (by omega) (by unfold fB at ht; rw [e] at ht; exact ht)
    · exact func_yes W0 tb T.length cap role T[j].2 j o w hw cr (by omega) hf (by unfold fB at ht; rw [e] at ht; exact ht)
  · have e : T[j]? = none := List.getElem?_eq_none (by omega)
    have ht : fB T j role = false := by unfold fB; rw [e]
    rw [ht]
    exact func_end W0 ao T.length cap role j o w hw (decide_eq_false (by omega))

theorem acc_any (W0 : World) (ao : Option Addr) (tb cap : Nat) (T : List (Int × Int)) (kind : Int) (j o : Nat) (w : World) (hT : TokIn W0 ao tb T) (hw : Rd W0 (.slice ao T.length cap) j o w) :
    Calls Tryd.prog 42 #[.pointer (some ⟨W0.heap.size, 0, none⟩), .int .i64 kind] w fun e w' => e = .returned (.bool (kB T j kind)) ∧ Rd W0 (.slice ao T.length cap) (bif kB T j kind then j + 1 else j) o w' := by
  by_cases hj : j < T.length
  · obtain ⟨rfl, hlt⟩ := hT.addr (by omega)
    have hf := hT.few
    have e : T[j]? = some T[j] := List.getElem?_eq_getElem hj
    have cr := (hw.below.cell (p := ⟨tb, j * 4, none⟩) hlt).trans (hT.kind j hj)
    cases ht : kB T j kind
    · exact acc_no W0 tb T.length cap kind T[j].1 j o w hw cr (by omega) (by unfold kB at ht; rw [e] at ht; exact ht)
    · exact acc_yes W0 tb T.length cap kind T[j].1 j o w hw cr (by omega) hf (by unfold kB at ht; rw [e] at ht; exact ht)
  · have e : T[j]? = none := List.getElem?_eq_none (by omega)
    have ht : kB T j kind = false := by unfold kB; rw [e]
    rw [ht]
    exact acc_end W0 ao T.length cap kind j o w hw (decide_eq_false (by omega))
end Go.Proofs.YtccbhcbbianpoaaDoor
