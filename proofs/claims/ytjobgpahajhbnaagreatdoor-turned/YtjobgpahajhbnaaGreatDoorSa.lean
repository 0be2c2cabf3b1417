import Derived.Test.YtjobgpahajhbnaaGreatDoorWa
import Derived.Deep.QuietTactic
import Derived.BigQuiet
import Derived.Deep.RegionHeld3
namespace Go.Proofs.YtjobgpahajhbnaaGreatDoor
open Go.RowKit

def tokX (k r x : Int) (t : ByteArray) (p : Int) : Value := .agg #[.int .i64 k, .int .i64 r, .int .i64 x, .string t, .int .i64 p]
structure Tok where
  k : Int
  r : Int
  x : Int
  t : ByteArray
  p : Nat
def Tok.v (q : Tok) : Value := tokX q.k q.r q.x q.t q.p
/-- the reader lies in block W0.heap.size; below it all is as in W0 -/
structure Rd (W0 : World) (tk : Value) (j o : Nat) (w : World) : Prop where
  below : Below W0.heap.size W0 w
  tok : w.cell? ⟨W0.heap.size, 0, none⟩ = some tk
  nxt : w.cell? ⟨W0.heap.size, 1, none⟩ = some (.int .i64 j)
  opn : w.cell? ⟨W0.heap.size, 2, none⟩ = some (.int .i64 o)
  fr1 : w.frozen? ⟨W0.heap.size, 1, none⟩ = false
  fr2 : w.frozen? ⟨W0.heap.size, 2, none⟩ = false
  lt : W0.heap.size < w.heap.size
/-- the tokens of the slice lie in W0 -/
structure TokIn (W0 : World) (ao : Option Addr) (tb : Nat) (S : List Tok) : Prop where
  few : S.length ≤ 200
  addr : 0 < S.length → ao = some ⟨tb, 0, none⟩ ∧ tb < W0.heap.size
  cell : ∀ i, (h : i < S.length) → W0.cell? ⟨tb, i * 5, none⟩ = some (.int .i64 S[i].k) ∧ W0.cell? ⟨tb, i * 5 + 1, none⟩ = some (.int .i64 S[i].r) ∧ W0.cell? ⟨tb, i * 5 + 2, none⟩ = some (.int .i64 S[i].x) ∧ W0.cell? ⟨tb, i * 5 + 3, none⟩ = some (.string S[i].t) ∧ W0.cell? ⟨tb, i * 5 + 4, none⟩ = some (.int .i64 S[i].p)
def kr (S : List Tok) : List (Int × Int) := S.map fun q => (q.k, q.r)
theorem kr_len (S : List Tok) : (kr S).length = S.length := by simp [kr]
def roleB (a b : Int) : Bool := bits BinOp.and IntKind.i64 a b != 0
/-- does a function stand at j that has this role? -/
def fB (T : List (Int × Int)) (j : Nat) (role : Int) : Bool := match T[j]? with
  | some q => roleB q.2 role
  | none => false
/-- does a token of this kind stand at j? -/
def kB (T : List (Int × Int)) (j : Nat) (kind : Int) : Bool := match T[j]? with
  | some q => q.1 == kind
  | none => false

set_option maxHeartbeats 400000 in
theorem cl_role (q : Tok) (role : Int) (B : Nat) (w : World) (hB : B < w.heap.size) (hc : w.cell? ⟨B, 0, none⟩ = some (.int .i64 role)) :
    Calls Tryz.prog 216 #[q.v, .pointer (some ⟨B, 0, none⟩)] w fun e w' => e = .returned (.bool (roleB q.r role)) ∧ Below w.heap.size w w' := by
  obtain ⟨k, r, x, t, p⟩ := q
  unfold Tok.v tokX
  go_enter Tryz.func216, Tryz.ntmps216
  go_wp2
  go_ret
  exact ⟨rfl, (Below.refl _ _).alloc (Nat.le_refl _) _⟩
set_option maxHeartbeats 400000 in
theorem cl_kind (q : Tok) (kind : Int) (B : Nat) (w : World) (hB : B < w.heap.size) (hc : w.cell? ⟨B, 0, none⟩ = some (.int .i64 kind)) :
    Calls Tryz.prog 271 #[q.v, .pointer (some ⟨B, 0, none⟩)] w fun e w' => e = .returned (.bool (q.k == kind)) ∧ Below w.heap.size w w' := by
  obtain ⟨k, r, x, t, p⟩ := q
  unfold Tok.v tokX
  go_enter Tryz.func271, Tryz.ntmps271
  go_wp2
  go_ret
  exact ⟨rfl, (Below.refl _ _).alloc (Nat.le_refl _) _⟩
end Go.Proofs.YtjobgpahajhbnaaGreatDoor
