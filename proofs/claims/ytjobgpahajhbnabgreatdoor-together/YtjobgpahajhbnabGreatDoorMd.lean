import Derived.Test.YtjobgpahajhbnabGreatDoorMb
namespace Go.Proofs.YtjobgpahajhbnabGreatDoor
open Go.RowKit Go.Proofs Go.Maps
attribute [local go_sem ↓] Go.wp_at_zero Go.wp_at_succ
theorem DskN.moLt {X : Nat → Prop} {db : Nat} {fuel : Int} {env : ByteArray → Option Arr} {N : Nat} {mo : Option Nat} {w : World} (h : DskN X db fuel env N mo w) : ∀ mb, mo = some mb → mb < w.heap.size := by
  intro mb e
  subst e
  obtain ⟨_, _, _, D, ⟨es, clock, g1, _⟩, _⟩ := h.map
  exact (Array.getElem?_eq_some_iff.1 g1).1
theorem Fx {db b : Nat} {mo : Option Nat} (h1 : b ≠ db) (h2 : mo ≠ some b) : ¬ Own db mo b := fun h => h.elim h1 h2
structure Xr (X0 : Nat → Prop) (db : Nat) (mo : Option Nat) (n b : Nat) : Prop where
  old : X0 b ∨ n ≤ b
  nd : b ≠ db
  nm : mo ≠ some b
  nr : b ≠ n
end Go.Proofs.YtjobgpahajhbnabGreatDoor
