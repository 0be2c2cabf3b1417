import Derived.Test.YtjobgpahajhbnaaGreatDoorTp
namespace Go.Proofs.YtjobgpahajhbnaaGreatDoor
open Go.RowKit Go.Proofs Go.Maps
attribute [local go_sem ↓] Go.wp_at_zero Go.wp_at_succ

def keepL : List Int → List Int → List Int → Option (List Int)
  | t :: ts, b :: bs, acc => if 64 - (acc.length : Int) < t then none else keepL ts bs (acc ++ List.replicate t.toNat b)
  | _, _, acc => some acc
def keepR (ts bs : List Int) : Arr × Int := match keepL ts bs [] with
  | none => (eArr, 9)
  | some cs => (⟨[cs.length], cs⟩, 0)
def negB (x : Int) : Bool := decide (x < 0)
def keepP (a b : Arr) : Arr × Int := if b.shape.length ≠ 1 ∨ 1 < a.shape.length then (eArr, 5) else if a.shape.length = 1 ∧ a.cells.length ≠ b.cells.length then (eArr, 6) else if a.cells.any negB = true then (eArr, 7) else keepR (if a.shape.length = 0 then List.replicate b.cells.length (a.cells.headD 0) else a.cells) b.cells
theorem isArr_cells {P : Nat → Prop} {w : World} {so : Option Addr} {sn sc : Nat} {co : Option Addr} {cn cc : Nat} {a : Arr} (h : IsArr P w (.agg #[.slice so sn sc, .slice co cn cc]) a) : Nums P w (.slice co cn cc) a.cells := by
  obtain ⟨so', sn', sc', co', cn', cc', hv, _, h2⟩ := h
  injection hv with hv
  simp at hv
  obtain ⟨_, rfl, rfl, rfl⟩ := hv
  exact h2
end Go.Proofs.YtjobgpahajhbnaaGreatDoor
