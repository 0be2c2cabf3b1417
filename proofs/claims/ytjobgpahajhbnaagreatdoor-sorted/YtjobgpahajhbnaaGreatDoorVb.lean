import Derived.Test.YtjobgpahajhbnaaGreatDoorEb
namespace Go.Proofs.YtjobgpahajhbnaaGreatDoor
open Go.RowKit Go.Proofs
attribute [local go_sem ↓] Go.wp_at_zero Go.wp_at_succ

/-- raw numbers in memory -/
def RawIn (w : World) (ao : Option Addr) (xs : List Int) : Prop :=
  (∀ c ∈ xs, fit64 c) ∧ (0 < xs.length → ∃ b off, ao = some ⟨b, off, none⟩ ∧ ∀ i, (h : i < xs.length) → w.cell? ⟨b, off + i, none⟩ = some (.int .i64 xs[i]))
end Go.Proofs.YtjobgpahajhbnaaGreatDoor
