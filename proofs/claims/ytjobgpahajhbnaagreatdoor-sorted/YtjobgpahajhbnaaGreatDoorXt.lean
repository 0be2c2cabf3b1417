import Derived.Test.YtjobgpahajhbnaaGreatDoorXq
import Derived.Test.YtjobgpahajhbnaaGreatDoorVb
import Derived.Deep.Slices
namespace Go.Proofs.YtjobgpahajhbnaaGreatDoor
open Go.ChangeShapes Go.WideShapes Go.ChangeAt Go.WideMaps Go.WideElems Go.RowKit

theorem raw_of {H : Type} {enc : TypeId × Value → H} {W : World} {ao : Option Addr} {len cap : Nat} {d : DataW H} {p : List MemPlace} (h : DataW.Trod enc Tryz.prog W 0 (fun _ => true) true 37 (.slice ao len cap) d p) :
    ∃ xs : List Int, xs.length = len ∧ RawIn W ao xs ∧ len ≤ 9223372036854775807 ∧ (0 < len → ∀ b off, ao = some ⟨b, off, none⟩ → b < W.heap.size) := by
  obtain ⟨fuel, hf⟩ := h
  rcases Deep.open_slice1 Tryz.underlying37 Tryz.cells3 hf with ⟨hcs, _⟩ | ⟨a, len', cap', m, n, V, D, Pl, hcs, _, hl, hm, hmm, _, hel⟩
  · have hcs : [Value.slice ao len cap] = [.slice none 0 0] := hcs
    obtain ⟨rfl, rfl, rfl⟩ : ao = none ∧ len = 0 ∧ cap = 0 := by simpa using hcs
    exact ⟨[], rfl, ⟨(fun _ h => by cases h), fun h => absurd h (by simp)⟩, by omega, fun h => absurd h (by omega)⟩
  · have hcs : [Value.slice ao len cap] = [.slice (some a) len' cap'] := hcs
    obtain ⟨rfl, rfl, rfl⟩ : ao = some a ∧ len = len' ∧ cap = cap' := by simpa using hcs
    have hlm : len ≤ m := by rw [hmm]; split <;> omega
    have hlb : len ≤ 9223372036854775807 := by unfold maxLen at hm; omega
    obtain ⟨X, hX⟩ := Deep.choose_lt (n := len) (p := fun i (x : Int) => W.cell? (a.add i) = some (.int .i64 x) ∧ fit64 x) (fun i hi => by
      obtain ⟨h1, h2⟩ := hel i (by omega)
      obtain ⟨x, ex, _, hw⟩ := DataW.trod_int Tryz.underlying3 h2
      have ex : V i = .int .i64 x := by simpa using ex
      exact ⟨x, by rw [h1, ex], fit_wf hw⟩)
    obtain ⟨b, off, spot⟩ := a
    by_cases hz : len = 0
    · subst hz
      exact ⟨[], rfl, ⟨(fun _ h => by cases h), fun h => absurd h (by simp)⟩, by omega, fun h => absurd h (by omega)⟩
    have hspot : spot = none := by simpa [Addr.add] using World.cell?_spot (hX 0 (by omega)).1
    subst hspot
    refine ⟨(List.range len).map X, by simp, ⟨?_, fun _ => ⟨b, off, rfl, ?_⟩⟩, hlb, ?_⟩
    · intro c hc
      simp only [List.mem_map, List.mem_range] at hc
      obtain ⟨i, hi, rfl⟩ := hc
      exact (hX i hi).2
    · intro i hi
      simp only [List.length_map, List.length_range] at hi
      have := (hX i hi).1
      rw [add_plain] at this
      simpa using this
    · intro _ b' off' e
      have e : b = b' := by injection e with e; injection e
      subst e
      have := (hX 0 (by omega)).1
      exact lt_of_cell (o := off) (by simpa [Addr.add] using this)

end Go.Proofs.YtjobgpahajhbnaaGreatDoor
