import Derived.Test.YtmleaaagehomjaaDoorPv
import Derived.Test.YtmleaaagehomjaaDoorWm
import Derived.Deep.QuietTactic
import Derived.BigQuiet
namespace Go.Proofs.YtmleaaagehomjaaDoor
open Go.RowKit

/-- the document's tokens lie in a world -/
structure RefIn (w : World) (ao : Option Addr) (g cap : Nat) (s : ByteArray) (A : List (Nat × Nat)) : Prop where
  few : A.length ≤ 200
  cp : A.length ≤ cap
  addr : 0 < A.length → ao = some ⟨g, 0, none⟩ ∧ g < w.heap.size
  txt : ∀ i, (h : i < A.length) → w.cell? ⟨g, i * 2, none⟩ = some (.string (s.extract A[i].1 A[i].2))
  plc : ∀ i, (h : i < A.length) → w.cell? ⟨g, i * 2 + 1, none⟩ = some (.int .i64 A[i].1)
  ok : AllV s A
theorem refIn_of {w : World} {B : Nat} {v : Value} {s : ByteArray} (hs : s.size ≤ 200) (h : w.ownsRow B 43 2 v (lexR s).1.length (cellsR s (lexR s).1)) :
    ∃ ao g cap, v = .slice ao (lexR s).1.length cap ∧ RefIn w ao g cap s (lexR s).1 := by
  obtain ⟨ao, cap, g, hv, hc, ha, hcell⟩ := owns_view h
  have hfew := lex_few s s.size 0 [] (by simp) (by omega)
  refine ⟨ao, g, cap, hv, ⟨by unfold lexR; omega, hc, ha, ?_, ?_, lexR_all s hs⟩⟩
  · intro i hi
    rw [hcell (i * 2) (by omega)]
    exact (flat2 (fun q : Nat × Nat => Value.string (s.extract q.1 q.2)) (fun q => Value.int .i64 q.1) _ i hi).1
  · intro i hi
    rw [hcell (i * 2 + 1) (by omega)]
    exact (flat2 (fun q : Nat × Nat => Value.string (s.extract q.1 q.2)) (fun q => Value.int .i64 q.1) _ i hi).2

set_option maxHeartbeats 400000 in
theorem read_long (s : ByteArray) (w : World) (h : 200 < s.size) (hm : s.size ≤ 9223372036854775807) :
    Calls Tryd.prog 6 #[.string s] w fun e w' => ∃ v0 v3, e = .returned (.tuple #[v0, .int .i64 1, .int .i64 0, v3]) ∧ Below w.heap.size w w' := by
  go_enter Tryd.func6, Tryd.ntmps6
  go_wp2_with fail
  refine bodyPost_ret (v := .tuple #[.slice none 0 0, .int .i64 1, .int .i64 0, .string ⟨#[]⟩]) (by simp [results, Tryd.results6, go_sem]) rfl ⟨_, _, rfl, Below.refl _ _⟩

set_option maxHeartbeats 400000 in
theorem read_bad (s : ByteArray) (w : World) (hs : s.size ≤ 200) (hx : ¬ (lexR s).2 = -1) :
    Calls Tryd.prog 6 #[.string s] w fun e w' => ∃ v0 v3, e = .returned (.tuple #[v0, .int .i64 2, .int .i64 (lexR s).2, v3]) ∧ Below w.heap.size w w' := by
  have h0 : 0 ≤ (lexR s).2 := by
    have := lex_sign s s.size 0 []
    unfold lexR at hx ⊢
    omega
  clear hx
  go_enter Tryd.func6, Tryd.ntmps6
  go_wp2_with fail
  refine (tokens_any s _ hs).mono ?_
  rintro e w1 ⟨v, rfl, _, hb⟩
  obtain ⟨x, hxx⟩ : ∃ x, (lexR s).2 = x := ⟨_, rfl⟩
  rw [hxx] at h0 ⊢
  have HX := hide hxx
  clear hxx
  go_wp2_with fail
  refine bodyPost_ret (v := .tuple #[.slice none 0 0, .int .i64 2, .int .i64 x, .string ⟨#[]⟩]) (by simp [results, Tryd.results6, go_sem]) rfl ⟨.slice none 0 0, .string ⟨#[]⟩, by rw [unhide HX], hb⟩
end Go.Proofs.YtmleaaagehomjaaDoor
