import Derived.Test.YtjobgpahajhbnaaGreatDoorTe
namespace Go.Proofs.YtjobgpahajhbnaaGreatDoor
open Go.RowKit Go.Proofs Go.Maps
attribute [local go_sem ↓] Go.wp_at_zero Go.wp_at_succ

theorem Tryz.enters252 : Enters Tryz.prog 252 := Go.Proofs.enters_of Tryz.func252 (by decide) rfl
def negB (x : Int) : Bool := decide (x < 0)
set_option maxHeartbeats 400000 in
theorem neg_pred (W0 : World) : PredC 252 #[] W0 negB where
  enters := Tryz.enters252
  call := by
    intro x w _
    unfold negB
    go_enter Tryz.func252, Tryz.ntmps252
    go_wp2
    exact bodyPost_ret (v := .bool (decide (x < 0))) (by simp [results, Tryz.results252, go_sem]) rfl ⟨rfl, rfl⟩
theorem isArr_cells {P : Nat → Prop} {w : World} {so : Option Addr} {sn sc : Nat} {co : Option Addr} {cn cc : Nat} {a : Arr} (h : IsArr P w (.agg #[.slice so sn sc, .slice co cn cc]) a) : Nums P w (.slice co cn cc) a.cells := by
  obtain ⟨so', sn', sc', co', cn', cc', hv, _, h2⟩ := h
  injection hv with hv
  simp at hv
  obtain ⟨_, rfl, rfl, rfl⟩ := hv
  exact h2
theorem Nums.at {P : Nat → Prop} {w : World} {co : Option Addr} {cn cc : Nat} {xs : List Int} (h : Nums P w (.slice co cn cc) xs) {k : Nat} (hk : k < xs.length) : ∃ b off, co = some ⟨b, off, none⟩ ∧ b < w.heap.size ∧ w.cell? ⟨b, off + k, none⟩ = some (.int .i64 xs[k]) ∧ xs.length ≤ cc := by
  obtain ⟨ao, cap, hv, hcap, h1, _⟩ := h
  injection hv with e1 e2 e3
  obtain ⟨b, off, ha, _, hlt, hc⟩ := h1 (by omega)
  subst e3
  exact ⟨b, off, e1.trans ha, hlt, hc k hk, hcap⟩
end Go.Proofs.YtjobgpahajhbnaaGreatDoor
