import Derived.Test.YtjobgpahajhbnabGreatDoorOe
import Derived.Test.YtjobgpahajhbnabGreatDoorQf
namespace Go.Proofs.YtjobgpahajhbnabGreatDoor
open Go.ChangeShapes Go.WideShapes Go.ChangeAt Go.WideMaps Go.WideElems Go.RowKit
theorem Jao {W : World} (h : laidMetH Tryz.prog Rows.apartRow.laid W) : Evs W := by
  rw [MakeChecks.laidMetH_plain _ _ _ (by kernel_rfl)] at h; have h3 := laidMet.tail (laidMet.tail (laidMet.tail h)); have h4 := laidMet.tail h3; obtain ⟨e2, l2⟩ := Jl5 h3 Tryz.gRng Tryz.gRngT; obtain ⟨e1, _⟩ := Jl5 h4 Tryz.gSyn Tryz.gSynT; exact ⟨l2, e1, e2⟩
theorem Jic (os : Os) (args : Array Value) : laidMetH Tryz.prog Rows.apartRow.laid ((World.doorLaid Tryz.prog 400 os).forCall (fun _ _ => 0) ⟨#[], args, []⟩).memory :=
  laidMetH_of_parts3 (fuel := 8) (laidMet_of_run' 8 (by kernel_rfl) (by kernel_rfl)) (by kernel_rfl) (by kernel_rfl)
set_option maxRecDepth 100000 in
theorem Ja1 (os : Os) (started : os.Started) (H : Type) (enc : TypeId × Value → H) :
    ReturnsInHanded {} Tryz.checked os 5 .any (fun w args => (Rows.apartSpec.pre enc Tryz.prog Tryz.f5 [] false w args ∧ laidMetH Tryz.prog Rows.apartRow.laid w) ∧ sizedMet enc Tryz.prog Tryz.f5 (OpenSpec.ofChange Rows.apartSpec) false w args)
      (Rows.apartSpec.post enc Tryz.prog Tryz.f5 false true false false) := by
  refine returnsInHanded_of_change_and (C := Tryz.checked) (X := fun w _ => laidMetH Tryz.prog Rows.apartRow.laid w) (fun _ _ _ hh h => h.of_heap hh) Tryz.own started (by kernel_rfl) Tryz.func5
    (ChangeSpec.witness_shaped (enc := enc) (C := Tryz.checked) (os := os) (X := fun w _ => laidMetH Tryz.prog Rows.apartRow.laid w) false (World.doorLaid Tryz.prog 400 os) #[.slice none 0 0, .slice none 0 0, .slice none 0 0] 8 rfl (World.shaped_of_RefB (by kernel_rfl) (by kernel_rfl)) (by kernel_rfl) (by kernel_rfl) (by kernel_rfl) (Jic os _)) ?_
  intro W base args ds gs before hval0 hW _ _ hL _; have hval : ∀ (j : Nat) t v, Tryz.f5.params[j]? = some t → args[j]? = some v → Value.okWide Tryz.prog W .any base t v := hval0; have hW' := hW; obtain ⟨p, q, hA0, hV, rfl, hfz, hnd⟩ := hW; have hA : DataW.TrodAll enc Tryz.prog W 0 (fun _ => true) true Tryz.f5.params.toList args.toList ds p := hA0; rw [Tryz.params5] at hA hval; obtain ⟨v0, v1, v2, d0, d1, d2, p0, p1, p2, rfl, rfl, rfl, h0, h1, h2⟩ := trodAll_three hA; obtain ⟨rfl, rfl⟩ := trodVars_none hV; obtain ⟨ao, len, cap, rfl⟩ := okWide_slice Tryz.underlying31 (hval 0 31 v0 rfl rfl); obtain ⟨ao2, len2, cap2, rfl⟩ := okWide_slice Tryz.underlying31 (hval 1 31 v1 rfl rfl); obtain ⟨bo, m, bcap, rfl⟩ := okWide_slice Tryz.underlying22 (hval 2 22 v2 rfl rfl); have hev := Jao hL; clear hA0 hval0; simp only [List.append_nil, List.append_assoc] at hW'; have hlt : ∀ x ∈ p0 ++ (p1 ++ p2), x.block < W.heap.size := fun x hx => by simpa using hW'.lt x hx
  have e1 : Rows.apartSpec.fn H ([d0, d1, d2] ++ []) = { results := [.lit (.bool true)], args := [d0, d1, d2] } := rfl; have fin : ∀ e W', (e = .returned (.bool true) ∧ Below W.heap.size W W') → ∃ v, e = Ending.returned v ∧ Rows.apartSpec.post enc Tryz.checked.prog Tryz.f5 false true false false W #[.slice ao len cap, .slice ao2 len2 cap2, .slice bo m bcap] v W' := by
    rintro e W' ⟨rfl, hb⟩; refine ⟨_, rfl, _, _, _, [], p0 ++ (p1 ++ p2), [], hW', ?_, ?_, ?_, hb.frame _, fun h => by cases h⟩
    · rw [e1]; exact trodAll_mk1 (shut_bool Tryz.underlying4 true)
    · rw [e1]; exact trodAll_mk3 (Below.trod Tryz.laidOut (by kernel_rfl) (of_decide_eq_true (by kernel_rfl)) h0 hb (fun x hx => hlt x (List.mem_append_left _ hx))) (Below.trod Tryz.laidOut (by kernel_rfl) (of_decide_eq_true (by kernel_rfl)) h1 hb (fun x hx => hlt x (List.mem_append_right _ (List.mem_append_left _ hx)))) (Below.trod Tryz.laidOut (by kernel_rfl) (of_decide_eq_true (by kernel_rfl)) h2 hb (fun x hx => hlt x (List.mem_append_right _ (List.mem_append_right _ hx))))
    · rw [e1]; rfl
  obtain ⟨xs, hx1, hx2, hx3, hx4⟩ := Jlw h0; obtain ⟨ys, hy1, hy2, hy3, hy4⟩ := Jlw h1; obtain ⟨ls, hl1, hl2, hl3, hl4, hl5, _⟩ := Jmg h2; exact (Jix ao len cap xs ao2 len2 cap2 ys bo m bcap ls W hev hx2 hx1 hx4 hy2 hy1 hy4 hl3 hl1 hl2 (by omega)).mono fin
end Go.Proofs.YtjobgpahajhbnabGreatDoor
