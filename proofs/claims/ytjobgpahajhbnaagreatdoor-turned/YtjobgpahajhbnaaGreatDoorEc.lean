import Derived.Test.YtjobgpahajhbnaaGreatDoorEa
import Derived.Test.YtjobgpahajhbnaaGreatDoorShelf
namespace Go.Proofs.YtjobgpahajhbnaaGreatDoor
open Go.RowKit

theorem Tryz.info3 : (Tryz.prog.info? 3).map (fun i => (i.zero, i.size, i.bytes)) = some (some (.int .i64 0), 1, 8) := by kernel_rfl
theorem maps_get {xs : List Int} {j : Nat} {u : Value} (h : (xs.map (Value.int .i64))[j]? = some u) : ∃ hj : j < xs.length, u = .int .i64 xs[j] := by
  rw [List.getElem?_map] at h
  cases hx : xs[j]? with
  | none => rw [hx] at h; cases h
  | some y =>
    rw [hx] at h
    obtain ⟨hj, rfl⟩ := List.getElem?_eq_some_iff.1 hx
    exact ⟨hj, (Option.some.inj h).symm⟩
/-- a list that no one else holds -/
theorem clone80 (P : Nat → Prop) (w : World) (hP : ∀ b, w.heap.size ≤ b → P b) {Q : Nat → Prop} (v : Value) (xs : List Int) (h : Nums Q w v xs) (hx : xs.length ≤ 200) :
    Calls Tryz.prog 80 #[v] w fun e w' => ∃ so sn sc, e = .returned (.slice so sn sc) ∧ Nums P w' (.slice so sn sc) xs ∧ Below w.heap.size w w' := by
  obtain ⟨ao, cap, rfl, _, hcell, hspot⟩ := h
  by_cases h0 : 0 < xs.length
  · obtain ⟨b, off, rfl, _, _, hc⟩ := hcell h0
    obtain ⟨i0, hi, hz0, hz1, hz2⟩ := info_parts Tryz.info2
    refine (Tryz.slices_Clone_f80 i0 (.int .i64 0) 1 8 hi hz0 hz1 hz2 rfl (by decide) (fun w => by kernel_rfl) b off xs.length cap (xs.map (Value.int .i64)) w (by simp) (by unfold maxLen; omega) (by omega) ?_ ?_).mono ?_
    · intro j u hu
      obtain ⟨hj, rfl⟩ := maps_get hu
      exact hc j hj
    · intro u hu
      obtain ⟨y, _, rfl⟩ := List.mem_map.1 hu
      rfl
    · rintro e w' ⟨v', rfl, hown, _, hb⟩
      have hn := nums_owns (P := P) hown hP
      obtain ⟨ao', cap', rfl, r⟩ := hn
      exact ⟨ao', xs.length, cap', rfl, ⟨ao', cap', rfl, r⟩, hb⟩
  · have hx0 : xs = [] := List.eq_nil_of_length_eq_zero (by omega)
    subst hx0
    cases ao with
    | none =>
      refine (Tryz.slices_Clone_nil_f80 0 cap w).mono ?_
      rintro e w' ⟨rfl, rfl⟩
      exact ⟨none, 0, 0, rfl, nums_nil P _, Below.refl _ _⟩
    | some a =>
      obtain ⟨b, off, spot⟩ := a
      have hsp : spot = none := hspot _ rfl
      subst hsp
      obtain ⟨i0, hi, hz0, hz1, hz2⟩ := info_parts Tryz.info2
      refine (Tryz.slices_Clone_f80 i0 (.int .i64 0) 1 8 hi hz0 hz1 hz2 rfl (by decide) (fun w => by kernel_rfl) b off 0 cap [] w (by simp) (by unfold maxLen; omega) (by omega) (fun j u hu => by simp at hu) (fun u hu => by simp at hu)).mono ?_
      rintro e w' ⟨v', rfl, hown, _, hb⟩
      have hn := nums_owns (P := P) (xs := []) hown hP
      obtain ⟨ao', cap', rfl, r⟩ := hn
      exact ⟨ao', 0, cap', rfl, ⟨ao', cap', rfl, r⟩, hb⟩
/-- a list that no one else holds -/
theorem clone79 (P : Nat → Prop) (w : World) (hP : ∀ b, w.heap.size ≤ b → P b) {Q : Nat → Prop} (v : Value) (xs : List Int) (h : Nums Q w v xs) (hx : xs.length ≤ 200) :
    Calls Tryz.prog 79 #[v] w fun e w' => ∃ so sn sc, e = .returned (.slice so sn sc) ∧ Nums P w' (.slice so sn sc) xs ∧ Below w.heap.size w w' := by
  obtain ⟨ao, cap, rfl, _, hcell, hspot⟩ := h
  by_cases h0 : 0 < xs.length
  · obtain ⟨b, off, rfl, _, _, hc⟩ := hcell h0
    obtain ⟨i0, hi, hz0, hz1, hz2⟩ := info_parts Tryz.info3
    refine (Tryz.slices_Clone_f79 i0 (.int .i64 0) 1 8 hi hz0 hz1 hz2 rfl (by decide) (fun w => by kernel_rfl) b off xs.length cap (xs.map (Value.int .i64)) w (by simp) (by unfold maxLen; omega) (by omega) ?_ ?_).mono ?_
    · intro j u hu
      obtain ⟨hj, rfl⟩ := maps_get hu
      exact hc j hj
    · intro u hu
      obtain ⟨y, _, rfl⟩ := List.mem_map.1 hu
      rfl
    · rintro e w' ⟨v', rfl, hown, _, hb⟩
      have hn := nums_owns (P := P) hown hP
      obtain ⟨ao', cap', rfl, r⟩ := hn
      exact ⟨ao', xs.length, cap', rfl, ⟨ao', cap', rfl, r⟩, hb⟩
  · have hx0 : xs = [] := List.eq_nil_of_length_eq_zero (by omega)
    subst hx0
    cases ao with
    | none =>
      refine (Tryz.slices_Clone_nil_f79 0 cap w).mono ?_
      rintro e w' ⟨rfl, rfl⟩
      exact ⟨none, 0, 0, rfl, nums_nil P _, Below.refl _ _⟩
    | some a =>
      obtain ⟨b, off, spot⟩ := a
      have hsp : spot = none := hspot _ rfl
      subst hsp
      obtain ⟨i0, hi, hz0, hz1, hz2⟩ := info_parts Tryz.info3
      refine (Tryz.slices_Clone_f79 i0 (.int .i64 0) 1 8 hi hz0 hz1 hz2 rfl (by decide) (fun w => by kernel_rfl) b off 0 cap [] w (by simp) (by unfold maxLen; omega) (by omega) (fun j u hu => by simp at hu) (fun u hu => by simp at hu)).mono ?_
      rintro e w' ⟨v', rfl, hown, _, hb⟩
      have hn := nums_owns (P := P) (xs := []) hown hP
      obtain ⟨ao', cap', rfl, r⟩ := hn
      exact ⟨ao', 0, cap', rfl, ⟨ao', cap', rfl, r⟩, hb⟩
theorem nums_one {P : Nat → Prop} {w : World} {x : Int} {b : Nat} {e : TypeId} (hb : w.heap.size = b) (hP : P b) : Nums P (w.alloc (.cells #[.int .i64 x] e)) (.slice (some ⟨b, 0, none⟩) 1 1) [x] := by
  subst hb
  refine ⟨some ⟨w.heap.size, 0, none⟩, 1, rfl, Nat.le_refl _, fun _ => ⟨w.heap.size, 0, rfl, hP, by simp, fun i hi => ?_⟩, fun a h => by cases h; rfl⟩
  simp at hi
  subst hi
  simp

set_option maxHeartbeats 600000 in
theorem scalar_any (P : Nat → Prop) (w : World) (hP : ∀ b, w.heap.size ≤ b → P b) (x : Int) :
    Calls Tryz.prog 150 #[.int .i64 x] w fun e w' => ∃ co cn cc, e = .returned (.agg #[.slice none 0 0, .slice co cn cc]) ∧ IsArr P w' (.agg #[.slice none 0 0, .slice co cn cc]) ⟨[], [x]⟩ ∧ Below w.heap.size w w' := by
  go_enter Tryz.func150, Tryz.ntmps150
  go_wp2_with fail
  refine bodyPost_ret (v := .agg #[.slice none 0 0, .slice (some ⟨w.heap.size + 1, 0, none⟩) 1 1]) (by simp [results, Tryz.results150, go_sem]) rfl ⟨_, _, _, rfl, ⟨_, _, _, _, _, _, rfl, nums_nil _ _, nums_one (by simp) (hP _ (by omega))⟩, ?_⟩
  exact ((Below.refl _ _).alloc (Nat.le_refl _) _).alloc (by simp) _
set_option maxHeartbeats 600000 in
theorem row_any (P : Nat → Prop) (w : World) (hP : ∀ b, w.heap.size ≤ b → P b) (v : Value) (xs : List Int) (h : Nums P w v xs) :
    Calls Tryz.prog 151 #[v] w fun e w' => ∃ so sn sc co cn cc, e = .returned (.agg #[.slice so sn sc, .slice co cn cc]) ∧ IsArr P w' (.agg #[.slice so sn sc, .slice co cn cc]) ⟨[xs.length], xs⟩ ∧ Below w.heap.size w w' := by
  have h' := h
  obtain ⟨ao, cap, rfl, _, _⟩ := h
  have H := hide h'
  clear h'
  go_enter Tryz.func151, Tryz.ntmps151
  go_wp2_with fail
  refine bodyPost_ret (v := .agg #[.slice (some ⟨w.heap.size + 1, 0, none⟩) 1 1, .slice ao xs.length cap]) (by simp [results, Tryz.results151, go_sem]) rfl ⟨_, _, _, _, _, _, rfl, ⟨_, _, _, _, _, _, rfl, nums_one (by simp) (hP _ (by omega)), ?_⟩, ?_⟩
  · exact (unhide H).below (((Below.refl _ _).alloc (Nat.le_refl _) _).alloc (by simp) _)
  · exact ((Below.refl _ _).alloc (Nat.le_refl _) _).alloc (by simp) _

theorem nums_ints {B : Nat} {P : Nat → Prop} {w : World} {v : Value} {ws : List Int} (h : IntsIn B w v ws) (hl : ∀ b, B < b → b < w.heap.size → P b) : Nums P w v ws := by
  obtain ⟨b, cap, rfl, hcap, h1, h2, hc⟩ := h
  exact ⟨some ⟨b, 0, none⟩, cap, rfl, hcap, fun _ => ⟨b, 0, rfl, hl b h1 h2, h2, fun i hi => by rw [Nat.zero_add]; exact hc i hi⟩, fun a h => by cases h; rfl⟩
set_option maxHeartbeats 600000 in
theorem of_one (P : Nat → Prop) (w : World) (hP : ∀ b, w.heap.size ≤ b → P b) (b off cap : Nat) (x : Int) (hc : w.cell? ⟨b, off, none⟩ = some (.int .i64 x)) (hb : b < w.heap.size) :
    Calls Tryz.prog 107 #[.slice (some ⟨b, off, none⟩) 1 cap] w fun e w' => ∃ so sn sc co cn cc, e = .returned (.agg #[.slice so sn sc, .slice co cn cc]) ∧ IsArr P w' (.agg #[.slice so sn sc, .slice co cn cc]) ⟨[], [x]⟩ ∧ Below w.heap.size w w' := by
  have HP : Hid (∀ b, w.heap.size ≤ b → P b) := hP
  clear hP
  have hc2 : (w.alloc (.cells #[.slice none 0 0, .slice none 0 0] 89)).cell? ⟨b, off, none⟩ = some (.int .i64 x) := by rw [World.cell?_alloc_lt _ _ _ hb]; exact hc
  go_enter Tryz.func107, Tryz.ntmps107
  go_wp2_with fail
  refine (scalar_any (fun b => P b ∧ b ≠ w.heap.size) _ (fun b h => ⟨unhide HP b (by simp at h; omega), by simp at h; omega⟩) x).mono ?_
  rintro e w1 ⟨co, cn, cc, rfl, ha, hb1⟩
  have HA := hide ha
  obtain ⟨hcc, hff⟩ := bcell hb1
  have d0 := hcc w.heap.size 0 (by simp)
  have d1 := hcc w.heap.size 1 (by simp)
  have g0 := hff w.heap.size 0 (by simp)
  have g1 := hff w.heap.size 1 (by simp)
  simp at d0 d1 g0 g1
  have HB := hide hb1
  clear ha hb1 hcc hff hc
  go_wp2_with fail
  refine bodyPost_ret (v := .agg #[.slice none 0 0, .slice co cn cc]) (by simp [results, Tryz.results107, go_sem, d0, d1]) rfl ⟨_, _, _, _, _, _, rfl, ?_, ?_⟩
  · exact (((unhide HA).set (fun h => h.2 rfl) 0 _).set (fun h => h.2 rfl) 1 _).imp (fun b h _ => h.1)
  · exact ((((Below.refl _ _).alloc (Nat.le_refl _) _).trans ((unhide HB).mono (by simp))).setCell (Nat.le_refl _) _).setCell (Nat.le_refl _) _
set_option maxHeartbeats 600000 in
theorem of_many (P : Nat → Prop) (w : World) (hP : ∀ b, w.heap.size ≤ b → P b) (ao : Option Addr) (cap : Nat) (xs : List Int) {Q : Nat → Prop} (hx : Nums Q w (.slice ao xs.length cap) xs) (h1 : ¬ xs.length = 1) (hl : xs.length ≤ 200) :
    Calls Tryz.prog 107 #[.slice ao xs.length cap] w fun e w' => ∃ so sn sc co cn cc, e = .returned (.agg #[.slice so sn sc, .slice co cn cc]) ∧ IsArr P w' (.agg #[.slice so sn sc, .slice co cn cc]) ⟨[xs.length], xs⟩ ∧ Below w.heap.size w w' := by
  have HP : Hid (∀ b, w.heap.size ≤ b → P b) := hP
  have HX := hide hx
  have h1' : ((xs.length : Int) == 1) = false := beq_eq_false_iff_ne.2 (by omega)
  clear hP hx
  go_enter Tryz.func107, Tryz.ntmps107
  go_wp2_with fail
  refine (clone80 (fun b => P b ∧ b ≠ w.heap.size) _ (fun b h => ⟨unhide HP b (by simp at h; omega), by simp at h; omega⟩) _ xs ((unhide HX).below ((Below.refl _ _).alloc (Nat.le_refl _) _)) hl).mono ?_
  rintro e w1 ⟨so, sn, sc, rfl, hn, hb1⟩
  have HN := hide hn
  have HB := hide hb1
  have hs1 := hb1.size
  simp at hs1
  clear hn hb1
  go_wp2_with fail
  refine (row_any (fun b => P b ∧ b ≠ w.heap.size) _ (fun b h => ⟨unhide HP b (by omega), by omega⟩) _ xs (unhide HN)).mono ?_
  rintro e w2 ⟨so2, sn2, sc2, co2, cn2, cc2, rfl, ha, hb2⟩
  have HA := hide ha
  have hb3 := below2' (unhide HB) hb2
  obtain ⟨hcc, hff⟩ := bcell hb3
  have d0 := hcc w.heap.size 0 (by simp)
  have d1 := hcc w.heap.size 1 (by simp)
  have g0 := hff w.heap.size 0 (by simp)
  have g1 := hff w.heap.size 1 (by simp)
  simp at d0 d1 g0 g1
  have HB3 := hide hb3
  clear ha hb2 hb3 hcc hff
  go_wp2_with fail
  refine bodyPost_ret (v := .agg #[.slice so2 sn2 sc2, .slice co2 cn2 cc2]) (by simp [results, Tryz.results107, go_sem, d0, d1]) rfl ⟨_, _, _, _, _, _, rfl, ?_, ?_⟩
  · exact (((unhide HA).set (fun h => h.2 rfl) 0 _).set (fun h => h.2 rfl) 1 _).imp (fun b h _ => h.1)
  · exact ((((Below.refl _ _).alloc (Nat.le_refl _) _).trans ((unhide HB3).mono (by simp))).setCell (Nat.le_refl _) _).setCell (Nat.le_refl _) _
theorem of_any (P : Nat → Prop) (w : World) (hP : ∀ b, w.heap.size ≤ b → P b) (v : Value) (ws : List Int) {Q : Nat → Prop} (h : Nums Q w v ws) (h0 : 0 < ws.length) (hl : ws.length ≤ 200) :
    Calls Tryz.prog 107 #[v] w fun e w' => ∃ so sn sc co cn cc, e = .returned (.agg #[.slice so sn sc, .slice co cn cc]) ∧ IsArr P w' (.agg #[.slice so sn sc, .slice co cn cc]) (arrOf ws) ∧ Below w.heap.size w w' := by
  have h' := h
  obtain ⟨ao, cap, rfl, hcap, hc, hsp⟩ := h
  unfold arrOf
  by_cases h1 : ws.length = 1
  · rw [if_pos h1]
    obtain ⟨b, off, rfl, _, hb, hcell⟩ := hc h0
    match ws, h1 with
    | [x], _ =>
      exact of_one P w hP b off cap x (hcell 0 (by simp)) hb
  · rw [if_neg h1]
    exact of_many P w hP ao cap ws h' h1 hl
end Go.Proofs.YtjobgpahajhbnaaGreatDoor
