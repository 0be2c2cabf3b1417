import Derived.Test.YtjobgpahajhbnaaGreatDoorFc
import Derived.Test.YtjobgpahajhbnaaGreatDoorTd
import Derived.Test.YtjobgpahajhbnaaGreatDoorYa
import Derived.Test.YtjobgpahajhbnaaGreatDoorJc
import Derived.BigQuiet
namespace Go.Proofs.YtjobgpahajhbnaaGreatDoor
open Go.RowKit Go.Proofs
attribute [local go_sem ↓] Go.wp_at_zero Go.wp_at_succ

theorem sum_ansB : ans env0 1000 ⟨#[43, 47, 32, 49, 32, 43, 32, 105, 111, 116, 97, 32, 53]⟩ = .inr (⟨[], [15]⟩, 14) := sum_ans
set_option maxHeartbeats 8000000 in
set_option maxRecDepth 20000 in
theorem fuel_law (s : ByteArray) (hm : s.size ≤ 9223372036854775807) (more : Int) (hf : fit64 more) (w : World) (hE : Evs w) :
    Calls Tryz.prog 12 #[.string s, .int .i64 more] w fun e w' => e = .returned (.bool true) ∧ Below w.heap.size w w' := by
  obtain ⟨W1, hW1⟩ : ∃ W1, w.alloc (.cells #[.int .i64 1000, .map none] 91) = W1 := ⟨_, rfl⟩
  have hb1 : Below w.heap.size w W1 := by rw [← hW1]; exact (Below.refl _ _).alloc (Nat.le_refl _) _
  have hD1 : DkF 1000 (fun b => 6 ≤ b ∧ b < w.heap.size) w.heap.size env0 0 W1 := by rw [← hW1]; exact deskF_new hE
  have h61 : w.heap.size < W1.heap.size := by rw [← hW1]; simp
  have HPk := hide (fun (n : Int) (hn : 0 < n) w => pick_any more n hf hn w)
  have HE := hide hE
  have h6 : 6 ≤ w.heap.size := hE.1
  have HB1 := hide hb1
  have HD1 := hide hD1
  clear hE hb1 hD1 hf
  cases hans : ans env0 1000 s with
  | inr x =>
    obtain ⟨a, c⟩ := x
    obtain ⟨env', N', hsays⟩ := line_ok (db := w.heap.size) (N := 0) (by decide) (by decide) env0_ok (by decide) hans
    have hok := ans_ok (by decide) env0_ok hans
    have hrk : a.shape.length ≤ 200 := by have := hok.1.rank; show a.shape.length ≤ 200; exact Nat.le_trans this (by decide)
    have hfw : a.cells.length ≤ 200 := hok.1.few
    have hc1 : (c : Int) ≤ 1000 := hok.2
    have HOne := hide (one_f _ _ _ _ _ _ _ _ _ _ hsays W1 (unhide HD1))
    have HAns := hide hans
    clear hsays hok hans
    go_enter Tryz.func12, Tryz.ntmps12
    go_wp2_with (go_at_call 15; refine (desk_any _).mono ?_; rintro e w' ⟨rfl, rfl⟩)
    try rw [hW1]
    clear hW1
    refine (unhide HOne).mono ?_
    rintro e w2 ⟨so, sn, sc, co, cn, cc, rfl, hsh, hcs, -, hk2⟩
    have hb2 : Below w.heap.size w w2 := (unhide HB1).trans (hk2.whole (by omega) (fun b h1 h2 => ⟨h1, h2⟩))
    have hsz2 := Bs.size hk2
    obtain ⟨w3, hw3⟩ : ∃ w3, w2.alloc (.cells #[.int .i64 0, .int .i64 0, .slice so sn sc, .slice co cn cc, .int .i64 (c : Int)] 47) = w3 := ⟨_, rfl⟩
    have hb3 : Below w2.heap.size w2 w3 := by rw [← hw3]; exact (Below.refl _ _).alloc (Nat.le_refl _) _
    obtain ⟨rb, hrb⟩ : ∃ rb, w2.heap.size = rb := ⟨_, rfl⟩
    have hr3 : rb < w3.heap.size := by rw [← hw3, ← hrb]; simp
    have hr6 : 6 ≤ rb := by omega
    have b2 : w3.cell? ⟨rb, 2, none⟩ = some (.slice so sn sc) := by rw [← hw3, ← hrb]; exact (World.cell?_alloc_at _ _ _ _ rfl).trans rfl
    have b3 : w3.cell? ⟨rb, 3, none⟩ = some (.slice co cn cc) := by rw [← hw3, ← hrb]; exact (World.cell?_alloc_at _ _ _ _ rfl).trans rfl
    have b4 : w3.cell? ⟨rb, 4, none⟩ = some (.int .i64 (c : Int)) := by rw [← hw3, ← hrb]; exact (World.cell?_alloc_at _ _ _ _ rfl).trans rfl
    have HBw3 : Hid (Below w.heap.size w w3) := hide (hb2.trans (hb3.mono hb2.size))
    have HSh : Hid (Nums (fun b => 6 ≤ b ∧ b < w3.heap.size) w3 (.slice so sn sc) (a.shape.map Int.ofNat)) := hide ((hsh.below hb3).imp (fun b h hl => ⟨by omega, hl⟩))
    have HCs : Hid (Nums (fun b => 6 ≤ b ∧ b < w3.heap.size) w3 (.slice co cn cc) a.cells) := hide ((hcs.below hb3).imp (fun b h hl => ⟨by omega, hl⟩))
    have HEv3 : Hid (Evs w3) := hide ((unhide HE).below (unhide HBw3) h6)
    have hw63 : w.heap.size ≤ w3.heap.size := (unhide HBw3).size
    clear hsh hcs hk2 hb2 hb3 hsz2 HOne HD1
    go_upto_region 10 with fail
    try rw [hw3]
    try rw [hrb]
    clear hw3 hrb
    have c0 : (0 : Int) ≤ (c : Int) := by omega
    obtain ⟨W4, hW4⟩ : ∃ W4, w3.alloc (.cells #[.int .i64 (c : Int), .map none] 91) = W4 := ⟨_, rfl⟩
    have hb4 : Below w3.heap.size w3 W4 := by rw [← hW4]; exact (Below.refl _ _).alloc (Nat.le_refl _) _
    have hD4 : DkF (c : Int) (fun b => 6 ≤ b ∧ b < w3.heap.size) w3.heap.size env0 0 W4 := by rw [← hW4]; exact deskF_new (unhide HEv3)
    obtain ⟨env2, N2, hsays2⟩ := line_ok (db := w3.heap.size) (N := 0) c0 hc1 env0_ok (by decide) ((ans_fuel (unhide HAns)).1 (Int.le_refl _))
    have HIs := hide (is_f _ _ _ _ _ _ _ _ _ _ hsays2 W4 hD4 so sn sc co cn cc ((unhide HSh).below hb4) ((unhide HCs).below hb4) (by simpa using hrk) hfw)
    have b2' : W4.cell? ⟨rb, 2, none⟩ = some (.slice so sn sc) := (hb4.cell (p := ⟨rb, 2, none⟩) hr3).trans b2
    have b3' : W4.cell? ⟨rb, 3, none⟩ = some (.slice co cn cc) := (hb4.cell (p := ⟨rb, 3, none⟩) hr3).trans b3
    have HB4c : Hid (W4.cell? ⟨rb, 4, none⟩ = some (.int .i64 (c : Int))) := hide ((hb4.cell (p := ⟨rb, 4, none⟩) hr3).trans b4)
    have HB4 : Hid (Below w.heap.size w W4) := hide ((unhide HBw3).trans (hb4.mono hw63))
    have hs34 : w3.heap.size ≤ W4.heap.size := hb4.size
    clear hb4 hD4 hsays2 HSh HCs HEv3 HBw3
    go_wp2_with (go_at_call 32; refine (new_any _ c0 hc1 _).mono ?_; rintro e w' ⟨rfl, hw'⟩; rw [hW4] at hw'; have hw'' := hw'.symm; subst hw''; clear hw')
    refine (unhide HIs).mono ?_
    rintro e w5 ⟨rfl, -, hk5⟩
    have b4'' : w5.cell? ⟨rb, 4, none⟩ = some (.int .i64 (c : Int)) := (hk5.cell (b := rb) (by omega) ⟨hr6, hr3⟩).trans (unhide HB4c)
    have HB5 : Hid (Below w.heap.size w w5) := hide ((unhide HB4).trans (hk5.whole (by omega) (fun b h1 h2 => ⟨h1, by omega⟩)))
    have HEv5 : Hid (Evs w5) := hide ((unhide HE).below (unhide HB5) h6)
    have hw65 : w.heap.size ≤ w5.heap.size := (unhide HB5).size
    clear hk5 b2 b3 b4 b2' b3' HB4c HB4 HIs hW4 hs34
    by_cases hcz : c = 0
    · have z0 : ((c : Int) == 0) = true := by rw [hcz]; rfl
      clear hcz
      go_wp2_with fail
      exact bodyPost_ret (v := .bool true) (by simp [results, Tryz.results12, go_sem]) rfl ⟨rfl, unhide HB5⟩
    · have z0 : ((c : Int) == 0) = false := beq_false_of_ne (by omega)
      have hcp : (0 : Int) < (c : Int) := by omega
      go_wp2_with fail
      refine (unhide HPk _ hcp _).mono ?_
      rintro e w' ⟨⟨g, rfl, hg0, hg1⟩, hw'⟩
      have hw'' := hw'.symm
      subst hw''
      clear hw'
      obtain ⟨W6, hW6⟩ : ∃ W6, w5.alloc (.cells #[.int .i64 g, .map none] 91) = W6 := ⟨_, rfl⟩
      have hb6 : Below w5.heap.size w5 W6 := by rw [← hW6]; exact (Below.refl _ _).alloc (Nat.le_refl _) _
      have hD6 : DkF g (fun b => 6 ≤ b ∧ b < w5.heap.size) w5.heap.size env0 0 W6 := by rw [← hW6]; exact deskF_new (unhide HEv5)
      have hm6 : W6.cell? ⟨w5.heap.size, 1, none⟩ = some (.map none) := by rw [← hW6]; exact (World.cell?_alloc_at _ _ _ _ rfl).trans rfl
      have hl6 : w5.heap.size < W6.heap.size := by rw [← hW6]; simp
      obtain ⟨pl, hpl⟩ := (ans_fuel (unhide HAns)).2 hg0 hg1
      obtain ⟨W7, hW7⟩ : ∃ W7, W6.alloc (.cells #[.string s] 9) = W7 := ⟨_, rfl⟩
      have hb7 : Below W6.heap.size W6 W7 := by rw [← hW7]; exact (Below.refl _ _).alloc (Nat.le_refl _) _
      have hc7 : W7.cell? ⟨W6.heap.size, 0, none⟩ = some (.string s) := by rw [← hW7]; exact (World.cell?_alloc_at _ _ _ _ rfl).trans rfl
      have hl7 : W6.heap.size < W7.heap.size := by rw [← hW7]; simp
      have hrun := run_one W7 w5.heap.size W6.heap.size 1 s 10 pl [] [] 0 hc7 hl7 ((line_err (F := g) (S := fun b => 6 ≤ b ∧ b < w5.heap.size) (db := w5.heap.size) (N := 0) hg0 (by omega) env0_ok hm hpl).2 W7 (hD6.below hb7))
      have HRun := hide hrun
      have HM7 : Hid (W7.cell? ⟨w5.heap.size, 1, none⟩ = some (.map none)) := hide ((hb7.cell (p := ⟨w5.heap.size, 1, none⟩) hl6).trans hm6)
      have HL7 : Hid (w5.heap.size < W7.heap.size) := hide (by omega)
      have HB7 : Hid (Below w.heap.size w W7) := hide (((unhide HB5).trans (hb6.mono hw65)).trans (hb7.mono (by omega)))
      have hg2 : g ≤ 1000 := by omega
      have hw67 : w.heap.size ≤ W7.heap.size := (unhide HB7).size
      clear hb6 hD6 hm6 hl6 hpl hb7 hc7 hl7 hrun b4'' HB5 HEv5
      go_wp2_with (go_at_call 32; refine (new_any _ hg0 hg2 _).mono ?_; rintro e w' ⟨rfl, hw'⟩; rw [hW6] at hw'; have hw'' := hw'.symm; subst hw''; clear hw')
      try rw [hW7]
      clear hW6 hW7
      refine (unhide HRun).mono ?_
      rintro e w8 ⟨qb, qc, so2, sn2, sc2, co2, cn2, cc2, rfl, hv⟩
      have hb8 := hv.bel
      have HNm := hide (names_none w5.heap.size w8 ((hb8.cell (p := ⟨w5.heap.size, 1, none⟩) (unhide HL7)).trans (unhide HM7)))
      have es : sn2 = 0 := by have := nums_len hv.sh; simpa using this
      have ec : cn2 = 0 := by have := nums_len hv.cs; simpa using this
      subst es
      subst ec
      have hql := hv.hi
      have HQ0 := hide hv.q0
      have HQ2 := hide hv.q2
      have HQ3 := hide hv.q3
      have HQ4 := hide hv.q4
      have HB8 : Hid (Below w.heap.size w w8) := hide ((unhide HB7).trans (hb8.mono hw67))
      have hw68 : w.heap.size ≤ w8.heap.size := (unhide HB8).size
      clear hv hb8 HRun HM7 HL7 HB7
      go_wp2_with fail
      refine (unhide HNm).mono ?_
      rintro e w9 ⟨rfl, hb9⟩
      have q0 := (hb9.cell (p := ⟨qb, 0, none⟩) hql).trans (unhide HQ0)
      have q2 := (hb9.cell (p := ⟨qb, 2, none⟩) hql).trans (unhide HQ2)
      have q3 := (hb9.cell (p := ⟨qb, 3, none⟩) hql).trans (unhide HQ3)
      have q4 := (hb9.cell (p := ⟨qb, 4, none⟩) hql).trans (unhide HQ4)
      have HB9 : Hid (Below w.heap.size w w9) := hide ((unhide HB8).trans (hb9.mono hw68))
      clear hb9 HQ0 HQ2 HQ3 HQ4 HB8 HNm
      go_wp2_with fail
      exact bodyPost_ret (v := .bool true) (by simp [results, Tryz.results12, go_sem]) rfl ⟨rfl, unhide HB9⟩
  | inl x =>
    obtain ⟨er, at_⟩ := x
    obtain ⟨hne, hsy⟩ := line_err (S := fun b => 6 ≤ b ∧ b < w.heap.size) (db := w.heap.size) (N := 0) (by decide) (by decide) env0_ok hm hans
    have HErr := hide (one_err _ (DkF.lasts _ _ _ _) w.heap.size s er at_ hne hsy W1 (unhide HD1))
    clear hsy hne hans
    go_enter Tryz.func12, Tryz.ntmps12
    go_wp2_with (go_at_call 15; refine (desk_any _).mono ?_; rintro e w' ⟨rfl, rfl⟩)
    try rw [hW1]
    clear hW1
    refine (unhide HErr).mono ?_
    rintro e w2 ⟨zo, zn, zc, yo, yn, yc, rfl, hb2⟩
    obtain ⟨wA, hwA⟩ : ∃ wA, w2.alloc (.cells #[.int .i64 er, .int .i64 at_, .slice zo zn zc, .slice yo yn yc, .int .i64 0] 47) = wA := ⟨_, rfl⟩
    have hbA : Below w2.heap.size w2 wA := by rw [← hwA]; exact (Below.refl _ _).alloc (Nat.le_refl _) _
    have hbA1 := below2' hb2 hbA
    obtain ⟨rb, hrb⟩ : ∃ rb, w2.heap.size = rb := ⟨_, rfl⟩
    have hrA : rb < wA.heap.size := by rw [← hwA, ← hrb]; simp
    have hsz2 := hb2.size
    have hr6 : 6 ≤ rb := by omega
    have hrw : w.heap.size ≤ rb := by omega
    have hcA : ∀ i, wA.cell? ⟨rb, i, none⟩ = #[Value.int .i64 er, .int .i64 at_, .slice zo zn zc, .slice yo yn yc, .int .i64 0][i]? := fun i => by rw [← hwA, ← hrb]; exact World.cell?_alloc_at _ _ _ _ rfl
    have hfA : ∀ i, wA.frozen? ⟨rb, i, none⟩ = false := fun i => by rw [← hwA, ← hrb]; exact World.frozen?_alloc_at _ _ _ _ rfl
    obtain ⟨S1, hS1⟩ : ∃ S1, (fun b => (6 ≤ b ∧ b < w.heap.size) ∨ (W1.heap.size ≤ b ∧ b < wA.heap.size)) = S1 := ⟨_, rfl⟩
    have hDA : DkF 1000 S1 w.heap.size env0 0 wA := by rw [← hS1]; exact (unhide HD1).more hbA1
    have hSr : S1 rb := by rw [← hS1]; exact Or.inr ⟨by omega, hrA⟩
    have hSl : ∀ b, 6 ≤ b → b < w.heap.size → S1 b := fun b h1 h2 => by rw [← hS1]; exact Or.inl ⟨h1, h2⟩
    obtain ⟨env', N', hsays⟩ := line_ok (db := w.heap.size) (N := 0) (by decide) (by decide) env0_ok (by decide) sum_ansB
    have HOne := hide (one_f _ _ _ _ _ _ _ _ _ _ hsays wA hDA)
    have HBA : Hid (Below w.heap.size w wA) := hide ((unhide HB1).trans (hbA1.mono (unhide HB1).size))
    have HcA := hide hcA
    have HfA := hide hfA
    have HSr := hide hSr
    have HSl := hide hSl
    have hwA6 : w.heap.size ≤ wA.heap.size := (unhide HBA).size
    have HwA := hide hwA
    have HRB := hide hrb
    clear hS1 hDA hSr hSl hsays hcA hfA hbA hbA1 hb2 hsz2 HErr HD1 HB1 hwA hrb
    go_wp2_with fail
    try rw [unhide HwA]
    try rw [unhide HRB]
    clear HwA HRB
    refine (unhide HOne).mono ?_
    rintro e wB ⟨so, sn, sc, co, cn, cc, rfl, hsh, hcs, -, hkB⟩
    have hbB : Below w.heap.size w wB := (unhide HBA).trans (hkB.whole hwA6 (unhide HSl))
    have hszB := Bs.size hkB
    have hcB : ∀ i, wB.cell? ⟨rb, i, none⟩ = #[Value.int .i64 er, .int .i64 at_, .slice zo zn zc, .slice yo yn yc, .int .i64 0][i]? := fun i => (hkB.cell hrA (unhide HSr)).trans (unhide HcA i)
    have hfB : ∀ i, wB.frozen? ⟨rb, i, none⟩ = false := fun i => (hkB.frozen hrA (unhide HSr)).trans (unhide HfA i)
    have e0 := (hcB 0).trans rfl
    have e1 := (hcB 1).trans rfl
    have e2 := (hcB 2).trans rfl
    have e3 := (hcB 3).trans rfl
    have e4 := (hcB 4).trans rfl
    have f0 := hfB 0
    have f1 := hfB 1
    have f2 := hfB 2
    have f3 := hfB 3
    have f4 := hfB 4
    obtain ⟨w3, hw3⟩ : ∃ w3, ((((wB.setCell ⟨rb, 0, none⟩ (.int .i64 0)).setCell ⟨rb, 1, none⟩ (.int .i64 0)).setCell ⟨rb, 2, none⟩ (.slice so sn sc)).setCell ⟨rb, 3, none⟩ (.slice co cn cc)).setCell ⟨rb, 4, none⟩ (.int .i64 14) = w3 := ⟨_, rfl⟩
    have hrB : rb < wB.heap.size := by omega
    have hs3 : w3.heap.size = wB.heap.size := by rw [← hw3]; simp
    have hno : ¬ (fun b => wA.heap.size < b) rb := by show ¬ wA.heap.size < rb; omega
    have HBw3 : Hid (Below w.heap.size w w3) := hide (by rw [← hw3]; exact ((((hbB.setCell (p := ⟨rb, 0, none⟩) hrw _).setCell (p := ⟨rb, 1, none⟩) hrw _).setCell (p := ⟨rb, 2, none⟩) hrw _).setCell (p := ⟨rb, 3, none⟩) hrw _).setCell (p := ⟨rb, 4, none⟩) hrw _)
    have hsh3 : Nums (fun b => wA.heap.size < b) w3 (.slice so sn sc) ((⟨[], [15]⟩ : Arr).shape.map Int.ofNat) := by rw [← hw3]; exact ((((hsh.set hno 0 _).set hno 1 _).set hno 2 _).set hno 3 _).set hno 4 _
    have hcs3 : Nums (fun b => wA.heap.size < b) w3 (.slice co cn cc) (⟨[], [15]⟩ : Arr).cells := by rw [← hw3]; exact ((((hcs.set hno 0 _).set hno 1 _).set hno 2 _).set hno 3 _).set hno 4 _
    have b2 : w3.cell? ⟨rb, 2, none⟩ = some (.slice so sn sc) := by
      rw [← hw3, World.cell?_setCell_other _ _ _ _ (by simp), World.cell?_setCell_other _ _ _ _ (by simp)]
      exact World.cell?_setCell_same _ _ _ ((World.cell?_setCell_other _ _ _ _ (by simp)).trans ((World.cell?_setCell_other _ _ _ _ (by simp)).trans e2))
    have b3 : w3.cell? ⟨rb, 3, none⟩ = some (.slice co cn cc) := by
      rw [← hw3, World.cell?_setCell_other _ _ _ _ (by simp)]
      exact World.cell?_setCell_same _ _ _ ((World.cell?_setCell_other _ _ _ _ (by simp)).trans ((World.cell?_setCell_other _ _ _ _ (by simp)).trans ((World.cell?_setCell_other _ _ _ _ (by simp)).trans e3)))
    have b4 : w3.cell? ⟨rb, 4, none⟩ = some (.int .i64 14) := by
      rw [← hw3]
      exact World.cell?_setCell_same _ _ _ ((World.cell?_setCell_other _ _ _ _ (by simp)).trans ((World.cell?_setCell_other _ _ _ _ (by simp)).trans ((World.cell?_setCell_other _ _ _ _ (by simp)).trans ((World.cell?_setCell_other _ _ _ _ (by simp)).trans e4))))
    obtain ⟨a, ha⟩ : ∃ a : Arr, (⟨[], [15]⟩ : Arr) = a := ⟨_, rfl⟩
    have HAns : Hid (ans env0 1000 ⟨#[43, 47, 32, 49, 32, 43, 32, 105, 111, 116, 97, 32, 53]⟩ = .inr (a, 14)) := hide (by rw [← ha]; exact sum_ansB)
    have hrk : a.shape.length ≤ 200 := by rw [← ha]; exact Nat.zero_le _
    have hfw : a.cells.length ≤ 200 := by rw [← ha]; show 1 ≤ 200; omega
    have hmB : (⟨#[43, 47, 32, 49, 32, 43, 32, 105, 111, 116, 97, 32, 53]⟩ : ByteArray).size ≤ 9223372036854775807 := by decide
    rw [ha] at hsh3 hcs3
    have hA14 : ans env0 14 ⟨#[43, 47, 32, 49, 32, 43, 32, 105, 111, 116, 97, 32, 53]⟩ = .inr (a, 14) := (ans_fuel (unhide HAns)).1 (by omega)
    have HA14 := hide hA14
    clear hA14
    have hc1 : (14 : Int) ≤ 1000 := by omega
    have hr3 : rb < w3.heap.size := by omega
    have HSh : Hid (Nums (fun b => 6 ≤ b ∧ b < w3.heap.size) w3 (.slice so sn sc) (a.shape.map Int.ofNat)) := hide (hsh3.imp (fun b h hl => ⟨by have h : wA.heap.size < b := h; omega, hl⟩))
    have HCs : Hid (Nums (fun b => 6 ≤ b ∧ b < w3.heap.size) w3 (.slice co cn cc) a.cells) := hide (hcs3.imp (fun b h hl => ⟨by have h : wA.heap.size < b := h; omega, hl⟩))
    have HEv3 : Hid (Evs w3) := hide ((unhide HE).below (unhide HBw3) h6)
    have hw63 : w.heap.size ≤ w3.heap.size := (unhide HBw3).size
    clear hs3 ha hsh3 hcs3 hsh hcs hkB hbB hszB hcB hfB HcA HfA HSr HSl HOne HBA hno
    go_upto_region 10 with fail
    try rw [hw3]
    clear hw3 e0 e1 e2 e3 e4 f0 f1 f2 f3 f4
    have c0 : (0 : Int) ≤ (14 : Int) := by omega
    obtain ⟨W4, hW4⟩ : ∃ W4, w3.alloc (.cells #[.int .i64 (14 : Int), .map none] 91) = W4 := ⟨_, rfl⟩
    have hb4 : Below w3.heap.size w3 W4 := by rw [← hW4]; exact (Below.refl _ _).alloc (Nat.le_refl _) _
    have hD4 : DkF (14 : Int) (fun b => 6 ≤ b ∧ b < w3.heap.size) w3.heap.size env0 0 W4 := by rw [← hW4]; exact deskF_new (unhide HEv3)
    obtain ⟨env2, N2, hsays2⟩ := line_ok (db := w3.heap.size) (N := 0) c0 hc1 env0_ok (by decide) (unhide HA14)
    have HIs := hide (is_f _ _ _ _ _ _ _ _ _ _ hsays2 W4 hD4 so sn sc co cn cc ((unhide HSh).below hb4) ((unhide HCs).below hb4) (by simpa using hrk) hfw)
    have b2' : W4.cell? ⟨rb, 2, none⟩ = some (.slice so sn sc) := (hb4.cell (p := ⟨rb, 2, none⟩) hr3).trans b2
    have b3' : W4.cell? ⟨rb, 3, none⟩ = some (.slice co cn cc) := (hb4.cell (p := ⟨rb, 3, none⟩) hr3).trans b3
    have HB4c : Hid (W4.cell? ⟨rb, 4, none⟩ = some (.int .i64 (14 : Int))) := hide ((hb4.cell (p := ⟨rb, 4, none⟩) hr3).trans b4)
    have HB4 : Hid (Below w.heap.size w W4) := hide ((unhide HBw3).trans (hb4.mono hw63))
    have hs34 : w3.heap.size ≤ W4.heap.size := hb4.size
    clear hb4 hD4 hsays2 HSh HCs HEv3 HBw3
    go_wp2_with (go_at_call 32; refine (new_any _ c0 hc1 _).mono ?_; rintro e w' ⟨rfl, hw'⟩; rw [hW4] at hw'; have hw'' := hw'.symm; subst hw''; clear hw')
    refine (unhide HIs).mono ?_
    rintro e w5 ⟨rfl, -, hk5⟩
    have b4'' : w5.cell? ⟨rb, 4, none⟩ = some (.int .i64 (14 : Int)) := (hk5.cell (b := rb) (by omega) ⟨hr6, hr3⟩).trans (unhide HB4c)
    have HB5 : Hid (Below w.heap.size w w5) := hide ((unhide HB4).trans (hk5.whole (by omega) (fun b h1 h2 => ⟨h1, by omega⟩)))
    have HEv5 : Hid (Evs w5) := hide ((unhide HE).below (unhide HB5) h6)
    have hw65 : w.heap.size ≤ w5.heap.size := (unhide HB5).size
    clear hk5 b2 b3 b4 b2' b3' HB4c HB4 HIs hW4 hs34

    clear c0 hc1
    go_wp2_with fail
    refine (unhide HPk _ (by decide) _).mono ?_
    rintro e w' ⟨⟨g, rfl, hg0, hg1⟩, hw'⟩
    have hw'' := hw'.symm
    subst hw''
    clear hw'
    obtain ⟨W6, hW6⟩ : ∃ W6, w5.alloc (.cells #[.int .i64 g, .map none] 91) = W6 := ⟨_, rfl⟩
    have hb6 : Below w5.heap.size w5 W6 := by rw [← hW6]; exact (Below.refl _ _).alloc (Nat.le_refl _) _
    have hD6 : DkF g (fun b => 6 ≤ b ∧ b < w5.heap.size) w5.heap.size env0 0 W6 := by rw [← hW6]; exact deskF_new (unhide HEv5)
    have hm6 : W6.cell? ⟨w5.heap.size, 1, none⟩ = some (.map none) := by rw [← hW6]; exact (World.cell?_alloc_at _ _ _ _ rfl).trans rfl
    have hl6 : w5.heap.size < W6.heap.size := by rw [← hW6]; simp
    obtain ⟨pl, hpl⟩ := (ans_fuel (unhide HAns)).2 hg0 (by omega : g < ((14 : Nat) : Int))
    obtain ⟨W7, hW7⟩ : ∃ W7, W6.alloc (.cells #[.string ⟨#[43, 47, 32, 49, 32, 43, 32, 105, 111, 116, 97, 32, 53]⟩] 9) = W7 := ⟨_, rfl⟩
    have hb7 : Below W6.heap.size W6 W7 := by rw [← hW7]; exact (Below.refl _ _).alloc (Nat.le_refl _) _
    have hc7 : W7.cell? ⟨W6.heap.size, 0, none⟩ = some (.string ⟨#[43, 47, 32, 49, 32, 43, 32, 105, 111, 116, 97, 32, 53]⟩) := by rw [← hW7]; exact (World.cell?_alloc_at _ _ _ _ rfl).trans rfl
    have hl7 : W6.heap.size < W7.heap.size := by rw [← hW7]; simp
    have hrun := run_one W7 w5.heap.size W6.heap.size 1 ⟨#[43, 47, 32, 49, 32, 43, 32, 105, 111, 116, 97, 32, 53]⟩ 10 pl [] [] 0 hc7 hl7 ((line_err (F := g) (S := fun b => 6 ≤ b ∧ b < w5.heap.size) (db := w5.heap.size) (N := 0) hg0 (by omega) env0_ok hmB hpl).2 W7 (hD6.below hb7))
    have HRun := hide hrun
    have HM7 : Hid (W7.cell? ⟨w5.heap.size, 1, none⟩ = some (.map none)) := hide ((hb7.cell (p := ⟨w5.heap.size, 1, none⟩) hl6).trans hm6)
    have HL7 : Hid (w5.heap.size < W7.heap.size) := hide (by omega)
    have HB7 : Hid (Below w.heap.size w W7) := hide (((unhide HB5).trans (hb6.mono hw65)).trans (hb7.mono (by omega)))
    have hg2 : g ≤ 1000 := by omega
    have hw67 : w.heap.size ≤ W7.heap.size := (unhide HB7).size
    clear hb6 hD6 hm6 hl6 hpl hb7 hc7 hl7 hrun b4'' HB5 HEv5
    go_wp2_with (go_at_call 32; refine (new_any _ hg0 hg2 _).mono ?_; rintro e w' ⟨rfl, hw'⟩; rw [hW6] at hw'; have hw'' := hw'.symm; subst hw''; clear hw')
    try rw [hW7]
    clear hW6 hW7
    refine (unhide HRun).mono ?_
    rintro e w8 ⟨qb, qc, so2, sn2, sc2, co2, cn2, cc2, rfl, hv⟩
    have hb8 := hv.bel
    have HNm := hide (names_none w5.heap.size w8 ((hb8.cell (p := ⟨w5.heap.size, 1, none⟩) (unhide HL7)).trans (unhide HM7)))
    have es : sn2 = 0 := by have := nums_len hv.sh; simpa using this
    have ec : cn2 = 0 := by have := nums_len hv.cs; simpa using this
    subst es
    subst ec
    have hql := hv.hi
    have HQ0 := hide hv.q0
    have HQ2 := hide hv.q2
    have HQ3 := hide hv.q3
    have HQ4 := hide hv.q4
    have HB8 : Hid (Below w.heap.size w w8) := hide ((unhide HB7).trans (hb8.mono hw67))
    have hw68 : w.heap.size ≤ w8.heap.size := (unhide HB8).size
    clear hv hb8 HRun HM7 HL7 HB7
    go_wp2_with fail
    refine (unhide HNm).mono ?_
    rintro e w9 ⟨rfl, hb9⟩
    have q0 := (hb9.cell (p := ⟨qb, 0, none⟩) hql).trans (unhide HQ0)
    have q2 := (hb9.cell (p := ⟨qb, 2, none⟩) hql).trans (unhide HQ2)
    have q3 := (hb9.cell (p := ⟨qb, 3, none⟩) hql).trans (unhide HQ3)
    have q4 := (hb9.cell (p := ⟨qb, 4, none⟩) hql).trans (unhide HQ4)
    have HB9 : Hid (Below w.heap.size w w9) := hide ((unhide HB8).trans (hb9.mono hw68))
    clear hb9 HQ0 HQ2 HQ3 HQ4 HB8 HNm
    go_wp2_with fail
    exact bodyPost_ret (v := .bool true) (by simp [results, Tryz.results12, go_sem]) rfl ⟨rfl, unhide HB9⟩
end Go.Proofs.YtjobgpahajhbnaaGreatDoor
