import Derived.Test.YtjobgpahajhbnabGreatDoorDa
import Derived.Test.YtjobgpahajhbnabGreatDoorJc
import Derived.Test.YtjobgpahajhbnabGreatDoorCe
namespace Go.Proofs.YtjobgpahajhbnabGreatDoor
open Go.RowKit Go.Proofs Go.Maps
attribute [local go_sem ↓] Go.wp_at_zero Go.wp_at_succ
set_option maxHeartbeats 4000000 in
set_option maxRecDepth 20000 in
theorem Jdy (w : World) : FnTwo 120 #[] w J3 := by
  intro W P u v a b _ hP ha hb hoa hob
  have ha0 := ha
  have hb0 := hb
  obtain ⟨so, sn, sc, co, cn, cc, rfl, ha1, ha2⟩ := ha
  obtain ⟨so2, sn2, sc2, co2, cn2, cc2, rfl, hb1, hb2⟩ := hb
  have hsn := (Jc ha0).2
  have hcn := (Jc ha0).1
  have hcn2 := (Jc hb0).1
  show Calls Tryz.prog 120 #[.agg #[.slice so sn sc, .slice co cn cc], .agg #[.slice so2 sn2 sc2, .slice co2 cn2 cc2]] W _
  have hst : Bx W (((W.alloc (.cells #[.slice so sn sc, .slice co cn cc] 57)).alloc (.cells #[.slice so2 sn2 sc2, .slice co2 cn2 cc2] 57)).alloc (.cells #[.slice none 0 0, .slice none 0 0] 57)) [[.slice so sn sc, .slice co cn cc], [.slice so2 sn2 sc2, .slice co2 cn2 cc2], [.slice none 0 0, .slice none 0 0]] := (((Bx.nil W).alloc (by simp) [.slice so sn sc, .slice co cn cc] 57).alloc (by simp) [.slice so2 sn2 sc2, .slice co2 cn2 cc2] 57).alloc (by simp) [.slice none 0 0, .slice none 0 0] 57
  have HHas : Hid (∀ w', Below W.heap.size W w' → Calls Tryz.prog 174 #[.agg #[.slice so sn sc, .slice co cn cc], .func (.func 175) #[] #[]] w' fun e w'' => e = .returned (.bool (a.cells.any negB)) ∧ Below w'.heap.size w' w'') := hide (fun w' hb => (Jbw P w' w' (Below.refl _ _) 175 #[] negB (Jcv w') so sn sc co cn cc a.cells (ha2.below hb) hoa.few).mono (fun e w'' h => ⟨h.1, by rw [h.2]; exact (Below.refl _ _).alloc (Nat.le_refl _) _⟩))
  have HST := hide hst
  have HP := hide hP
  have HN2 := hide ha2
  have HNb := hide hb2
  have HSN := hide hsn
  have HCN := hide hcn
  have HCN2 := hide hcn2
  have hcn3 : cn2 ≤ 200 := by have := hob.few; omega
  have hltS := hst.lt
  simp at hltS
  obtain ⟨r, hr⟩ : ∃ r, J3 a b = r := ⟨_, rfl⟩
  simp only [hr]
  have HR := hide hr
  clear ha0 hb0 ha1 ha2 hb1 hb2 hst hP hoa hob hsn hcn hcn2 hr hltS
  go_enter Tryz.func120, Tryz.ntmps120
  go_wp2_with fail
  refine (Yi _ so sn sc co cn cc).mono ?_
  rintro e w1 ⟨rfl, hw1⟩
  have HX1 : Hid (Bx W w1 [[.slice so sn sc, .slice co cn cc], [.slice so2 sn2 sc2, .slice co2 cn2 cc2], [.slice none 0 0, .slice none 0 0]]) := hide ((Ja HST).next (by rw [hw1]; exact (Below.refl _ _).alloc (Nat.le_refl _) _))
  clear hw1 HST
  by_cases h1 : 1 < sn
  · have h1' : (1 : Int) < (sn : Int) := by omega
    have hr' : r = (eArr, 5) := by
      rw [← Ja HR]
      unfold J3
      rw [if_pos (Or.inl (by rw [← Ja HSN]; exact h1))]
    subst hr'
    have r0 : w1.cell? ⟨W.heap.size + 1 + 1, 0, none⟩ = some (.slice none 0 0) := ((Ja HX1).cell 2 0 _ rfl).1
    have r1 : w1.cell? ⟨W.heap.size + 1 + 1, 1, none⟩ = some (.slice none 0 0) := ((Ja HX1).cell 2 1 _ rfl).1
    have g0 : w1.frozen? ⟨W.heap.size + 1 + 1, 0, none⟩ = false := ((Ja HX1).cell 2 0 _ rfl).2
    have g1 : w1.frozen? ⟨W.heap.size + 1 + 1, 1, none⟩ = false := ((Ja HX1).cell 2 1 _ rfl).2
    clear h1
    go_wp2_with fail
    have hf2 := Yd (q := 2) (P := P) (k := 3) (a := eArr) (u0 := .slice none 0 0) (u1 := .slice none 0 0) (Ja HX1).below (by decide) (Yb _ _)
    exact bodyPost_ret (v := .tuple #[.agg #[.slice none 0 0, .slice none 0 0], .int .i64 5]) (by simp [results, Tryz.results120, go_sem, r0, r1]) rfl ⟨none, 0, 0, none, 0, 0, rfl, hf2.1, hf2.2⟩
  · have h1' : ¬ (1 : Int) < (sn : Int) := by omega
    have b0 : w1.cell? ⟨W.heap.size, 0, none⟩ = some (.slice so sn sc) := ((Ja HX1).cell 0 0 _ rfl).1
    have b1 : w1.cell? ⟨W.heap.size, 1, none⟩ = some (.slice co cn cc) := ((Ja HX1).cell 0 1 _ rfl).1
    have HS1 := hide h1
    clear h1
    go_wp2_with fail
    refine (J2 _ so sn sc co cn cc).mono ?_
    rintro e w2 ⟨rfl, hw2⟩
    have HX2 : Hid (Bx W w2 [[.slice so sn sc, .slice co cn cc], [.slice so2 sn2 sc2, .slice co2 cn2 cc2], [.slice none 0 0, .slice none 0 0]]) := hide ((Ja HX1).next (by rw [hw2]; exact (Below.refl _ _).alloc (Nat.le_refl _) _))
    clear hw2 HX1 b0 b1
    by_cases h2 : 3 < cn
    · have h2' : (3 : Int) < (cn : Int) := by omega
      have hr' : r = (eArr, 5) := by
        rw [← Ja HR]
        unfold J3
        rw [if_pos (Or.inr (by rw [← Ja HCN]; exact h2))]
      subst hr'
      have r0 : w2.cell? ⟨W.heap.size + 1 + 1, 0, none⟩ = some (.slice none 0 0) := ((Ja HX2).cell 2 0 _ rfl).1
      have r1 : w2.cell? ⟨W.heap.size + 1 + 1, 1, none⟩ = some (.slice none 0 0) := ((Ja HX2).cell 2 1 _ rfl).1
      have g0 : w2.frozen? ⟨W.heap.size + 1 + 1, 0, none⟩ = false := ((Ja HX2).cell 2 0 _ rfl).2
      have g1 : w2.frozen? ⟨W.heap.size + 1 + 1, 1, none⟩ = false := ((Ja HX2).cell 2 1 _ rfl).2
      clear h2
      go_wp2_with fail
      have hf2 := Yd (q := 2) (P := P) (k := 3) (a := eArr) (u0 := .slice none 0 0) (u1 := .slice none 0 0) (Ja HX2).below (by decide) (Yb _ _)
      exact bodyPost_ret (v := .tuple #[.agg #[.slice none 0 0, .slice none 0 0], .int .i64 5]) (by simp [results, Tryz.results120, go_sem, r0, r1]) rfl ⟨none, 0, 0, none, 0, 0, rfl, hf2.1, hf2.2⟩
    · have h2' : ¬ (3 : Int) < (cn : Int) := by omega
      have b0 : w2.cell? ⟨W.heap.size, 0, none⟩ = some (.slice so sn sc) := ((Ja HX2).cell 0 0 _ rfl).1
      have b1 : w2.cell? ⟨W.heap.size, 1, none⟩ = some (.slice co cn cc) := ((Ja HX2).cell 0 1 _ rfl).1
      have H12 : Hid (¬ (1 < a.shape.length ∨ 3 < a.cells.length)) := hide (by
        have := Ja HS1
        have := Ja HSN
        have := Ja HCN
        omega)
      have hcn9 : cn ≤ 3 := by omega
      clear h2
      go_wp2_with fail
      refine (Ja HHas _ (Ja HX2).below).mono ?_
      rintro e w3 ⟨rfl, hb3⟩
      have HX3 := hide ((Ja HX2).next hb3)
      clear hb3 HX2 b0 b1 HHas
      by_cases h3 : a.cells.any negB = true
      · rw [h3]
        have hr' : r = (eArr, 7) := by
          rw [← Ja HR]
          unfold J3
          rw [if_neg (Ja H12), if_pos h3]
        subst hr'
        have r0 : w3.cell? ⟨W.heap.size + 1 + 1, 0, none⟩ = some (.slice none 0 0) := ((Ja HX3).cell 2 0 _ rfl).1
        have r1 : w3.cell? ⟨W.heap.size + 1 + 1, 1, none⟩ = some (.slice none 0 0) := ((Ja HX3).cell 2 1 _ rfl).1
        have g0 : w3.frozen? ⟨W.heap.size + 1 + 1, 0, none⟩ = false := ((Ja HX3).cell 2 0 _ rfl).2
        have g1 : w3.frozen? ⟨W.heap.size + 1 + 1, 1, none⟩ = false := ((Ja HX3).cell 2 1 _ rfl).2
        clear h3
        go_wp2_with fail
        have hf2 := Yd (q := 2) (P := P) (k := 3) (a := eArr) (u0 := .slice none 0 0) (u1 := .slice none 0 0) (Ja HX3).below (by decide) (Yb _ _)
        exact bodyPost_ret (v := .tuple #[.agg #[.slice none 0 0, .slice none 0 0], .int .i64 7]) (by simp [results, Tryz.results120, go_sem, r0, r1]) rfl ⟨none, 0, 0, none, 0, 0, rfl, hf2.1, hf2.2⟩
      · have h3' : a.cells.any negB = false := by simpa using h3
        rw [h3']
        have HNeg := hide h3'
        have b1 : w3.cell? ⟨W.heap.size, 1, none⟩ = some (.slice co cn cc) := ((Ja HX3).cell 0 1 _ rfl).1
        clear h3 h3'
        obtain ⟨ys, hys⟩ : ∃ ys, (a.cells.map fun c => min c 65) = ys := ⟨_, rfl⟩
        have HYS := hide hys
        have hyl : ys.length = cn := by rw [← hys, List.length_map, Ja HCN]
        have HYL := hide hyl
        have HN3 := hide ((Ja HN2).below (Ja HX3).below)
        clear hys hyl HN2
        go_wp2_with fail
        go_loopw [6, 26] (fun v6 v26 wr => ∃ i : Nat, v26 = .int .i64 i ∧ i ≤ cn ∧ OwnI w3.heap.size wr v6 (ys.take i) ∧ Below w3.heap.size w3 wr) (fun _ v26 _ => cn - (intOf v26).toNat)
        case atStart => exact ⟨0, rfl, by omega, by simpa using OwnI.nil _ _, Below.refl _ _⟩
        case round =>
          obtain ⟨i, rfl, hi, ho, hb⟩ := hrel
          rename World => wr
          have HO := hide ho
          have HB := hide hb
          by_cases hin : i < cn
          · have hil : i < a.cells.length := by rw [← Ja HCN]; exact hin
            obtain ⟨cb, cof, rfl, hcb, hcell, hcap⟩ := (Ja HN3).at hil
            obtain ⟨x, hx⟩ : ∃ x, a.cells[i] = x := ⟨_, rfl⟩
            rw [hx] at hcell
            have c0 := (hb.cell (p := ⟨cb, cof + i, none⟩) hcb).trans hcell
            have HT : Hid (ys.take (i + 1) = ys.take i ++ [min x 65]) := hide (by
              have h2 : ys[i]? = some (min x 65) := by rw [← Ja HYS, List.getElem?_map, List.getElem?_eq_getElem hil, hx]; rfl
              rw [List.take_add_one, h2]
              rfl)
            have i0 : (0 : Int) ≤ (i : Int) := by omega
            have i1 : (i : Int) < (cn : Int) := by omega
            have HK : Hid ((ys.take i).length ≤ 10) := hide (by simp; omega)
            clear ho hb hcell hx hil hcap
            go_wp2_with (at_builtin; refine Ja3 rfl _ _ rfl (Ja HO) (by have := Ja HK; omega) (Ja HB).size (min x 65) rfl rfl ?_)
            intro v' w4 ho4 hb4
            have HO4 := hide ho4
            have HB4 := hide ((Ja HB).trans hb4)
            clear ho4 hb4
            go_wp2_with fail
            go_roundw
            case rel => exact ⟨i + 1, by go_num, by omega, by rw [Ja HT]; exact Ja HO4, Ja HB4⟩
            case measure => simp [intOf]; omega
          · have hie : i = cn := by omega
            have hT : ys.take i = ys := List.take_of_length_le (by rw [Ja HYL]; omega)
            rw [hT] at ho
            have i1 : ¬ (i : Int) < (cn : Int) := by omega
            obtain ⟨vo, vc, rfl⟩ := ho.shape
            have HX4 := hide ((Ja HX3).next hb)
            have hlt3 := (Ja HX3).lt
            simp at hlt3
            have hyn : ys.length = cn := Ja HYL
            rw [hyn] at ho ⊢
            obtain ⟨sh, hsh⟩ : ∃ sh, Zc a.cells = sh := ⟨_, rfl⟩
            have hys : ys = sh.map Int.ofNat := by rw [← Ja HYS, ← hsh, Nl (Ja HNeg)]
            have HNs : Hid (Nums (OffB W.heap.size 3 P) wr (.slice vo cn vc) (sh.map Int.ofNat)) := hide (by
              rw [← hys]
              exact ho.nums.imp (fun b h _ => OffB.new (Ja HP) (by omega)))
            have HLens : Hid (Lens sh) := hide ⟨by rw [← hsh, Xk, ← Ja HCN]; exact hcn9, fun n hn => by rw [← hsh] at hn; have := Jdr hn; omega⟩
            have HSH := hide hsh
            clear ho hb hT hie HO HB HX3 HN3 HYS HYL hyn hys hsh hi b1 hin
            go_wp2_with fail
            refine (V6 wr vo cn vc sh (Ja HNs) (Ja HLens)).mono ?_
            rintro e w5 ⟨rfl, hw5⟩
            have hw5' := hw5.symm
            subst hw5'
            clear hw5
            by_cases hft : Yu sh = true
            · rw [hft]
              have H3 : Hid (¬ Yu (Zc a.cells) = false) := hide (by rw [Ja HSH, hft]; simp)
              have hp64 : Jj sh ≤ 64 := (Jc6 hft).2
              have HCnt := hide (fun (w' : World) (hb : Below wr.heap.size wr w') => Q5 w' vo cn vc sh ((Ja HNs).below hb) (Ja HLens))
              obtain ⟨n, hn⟩ : ∃ n, Jj sh = n := ⟨_, rfl⟩
              rw [hn] at hp64
              simp only [hn] at HCnt
              have HNN := hide hn
              have b0 : wr.cell? ⟨W.heap.size + 1, 0, none⟩ = some (.slice so2 sn2 sc2) := ((Ja HX4).cell 1 0 _ rfl).1
              have b1 : wr.cell? ⟨W.heap.size + 1, 1, none⟩ = some (.slice co2 cn2 cc2) := ((Ja HX4).cell 1 1 _ rfl).1
              clear hft hn
              go_wp2_with fail
              refine (J2 _ so2 sn2 sc2 co2 cn2 cc2).mono ?_
              rintro e w6 ⟨rfl, hw6⟩
              have hb6 : Below wr.heap.size wr w6 := by rw [hw6]; exact (Below.refl _ _).alloc (Nat.le_refl _) _
              have HX6 := hide ((Ja HX4).next hb6)
              have HB6 := hide hb6
              clear hw6 HX4 b0 b1 hb6
              obtain ⟨i0, hi, hz0, hz1, hz2⟩ := info_parts Tryz.info2
              have HI := hide hi
              have HZ0 := hide hz0
              have HZ1 := hide hz1
              have HZ2 := hide hz2
              clear hi hz0 hz1 hz2
              by_cases hc0 : cn2 = 0
              · have e0 : ((cn2 : Int) == 0) = true := by simpa using hc0
                by_cases hn0 : 0 < n
                · have e1 : (0 : Int) < (n : Int) := by omega
                  have hr' : r = (eArr, 6) := by
                    rw [← Ja HR]
                    unfold J3
                    rw [if_neg (Ja H12), Ja HNeg, if_neg (by simp), if_neg (Ja H3), Ja HSH, Ja HNN, if_pos ⟨by rw [← Ja HCN2]; exact hc0, hn0⟩]
                  subst hr'
                  have r0 : w6.cell? ⟨W.heap.size + 1 + 1, 0, none⟩ = some (.slice none 0 0) := ((Ja HX6).cell 2 0 _ rfl).1
                  have r1 : w6.cell? ⟨W.heap.size + 1 + 1, 1, none⟩ = some (.slice none 0 0) := ((Ja HX6).cell 2 1 _ rfl).1
                  have g0 : w6.frozen? ⟨W.heap.size + 1 + 1, 0, none⟩ = false := ((Ja HX6).cell 2 0 _ rfl).2
                  have g1 : w6.frozen? ⟨W.heap.size + 1 + 1, 1, none⟩ = false := ((Ja HX6).cell 2 1 _ rfl).2
                  clear hc0 hn0
                  go_wp2_with fail
                  refine (Ja HCnt w6 (Ja HB6)).mono ?_
                  rintro e w7 ⟨rfl, hw7⟩
                  have hw7' := hw7.symm
                  subst hw7'
                  clear hw7
                  go_wp2_with fail
                  have hf2 := Yd (q := 2) (P := P) (k := 3) (a := eArr) (u0 := .slice none 0 0) (u1 := .slice none 0 0) (Ja HX6).below (by decide) (Yb _ _)
                  exact bodyPost_ret (v := .tuple #[.agg #[.slice none 0 0, .slice none 0 0], .int .i64 6]) (by simp [results, Tryz.results120, go_sem, r0, r1]) rfl ⟨none, 0, 0, none, 0, 0, rfl, hf2.1, hf2.2⟩
                · have e1 : ¬ (0 : Int) < (n : Int) := by omega
                  have hr' : r = (⟨sh, reC n b.cells n⟩, 0) := by
                    rw [← Ja HR]
                    unfold J3
                    rw [if_neg (Ja H12), Ja HNeg, if_neg (by simp), if_neg (Ja H3), Ja HSH, Ja HNN, if_neg (by rintro ⟨_, h⟩; exact hn0 h)]
                  subst hr'
                  have hnz : n = 0 := by omega
                  subst hnz
                  clear hc0 hn0
                  go_wp2_with fail
                  refine (Ja HCnt w6 (Ja HB6)).mono ?_
                  rintro e w7 ⟨rfl, hw7⟩
                  have hw7' := hw7.symm
                  subst hw7'
                  clear hw7
                  go_wp2_with fail
                  refine (Ja HCnt w6 (Ja HB6)).mono ?_
                  rintro e w7 ⟨rfl, hw7⟩
                  have hw7' := hw7.symm
                  subst hw7'
                  clear hw7
                  go_wp2_with (at_make; refine wpList_make_full _ rfl _ _ 32 rfl w6.heap.size 2 i0 (.int .i64 0) 1 Tryz.underlying32 (Ja HI) (Ja HZ0) (Ja HZ1) .i64 .i64 0 0 0 rfl rfl rfl rfl ?c1 ?c2 (Nat.le_refl _) ?_)
                  case c1 => rw [Ja HZ2]; omega
                  case c2 => unfold maxLen; omega
                  intro w8 hown hg
                  have hown : w8.ownsRow w6.heap.size 2 1 (.slice (some ⟨w6.heap.size, 0, none⟩) 0 0) 0 (List.replicate 0 (.int .i64 0)) := by
                    have := toList_madeCells_one (.int .i64 0) (0 * 1)
                    rw [Nat.mul_one] at this
                    rw [← this]
                    simpa using hown
                  have hb8 : Below w6.heap.size w6 w8 := (Below.refl _ _).grown hg (Nat.le_refl _) (fun _ h => by cases h)
                  have hlt8 : w6.heap.size < w8.heap.size := hown.lt w6.heap.size rfl |>.2
                  have hcl : ∀ p x, (reC 0 b.cells 0)[p]? = some x → w8.cell? ⟨w6.heap.size, p, none⟩ = some (.int .i64 x) := by
                    intro p x hp
                    simp [reC] at hp
                  have HRw : Hid (Rw w8 w6.heap.size (reC 0 b.cells 0)) := hide ⟨hlt8, hcl, fun p => hown.frozenAt p⟩
                  have HX8 := hide ((Ja HX6).next hb8)
                  have HN6 := hide ((Ja HNs).below (Ja HB6))
                  have HN8 : Hid (Nums (fun b => OffB W.heap.size 3 P b ∧ b ≠ w6.heap.size) w8 (.slice vo cn vc) (sh.map Int.ofNat)) := hide (((Ja HN6).imp (fun b h hl => ⟨h, by omega⟩)).below hb8)
                  have hgk : W.heap.size + 3 ≤ w6.heap.size := (Ja HX6).lt
                  obtain ⟨gk, hgke⟩ : ∃ gk, w6.heap.size = gk := ⟨_, rfl⟩
                  rw [hgke] at HRw HN8 hgk hlt8 ⊢
                  clear hcl hown hg hb8 hgke HI HZ0 HZ1 HZ2 HX6
                  go_wp2_with fail
                  go_loopw [54] (fun v54 wr => v54 = .int .i64 0 ∧ wr = w8) (fun _ _ => 0)
                  case atStart => exact ⟨rfl, rfl⟩
                  case round =>
                    obtain ⟨rfl, hwr⟩ := hrel
                    have hwr' := hwr.symm
                    subst hwr'
                    clear hwr
                    have HRwF := HRw
                    have r0 : w8.cell? ⟨W.heap.size + 1 + 1, 0, none⟩ = some (.slice none 0 0) := ((Ja HX8).cell 2 0 _ rfl).1
                    have r1 : w8.cell? ⟨W.heap.size + 1 + 1, 1, none⟩ = some (.slice none 0 0) := ((Ja HX8).cell 2 1 _ rfl).1
                    have g0 : w8.frozen? ⟨W.heap.size + 1 + 1, 0, none⟩ = false := ((Ja HX8).cell 2 0 _ rfl).2
                    have g1 : w8.frozen? ⟨W.heap.size + 1 + 1, 1, none⟩ = false := ((Ja HX8).cell 2 1 _ rfl).2
                    go_wp2_with fail
                    have hf2 := Yd (q := 2) (u0 := .slice vo cn vc) (u1 := .slice (some ⟨gk, 0, none⟩) 0 0) (Ja HX8).below (by decide) (G8 (sh := sh) ((Ja HN8).imp (fun b h _ => h.1)) ((Ja HRwF).nums (OffB.new (Ja HP) hgk) (Xn _ _ _)))
                    exact bodyPost_ret (v := .tuple #[.agg #[.slice vo cn vc, .slice (some ⟨gk, 0, none⟩) 0 0], .int .i64 0]) (by simp [results, Tryz.results120, go_sem, r0, r1]) rfl ⟨_, _, _, _, _, _, rfl, hf2.1, hf2.2⟩
              · have e0 : ((cn2 : Int) == 0) = false := beq_false_of_ne (by omega)
                have hr' : r = (⟨sh, reC n b.cells n⟩, 0) := by
                  rw [← Ja HR]
                  unfold J3
                  rw [if_neg (Ja H12), Ja HNeg, if_neg (by simp), if_neg (Ja H3), Ja HSH, Ja HNN, if_neg (by rintro ⟨h, _⟩; rw [← Ja HCN2] at h; exact hc0 h)]
                subst hr'
                have hc1 : 0 < cn2 := by omega
                clear hc0
                go_wp2_with fail
                refine (Ja HCnt w6 (Ja HB6)).mono ?_
                rintro e w7 ⟨rfl, hw7⟩
                have hw7' := hw7.symm
                subst hw7'
                clear hw7
                go_wp2_with (at_make; refine wpList_make_full _ rfl _ _ 32 rfl w6.heap.size 2 i0 (.int .i64 0) 1 Tryz.underlying32 (Ja HI) (Ja HZ0) (Ja HZ1) .i64 .i64 n n n rfl rfl rfl rfl ?c1 ?c2 (Nat.le_refl _) ?_)
                case c1 => rw [Ja HZ2]; omega
                case c2 => unfold maxLen; omega
                intro w8 hown hg
                have hown : w8.ownsRow w6.heap.size 2 1 (.slice (some ⟨w6.heap.size, 0, none⟩) n n) n (List.replicate n (.int .i64 0)) := by
                  have := toList_madeCells_one (.int .i64 0) (n * 1)
                  rw [Nat.mul_one] at this
                  rw [← this]
                  simpa using hown
                have hb8 : Below w6.heap.size w6 w8 := (Below.refl _ _).grown hg (Nat.le_refl _) (fun _ h => by cases h)
                have hlt8 : w6.heap.size < w8.heap.size := hown.lt w6.heap.size rfl |>.2
                have hcl : ∀ p x, (reC n b.cells 0)[p]? = some x → w8.cell? ⟨w6.heap.size, p, none⟩ = some (.int .i64 x) := by
                  intro p x hp
                  rw [Jjj, List.getElem?_replicate] at hp
                  split at hp
                  · rename_i hpl
                    have h1 := hown.cellAt p (by simpa using hpl)
                    rw [List.getElem?_replicate, if_pos hpl] at h1
                    rw [← Option.some.inj hp]
                    exact h1
                  · cases hp
                have HRw : Hid (Rw w8 w6.heap.size (reC n b.cells 0)) := hide ⟨hlt8, hcl, fun p => hown.frozenAt p⟩
                have HX8 := hide ((Ja HX6).next hb8)
                have HN6 := hide ((Ja HNs).below (Ja HB6))
                have HN8 : Hid (Nums (fun b => OffB W.heap.size 3 P b ∧ b ≠ w6.heap.size) w8 (.slice vo cn vc) (sh.map Int.ofNat)) := hide (((Ja HN6).imp (fun b h hl => ⟨h, by omega⟩)).below hb8)
                have hgk : W.heap.size + 3 ≤ w6.heap.size := (Ja HX6).lt
                obtain ⟨gk, hgke⟩ : ∃ gk, w6.heap.size = gk := ⟨_, rfl⟩
                rw [hgke] at HRw HN8 hgk hlt8 ⊢
                clear hcl hown hg hb8 hgke HI HZ0 HZ1 HZ2 HX6
                go_wp2_with fail
                have HNb8 := hide ((Ja HNb).below (Ja HX8).below)
                go_loopw [54] (fun v54 wr => ∃ i : Nat, v54 = .int .i64 i ∧ i ≤ n ∧ Bs (fun b => b = gk) w8 wr ∧ Rw wr gk (reC n b.cells i)) (fun v54 _ => n - (intOf v54).toNat)
                case atStart => exact ⟨0, rfl, by omega, Bs.of (Below.refl _ _), Ja HRw⟩
                case round =>
                  obtain ⟨i, rfl, hin, hbs, hrw⟩ := hrel
                  rename World => wx
                  have HX9 := hide ((Ja HX8).bs hbs (by simpa using hgk))
                  have hlt9 := (Ja HX9).lt
                  simp at hlt9
                  have hsz9 := hbs.size
                  by_cases hil : i < n
                  · have hm : i % cn2 < cn2 := Nat.mod_lt _ hc1
                    have hmx : i % cn2 < b.cells.length := by rw [← Ja HCN2]; exact hm
                    obtain ⟨m, hmm⟩ : ∃ m, i % cn2 = m := ⟨_, rfl⟩
                    have hm1 : (i : Int).tmod (cn2 : Int) = (m : Int) := by rw [← hmm]; exact (Int.ofNat_tmod i cn2).symm
                    have hm2 : (i : Int) % (cn2 : Int) = (m : Int) := by rw [← hmm]; simp
                    rw [hmm] at hm hmx
                    have HNb9 := (Ja HNb8)
                    obtain ⟨cb, cof, rfl, hPb, hcb, hcell⟩ : ∃ cb cof, co2 = some ⟨cb, cof, none⟩ ∧ cb < W.heap.size ∧ cb < w8.heap.size ∧ w8.cell? ⟨cb, cof + m, none⟩ = some (.int .i64 (b.cells[m]'hmx)) := by
                      obtain ⟨cb, cof, e1, e2, e3, _⟩ := (Ja HNb).at hmx
                      exact ⟨cb, cof, e1, e2, Nat.lt_of_lt_of_le e2 (Ja HX8).below.size, ((Ja HX8).below.cell (p := ⟨cb, cof + m, none⟩) e2).trans e3⟩
                    obtain ⟨x, hx⟩ : ∃ x, b.cells[m] = x := ⟨_, rfl⟩
                    rw [hx] at hcell
                    have c0 : wx.cell? ⟨cb, cof + m, none⟩ = some (.int .i64 x) := (hbs.cell hcb (fun (e : cb = gk) => by omega)).trans hcell
                    have HSet : Hid ((reC n b.cells i).set i x = reC n b.cells (i + 1)) := hide (by
                      rw [← Jl7 hil, ← Ja HCN2, hmm, List.getD_eq_getElem?_getD, List.getElem?_eq_getElem hmx, hx]
                      rfl)
                    have hplt : i < (reC n b.cells i).length := by rw [Xn]; exact hil
                    have gc0 := hrw.cell i _ (List.getElem?_eq_getElem hplt)
                    obtain ⟨old, hold⟩ : ∃ old, (reC n b.cells i)[i] = old := ⟨_, rfl⟩
                    rw [hold] at gc0
                    have gf0 := hrw.fr i
                    have gl0 := hrw.lt
                    have HFacts : Hid (∀ w', Below wx.heap.size wx w' → w'.cell? ⟨W.heap.size + 1, 0, none⟩ = some (.slice so2 sn2 sc2) ∧ w'.cell? ⟨W.heap.size + 1, 1, none⟩ = some (.slice (some ⟨cb, cof, none⟩) cn2 cc2) ∧ w'.cell? ⟨cb, cof + m, none⟩ = some (.int .i64 x) ∧ w'.cell? ⟨gk, i, none⟩ = some (.int .i64 old) ∧ w'.frozen? ⟨gk, i, none⟩ = false ∧ W.heap.size + 1 < w'.heap.size ∧ cb < w'.heap.size ∧ gk < w'.heap.size ∧ Rw (w'.setCell ⟨gk, i, none⟩ (.int .i64 x)) gk (reC n b.cells (i + 1)) ∧ Bs (fun b => b = gk) w8 (w'.setCell ⟨gk, i, none⟩ (.int .i64 x))) := hide (fun w' hb' => by
                      have hX' := (Ja HX9).next hb'
                      have hz' := hb'.size
                      have hr' := hrw.below hb'
                      have hcx : cb < wx.heap.size := Nat.lt_of_lt_of_le hcb hsz9
                      refine ⟨(hX'.cell 1 0 _ rfl).1, (hX'.cell 1 1 _ rfl).1, (hb'.cell (p := ⟨cb, cof + m, none⟩) hcx).trans c0, ?_, hr'.fr i, by omega, by omega, hr'.lt, ?_, Jlr (hbs.trans (Bs.of (S := fun b => b = gk) hb') (fun _ _ h => h)) _⟩
                      · exact (hb'.cell (p := ⟨gk, i, none⟩) gl0).trans gc0
                      · rw [← Ja HSet]
                        exact hr'.set hplt x)
                    obtain ⟨z0, z1, z2, z3, z4, z5, z6, z7, -, -⟩ := Ja HFacts wx (Below.refl _ _)
                    have z8 : ((cn2 : Int) == 0) = false := beq_false_of_ne (by omega)
                    have i0' : (0 : Int) ≤ (i : Int) := by omega
                    have i1 : (i : Int) < (n : Int) := by omega
                    have m0 : (0 : Int) ≤ (m : Int) := by omega
                    have m1 : (m : Int) < (cn2 : Int) := by omega
                    clear hbs hrw hcell hx hmm hm hmx HNb9 hold gc0 gf0 hplt c0 hPb hcb
                    go_wp2_with fail
                    go_region_with (go_at_call 76; refine (J2 _ so2 sn2 sc2 (some ⟨cb, cof, none⟩) cn2 cc2).mono ?_; rintro e w9 ⟨rfl, hw9⟩; have HB9 : Hid (Below wx.heap.size wx w9) := hide (by rw [hw9]; exact (Below.refl _ _).drew.alloc (by simp) _); clear hw9; obtain ⟨y0, y1, y2, y3, y4, y5, y6, y7, hrwN, hbsN⟩ := Ja HFacts w9 (Ja HB9); have HRN := hide hrwN; have HBN := hide hbsN; clear hrwN hbsN)
                    all_goals
                      go_wp2_with fail
                      go_roundw
                      case rel => exact ⟨i + 1, by go_num, by omega, Ja HBN, Ja HRN⟩
                      case measure => simp [intOf]; omega
                  · have hie : i = n := by omega
                    subst hie
                    have HRwF := hide hrw
                    have HN9 : Hid (Nums (fun b => OffB W.heap.size 3 P b ∧ b ≠ gk) wx (.slice vo cn vc) (sh.map Int.ofNat)) := hide ((Ja HN8).keep hbs.size (fun b hb hl => hbs.block b hl hb.2))
                    clear hbs hrw
                    have r0 : wx.cell? ⟨W.heap.size + 1 + 1, 0, none⟩ = some (.slice none 0 0) := ((Ja HX9).cell 2 0 _ rfl).1
                    have r1 : wx.cell? ⟨W.heap.size + 1 + 1, 1, none⟩ = some (.slice none 0 0) := ((Ja HX9).cell 2 1 _ rfl).1
                    have g0 : wx.frozen? ⟨W.heap.size + 1 + 1, 0, none⟩ = false := ((Ja HX9).cell 2 0 _ rfl).2
                    have g1 : wx.frozen? ⟨W.heap.size + 1 + 1, 1, none⟩ = false := ((Ja HX9).cell 2 1 _ rfl).2
                    go_wp2_with fail
                    have hf2 := Yd (q := 2) (u0 := .slice vo cn vc) (u1 := .slice (some ⟨gk, 0, none⟩) i i) (Ja HX9).below (by decide) (G8 (sh := sh) ((Ja HN9).imp (fun b h _ => h.1)) ((Ja HRwF).nums (OffB.new (Ja HP) hgk) (Xn _ _ _)))
                    exact bodyPost_ret (v := .tuple #[.agg #[.slice vo cn vc, .slice (some ⟨gk, 0, none⟩) i i], .int .i64 0]) (by simp [results, Tryz.results120, go_sem, r0, r1]) rfl ⟨_, _, _, _, _, _, rfl, hf2.1, hf2.2⟩
            · have hft' : Yu sh = false := by simpa using hft
              rw [hft']
              have hr' : r = (eArr, 9) := by
                rw [← Ja HR]
                unfold J3
                rw [if_neg (Ja H12), Ja HNeg, if_neg (by simp), Ja HSH, if_pos hft']
              subst hr'
              have r0 : wr.cell? ⟨W.heap.size + 1 + 1, 0, none⟩ = some (.slice none 0 0) := ((Ja HX4).cell 2 0 _ rfl).1
              have r1 : wr.cell? ⟨W.heap.size + 1 + 1, 1, none⟩ = some (.slice none 0 0) := ((Ja HX4).cell 2 1 _ rfl).1
              have g0 : wr.frozen? ⟨W.heap.size + 1 + 1, 0, none⟩ = false := ((Ja HX4).cell 2 0 _ rfl).2
              have g1 : wr.frozen? ⟨W.heap.size + 1 + 1, 1, none⟩ = false := ((Ja HX4).cell 2 1 _ rfl).2
              clear hft hft'
              go_wp2_with fail
              have hf2 := Yd (q := 2) (P := P) (k := 3) (a := eArr) (u0 := .slice none 0 0) (u1 := .slice none 0 0) (Ja HX4).below (by decide) (Yb _ _)
              exact bodyPost_ret (v := .tuple #[.agg #[.slice none 0 0, .slice none 0 0], .int .i64 9]) (by simp [results, Tryz.results120, go_sem, r0, r1]) rfl ⟨none, 0, 0, none, 0, 0, rfl, hf2.1, hf2.2⟩
theorem Jbk : TwoC ⟨#[114, 104, 111]⟩ J3 := ⟨fun w => (Z3 (t := ⟨#[114, 104, 111]⟩) (k1 := .string [104, 111]) (k2 := .string [114, 104, 111]) (f := 120) (by decide) (by kernel_rfl) (by kernel_rfl) (by kernel_rfl) (by kernel_rfl) (by kernel_rfl) w).mono (by rintro e w' ⟨rfl, hb⟩; exact ⟨120, #[], rfl, Tryz.enters120, hb, Jdy w'⟩), fun a b _ hb => by
  by_cases h : (J3 a b).2 = 0
  · have := Jbl hb h
    exact ⟨this.few, fun _ => this⟩
  · exact ⟨by rw [Fm h]; simp [eArr], fun h' => absurd h' h⟩⟩
end Go.Proofs.YtjobgpahajhbnabGreatDoor
namespace Go.Proofs
open Go.Shelf
def Tryz.grow277_ren : Go.Shelf.Ren := ⟨fun | 4 => 202 | n => n, fun | 22 => 31 | 25 => 3 | 3 => 3 | 4 => 4 | 9 => 9 | 20 => 20 | 0 => 0 | n => n, fun | n => n⟩
theorem Tryz.grow277 : Go.Proofs.Lays8.n4 Tryz.prog Tryz.grow277_ren := {
  mixed := by kernel_rfl
  f4 := ⟨Tryz.f202.name, by decide, Tryz.func202.trans (congrArg some (by kernel_rfl))⟩
  t0 := Tryz.underlying0
  a0 := Tryz.isAgg0
  z0 := Tryz.sizeOf0
  v0 := Tryz.zeroValue0
  t3 := Tryz.underlying3
  a3 := Tryz.isAgg3
  z3 := Tryz.sizeOf3
  v3 := Tryz.zeroValue3
  t4 := Tryz.underlying4
  a4 := Tryz.isAgg4
  z4 := Tryz.sizeOf4
  v4 := Tryz.zeroValue4
  t9 := Tryz.underlying9
  a9 := Tryz.isAgg9
  z9 := Tryz.sizeOf9
  v9 := Tryz.zeroValue9
  t20 := Tryz.underlying20
  a20 := Tryz.isAgg20
  z20 := Tryz.sizeOf20
  v20 := Tryz.zeroValue20
  t22 := Tryz.underlying31
  a22 := Tryz.isAgg31
  z22 := Tryz.sizeOf31
  v22 := Tryz.zeroValue31 }
end Go.Proofs
namespace Go.Proofs.YtjobgpahajhbnabGreatDoor
open Go.RowKit Go.Proofs Go.Maps
attribute [local go_sem ↓] Go.wp_at_zero Go.wp_at_succ
theorem Jhr (n : Nat) (hn : n ≤ 1000000) (w : World) : Calls Tryz.prog 202 #[.slice none 0 0, .int .i64 n] w fun e w' => ∃ v, e = .returned v ∧ w'.ownsRow w.heap.size 3 1 v 0 [] ∧ Below w.heap.size w w' := by
  obtain ⟨i0, hi, hz0, hz1, hz2⟩ := info_parts Tryz.info3
  by_cases h0 : n = 0
  · subst h0
    refine (Any8.slices_Grow_room Tryz.grow277 none 0 0 0 w (by omega) (by omega) (by omega) (by omega)).mono ?_
    rintro e w' ⟨rfl, rfl⟩
    exact ⟨_, rfl, World.ownsRow_nil _ _ _ _, Below.refl _ _⟩
  · refine (Any8.slices_Grow_grow Tryz.grow277 i0 (.int .i64 0) hi hz0 (by omega) none 0 0 n [] w (by omega) (by omega) (by rw [hz2]; omega) (by omega) (by simp) (by simp) (by simp)).mono ?_
    rintro e w' ⟨rfl, rfl⟩
    have hh : ∀ o, (w.drew.alloc o).heap[w.heap.size]? = some o := fun o => by show (w.heap.push o)[w.heap.size]? = _; simp
    have hge := grownCap_ge w (0 + n) 0 3
    have hle := grownCap_le_maxLen w (0 + n) 0 3 (by unfold maxLen; omega)
    refine ⟨_, rfl, ⟨by simp, .inr ⟨_, _, _, rfl, Nat.le_refl _, hh _, by omega, hle, ?_, by simp⟩⟩, ?_⟩
    · simp only [Array.size_append, List.size_toArray, List.length_nil, Gl]
      show _ = grownCap w (0 + n) 0 3 * 1
      show 0 + (0 + n - 0) + (grownCap w (0 + n) 0 3 - (0 + n)) = _
      omega
    · exact (Below.refl _ _).drew.alloc (by simp) _
set_option maxHeartbeats 2000000 in
set_option maxRecDepth 10000 in
theorem Jb4 (P : Nat → Prop) {Q : Nat → Prop} (w : World) (hP : ∀ b, w.heap.size ≤ b → P b) (gb k cap : Nat) (L : List (List Int)) (hk : L.length = k) (hk3 : k ≤ 200) (hgb : gb < w.heap.size) (hL : Jcc Q w gb L) (hfew : L.flatten.length ≤ 1000000) :
    Calls Tryz.prog 173 #[.slice (some ⟨gb, 0, none⟩) k cap] w fun e w' => ∃ so sn sc, e = .returned (.slice so sn sc) ∧ Nums P w' (.slice so sn sc) L.flatten ∧ Below w.heap.size w w' := by
  obtain ⟨i0, hi, hz0, hz1, hz2⟩ := info_parts Tryz.info3
  have HI := hide hi
  have HZ0 := hide hz0
  have HZ1 := hide hz1
  have HZ2 := hide hz2
  have HP : Hid (∀ b, w.heap.size ≤ b → P b) := hP
  have HL := hide hL
  have HK := hide hk
  have HF := hide hfew
  have HG := hide (fun n (h : n ≤ 1000000) w' => Jhr n h w')
  clear hi hz0 hz1 hz2 hP hL hk hfew
  go_enter Tryz.func173, Tryz.ntmps173
  go_wp2_with fail
  go_loopw [3, 11] (fun v3 v11 wr => ∃ i : Nat, v3 = .int .i64 (lens L i) ∧ v11 = .int .i64 i ∧ i ≤ k ∧ wr = w) (fun _ v11 _ => k - (intOf v11).toNat)
  case atStart => exact ⟨0, by simp [lens], rfl, by omega, rfl⟩
  case round =>
    obtain ⟨i, rfl, rfl, hik, hwr⟩ := hrel
    have hwr' := hwr.symm
    subst hwr'
    by_cases hlt : i < k
    · have hil : i < L.length := by rw [Ja HK]; exact hlt
      obtain ⟨o, n, c, hc, hn⟩ := Ja HL i hil
      have hnl := Jf hn
      have hsum := Qw hil
      rw [← hnl] at hsum
      have hle := Vk L (i + 1)
      have hf := Ja HF
      have hi0 : (0 : Int) ≤ (i : Int) := by omega
      have hi1 : (i : Int) < (k : Int) := by omega
      obtain ⟨m, hm⟩ : ∃ m, lens L i = m := ⟨_, rfl⟩
      obtain ⟨m', hm'⟩ : ∃ m', lens L (i + 1) = m' := ⟨_, rfl⟩
      rw [hm, hm'] at hsum
      rw [hm'] at hle
      rw [hm]
      have hw1 : IntKind.i64.wrap ((m : Int) + (n : Int)) = (m' : Int) := by rw [Jd (by omega) (by omega)]; omega
      have hneg : ¬ ((m' : Int) < 0) := by omega
      have HM' := hide hm'
      clear hn hnl hsum hle hf hm hm'
      go_wp2_with fail
      go_roundw
      case rel => exact ⟨i + 1, by rw [Ja HM'], by go_num, by omega, (by first | rfl | trivial)⟩
      case measure => simp [intOf]; omega
    · have hik' : i = k := by omega
      subst hik'
      have hle : lens L i ≤ 1000000 := Nat.le_trans (Vk L i) (Ja HF)
      obtain ⟨m, hm⟩ : ∃ m, lens L i = m := ⟨_, rfl⟩
      rw [hm] at hle ⊢
      clear hm
      go_wp2_with fail
      refine (Ja HG m hle _).mono ?_
      rintro e w1 ⟨v, rfl, hown, hb⟩
      have HO := hide hown
      have HB := hide hb
      clear hown hb
      go_wp2_with fail
      go_loopw [6, 27] (fun v6 v27 wr => ∃ j : Nat, v27 = .int .i64 j ∧ j ≤ i ∧ wr.ownsRow w.heap.size 3 1 v6 (lens L j) ((L.take j).flatten.map (Value.int .i64)) ∧ Below w.heap.size w wr) (fun _ v27 _ => i - (intOf v27).toNat)
      case atStart => exact ⟨0, rfl, by omega, by simpa [lens] using Ja HO, Ja HB⟩
      case round =>
        obtain ⟨j, rfl, hj, hown, hb⟩ := hrel
        by_cases hlt : j < i
        · have hjl : j < L.length := by rw [Ja HK]; exact hlt
          obtain ⟨o, n, c, hc, hn⟩ := Ja HL j hjl
          have hc' := (hb.cell (p := ⟨gb, j, none⟩) hgb).trans hc
          have hn' := hn.below hb
          have hnl := Jf hn
          have hsum := Qw hjl
          rw [← hnl] at hsum
          have hle := Vk L (j + 1)
          have hf := Ja HF
          have HFl := hide (Jal hjl)
          have hi0 : (0 : Int) ≤ (j : Int) := by omega
          have hi1 : (j : Int) < (i : Int) := by omega
          obtain ⟨vo, vc, rfl, hvle, -⟩ := J9 hown
          have HO := hide hown
          have HB := hide hb
          have HN := hide hn'
          have HNL := hide hnl
          have HS := hide hsum
          have hbnd : lens L j + n ≤ 1000000 := by omega
          clear hn hn' hown hb hc hsum hle hf hnl
          by_cases hn0 : n = 0
          · subst hn0
            have hz : L[j] = [] := List.eq_nil_of_length_eq_zero (Ja HNL).symm
            have HO4 : Hid (wr.ownsRow w.heap.size 3 1 (.slice vo (lens L j) vc) (lens L (j + 1)) ((L.take (j + 1)).flatten.map (Value.int .i64))) := hide (by
              rw [Ja HS, Ja HFl, hz, List.append_nil, Nat.add_zero]
              exact Ja HO)
            clear hz
            go_wp2_with (at_builtin; refine Y2 rfl _ _ 31 rfl 3 i0 Tryz.underlying31 (Ja HI) _ _ _ ?c1 rfl _ _ rfl ?_)
            case c1 => exact hvle
            go_wp2_with fail
            go_roundw
            case rel => exact ⟨j + 1, by go_num, by omega, Ja HO4, Ja HB⟩
            case measure => simp [intOf]; omega
          · obtain ⟨ao, cap', hv, hcap, h1, _⟩ := Ja HN
            obtain ⟨b, off, rfl, _, hbl, hcell⟩ := h1 (by rw [← Ja HNL]; omega)
            injection hv with e1 e2 e3
            subst e1
            clear h1 hcell hcap e2 e3
            go_wp2_with (at_builtin; refine wpList_append_own _ rfl _ _ 31 rfl w.heap.size 3 i0 (.int .i64 0) 1 8 Tryz.underlying31 (Ja HI) (Ja HZ0) (Ja HZ1) (Ja HZ2) rfl (by decide) _ _ _ rfl (Ja HO) ⟨b, off, none⟩ n c (L[j].map (Value.int .i64)) rfl (by simp [Ja HNL]) ?c2 V4 ?c3 ?c4 ?c5 ?_)
            case c2 =>
              have := Ja HN
              rw [Ja HNL] at this
              exact Fv this
            case c3 => unfold maxLen; omega
            case c4 => omega
            case c5 => exact (Ja HB).size
            intro v' w4 hown4 hgrow4 _
            have HB4 : Hid (Below w.heap.size w w4) := hide ((Ja HB).grown hgrow4 (Ja HB).size (fun q hq => ((Ja HO).lt q hq).1))
            have HO4 : Hid (w4.ownsRow w.heap.size 3 1 v' (lens L (j + 1)) ((L.take (j + 1)).flatten.map (Value.int .i64))) := hide (by
              rw [Ja HS, Ja HFl, List.map_append]
              simpa using hown4)
            clear hown4 hgrow4
            go_wp2_with fail
            go_roundw
            case rel => exact ⟨j + 1, by go_num, by omega, Ja HO4, Ja HB4⟩
            case measure => simp [intOf]; omega
        · have hji : j = i := by omega
          subst hji
          have hfl : (L.take j).flatten = L.flatten := by rw [← Ja HK, List.take_length]
          rw [hfl] at hown
          have hN := Js (P := P) hown (Ja HP)
          obtain ⟨vo, vc, rfl, hvle, -⟩ := J9 hown
          have HN := hide hN
          have HB := hide hb
          clear hown hb hN hfl
          go_wp2_with fail
          go_ret
          exact ⟨_, _, _, rfl, Ja HN, Ja HB⟩
theorem Jb3 (P : Nat → Prop) {Q : Nat → Prop} (w : World) (hP : ∀ b, w.heap.size ≤ b → P b) (gb k cap : Nat) (L : List (List Int)) (hk : L.length = k) (hk3 : k ≤ 200) (hgb : gb < w.heap.size) (hL : Jcc Q w gb L) (hfew : L.flatten.length ≤ 1000) :
    Calls Tryz.prog 173 #[.slice (some ⟨gb, 0, none⟩) k cap] w fun e w' => ∃ so sn sc, e = .returned (.slice so sn sc) ∧ Nums P w' (.slice so sn sc) L.flatten ∧ Below w.heap.size w w' := Jb4 P w hP gb k cap L hk hk3 hgb hL (by omega)
end Go.Proofs.YtjobgpahajhbnabGreatDoor
namespace Go.Proofs.YtjobgpahajhbnabGreatDoor
open Go.RowKit Go.Proofs Go.Maps
attribute [local go_sem ↓] Go.wp_at_zero Go.wp_at_succ
structure Spread (f : Arr → Arr → Arr × Int) : Prop where
  ok : ∀ x b, Jg x → b.ok → (f ⟨[], [x]⟩ b).2 = 0 → (f ⟨[], [x]⟩ b).1.ok
  len : ∀ x b, Jg x → b.ok → (f ⟨[], [x]⟩ b).2 = 0 → (f ⟨[], [x]⟩ b).1.cells.length = b.cells.length
theorem Jnk {x : Int} (h : Jg x) : (⟨[], [x]⟩ : Arr).ok := ⟨by simp, by simp, by simp [Jj], by simp, by simpa using h⟩
theorem Yf {F : Int → Int → Int × Int} (hf : ∀ x y, Jg x → Jg y → Jg (F x y).1) : Spread (Je F) where
  ok := fun x b hx hb h => (Y5 hf (Jnk hx) hb).2 h
  len := fun x b hx hb h => by
    unfold Je at h ⊢
    simp only [if_true] at h ⊢
    unfold zipA at h ⊢
    cases hc : zipF F (List.replicate b.cells.length (List.headD [x] 0)) b.cells with
    | inl e => rw [hc] at h; exact absurd h (Fb hc)
    | inr l =>
      have := Ja1 hc (by simp)
      simpa using this
def outE (f : Arr → Arr → Arr × Int) (b : Arr) (xs : List Int) : Nat → Int
  | 0 => 0
  | k + 1 => if outE f b xs k ≠ 0 then outE f b xs k else (f ⟨[], [xs.getD k 0]⟩ b).2
def outC (f : Arr → Arr → Arr × Int) (b : Arr) (xs : List Int) : List Int := (xs.map fun x => (f ⟨[], [x]⟩ b).1.cells).flatten
def J4 (f : Arr → Arr → Arr × Int) (a b : Arr) : Arr × Int :=
  if 3 < a.shape.length + b.shape.length then (eArr, 5) else if Yu (a.shape ++ b.shape) = false then (eArr, 9)
  else if outE f b a.cells a.cells.length ≠ 0 then (eArr, outE f b a.cells a.cells.length) else (⟨a.shape ++ b.shape, outC f b a.cells⟩, 0)
theorem Xt {f : Arr → Arr → Arr × Int} {b : Arr} {xs : List Int} : ∀ {k : Nat}, outE f b xs k = 0 → ∀ i, i < k → (f ⟨[], [xs.getD i 0]⟩ b).2 = 0
  | 0, _, i, hi => absurd hi (by omega)
  | k + 1, h, i, hi => by
    unfold outE at h
    by_cases h0 : outE f b xs k = 0
    · rw [if_neg (by simp [h0])] at h
      by_cases hk : i = k
      · subst hk; exact h
      · exact Xt h0 i (by omega)
    · rw [if_pos h0] at h
      exact absurd h h0
theorem Gx {f : Arr → Arr → Arr × Int} {b : Arr} {xs : List Int} {k : Nat} (h : outE f b xs k ≠ 0) : ∀ {n : Nat}, k ≤ n → outE f b xs n = outE f b xs k
  | 0, hn => by
    have : k = 0 := by omega
    subst this
    rfl
  | n + 1, hn => by
    by_cases hk : k = n + 1
    · subst hk; rfl
    · have ih := Gx h (n := n) (by omega)
      show (if outE f b xs n ≠ 0 then outE f b xs n else (f ⟨[], [xs.getD n 0]⟩ b).2) = _
      rw [if_pos (by rw [ih]; exact h), ih]
theorem Fu {f : Arr → Arr → Arr × Int} {b : Arr} {n : Nat} : ∀ {xs : List Int}, (∀ x ∈ xs, (f ⟨[], [x]⟩ b).1.cells.length = n) → (outC f b xs).length = xs.length * n
  | [], _ => by simp [outC]
  | x :: r, h => by
    have ih := Fu (xs := r) (fun y hy => h y (by simp [hy]))
    unfold outC at ih ⊢
    rw [List.map_cons, List.flatten_cons, List.length_append, h x (by simp), ih, List.length_cons, Nat.add_mul, Nat.one_mul, Nat.add_comm]
theorem Jgt (f : Arr → Arr → Arr × Int) (b : Arr) (xs : List Int) (x : Int) : outC f b (xs ++ [x]) = outC f b xs ++ (f ⟨[], [x]⟩ b).1.cells := by
  simp [outC]
theorem Jcs {f : Arr → Arr → Arr × Int} {b : Arr} {xs : List Int} (h : outE f b xs xs.length = 0) {x : Int} (hx : x ∈ xs) : (f ⟨[], [x]⟩ b).2 = 0 := by
  obtain ⟨i, hi, rfl⟩ := List.getElem_of_mem hx
  have := Xt h i hi
  rwa [List.getD_eq_getElem?_getD, List.getElem?_eq_getElem hi] at this
theorem Jjw {f : Arr → Arr → Arr × Int} (hf : Spread f) {a b : Arr} (ha : a.ok) (hb : b.ok) : (J4 f a b).1.cells.length ≤ 200 ∧ ((J4 f a b).2 = 0 → (J4 f a b).1.ok) := by
  unfold J4
  split
  · exact ⟨by simp [eArr], fun h => absurd h (by decide)⟩
  · rename_i h1
    split
    · exact ⟨by simp [eArr], fun h => absurd h (by decide)⟩
    · rename_i h2
      split
      · rename_i h3
        exact ⟨by simp [eArr], fun h => absurd h h3⟩
      · rename_i h3
        have h3 : outE f b a.cells a.cells.length = 0 := by simpa using h3
        have hfit : Yu (a.shape ++ b.shape) = true := by simpa using h2
        unfold Yu at hfit
        simp only [Bool.and_eq_true, decide_eq_true_eq, List.all_eq_true] at hfit
        have hl : (outC f b a.cells).length = Jj (a.shape ++ b.shape) := by
          rw [Fu (n := b.cells.length) (fun x hx => hf.len x b (ha.fits x hx) hb (Jcs h3 hx)), Jp, ha.size, hb.size]
        refine ⟨by simp only [hl]; omega, fun _ => ⟨by simp; omega, fun n hn => by have := hfit.1 n hn; omega, hl, by simp only [hl]; omega, ?_⟩⟩
        intro c hc
        simp only [outC, List.mem_flatten, List.mem_map] at hc
        obtain ⟨l, ⟨x, hx, rfl⟩, hc⟩ := hc
        exact (hf.ok x b (ha.fits x hx) hb (Jcs h3 hx)).fits c hc
end Go.Proofs.YtjobgpahajhbnabGreatDoor
