import Derived.Test.YtjobgpahajhbnabGreatDoorDf
import Derived.Test.YtjobgpahajhbnabGreatDoorCg
import Derived.Test.YtjobgpahajhbnabGreatDoorTe
namespace Go.Proofs.YtjobgpahajhbnabGreatDoor
open Go.RowKit Go.Proofs Go.Maps
attribute [local go_sem ↓] Go.wp_at_zero Go.wp_at_succ
theorem G3 {P : Nat → Prop} {w : World} {so : Option Addr} {sn sc : Nat} {co : Option Addr} {cn cc : Nat} {a : Arr} (h : IsArr P w (.agg #[.slice so sn sc, .slice co cn cc]) a) : Nums P w (.slice so sn sc) (a.shape.map Int.ofNat) := by
  obtain ⟨_, _, _, _, _, _, hv, h1, _⟩ := h
  injection hv with hv
  simp at hv
  obtain ⟨⟨rfl, rfl, rfl⟩, _⟩ := hv
  exact h1
theorem Je2 {Q : Nat → Prop} {w : World} {o1 : Option Addr} {n1 c1 : Nat} {o2 : Option Addr} {n2 c2 : Nat} {xs ys : List Int} (h1 : Nums Q w (.slice o1 n1 c1) xs) (h2 : Nums Q w (.slice o2 n2 c2) ys) (t : TypeId) : Jcc Q (w.alloc (.cells #[.slice o1 n1 c1, .slice o2 n2 c2] t)) w.heap.size [xs, ys] := by
  have hb : Below w.heap.size w (w.alloc (.cells #[.slice o1 n1 c1, .slice o2 n2 c2] t)) := (Below.refl _ _).alloc (Nat.le_refl _) _
  intro i hi
  match i, hi with
  | 0, _ => exact ⟨o1, n1, c1, (World.cell?_alloc_at _ _ _ _ rfl).trans rfl, h1.below hb⟩
  | 1, _ => exact ⟨o2, n2, c2, (World.cell?_alloc_at _ _ _ _ rfl).trans rfl, h2.below hb⟩
set_option maxHeartbeats 4000000 in
set_option maxRecDepth 20000 in
theorem Jgs {f : Arr → Arr → Arr × Int} {g : Nat} (z : Int) (hen : Enters Tryz.prog g) {w0 : World} (hfn : FnTwo g #[] w0 f) (hsp : Spread f) (P : Nat → Prop) (W : World) (hW : Below w0.heap.size w0 W) (hP : ∀ b, W.heap.size ≤ b → P b) (so : Option Addr) (sn sc : Nat) (co : Option Addr) (cn cc : Nat) (so2 : Option Addr) (sn2 sc2 : Nat) (co2 : Option Addr) (cn2 cc2 : Nat) (a b : Arr) (ha : IsArr P W (.agg #[.slice so sn sc, .slice co cn cc]) a) (hb : IsArr P W (.agg #[.slice so2 sn2 sc2, .slice co2 cn2 cc2]) b) (hoa : a.ok) (hob : b.ok) :
    Calls Tryz.prog 119 #[.agg #[.slice so sn sc, .slice co cn cc], .agg #[.slice so2 sn2 sc2, .slice co2 cn2 cc2], .agg #[.func (.func g) #[] #[], .int .i64 z]] W fun e W' => ∃ so sn sc co cn cc, e = .returned (.tuple #[.agg #[.slice so sn sc, .slice co cn cc], .int .i64 (J4 f a b).2]) ∧ IsArr P W' (.agg #[.slice so sn sc, .slice co cn cc]) (J4 f a b).1 ∧ Below W.heap.size W W' := by
  have hsn := (Jc ha).2
  have hcn := (Jc ha).1
  have hsn2 := (Jc hb).2
  have hcn2 := (Jc hb).1
  have hst : Bx W ((((W.alloc (.cells #[.slice so sn sc, .slice co cn cc] 57)).alloc (.cells #[.slice so2 sn2 sc2, .slice co2 cn2 cc2] 57)).alloc (.cells #[.func (.func g) #[] #[], .int .i64 z] 143)).alloc (.cells #[.slice none 0 0, .slice none 0 0] 57)) [[.slice so sn sc, .slice co cn cc], [.slice so2 sn2 sc2, .slice co2 cn2 cc2], [.func (.func g) #[] #[], .int .i64 z], [.slice none 0 0, .slice none 0 0]] := ((((Bx.nil W).alloc (by simp) [.slice so sn sc, .slice co cn cc] 57).alloc (by simp) [.slice so2 sn2 sc2, .slice co2 cn2 cc2] 57).alloc (by simp) [.func (.func g) #[] #[], .int .i64 z] 143).alloc (by simp) [.slice none 0 0, .slice none 0 0] 57
  have ha' : IsArr (OffB W.heap.size 4 P) W (.agg #[.slice so sn sc, .slice co cn cc]) a := ha.imp (fun b h hl => ⟨h, Or.inl hl⟩)
  have hb' : IsArr (OffB W.heap.size 4 P) W (.agg #[.slice so2 sn2 sc2, .slice co2 cn2 cc2]) b := hb.imp (fun b h hl => ⟨h, Or.inl hl⟩)
  have hP' : ∀ b, W.heap.size + 4 ≤ b → OffB W.heap.size 4 P b := fun b hb => OffB.new hP hb
  have HST := hide hst
  have HA := hide ha'
  have HB := hide hb'
  have HP := hide hP'
  have HFn := hide hfn
  have HSp := hide hsp
  have HW := hide hW
  have HOA := hide hoa
  have HOB := hide hob
  have HSN := hide hsn
  have HSN2 := hide hsn2
  have HCN := hide hcn
  have hsn3 : sn ≤ 3 := by have := hoa.rank; omega
  have hsn23 : sn2 ≤ 3 := by have := hob.rank; omega
  have hcn3 : cn ≤ 200 := by have := hoa.few; omega
  have hen2 : ∀ args w, (callFunc g args).run Tryz.prog w = .ok (.enter g args) w := hen
  have HRk : Hid (∀ w', Calls Tryz.prog 144 #[.agg #[.slice so sn sc, .slice co cn cc]] w' fun e w'' => e = .returned (.int .i64 sn) ∧ Below w'.heap.size w' w'') := hide (fun w' => (Yi w' so sn sc co cn cc).mono (fun e w'' h => ⟨h.1, by rw [h.2]; exact (Below.refl _ _).alloc (Nat.le_refl _) _⟩))
  have HRk2 : Hid (∀ w', Calls Tryz.prog 144 #[.agg #[.slice so2 sn2 sc2, .slice co2 cn2 cc2]] w' fun e w'' => e = .returned (.int .i64 sn2) ∧ Below w'.heap.size w' w'') := hide (fun w' => (Yi w' so2 sn2 sc2 co2 cn2 cc2).mono (fun e w'' h => ⟨h.1, by rw [h.2]; exact (Below.refl _ _).alloc (Nat.le_refl _) _⟩))
  obtain ⟨r, hr⟩ : ∃ r, J4 f a b = r := ⟨_, rfl⟩
  simp only [hr]
  have HR := hide hr
  obtain ⟨W1, hW1⟩ : ∃ W1, (((W.alloc (.cells #[.slice so sn sc, .slice co cn cc] 57)).alloc (.cells #[.slice so2 sn2 sc2, .slice co2 cn2 cc2] 57)).alloc (.cells #[.func (.func g) #[] #[], .int .i64 z] 143)).alloc (.cells #[.slice none 0 0, .slice none 0 0] 57) = W1 := ⟨_, rfl⟩
  have HS1 : Hid (∀ w', Below W1.heap.size W1 w' → w'.cell? ⟨W.heap.size, 0, none⟩ = some (.slice so sn sc) ∧ w'.cell? ⟨W.heap.size, 1, none⟩ = some (.slice co cn cc) ∧ w'.cell? ⟨W.heap.size + 1, 0, none⟩ = some (.slice so2 sn2 sc2) ∧ w'.cell? ⟨W.heap.size + 1, 1, none⟩ = some (.slice co2 cn2 cc2)) := hide (fun w' hb' => by
    rw [hW1] at hst
    have hX' := hst.next hb'
    exact ⟨(hX'.cell 0 0 _ rfl).1, (hX'.cell 0 1 _ rfl).1, (hX'.cell 1 0 _ rfl).1, (hX'.cell 1 1 _ rfl).1⟩)
  rw [hW1] at HST
  clear hst ha hb ha' hb' hP hP' hfn hsp hW hoa hob hsn hsn2 hcn hcn2 hr hen
  go_enter Tryz.func119, Tryz.ntmps119
  go_upto_region 1 with fail
  obtain ⟨x0, x1, x2, x3⟩ := Ja HS1 W1 (Below.refl _ _)
  clear hW1
  have hlt1 := (Ja HST).lt
  simp at hlt1
  have n1 : W.heap.size < W1.heap.size := by omega
  have n2 : W.heap.size + 1 < W1.heap.size := by omega
  have hw1 : IntKind.i64.wrap ((sn : Int) + (sn2 : Int)) = ((sn + sn2 : Nat) : Int) := by
    rw [← Int.natCast_add]
    exact Jd (by omega) (by omega)
  obtain ⟨rk, hrk⟩ : ∃ rk, sn + sn2 = rk := ⟨_, rfl⟩
  rw [hrk] at hw1
  have HRK := hide hrk
  clear hrk
  go_cut [19] from 14 to 18 (fun v19 wx => v19 = .bool (decide ((3 : Int) < (rk : Int))) ∧ Below W1.heap.size W1 wx)
  case first =>
    go_region_with (first
      | (go_at_call 144; (with_reducible refine (Ja HRk _).mono ?_); rintro e w2 ⟨rfl, hb2⟩; have HB2 := hide ((Below.refl W1.heap.size W1).drew.trans hb2); obtain ⟨y0, y1, y2, y3⟩ := Ja HS1 w2 (Ja HB2); have hs2 := (Ja HB2).size; have l1 : W.heap.size < w2.heap.size := Nat.lt_of_lt_of_le n1 hs2; have l2 : W.heap.size + 1 < w2.heap.size := Nat.lt_of_lt_of_le n2 hs2; clear hb2)
      | (go_at_call 144; (with_reducible refine (Ja HRk2 _).mono ?_); rintro e w2 ⟨rfl, hb2⟩; have HB2 := hide ((Below.refl W1.heap.size W1).drew.trans hb2); obtain ⟨y0, y1, y2, y3⟩ := Ja HS1 w2 (Ja HB2); have hs2 := (Ja HB2).size; have l1 : W.heap.size < w2.heap.size := Nat.lt_of_lt_of_le n1 hs2; have l2 : W.heap.size + 1 < w2.heap.size := Nat.lt_of_lt_of_le n2 hs2; clear hb2)
      | (go_at_call 144; (with_reducible refine (Ja HRk _).mono ?_); rintro e w3 ⟨rfl, hb3⟩; have HB3 := hide ((Ja HB2).trans (hb3.mono (Ja HB2).size)); clear hb3)
      | (go_at_call 144; (with_reducible refine (Ja HRk2 _).mono ?_); rintro e w3 ⟨rfl, hb3⟩; have HB3 := hide ((Ja HB2).trans (hb3.mono (Ja HB2).size)); clear hb3))
    all_goals go_wp2_with fail
    all_goals go_meet
    all_goals first | exact ⟨rfl, Ja HB3⟩ | (trace_state; fail)
  case rest =>
    obtain ⟨rfl, hb2⟩ := hcut
    have HX2 := hide ((Ja HST).next hb2)
    clear hb2 HST HS1 HRk HRk2 x0 x1 x2 x3 n1 n2 hlt1 hw1
    rename World => w2
    by_cases h1 : 3 < rk
    · have h1' : (3 : Int) < (rk : Int) := by omega
      rw [decide_eq_true h1']
      have hr' : r = (eArr, 5) := by
        rw [← Ja HR]
        unfold J4
        rw [if_pos (by rw [← Ja HSN, ← Ja HSN2, Ja HRK]; exact h1)]
      subst hr'
      have r0 : w2.cell? ⟨W.heap.size + 1 + 1 + 1, 0, none⟩ = some (.slice none 0 0) := ((Ja HX2).cell 3 0 _ rfl).1
      have r1 : w2.cell? ⟨W.heap.size + 1 + 1 + 1, 1, none⟩ = some (.slice none 0 0) := ((Ja HX2).cell 3 1 _ rfl).1
      have g0 : w2.frozen? ⟨W.heap.size + 1 + 1 + 1, 0, none⟩ = false := ((Ja HX2).cell 3 0 _ rfl).2
      have g1 : w2.frozen? ⟨W.heap.size + 1 + 1 + 1, 1, none⟩ = false := ((Ja HX2).cell 3 1 _ rfl).2
      clear h1
      go_wp2_with fail
      have hf2 := Yd (q := 3) (P := P) (k := 4) (a := eArr) (u0 := .slice none 0 0) (u1 := .slice none 0 0) (Ja HX2).below (by decide) (Yb _ _)
      exact bodyPost_ret (v := .tuple #[.agg #[.slice none 0 0, .slice none 0 0], .int .i64 5]) (by simp [results, Tryz.results119, go_sem, r0, r1]) rfl ⟨none, 0, 0, none, 0, 0, rfl, hf2.1, hf2.2⟩
    · have h1' : ¬ (3 : Int) < (rk : Int) := by omega
      rw [decide_eq_false h1']
      have H1 : Hid (¬ 3 < a.shape.length + b.shape.length) := hide (by rw [← Ja HSN, ← Ja HSN2, Ja HRK]; exact h1)
      have b0 : w2.cell? ⟨W.heap.size, 0, none⟩ = some (.slice so sn sc) := ((Ja HX2).cell 0 0 _ rfl).1
      have b1 : w2.cell? ⟨W.heap.size + 1, 0, none⟩ = some (.slice so2 sn2 sc2) := ((Ja HX2).cell 1 0 _ rfl).1
      have hlt2 := (Ja HX2).lt
      simp at hlt2
      have hA2 := (Ja HA).below (Ja HX2).below
      have hB2 := (Ja HB).below (Ja HX2).below
      have hNA := G3 hA2
      have hNB := G3 hB2
      have HCat := hide (Jb3 (OffB W.heap.size 4 P) (w2.alloc (.cells #[.slice so sn sc, .slice so2 sn2 sc2] 31)) (fun b hb => Ja HP b (by simp at hb; omega)) w2.heap.size 2 2 [a.shape.map Int.ofNat, b.shape.map Int.ofNat] rfl (by decide) (by simp) (Je2 hNA hNB 31) (by simp; have := Ja HSN; have := Ja HSN2; omega))
      clear h1 hNA hNB
      go_wp2_with fail
      refine (Ja HCat).mono ?_
      rintro e w3 ⟨t1, t2, t3, rfl, hN3, hb3⟩
      have hb23 : Below w2.heap.size w2 w3 := ((Below.refl _ _).alloc (Nat.le_refl _) _).trans (hb3.mono (by simp))
      have HX3 := hide ((Ja HX2).next hb23)
      have hN3 : Nums (OffB W.heap.size 4 P) w3 (.slice t1 t2 t3) ((a.shape ++ b.shape).map Int.ofNat) := by simpa using hN3
      have HN3 := hide hN3
      have HLens : Hid (Lens (a.shape ++ b.shape)) := hide ⟨by simp; have := Ja H1; omega, fun n hn => by
        rcases List.mem_append.1 hn with h | h
        · have := (Ja HOA).lens n h; omega
        · have := (Ja HOB).lens n h; omega⟩
      clear hb3 hb23 hN3 HX2 HCat b0 b1 hlt2
      go_wp2_with fail
      refine (V6 w3 t1 t2 t3 _ (Ja HN3) (Ja HLens)).mono ?_
      rintro e w4 ⟨rfl, hw4⟩
      have hw4' := hw4.symm
      subst hw4'
      clear hw4
      by_cases hft : Yu (a.shape ++ b.shape) = true
      · rw [hft]
        have H2 : Hid (¬ Yu (a.shape ++ b.shape) = false) := hide (by rw [hft]; simp)
        have HTot : Hid (cn * b.cells.length ≤ 64) := hide (by
          have h2 : Jj (a.shape ++ b.shape) ≤ 64 := by
            unfold Yu at hft
            simp only [Bool.and_eq_true, decide_eq_true_eq] at hft
            exact hft.2
          rw [Jp, ← (Ja HOA).size, ← (Ja HOB).size] at h2
          rw [Ja HCN]
          exact h2)
        have b1 : w3.cell? ⟨W.heap.size, 1, none⟩ = some (.slice co cn cc) := ((Ja HX3).cell 0 1 _ rfl).1
        have hlt3 := (Ja HX3).lt
        simp at hlt3
        clear hft
        go_wp2_with fail
        go_loopw [9, 34] (fun v9 v34 wr => ∃ i : Nat, v34 = .int .i64 i ∧ i ≤ cn ∧ Hid (outE f b a.cells i = 0) ∧ OwnL w3.heap.size wr v9 (outC f b (a.cells.take i)) ∧ Below w3.heap.size w3 wr) (fun _ v34 _ => cn - (intOf v34).toNat)
        case atStart => exact ⟨0, rfl, by omega, hide rfl, by simpa [outC] using OwnL.nil _ _, Below.refl _ _⟩
        case round =>
          obtain ⟨i, rfl, hi, hE, ho, hbr⟩ := hrel
          rename World => wr
          have HO := hide ho
          have HBr := hide hbr
          have HXr := hide ((Ja HX3).next hbr)
          have hszr := hbr.size
          by_cases hin : i < cn
          · have hil : i < a.cells.length := by rw [← Ja HCN]; exact hin
            have hAr := (Ja HA).below (Ja HXr).below
            have hBr := (Ja HB).below (Ja HXr).below
            have hNc := Jq hAr
            obtain ⟨cb, cof, rfl, hcb, hcell, hcap⟩ := hNc.at hil
            obtain ⟨x, hx⟩ : ∃ x, a.cells[i] = x := ⟨_, rfl⟩
            rw [hx] at hcell
            have hxf : Jg x := (Ja HOA).fits x (by rw [← hx]; exact List.getElem_mem hil)
            have HT : Hid (outC f b (a.cells.take (i + 1)) = outC f b (a.cells.take i) ++ (f ⟨[], [x]⟩ b).1.cells) := hide (by rw [List.take_succ_eq_append_getElem hil, hx, Jgt])
            have HE1 : Hid (outE f b a.cells (i + 1) = (f ⟨[], [x]⟩ b).2) := hide (by rw [outE, if_neg (by rw [Ja hE]; simp), List.getD_eq_getElem?_getD, List.getElem?_eq_getElem hil, hx]; rfl)
            have HLenT : Hid ((outC f b (a.cells.take i)).length = i * b.cells.length) := hide (by
              have h3 : ∀ y ∈ a.cells.take i, (f ⟨[], [y]⟩ b).1.cells.length = b.cells.length := fun y hy => by
                obtain ⟨k, hk, rfl⟩ := List.getElem_of_mem hy
                have hk' : k < i := by simp at hk; omega
                have h4 := Xt (Ja hE) k hk'
                rw [List.getD_eq_getElem?_getD, List.getElem?_eq_getElem (by omega)] at h4
                rw [List.getElem_take]
                exact (Ja HSp).len _ b ((Ja HOA).fits _ (List.getElem_mem _)) (Ja HOB) h4
              rw [Fu h3, List.length_take, Nat.min_eq_left (by omega)])
            have HXF := hide hxf
            have HBb := hide hBr
            have HScA := hide (Ve (fun b => OffB W.heap.size 4 P b ∧ b ≠ wr.heap.size) (wr.alloc (.cells #[.slice none 0 0, .slice none 0 0] 57)).drew (fun b hb => by simp at hb; exact ⟨Ja HP b (by omega), by omega⟩) x)
            have HScB := hide (Ve (OffB W.heap.size 4 P) wr.drew (fun b hb => by simp at hb; exact Ja HP b (by omega)) x)
            have HCall : Hid (∀ (w' : World) (Q : Nat → Prop) (d1 : Option Addr) (d2 d3 : Nat), Below wr.heap.size wr w' → (∀ b, w'.heap.size ≤ b → Q b) → IsArr Q w' (.agg #[.slice none 0 0, .slice d1 d2 d3]) ⟨[], [x]⟩ → (∀ b, OffB W.heap.size 4 P b → b < wr.heap.size → Q b) → Calls Tryz.prog g #[.agg #[.slice none 0 0, .slice d1 d2 d3], .agg #[.slice so2 sn2 sc2, .slice co2 cn2 cc2]] w' fun e W' => ∃ so sn sc co cn cc, e = .returned (.tuple #[.agg #[.slice so sn sc, .slice co cn cc], .int .i64 (f ⟨[], [x]⟩ b).2]) ∧ IsArr Q W' (.agg #[.slice so sn sc, .slice co cn cc]) (f ⟨[], [x]⟩ b).1 ∧ Below w'.heap.size w' W') := hide (fun w' Q d1 d2 d3 hb' hQ hS hQ2 => by
              have hbW : Below W.heap.size W w' := (Ja HXr).below.trans (hb'.mono (Ja HXr).below.size)
              exact Ja HFn w' Q _ _ _ b ((Ja HW).trans (hbW.mono (Ja HW).size)) hQ hS ((hBr.imp hQ2).below hb') (Jnk hxf) (Ja HOB))
            have HCe : Hid (∀ w', Below wr.heap.size wr w' → w'.cell? ⟨W.heap.size + 1, 0, none⟩ = some (.slice so2 sn2 sc2) ∧ w'.cell? ⟨W.heap.size + 1, 1, none⟩ = some (.slice co2 cn2 cc2) ∧ w'.cell? ⟨W.heap.size + 1 + 1, 0, none⟩ = some (.func (.func g) #[] #[])) := hide (fun w' hb' => by
              have h1 := (Ja HXr).next hb'
              exact ⟨(h1.cell 1 0 _ rfl).1, (h1.cell 1 1 _ rfl).1, (h1.cell 2 0 _ rfl).1⟩)
            obtain ⟨y0, y1, y2⟩ := Ja HCe wr (Below.refl _ _)
            obtain ⟨R, hRR⟩ : ∃ R, f ⟨[], [x]⟩ b = R := ⟨_, rfl⟩
            simp only [hRR] at HCall HT HE1
            have HRR := hide hRR
            have i0 : (0 : Int) ≤ (i : Int) := by omega
            have i1 : (i : Int) < (cn : Int) := by omega
            have m1 : W.heap.size + 1 < wr.heap.size := by omega
            have m2 : W.heap.size + 1 + 1 < wr.heap.size := by omega
            have hcbr : cb < wr.heap.size := hcb
            have hWr4 : W.heap.size + 4 ≤ wr.heap.size := by omega
            clear ho hbr hBr hNc hx hxf hRR hcap hil hcb
            go_upto_region 10 with fail
            go_cut [12, 13] from 38 to 46 (fun v12 v13 wx => ∃ b12 s1 s2 s3 d1 d2 d3, v12 = .pointer (some ⟨b12, 0, none⟩) ∧ v13 = .int .i64 R.2 ∧ wx.cell? ⟨b12, 0, none⟩ = some (.slice s1 s2 s3) ∧ wx.cell? ⟨b12, 1, none⟩ = some (.slice d1 d2 d3) ∧ IsArr (OffB W.heap.size 4 P) wx (.agg #[.slice s1 s2 s3, .slice d1 d2 d3]) R.1 ∧ b12 < wx.heap.size ∧ Below wr.heap.size wr wx)
            case first =>
              go_region_held3 (fun w' => w'.cell? ⟨W.heap.size + 1, 0, none⟩ = some (.slice so2 sn2 sc2) ∧ w'.cell? ⟨W.heap.size + 1, 1, none⟩ = some (.slice co2 cn2 cc2) ∧ w'.cell? ⟨W.heap.size + 1 + 1, 0, none⟩ = some (.func (.func g) #[] #[]))
                (first
                  | exact Ja HCe _ (Below.refl _ _).drew
                  | exact Ja HCe _ (Ja HBa)
                  | exact Ja HCe _ (Ja HBb5)
                  | exact Ja HCe _ (Ja HB6)
                  | exact Ja HCe _ (((Below.refl _ _).alloc (Nat.le_refl _) _).drew)
                  | exact Ja HCe _ ((Below.refl _ _).drew.alloc (by simp) _)
                  | exact Ja HCe _ ((Ja HBb5).alloc (Ja HBb5).size _)
                  | exact Ja HCe _ ((Ja HB6).alloc (Ja HB6).size _)
                  | exact Ja HCe _ (((Ja HB6).setCell (p := ⟨wr.heap.size, 0, none⟩) (Nat.le_refl _) _).setCell (p := ⟨wr.heap.size, 1, none⟩) (Nat.le_refl _) _)
                  | exact Ja HCe _ (((Ja HB6).setCell (p := ⟨w5.heap.size, 0, none⟩) hsb _).setCell (p := ⟨w5.heap.size, 1, none⟩) hsb _)
                  | (trace_state; fail))
                (first
                | (go_at_call 70; (with_reducible refine (Ja HScA).mono ?_); rintro e w5 ⟨p1, p2, p3, rfl, hS5, hb5⟩; have HBa := hide (((Below.refl wr.heap.size wr).alloc (Nat.le_refl _) (.cells #[.slice none 0 0, .slice none 0 0] 57)).drew.trans (hb5.mono (by simp))); have ma0 := (hb5.cell (p := ⟨wr.heap.size, 0, none⟩) (by simp)); have ma1 := (hb5.cell (p := ⟨wr.heap.size, 1, none⟩) (by simp)); have fa0 := (hb5.frozen (p := ⟨wr.heap.size, 0, none⟩) (by simp)); have fa1 := (hb5.frozen (p := ⟨wr.heap.size, 1, none⟩) (by simp)); simp at ma0 ma1 fa0 fa1; have hsa : wr.heap.size < w5.heap.size := (by have := hb5.size; simp at this; omega); obtain ⟨u0, u1, u2⟩ := Ja HCe w5 (Ja HBa); have l1 : W.heap.size + 1 < w5.heap.size := (by omega); have l2 : W.heap.size + 1 + 1 < w5.heap.size := (by omega); have HGa := hide (Ja HCall w5 (fun b => OffB W.heap.size 4 P b ∧ b ≠ wr.heap.size) p1 p2 p3 (Ja HBa) (fun b hb => ⟨Ja HP b (by omega), by omega⟩) hS5 (fun b h hl => ⟨h, by omega⟩)); clear hS5 hb5)
                | (go_at_call 70; (with_reducible refine (Ja HScB).mono ?_); rintro e w5 ⟨p1, p2, p3, rfl, hS5, hb5⟩; have HBb5 := hide ((Below.refl wr.heap.size wr).drew.trans hb5); obtain ⟨u0, u1, u2⟩ := Ja HCe w5 (Ja HBb5); have hsb := (Ja HBb5).size; have l1 : W.heap.size + 1 < w5.heap.size := (by omega); have l2 : W.heap.size + 1 + 1 < w5.heap.size := (by omega); have HGb := hide (Ja HCall (w5.alloc (.cells #[.slice none 0 0, .slice none 0 0] 57)) (fun b => OffB W.heap.size 4 P b ∧ b ≠ w5.heap.size) p1 p2 p3 ((Ja HBb5).alloc (Ja HBb5).size _) (fun b hb => by simp at hb; exact ⟨Ja HP b (by omega), by omega⟩) ((hS5.imp (fun b h hl => ⟨h, by omega⟩)).below ((Below.refl _ _).alloc (Nat.le_refl _) _)) (fun b h hl => ⟨h, by omega⟩)); have HGc := hide (Ja HCall w5 (OffB W.heap.size 4 P) p1 p2 p3 (Ja HBb5) (fun b hb => Ja HP b (by omega)) hS5 (fun b h hl => h)); clear hS5 hb5)
                | (go_at_fn g; (with_reducible refine (Ja HGa).mono ?_); rintro e w6 ⟨s4, s5, s6, c4, c5, c6, rfl, hA6, hb6⟩; have HA6a := hide hA6; have HB6 := hide ((Ja HBa).trans (hb6.mono (Ja HBa).size)); have m0' := (hb6.cell (p := ⟨wr.heap.size, 0, none⟩) hsa).trans ma0; have m1' := (hb6.cell (p := ⟨wr.heap.size, 1, none⟩) hsa).trans ma1; have f0' := (hb6.frozen (p := ⟨wr.heap.size, 0, none⟩) hsa).trans fa0; have f1' := (hb6.frozen (p := ⟨wr.heap.size, 1, none⟩) hsa).trans fa1; have hs6 := hb6.size; have k6 : wr.heap.size < w6.heap.size := (by omega); clear hA6 hb6)
                | (go_at_fn g; (with_reducible refine (Ja HGb).mono ?_); rintro e w6 ⟨s4, s5, s6, c4, c5, c6, rfl, hA6, hb6⟩; have HA6b := hide hA6; have HB6 := hide (((Ja HBb5).alloc (Ja HBb5).size (.cells #[.slice none 0 0, .slice none 0 0] 57)).trans (hb6.mono (by simp; omega))); have m0' := (hb6.cell (p := ⟨w5.heap.size, 0, none⟩) (by simp)); have m1' := (hb6.cell (p := ⟨w5.heap.size, 1, none⟩) (by simp)); have f0' := (hb6.frozen (p := ⟨w5.heap.size, 0, none⟩) (by simp)); have f1' := (hb6.frozen (p := ⟨w5.heap.size, 1, none⟩) (by simp)); simp at m0' m1' f0' f1'; have hs6 := hb6.size; simp at hs6; have k6 : w5.heap.size < w6.heap.size := (by omega); clear hA6 hb6)
                | (go_at_fn g; (with_reducible refine (Ja HGc).mono ?_); rintro e w6 ⟨s4, s5, s6, c4, c5, c6, rfl, hA6, hb6⟩; have HA6c := hide hA6; have HB6 := hide ((Ja HBb5).trans (hb6.mono (Ja HBb5).size)); clear hA6 hb6))
              all_goals go_wp2_with fail
              all_goals go_meet
              all_goals first
                | exact ⟨wr.heap.size, s4, s5, s6, c4, c5, c6, rfl, rfl, (Vh m0' m1' _ _).1, (Vh m0' m1' _ _).2, (((Ja HA6a).set (fun h => h.2 rfl) 0 _).set (fun h => h.2 rfl) 1 _).imp (fun b h _ => h.1), by simpa using k6, ((Ja HB6).setCell (p := ⟨wr.heap.size, 0, none⟩) (Nat.le_refl _) _).setCell (p := ⟨wr.heap.size, 1, none⟩) (Nat.le_refl _) _⟩
                | exact ⟨w5.heap.size, s4, s5, s6, c4, c5, c6, rfl, rfl, (Vh m0' m1' _ _).1, (Vh m0' m1' _ _).2, (((Ja HA6b).set (fun h => h.2 rfl) 0 _).set (fun h => h.2 rfl) 1 _).imp (fun b h _ => h.1), by simpa using k6, ((Ja HB6).setCell (p := ⟨w5.heap.size, 0, none⟩) hsb _).setCell (p := ⟨w5.heap.size, 1, none⟩) hsb _⟩
                | exact ⟨w6.heap.size, s4, s5, s6, c4, c5, c6, rfl, rfl, (World.cell?_alloc_at _ _ _ _ rfl).trans rfl, (World.cell?_alloc_at _ _ _ _ rfl).trans rfl, (Ja HA6c).below ((Below.refl _ _).alloc (Nat.le_refl _) _), by simp, (Ja HB6).alloc (Ja HB6).size _⟩
                | (trace_state; fail)
            case rest =>
              obtain ⟨b12, s1, s2, s3, d1, d2, d3, rfl, rfl, q0, q1, hA, hl12, hbx⟩ := hcut
              rename World => wc
              have HXc := hide ((Ja HXr).next hbx)
              have HOc := hide ((Ja HO).below hbx)
              have HBc : Hid (Below w3.heap.size w3 wc) := hide ((Ja HBr).trans (hbx.mono (Ja HBr).size))
              clear HScA HScB HCall HCe y0 y1 y2 HO HBr
              by_cases he : R.2 = 0
              · have hokR : R.1.ok := by
                  have := (Ja HSp).ok x b (Ja HXF) (Ja HOB)
                  rw [Ja HRR] at this
                  exact this he
                have hlenR : R.1.cells.length = b.cells.length := by
                  have := (Ja HSp).len x b (Ja HXF) (Ja HOB)
                  rw [Ja HRR] at this
                  exact this he
                have HE2 : Hid (outE f b a.cells (i + 1) = 0) := hide (by rw [Ja HE1, he])
                have hNc := Jq hA
                have hd2 := Jf hNc
                have hsm : i * b.cells.length + d2 ≤ 64 := by
                  have h1 : (i + 1) * b.cells.length ≤ cn * b.cells.length := Nat.mul_le_mul_right _ (by omega)
                  have h2 := Ja HTot
                  rw [Nat.add_mul, Nat.one_mul] at h1
                  omega
                rw [← Ja HLenT] at hsm
                rw [he]
                obtain ⟨vo, vc, rfl⟩ := (Ja HOc).shape
                obtain ⟨ol, hol⟩ : ∃ ol, outC f b (a.cells.take i) = ol := ⟨_, rfl⟩
                rw [hol] at HOc HT hsm ⊢
                have HNc := hide hNc
                have HD2 := hide hd2
                obtain ⟨-, ovc, -, hvle, -⟩ := J9 (Ja HOc)
                clear hA hNc hokR hlenR he hbx hd2 hol
                obtain ⟨i0', hi', hz0, hz1, hz2⟩ := info_parts Tryz.info2
                have HI := hide hi'
                have HZ0 := hide hz0
                have HZ1 := hide hz1
                have HZ2 := hide hz2
                clear hi' hz0 hz1 hz2
                by_cases hd0 : d2 = 0
                · subst hd0
                  have HO4 : Hid (OwnL w3.heap.size wc (.slice vo ol.length vc) (outC f b (a.cells.take (i + 1)))) := hide (by
                    have hz : R.1.cells = [] := List.eq_nil_of_length_eq_zero (Ja HD2).symm
                    rw [Ja HT, hz, List.append_nil]
                    exact Ja HOc)
                  have hvl : ol.length ≤ vc := by
                    obtain ⟨_, _, hv, hle, _⟩ := J9 (Ja HOc)
                    injection hv with _ _ e3
                    rw [e3]; exact hle
                  go_wp2_with (at_builtin; refine Y2 rfl _ _ 32 rfl 2 i0' Tryz.underlying32 (Ja HI) _ _ _ ?c1 rfl _ _ rfl ?_)
                  case c1 => exact hvl
                  go_wp2_with fail
                  go_roundw
                  case rel => exact ⟨i + 1, by go_num, by omega, HE2, Ja HO4, Ja HBc⟩
                  case measure => simp [intOf]; omega
                · obtain ⟨ao, cap', hv, hcap, h1, _⟩ := Ja HNc
                  obtain ⟨eb, eof, rfl, _, hebl, hecell⟩ := h1 (by rw [← Ja HD2]; omega)
                  injection hv with e1 e2 e3
                  subst e1
                  clear h1 hecell hcap e2 e3
                  go_wp2_with (at_builtin; refine wpList_append_own _ rfl _ _ 32 rfl w3.heap.size 2 i0' (.int .i64 0) 1 8 Tryz.underlying32 (Ja HI) (Ja HZ0) (Ja HZ1) (Ja HZ2) rfl (by decide) _ _ _ rfl (Ja HOc) ⟨eb, eof, none⟩ d2 d3 (R.1.cells.map (Value.int .i64)) rfl (by simp [Ja HD2]) ?c2 V4 ?c3 ?c4 ?c5 ?_)
                  case c2 =>
                    have := Ja HNc
                    rw [Ja HD2] at this
                    exact Fv this
                  case c3 => unfold maxLen; omega
                  case c4 => omega
                  case c5 => exact (Ja HBc).size
                  intro v' w7 hown7 hgrow7 _
                  have HB7 : Hid (Below w3.heap.size w3 w7) := hide ((Ja HBc).grown hgrow7 (Ja HBc).size (fun q hq => (World.ownsRow.lt (Ja HOc) q hq).1))
                  have HO7 : Hid (OwnL w3.heap.size w7 v' (outC f b (a.cells.take (i + 1)))) := hide (by
                    rw [Ja HT]
                    unfold OwnL
                    rw [List.length_append, List.map_append]
                    rw [Ja HD2] at hown7
                    exact hown7)
                  clear hown7 hgrow7
                  go_wp2_with fail
                  go_roundw
                  case rel => exact ⟨i + 1, by go_num, by omega, HE2, Ja HO7, Ja HB7⟩
                  case measure => simp [intOf]; omega
              · obtain ⟨er, her⟩ : ∃ er, R.2 = er := ⟨_, rfl⟩
                rw [her] at he HE1 ⊢
                have he2 : (er != 0) = true := by simpa using he
                have hr' : r = (eArr, er) := by
                  have h1 : outE f b a.cells a.cells.length = er := by
                    rw [← Ja HE1]
                    exact Gx (by rw [Ja HE1]; exact he) (by have := Ja HCN; omega)
                  rw [← Ja HR]
                  unfold J4
                  rw [if_neg (Ja H1), if_neg (Ja H2), h1, if_pos he]
                subst hr'
                have r0 : wc.cell? ⟨W.heap.size + 1 + 1 + 1, 0, none⟩ = some (.slice none 0 0) := ((Ja HXc).cell 3 0 _ rfl).1
                have r1 : wc.cell? ⟨W.heap.size + 1 + 1 + 1, 1, none⟩ = some (.slice none 0 0) := ((Ja HXc).cell 3 1 _ rfl).1
                have g0 : wc.frozen? ⟨W.heap.size + 1 + 1 + 1, 0, none⟩ = false := ((Ja HXc).cell 3 0 _ rfl).2
                have g1 : wc.frozen? ⟨W.heap.size + 1 + 1 + 1, 1, none⟩ = false := ((Ja HXc).cell 3 1 _ rfl).2
                clear hA hbx he her
                go_wp2_with fail
                have hf2 := Yd (q := 3) (P := P) (k := 4) (a := eArr) (u0 := .slice none 0 0) (u1 := .slice none 0 0) (Ja HXc).below (by decide) (Yb _ _)
                exact bodyPost_ret (v := .tuple #[.agg #[.slice none 0 0, .slice none 0 0], .int .i64 er]) (by simp [results, Tryz.results119, go_sem, r0, r1]) rfl ⟨none, 0, 0, none, 0, 0, rfl, hf2.1, hf2.2⟩
          · have hie : i = cn := by omega
            have hT : a.cells.take i = a.cells := List.take_of_length_le (by have := Ja HCN; omega)
            have hE' := Ja hE
            rw [hie, Ja HCN] at hE'
            rw [hT] at ho
            have i1 : ¬ (i : Int) < (cn : Int) := by omega
            obtain ⟨vo, vc, rfl⟩ := ho.shape
            obtain ⟨ol, hol⟩ : ∃ ol, outC f b a.cells = ol := ⟨_, rfl⟩
            rw [hol] at ho ⊢
            have hr' : r = (⟨a.shape ++ b.shape, ol⟩, 0) := by
              rw [← Ja HR]
              unfold J4
              rw [if_neg (Ja H1), if_neg (Ja H2), if_neg (by rw [hE']; simp), hol]
            subst hr'
            have HNs := hide ((Ja HN3).below hbr)
            have HNc : Hid (Nums (OffB W.heap.size 4 P) wr (.slice vo ol.length vc) ol) := hide (ho.nums.imp (fun b h _ => Ja HP b (by omega)))
            have r0 : wr.cell? ⟨W.heap.size + 1 + 1 + 1, 0, none⟩ = some (.slice none 0 0) := ((Ja HXr).cell 3 0 _ rfl).1
            have r1 : wr.cell? ⟨W.heap.size + 1 + 1 + 1, 1, none⟩ = some (.slice none 0 0) := ((Ja HXr).cell 3 1 _ rfl).1
            have g0 : wr.frozen? ⟨W.heap.size + 1 + 1 + 1, 0, none⟩ = false := ((Ja HXr).cell 3 0 _ rfl).2
            have g1 : wr.frozen? ⟨W.heap.size + 1 + 1 + 1, 1, none⟩ = false := ((Ja HXr).cell 3 1 _ rfl).2
            clear ho hbr hT hie hE'
            go_wp2_with fail
            have hf2 := Yd (q := 3) (u0 := .slice t1 t2 t3) (u1 := .slice vo ol.length vc) (Ja HXr).below (by decide) (G8 (sh := a.shape ++ b.shape) (Ja HNs) (Ja HNc))
            exact bodyPost_ret (v := .tuple #[.agg #[.slice t1 t2 t3, .slice vo ol.length vc], .int .i64 0]) (by simp [results, Tryz.results119, go_sem, r0, r1]) rfl ⟨_, _, _, _, _, _, rfl, hf2.1, hf2.2⟩
      · have hft' : Yu (a.shape ++ b.shape) = false := by simpa using hft
        rw [hft']
        have hr' : r = (eArr, 9) := by
          rw [← Ja HR]
          unfold J4
          rw [if_neg (Ja H1), if_pos hft']
        subst hr'
        have r0 : w3.cell? ⟨W.heap.size + 1 + 1 + 1, 0, none⟩ = some (.slice none 0 0) := ((Ja HX3).cell 3 0 _ rfl).1
        have r1 : w3.cell? ⟨W.heap.size + 1 + 1 + 1, 1, none⟩ = some (.slice none 0 0) := ((Ja HX3).cell 3 1 _ rfl).1
        have g0 : w3.frozen? ⟨W.heap.size + 1 + 1 + 1, 0, none⟩ = false := ((Ja HX3).cell 3 0 _ rfl).2
        have g1 : w3.frozen? ⟨W.heap.size + 1 + 1 + 1, 1, none⟩ = false := ((Ja HX3).cell 3 1 _ rfl).2
        clear hft hft'
        go_wp2_with fail
        have hf2 := Yd (q := 3) (P := P) (k := 4) (a := eArr) (u0 := .slice none 0 0) (u1 := .slice none 0 0) (Ja HX3).below (by decide) (Yb _ _)
        exact bodyPost_ret (v := .tuple #[.agg #[.slice none 0 0, .slice none 0 0], .int .i64 9]) (by simp [results, Tryz.results119, go_sem, r0, r1]) rfl ⟨none, 0, 0, none, 0, 0, rfl, hf2.1, hf2.2⟩
end Go.Proofs.YtjobgpahajhbnabGreatDoor
namespace Go.Proofs.YtjobgpahajhbnabGreatDoor
open Go.RowKit Go.Proofs Go.Maps
attribute [local go_sem ↓] Go.wp_at_zero Go.wp_at_succ
theorem Tryz.full246 (h : Nat) (w : World) : (binOp .eql 148 (.func (.func h) #[] #[]) .nilFunc).run Tryz.prog w = .ok (.bool false) w := by kernel_rfl
set_option maxHeartbeats 2000000 in
set_option maxRecDepth 20000 in
theorem Jem {t : ByteArray} {k1 k2 ks : Lit} {h g : Nat} {z : Int} (h1 : 1 ≤ t.size) (hk2 : keyOf Tryz.prog 9 (.string t) = some k2) (hh : Maps.has signsD k2 = false) (hk1 : keyOf Tryz.prog 9 (.string (t.extract 1 t.size)) = some k1) (ha1 : formsTwoD.atKey k1 (.held .nilFunc) = .held (.func (.func h) #[] #[])) (hks : keyOf Tryz.prog 9 (.string (t.extract 0 1)) = some ks) (has : signsD.atKey ks (.held Jdg) = .held (.agg #[.func (.func g) #[] #[], .int .i64 z])) (w : World) :
    Calls Tryz.prog 49 #[.string t] w fun e w' => ∃ b3 b4, e = .returned (.func (.func 79) #[] #[.pointer (some ⟨b3, 0, none⟩), .pointer (some ⟨b4, 0, none⟩)]) ∧ w'.cell? ⟨b3, 0, none⟩ = some (.func (.func h) #[] #[]) ∧ b3 < w'.heap.size ∧ w'.cell? ⟨b4, 0, none⟩ = some (.func (.func g) #[] #[]) ∧ w'.cell? ⟨b4, 1, none⟩ = some (.int .i64 z) ∧ b4 < w'.heap.size ∧ Below w.heap.size w w' := by
  have HL0 : Hid (∀ w' b, w'.ownsMap Tryz.prog 9 Jm b 9 signsD → (Instr.lookup 144 (.map (some b)) (.string t) true).run Tryz.prog w' = .ok (.tuple #[.agg #[.nilFunc, .int .i64 0], .bool false]) w') := hide (fun w' b h => Kw Tryz.underlying144 (Tryz.zero143 w') h hk2 hh (atKey_of_not_has hh _))
  have HL1 : Hid (∀ w' b, w'.ownsMap Tryz.prog 9 Jm b 1 formsTwoD → (Instr.lookup 149 (.map (some b)) (.string (t.extract 1 t.size)) false).run Tryz.prog w' = .ok (.func (.func h) #[] #[]) w') := hide (fun w' b h => Yy Tryz.underlying149 (Tryz.zero148 w') h hk1 ha1)
  have HL2 : Hid (∀ w' b, w'.ownsMap Tryz.prog 9 Jm b 9 signsD → (Instr.lookup 144 (.map (some b)) (.string (t.extract 0 1)) false).run Tryz.prog w' = .ok (.agg #[.func (.func g) #[] #[], .int .i64 z]) w') := hide (fun w' b h => Yy Tryz.underlying144 (Tryz.zero143 w') h hks has)
  have hnn := Tryz.full246 h
  clear hk1 ha1 hks has hk2 hh
  go_enter Tryz.func49, Tryz.ntmps49
  go_upto_region 4 with (go_at_call 74; refine (Zn _).mono ?_; rintro e w1 ⟨rfl, ho, hb⟩; have hl0 := Ja HL0 _ _ ho; have HB0 := hide hb; clear ho hb)
  have HW : Hid (Below w.heap.size w (w1.alloc (.cells #[.nilFunc, .int .i64 0] 143))) := hide ((Ja HB0).alloc (Ja HB0).size _)
  obtain ⟨W1, hW1⟩ : ∃ W1, w1.alloc (.cells #[.nilFunc, .int .i64 0] 143) = W1 := ⟨_, rfl⟩
  rw [hW1] at HW ⊢
  clear hW1 hl0 HB0
  go_cut [5] from 16 to 19 (fun v5 wx => ∃ b3, v5 = .pointer (some ⟨b3, 0, none⟩) ∧ wx.cell? ⟨b3, 0, none⟩ = some (.func (.func h) #[] #[]) ∧ b3 < wx.heap.size ∧ Below W1.heap.size W1 wx)
  case first =>
    go_region_with (first | (go_at_call 77; refine (Z1 _).mono ?_; rintro e w1 ⟨rfl, ho, hb⟩; have hl := Ja HL1 _ W1.heap.size (by exact ho); have hl3 := Ja HL1 (w1.alloc (.cells #[.nilFunc] 148)) W1.heap.size (World.ownsMap.alloc (by exact ho) _); have HB := hide hb; obtain ⟨hc, hf⟩ := Jr hb; have hs := hb.size; (try simp at hs); (try have hs2 : W1.heap.size < w1.heap.size := by omega); clear ho hb) | (go_at_call 77; refine (Z1 _).mono ?_; rintro e w1 ⟨rfl, ho, hb⟩; have hl : (Instr.lookup 149 (.map (some (W1.heap.size + 1))) (.string (t.extract 1 t.size)) false).run Tryz.prog w1 = .ok (.func (.func h) #[] #[]) w1 := (by have := Ja HL1 _ _ ho; simpa [World.drew] using this); have HB := hide hb; obtain ⟨hc, hf⟩ := Jr hb; have hs := hb.size; (try simp at hs); (try have hs2 : W1.heap.size < w1.heap.size := by omega); clear ho hb))
    all_goals go_wp2_with fail
    all_goals go_meet
    all_goals first
      | exact ⟨w1.heap.size, rfl, (World.cell?_alloc_at _ _ _ _ rfl).trans rfl, by simp, (Jk (Ja HB)).alloc (Jk (Ja HB)).size _⟩
      | exact ⟨W1.heap.size, rfl, World.cell?_setCell_same _ _ _ (u := .nilFunc) ((hc W1.heap.size 0 (by simp)).trans ((World.cell?_alloc_at _ _ _ _ rfl).trans rfl)), by simp; omega, ((((Below.refl W1.heap.size W1).alloc (Nat.le_refl _) _).drew.trans ((Ja HB).mono (by simp))).setCell (p := ⟨W1.heap.size, 0, none⟩) (Nat.le_refl _) _)⟩
      | (trace_state; fail)
  case rest =>
    obtain ⟨b3, rfl, c3, l3, hb3⟩ := hcut
    rename World => wc
    have HB3 : Hid (Below w.heap.size w wc) := hide ((Ja HW).trans (hb3.mono (Ja HW).size))
    clear hb3
    go_upto_region 7 with fail
    go_cut [6] from 25 to 28 (fun v6 wx => ∃ b4, v6 = .pointer (some ⟨b4, 0, none⟩) ∧ wx.cell? ⟨b4, 0, none⟩ = some (.func (.func g) #[] #[]) ∧ wx.cell? ⟨b4, 1, none⟩ = some (.int .i64 z) ∧ b4 < wx.heap.size ∧ Below wc.heap.size wc wx)
    case first =>
      go_region_with (first | (go_at_call 74; refine (Zn _).mono ?_; rintro e w1 ⟨rfl, ho, hb⟩; have hl := Ja HL2 _ wc.heap.size (by exact ho); have hl3 := Ja HL2 (w1.alloc (.cells #[.nilFunc, .int .i64 0] 143)) wc.heap.size (World.ownsMap.alloc (by exact ho) _); have HB := hide hb; obtain ⟨hc, hf⟩ := Jr hb; have hs := hb.size; (try simp at hs); (try have hs2 : wc.heap.size < w1.heap.size := by omega); clear ho hb) | (go_at_call 74; refine (Zn _).mono ?_; rintro e w1 ⟨rfl, ho, hb⟩; have hl : (Instr.lookup 144 (.map (some (wc.heap.size + 1))) (.string (t.extract 0 1)) false).run Tryz.prog w1 = .ok (.agg #[.func (.func g) #[] #[], .int .i64 z]) w1 := (by have := Ja HL2 _ _ ho; simpa [World.drew] using this); have HB := hide hb; obtain ⟨hc, hf⟩ := Jr hb; have hs := hb.size; (try simp at hs); (try have hs2 : wc.heap.size < w1.heap.size := by omega); clear ho hb))
      all_goals go_wp2_with fail
      all_goals go_meet
      all_goals first
        | exact ⟨w1.heap.size, rfl, (World.cell?_alloc_at _ _ _ _ rfl).trans rfl, (World.cell?_alloc_at _ _ _ _ rfl).trans rfl, by simp, (Jk (Ja HB)).alloc (Jk (Ja HB)).size _⟩
        | exact ⟨wc.heap.size, rfl, (World.cell?_setCell_other _ _ _ _ (by simp)).trans (World.cell?_setCell_same _ _ _ (u := .nilFunc) ((hc wc.heap.size 0 (by simp)).trans ((World.cell?_alloc_at _ _ _ _ rfl).trans rfl))), World.cell?_setCell_same _ _ _ (u := .int .i64 0) ((World.cell?_setCell_other _ _ _ _ (by simp)).trans ((hc wc.heap.size 1 (by simp)).trans ((World.cell?_alloc_at _ _ _ _ rfl).trans rfl))), by simp; omega, (((((Below.refl wc.heap.size wc).alloc (Nat.le_refl _) _).drew.trans ((Ja HB).mono (by simp))).setCell (p := ⟨wc.heap.size, 0, none⟩) (Nat.le_refl _) _).setCell (p := ⟨wc.heap.size, 1, none⟩) (Nat.le_refl _) _)⟩
        | (trace_state; fail)
    case rest =>
      obtain ⟨b4, rfl, c4, c5, l4, hb4⟩ := hcut
      rename World => wd
      have HB4 := hide hb4
      clear hb4
      go_wp2_with fail
      exact bodyPost_ret (v := .func (.func 79) #[] #[.pointer (some ⟨b3, 0, none⟩), .pointer (some ⟨b4, 0, none⟩)]) (by simp [results, Tryz.results49, go_sem]) rfl ⟨b3, b4, rfl, ((Ja HB4).cell (p := ⟨b3, 0, none⟩) l3).trans c3, Nat.lt_of_lt_of_le l3 (Ja HB4).size, c4, c5, l4, (Ja HB3).trans ((Ja HB4).mono (Ja HB3).size)⟩
end Go.Proofs.YtjobgpahajhbnabGreatDoor
namespace Go.Proofs.YtjobgpahajhbnabGreatDoor
open Go.RowKit Go.Proofs Go.Maps
attribute [local go_sem ↓] Go.wp_at_zero Go.wp_at_succ
set_option maxHeartbeats 1000000 in
theorem Jkr {h g : Nat} {z : Int} (hh : Enters Tryz.prog h) {F : Arr → Arr → Arr × Int} {w' : World} (hF : ∀ (P : Nat → Prop) (W : World), Below w'.heap.size w' W → (∀ b, W.heap.size ≤ b → P b) → ∀ (so : Option Addr) (sn sc : Nat) (co : Option Addr) (cn cc : Nat) (so2 : Option Addr) (sn2 sc2 : Nat) (co2 : Option Addr) (cn2 cc2 : Nat) (a b : Arr), IsArr P W (.agg #[.slice so sn sc, .slice co cn cc]) a → IsArr P W (.agg #[.slice so2 sn2 sc2, .slice co2 cn2 cc2]) b → a.ok → b.ok → Calls Tryz.prog h #[.agg #[.slice so sn sc, .slice co cn cc], .agg #[.slice so2 sn2 sc2, .slice co2 cn2 cc2], .agg #[.func (.func g) #[] #[], .int .i64 z]] W fun e W' => ∃ so sn sc co cn cc, e = .returned (.tuple #[.agg #[.slice so sn sc, .slice co cn cc], .int .i64 (F a b).2]) ∧ IsArr P W' (.agg #[.slice so sn sc, .slice co cn cc]) (F a b).1 ∧ Below W.heap.size W W')
    {b3 b4 : Nat} (c3 : w'.cell? ⟨b3, 0, none⟩ = some (.func (.func h) #[] #[])) (l3 : b3 < w'.heap.size) (c4 : w'.cell? ⟨b4, 0, none⟩ = some (.func (.func g) #[] #[])) (c5 : w'.cell? ⟨b4, 1, none⟩ = some (.int .i64 z)) (l4 : b4 < w'.heap.size) : FnTwo 79 #[.pointer (some ⟨b3, 0, none⟩), .pointer (some ⟨b4, 0, none⟩)] w' F := by
  intro W P u v a b hW hP hA hB hoa hob
  have hA0 := hA
  have hB0 := hB
  obtain ⟨so, sn, sc, co, cn, cc, rfl, _, _⟩ := hA0
  obtain ⟨so2, sn2, sc2, co2, cn2, cc2, rfl, _, _⟩ := hB0
  show Calls Tryz.prog 79 #[.agg #[.slice so sn sc, .slice co cn cc], .agg #[.slice so2 sn2 sc2, .slice co2 cn2 cc2], .pointer (some ⟨b3, 0, none⟩), .pointer (some ⟨b4, 0, none⟩)] W _
  have d3 := (hW.cell (p := ⟨b3, 0, none⟩) l3).trans c3
  have d4 := (hW.cell (p := ⟨b4, 0, none⟩) l4).trans c4
  have d5 := (hW.cell (p := ⟨b4, 1, none⟩) l4).trans c5
  have hsz := hW.size
  have k3 : b3 < W.heap.size := by omega
  have k4 : b4 < W.heap.size := by omega
  have hen2 : ∀ args w, (callFunc h args).run Tryz.prog w = .ok (.enter h args) w := hh
  have hst : Bx W (((W.alloc (.cells #[.slice so sn sc, .slice co cn cc] 57)).alloc (.cells #[.slice so2 sn2 sc2, .slice co2 cn2 cc2] 57)).alloc (.cells #[.slice none 0 0, .slice none 0 0] 57)) [[.slice so sn sc, .slice co cn cc], [.slice so2 sn2 sc2, .slice co2 cn2 cc2], [.slice none 0 0, .slice none 0 0]] := (((Bx.nil W).alloc (by simp) [.slice so sn sc, .slice co cn cc] 57).alloc (by simp) [.slice so2 sn2 sc2, .slice co2 cn2 cc2] 57).alloc (by simp) [.slice none 0 0, .slice none 0 0] 57
  have HST := hide hst
  have HC := hide (hF (OffB W.heap.size 3 P) _ (hW.trans (hst.below.mono hsz)) (fun b hb => OffB.new hP (by have := hst.lt; simp at hb; omega)) so sn sc co cn cc so2 sn2 sc2 co2 cn2 cc2 a b ((hA.imp (Q := OffB W.heap.size 3 P) (fun b h hl => ⟨h, Or.inl hl⟩)).below hst.below) ((hB.imp (Q := OffB W.heap.size 3 P) (fun b h hl => ⟨h, Or.inl hl⟩)).below hst.below) hoa hob)
  have k31 : b3 < W.heap.size + 1 := by omega
  have k32 : b3 < W.heap.size + 1 + 1 := by omega
  have k41 : b4 < W.heap.size + 1 := by omega
  have k42 : b4 < W.heap.size + 1 + 1 := by omega
  clear hst hA hB hoa hob hP hF hh c3 l3 c4 c5 l4 hW hsz
  go_enter Tryz.func79, Tryz.ntmps79
  go_wp2_with (go_at_fn h; refine (Ja HC).mono ?_)
  rintro e w2 ⟨s4, s5, s6, c4, c5, c6, rfl, hA5, hb5⟩
  have HX := hide ((Ja HST).next hb5)
  have HA5 := hide hA5
  clear hA5 hb5 HST HC d3 d4 d5
  have r0 : w2.cell? ⟨W.heap.size + 1 + 1, 0, none⟩ = some (.slice none 0 0) := ((Ja HX).cell 2 0 _ rfl).1
  have r1 : w2.cell? ⟨W.heap.size + 1 + 1, 1, none⟩ = some (.slice none 0 0) := ((Ja HX).cell 2 1 _ rfl).1
  have g0 : w2.frozen? ⟨W.heap.size + 1 + 1, 0, none⟩ = false := ((Ja HX).cell 2 0 _ rfl).2
  have g1 : w2.frozen? ⟨W.heap.size + 1 + 1, 1, none⟩ = false := ((Ja HX).cell 2 1 _ rfl).2
  go_wp2_with fail
  have hf2 := Yd (q := 2) (u0 := .slice s4 s5 s6) (u1 := .slice c4 c5 c6) (Ja HX).below (by decide) (Ja HA5)
  exact bodyPost_ret (v := .tuple #[.agg #[.slice s4 s5 s6, .slice c4 c5 c6], .int .i64 (F a b).2]) (by simp [results, Tryz.results79, go_sem, r0, r1]) rfl ⟨_, _, _, _, _, _, rfl, hf2.1, hf2.2⟩
theorem Tryz.enters79 : Enters Tryz.prog 79 := Go.Proofs.enters_of Tryz.func79 (by decide) rfl
theorem Tryz.enters119 : Enters Tryz.prog 119 := Go.Proofs.enters_of Tryz.func119 (by decide) rfl
theorem Kk {t : ByteArray} {k2 ks : Lit} {g : Nat} {z : Int} {f : Arr → Arr → Arr × Int} (h1 : 1 ≤ t.size) (hk2 : keyOf Tryz.prog 9 (.string t) = some k2) (hh : Maps.has signsD k2 = false) (hk1 : keyOf Tryz.prog 9 (.string (t.extract 1 t.size)) = some (.string [46])) (hks : keyOf Tryz.prog 9 (.string (t.extract 0 1)) = some ks) (has : signsD.atKey ks (.held Jdg) = .held (.agg #[.func (.func g) #[] #[], .int .i64 z])) (hen : Enters Tryz.prog g) (hfn : ∀ w, FnTwo g #[] w f) (hsp : Spread f) : TwoC t (J4 f) where
  finds := fun w => (Jem h1 hk2 hh hk1 (show formsTwoD.atKey (.string [46]) (.held .nilFunc) = .held (.func (.func 119) #[] #[]) by kernel_rfl) hks has w).mono (by
    rintro e w' ⟨b3, b4, rfl, c3, l3, c4, c5, l4, hb⟩
    exact ⟨79, _, rfl, Tryz.enters79, hb, Jkr Tryz.enters119 (fun P W hW hP so sn sc co cn cc so2 sn2 sc2 co2 cn2 cc2 a b ha hb hoa hob => Jgs z hen (hfn w') hsp P W hW hP so sn sc co cn cc so2 sn2 sc2 co2 cn2 cc2 a b ha hb hoa hob) c3 l3 c4 c5 l4⟩)
  ok := fun a b ha hb => Jjw hsp ha hb
end Go.Proofs.YtjobgpahajhbnabGreatDoor
