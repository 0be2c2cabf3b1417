import Derived.Test.YtjobgpahajhbnaaGreatDoorDf
import Derived.Test.YtjobgpahajhbnaaGreatDoorCf
import Derived.Test.YtjobgpahajhbnaaGreatDoorCg
namespace Go.Proofs.YtjobgpahajhbnaaGreatDoor
open Go.RowKit Go.Proofs Go.Maps
attribute [local go_sem ↓] Go.wp_at_zero Go.wp_at_succ

/-- what makes of a number and an array as many cells as this has -/
structure Spread (f : Arr → Arr → Arr × Int) : Prop where
  ok : ∀ x b, fit64 x → b.ok → (f ⟨[], [x]⟩ b).2 = 0 → (f ⟨[], [x]⟩ b).1.ok
  len : ∀ x b, fit64 x → b.ok → (f ⟨[], [x]⟩ b).2 = 0 → (f ⟨[], [x]⟩ b).1.cells.length = b.cells.length
theorem sc_ok {x : Int} (h : fit64 x) : (⟨[], [x]⟩ : Arr).ok := ⟨by simp, by simp, by simp [prodL], by simp, by simpa using h⟩
theorem pair_spread {F : Int → Int → Int × Int} (hf : ∀ x y, fit64 x → fit64 y → fit64 (F x y).1) : Spread (pairP F) where
  ok := fun x b hx hb h => (pairP_ok hf (sc_ok hx) hb).2 h
  len := fun x b hx hb h => by
    unfold pairP at h ⊢
    simp only [if_true] at h ⊢
    unfold zipA at h ⊢
    cases hc : zipF F (List.replicate b.cells.length (List.headD [x] 0)) b.cells with
    | inl e => rw [hc] at h; exact absurd h (zip_err hc)
    | inr l =>
      have := zip_len hc (by simp)
      simpa using this
/-- the first error of k cells -/
def outE (f : Arr → Arr → Arr × Int) (b : Arr) (xs : List Int) : Nat → Int
  | 0 => 0
  | k + 1 => if outE f b xs k ≠ 0 then outE f b xs k else (f ⟨[], [xs.getD k 0]⟩ b).2
def outC (f : Arr → Arr → Arr × Int) (b : Arr) (xs : List Int) : List Int := (xs.map fun x => (f ⟨[], [x]⟩ b).1.cells).flatten
def outerP (f : Arr → Arr → Arr × Int) (a b : Arr) : Arr × Int :=
  if 3 < a.shape.length + b.shape.length then (eArr, 5) else if fitsB (a.shape ++ b.shape) = false then (eArr, 9)
  else if outE f b a.cells a.cells.length ≠ 0 then (eArr, outE f b a.cells a.cells.length) else (⟨a.shape ++ b.shape, outC f b a.cells⟩, 0)
theorem outE_zero {f : Arr → Arr → Arr × Int} {b : Arr} {xs : List Int} : ∀ {k : Nat}, outE f b xs k = 0 → ∀ i, i < k → (f ⟨[], [xs.getD i 0]⟩ b).2 = 0
  | 0, _, i, hi => absurd hi (by omega)
  | k + 1, h, i, hi => by
    unfold outE at h
    by_cases h0 : outE f b xs k = 0
    · rw [if_neg (by simp [h0])] at h
      by_cases hk : i = k
      · subst hk; exact h
      · exact outE_zero h0 i (by omega)
    · rw [if_pos h0] at h
      exact absurd h h0
theorem outE_stays {f : Arr → Arr → Arr × Int} {b : Arr} {xs : List Int} {k : Nat} (h : outE f b xs k ≠ 0) : ∀ {n : Nat}, k ≤ n → outE f b xs n = outE f b xs k
  | 0, hn => by
    have : k = 0 := by omega
    subst this
    rfl
  | n + 1, hn => by
    by_cases hk : k = n + 1
    · subst hk; rfl
    · have ih := outE_stays h (n := n) (by omega)
      show (if outE f b xs n ≠ 0 then outE f b xs n else (f ⟨[], [xs.getD n 0]⟩ b).2) = _
      rw [if_pos (by rw [ih]; exact h), ih]
theorem outC_len {f : Arr → Arr → Arr × Int} {b : Arr} {n : Nat} : ∀ {xs : List Int}, (∀ x ∈ xs, (f ⟨[], [x]⟩ b).1.cells.length = n) → (outC f b xs).length = xs.length * n
  | [], _ => by simp [outC]
  | x :: r, h => by
    have ih := outC_len (xs := r) (fun y hy => h y (by simp [hy]))
    unfold outC at ih ⊢
    rw [List.map_cons, List.flatten_cons, List.length_append, h x (by simp), ih, List.length_cons, Nat.add_mul, Nat.one_mul, Nat.add_comm]
theorem outC_snoc (f : Arr → Arr → Arr × Int) (b : Arr) (xs : List Int) (x : Int) : outC f b (xs ++ [x]) = outC f b xs ++ (f ⟨[], [x]⟩ b).1.cells := by
  simp [outC]
theorem outE_mem {f : Arr → Arr → Arr × Int} {b : Arr} {xs : List Int} (h : outE f b xs xs.length = 0) {x : Int} (hx : x ∈ xs) : (f ⟨[], [x]⟩ b).2 = 0 := by
  obtain ⟨i, hi, rfl⟩ := List.getElem_of_mem hx
  have := outE_zero h i hi
  rwa [List.getD_eq_getElem?_getD, List.getElem?_eq_getElem hi] at this
theorem outer_ok {f : Arr → Arr → Arr × Int} (hf : Spread f) {a b : Arr} (ha : a.ok) (hb : b.ok) : (outerP f a b).1.cells.length ≤ 200 ∧ ((outerP f a b).2 = 0 → (outerP f a b).1.ok) := by
  unfold outerP
  split
  · exact ⟨by simp [eArr], fun h => absurd h (by decide)⟩
  · rename_i h1
    split
    · exact ⟨by simp [eArr], fun h => absurd h (by decide)⟩
    · rename_i h2
      split
      · rename_i h3
        exact ⟨by simp [eArr], fun h => absurd h h3⟩
      · rename_i h3
        have h3 : outE f b a.cells a.cells.length = 0 := by simpa using h3
        have hfit : fitsB (a.shape ++ b.shape) = true := by simpa using h2
        unfold fitsB at hfit
        simp only [Bool.and_eq_true, decide_eq_true_eq, List.all_eq_true] at hfit
        have hl : (outC f b a.cells).length = prodL (a.shape ++ b.shape) := by
          rw [outC_len (n := b.cells.length) (fun x hx => hf.len x b (ha.fits x hx) hb (outE_mem h3 hx)), prodL_append, ha.size, hb.size]
        refine ⟨by simp only [hl]; omega, fun _ => ⟨by simp; omega, fun n hn => by have := hfit.1 n hn; omega, hl, by simp only [hl]; omega, ?_⟩⟩
        intro c hc
        simp only [outC, List.mem_flatten, List.mem_map] at hc
        obtain ⟨l, ⟨x, hx, rfl⟩, hc⟩ := hc
        exact (hf.ok x b (ha.fits x hx) hb (outE_mem h3 hx)).fits c hc
end Go.Proofs.YtjobgpahajhbnaaGreatDoor
namespace Go.Proofs.YtjobgpahajhbnaaGreatDoor
open Go.RowKit Go.Proofs Go.Maps
attribute [local go_sem ↓] Go.wp_at_zero Go.wp_at_succ

theorem isArr_lens {P : Nat → Prop} {w : World} {so : Option Addr} {sn sc : Nat} {co : Option Addr} {cn cc : Nat} {a : Arr} (h : IsArr P w (.agg #[.slice so sn sc, .slice co cn cc]) a) : Nums P w (.slice so sn sc) (a.shape.map Int.ofNat) := by
  obtain ⟨_, _, _, _, _, _, hv, h1, _⟩ := h
  injection hv with hv
  simp at hv
  obtain ⟨⟨rfl, rfl, rfl⟩, _⟩ := hv
  exact h1
theorem two_lists {Q : Nat → Prop} {w : World} {o1 : Option Addr} {n1 c1 : Nat} {o2 : Option Addr} {n2 c2 : Nat} {xs ys : List Int} (h1 : Nums Q w (.slice o1 n1 c1) xs) (h2 : Nums Q w (.slice o2 n2 c2) ys) (t : TypeId) : Lists Q (w.alloc (.cells #[.slice o1 n1 c1, .slice o2 n2 c2] t)) w.heap.size [xs, ys] := by
  have hb : Below w.heap.size w (w.alloc (.cells #[.slice o1 n1 c1, .slice o2 n2 c2] t)) := (Below.refl _ _).alloc (Nat.le_refl _) _
  intro i hi
  match i, hi with
  | 0, _ => exact ⟨o1, n1, c1, (World.cell?_alloc_at _ _ _ _ rfl).trans rfl, h1.below hb⟩
  | 1, _ => exact ⟨o2, n2, c2, (World.cell?_alloc_at _ _ _ _ rfl).trans rfl, h2.below hb⟩
set_option maxHeartbeats 4000000 in
set_option maxRecDepth 20000 in
theorem outer_any {f : Arr → Arr → Arr × Int} {g : Nat} (z : Int) (hen : Enters Tryz.prog g) {w0 : World} (hfn : FnTwo g #[] w0 f) (hsp : Spread f) (P : Nat → Prop) (W : World) (hW : Below w0.heap.size w0 W) (hP : ∀ b, W.heap.size ≤ b → P b) (so : Option Addr) (sn sc : Nat) (co : Option Addr) (cn cc : Nat) (so2 : Option Addr) (sn2 sc2 : Nat) (co2 : Option Addr) (cn2 cc2 : Nat) (a b : Arr) (ha : IsArr P W (.agg #[.slice so sn sc, .slice co cn cc]) a) (hb : IsArr P W (.agg #[.slice so2 sn2 sc2, .slice co2 cn2 cc2]) b) (hoa : a.ok) (hob : b.ok) :
    Calls Tryz.prog 199 #[.agg #[.slice so sn sc, .slice co cn cc], .agg #[.slice so2 sn2 sc2, .slice co2 cn2 cc2], .agg #[.func (.func g) #[] #[], .int .i64 z]] W fun e W' => ∃ so sn sc co cn cc, e = .returned (.tuple #[.agg #[.slice so sn sc, .slice co cn cc], .int .i64 (outerP f a b).2]) ∧ IsArr P W' (.agg #[.slice so sn sc, .slice co cn cc]) (outerP f a b).1 ∧ Below W.heap.size W W' := by
  have hsn := (isArr_len ha).2
  have hcn := (isArr_len ha).1
  have hsn2 := (isArr_len hb).2
  have hcn2 := (isArr_len hb).1
  have hst : Bx W ((((W.alloc (.cells #[.slice so sn sc, .slice co cn cc] 89)).alloc (.cells #[.slice so2 sn2 sc2, .slice co2 cn2 cc2] 89)).alloc (.cells #[.func (.func g) #[] #[], .int .i64 z] 241)).alloc (.cells #[.slice none 0 0, .slice none 0 0] 89)) [[.slice so sn sc, .slice co cn cc], [.slice so2 sn2 sc2, .slice co2 cn2 cc2], [.func (.func g) #[] #[], .int .i64 z], [.slice none 0 0, .slice none 0 0]] := ((((Bx.nil W).alloc (by simp) [.slice so sn sc, .slice co cn cc] 89).alloc (by simp) [.slice so2 sn2 sc2, .slice co2 cn2 cc2] 89).alloc (by simp) [.func (.func g) #[] #[], .int .i64 z] 241).alloc (by simp) [.slice none 0 0, .slice none 0 0] 89
  have ha' : IsArr (OffB W.heap.size 4 P) W (.agg #[.slice so sn sc, .slice co cn cc]) a := ha.imp (fun b h hl => ⟨h, Or.inl hl⟩)
  have hb' : IsArr (OffB W.heap.size 4 P) W (.agg #[.slice so2 sn2 sc2, .slice co2 cn2 cc2]) b := hb.imp (fun b h hl => ⟨h, Or.inl hl⟩)
  have hP' : ∀ b, W.heap.size + 4 ≤ b → OffB W.heap.size 4 P b := fun b hb => OffB.new hP hb
  have HST := hide hst
  have HA := hide ha'
  have HB := hide hb'
  have HP := hide hP'
  have HFn := hide hfn
  have HSp := hide hsp
  have HW := hide hW
  have HOA := hide hoa
  have HOB := hide hob
  have HSN := hide hsn
  have HSN2 := hide hsn2
  have HCN := hide hcn
  have hsn3 : sn ≤ 3 := by have := hoa.rank; omega
  have hsn23 : sn2 ≤ 3 := by have := hob.rank; omega
  have hcn3 : cn ≤ 200 := by have := hoa.few; omega
  have hen2 : ∀ args w, (callFunc g args).run Tryz.prog w = .ok (.enter g args) w := hen
  have HRk : Hid (∀ w', Calls Tryz.prog 221 #[.agg #[.slice so sn sc, .slice co cn cc]] w' fun e w'' => e = .returned (.int .i64 sn) ∧ Below w'.heap.size w' w'') := hide (fun w' => (rank_any w' so sn sc co cn cc).mono (fun e w'' h => ⟨h.1, by rw [h.2]; exact (Below.refl _ _).alloc (Nat.le_refl _) _⟩))
  have HRk2 : Hid (∀ w', Calls Tryz.prog 221 #[.agg #[.slice so2 sn2 sc2, .slice co2 cn2 cc2]] w' fun e w'' => e = .returned (.int .i64 sn2) ∧ Below w'.heap.size w' w'') := hide (fun w' => (rank_any w' so2 sn2 sc2 co2 cn2 cc2).mono (fun e w'' h => ⟨h.1, by rw [h.2]; exact (Below.refl _ _).alloc (Nat.le_refl _) _⟩))
  obtain ⟨r, hr⟩ : ∃ r, outerP f a b = r := ⟨_, rfl⟩
  simp only [hr]
  have HR := hide hr
  obtain ⟨W1, hW1⟩ : ∃ W1, (((W.alloc (.cells #[.slice so sn sc, .slice co cn cc] 89)).alloc (.cells #[.slice so2 sn2 sc2, .slice co2 cn2 cc2] 89)).alloc (.cells #[.func (.func g) #[] #[], .int .i64 z] 241)).alloc (.cells #[.slice none 0 0, .slice none 0 0] 89) = W1 := ⟨_, rfl⟩
  have HS1 : Hid (∀ w', Below W1.heap.size W1 w' → w'.cell? ⟨W.heap.size, 0, none⟩ = some (.slice so sn sc) ∧ w'.cell? ⟨W.heap.size, 1, none⟩ = some (.slice co cn cc) ∧ w'.cell? ⟨W.heap.size + 1, 0, none⟩ = some (.slice so2 sn2 sc2) ∧ w'.cell? ⟨W.heap.size + 1, 1, none⟩ = some (.slice co2 cn2 cc2)) := hide (fun w' hb' => by
    rw [hW1] at hst
    have hX' := hst.next hb'
    exact ⟨(hX'.cell 0 0 _ rfl).1, (hX'.cell 0 1 _ rfl).1, (hX'.cell 1 0 _ rfl).1, (hX'.cell 1 1 _ rfl).1⟩)
  rw [hW1] at HST
  clear hst ha hb ha' hb' hP hP' hfn hsp hW hoa hob hsn hsn2 hcn hcn2 hr hen
  go_enter Tryz.func199, Tryz.ntmps199
  go_upto_region 1 with fail
  obtain ⟨x0, x1, x2, x3⟩ := unhide HS1 W1 (Below.refl _ _)
  clear hW1
  have hlt1 := (unhide HST).lt
  simp at hlt1
  have n1 : W.heap.size < W1.heap.size := by omega
  have n2 : W.heap.size + 1 < W1.heap.size := by omega
  have hw1 : IntKind.i64.wrap ((sn : Int) + (sn2 : Int)) = ((sn + sn2 : Nat) : Int) := by
    rw [← Int.natCast_add]
    exact wrap_pos (by omega) (by omega)
  obtain ⟨rk, hrk⟩ : ∃ rk, sn + sn2 = rk := ⟨_, rfl⟩
  rw [hrk] at hw1
  have HRK := hide hrk
  clear hrk
  go_cut [19] from 14 to 18 (fun v19 wx => v19 = .bool (decide ((3 : Int) < (rk : Int))) ∧ Below W1.heap.size W1 wx)
  case first =>
    go_region_with (first
      | (go_at_call 221; (with_reducible refine (unhide HRk _).mono ?_); rintro e w2 ⟨rfl, hb2⟩; have HB2 := hide ((Below.refl W1.heap.size W1).drew.trans hb2); obtain ⟨y0, y1, y2, y3⟩ := unhide HS1 w2 (unhide HB2); have hs2 := (unhide HB2).size; have l1 : W.heap.size < w2.heap.size := Nat.lt_of_lt_of_le n1 hs2; have l2 : W.heap.size + 1 < w2.heap.size := Nat.lt_of_lt_of_le n2 hs2; clear hb2)
      | (go_at_call 221; (with_reducible refine (unhide HRk2 _).mono ?_); rintro e w2 ⟨rfl, hb2⟩; have HB2 := hide ((Below.refl W1.heap.size W1).drew.trans hb2); obtain ⟨y0, y1, y2, y3⟩ := unhide HS1 w2 (unhide HB2); have hs2 := (unhide HB2).size; have l1 : W.heap.size < w2.heap.size := Nat.lt_of_lt_of_le n1 hs2; have l2 : W.heap.size + 1 < w2.heap.size := Nat.lt_of_lt_of_le n2 hs2; clear hb2)
      | (go_at_call 221; (with_reducible refine (unhide HRk _).mono ?_); rintro e w3 ⟨rfl, hb3⟩; have HB3 := hide ((unhide HB2).trans (hb3.mono (unhide HB2).size)); clear hb3)
      | (go_at_call 221; (with_reducible refine (unhide HRk2 _).mono ?_); rintro e w3 ⟨rfl, hb3⟩; have HB3 := hide ((unhide HB2).trans (hb3.mono (unhide HB2).size)); clear hb3))
    all_goals go_wp2_with fail
    all_goals go_meet
    all_goals first | exact ⟨rfl, unhide HB3⟩ | (trace_state; fail)
  case rest =>
    obtain ⟨rfl, hb2⟩ := hcut
    have HX2 := hide ((unhide HST).next hb2)
    clear hb2 HST HS1 HRk HRk2 x0 x1 x2 x3 n1 n2 hlt1 hw1
    rename World => w2
    by_cases h1 : 3 < rk
    · have h1' : (3 : Int) < (rk : Int) := by omega
      rw [decide_eq_true h1']
      have hr' : r = (eArr, 5) := by
        rw [← unhide HR]
        unfold outerP
        rw [if_pos (by rw [← unhide HSN, ← unhide HSN2, unhide HRK]; exact h1)]
      subst hr'
      have r0 : w2.cell? ⟨W.heap.size + 1 + 1 + 1, 0, none⟩ = some (.slice none 0 0) := ((unhide HX2).cell 3 0 _ rfl).1
      have r1 : w2.cell? ⟨W.heap.size + 1 + 1 + 1, 1, none⟩ = some (.slice none 0 0) := ((unhide HX2).cell 3 1 _ rfl).1
      have g0 : w2.frozen? ⟨W.heap.size + 1 + 1 + 1, 0, none⟩ = false := ((unhide HX2).cell 3 0 _ rfl).2
      have g1 : w2.frozen? ⟨W.heap.size + 1 + 1 + 1, 1, none⟩ = false := ((unhide HX2).cell 3 1 _ rfl).2
      clear h1
      go_wp2_with fail
      have hf2 := fin_bx (q := 3) (P := P) (k := 4) (a := eArr) (u0 := .slice none 0 0) (u1 := .slice none 0 0) (unhide HX2).below (by decide) (e_arr _ _)
      exact bodyPost_ret (v := .tuple #[.agg #[.slice none 0 0, .slice none 0 0], .int .i64 5]) (by simp [results, Tryz.results199, go_sem, r0, r1]) rfl ⟨none, 0, 0, none, 0, 0, rfl, hf2.1, hf2.2⟩
    · have h1' : ¬ (3 : Int) < (rk : Int) := by omega
      rw [decide_eq_false h1']
      have H1 : Hid (¬ 3 < a.shape.length + b.shape.length) := hide (by rw [← unhide HSN, ← unhide HSN2, unhide HRK]; exact h1)
      have b0 : w2.cell? ⟨W.heap.size, 0, none⟩ = some (.slice so sn sc) := ((unhide HX2).cell 0 0 _ rfl).1
      have b1 : w2.cell? ⟨W.heap.size + 1, 0, none⟩ = some (.slice so2 sn2 sc2) := ((unhide HX2).cell 1 0 _ rfl).1
      have hlt2 := (unhide HX2).lt
      simp at hlt2
      have hA2 := (unhide HA).below (unhide HX2).below
      have hB2 := (unhide HB).below (unhide HX2).below
      have hNA := isArr_lens hA2
      have hNB := isArr_lens hB2
      have HCat := hide (concat_ints (OffB W.heap.size 4 P) (w2.alloc (.cells #[.slice so sn sc, .slice so2 sn2 sc2] 37)) (fun b hb => unhide HP b (by simp at hb; omega)) w2.heap.size 2 2 [a.shape.map Int.ofNat, b.shape.map Int.ofNat] rfl (by decide) (by simp) (two_lists hNA hNB 37) (by simp; have := unhide HSN; have := unhide HSN2; omega))
      clear h1 hNA hNB
      go_wp2_with fail
      refine (unhide HCat).mono ?_
      rintro e w3 ⟨t1, t2, t3, rfl, hN3, hb3⟩
      have hb23 : Below w2.heap.size w2 w3 := ((Below.refl _ _).alloc (Nat.le_refl _) _).trans (hb3.mono (by simp))
      have HX3 := hide ((unhide HX2).next hb23)
      have hN3 : Nums (OffB W.heap.size 4 P) w3 (.slice t1 t2 t3) ((a.shape ++ b.shape).map Int.ofNat) := by simpa using hN3
      have HN3 := hide hN3
      have HLens : Hid (Lens (a.shape ++ b.shape)) := hide ⟨by simp; have := unhide H1; omega, fun n hn => by
        rcases List.mem_append.1 hn with h | h
        · have := (unhide HOA).lens n h; omega
        · have := (unhide HOB).lens n h; omega⟩
      clear hb3 hb23 hN3 HX2 HCat b0 b1 hlt2
      go_wp2_with fail
      refine (fits_any w3 t1 t2 t3 _ (unhide HN3) (unhide HLens)).mono ?_
      rintro e w4 ⟨rfl, hw4⟩
      have hw4' := hw4.symm
      subst hw4'
      clear hw4
      by_cases hft : fitsB (a.shape ++ b.shape) = true
      · rw [hft]
        have H2 : Hid (¬ fitsB (a.shape ++ b.shape) = false) := hide (by rw [hft]; simp)
        have HTot : Hid (cn * b.cells.length ≤ 64) := hide (by
          have h2 : prodL (a.shape ++ b.shape) ≤ 64 := by
            unfold fitsB at hft
            simp only [Bool.and_eq_true, decide_eq_true_eq] at hft
            exact hft.2
          rw [prodL_append, ← (unhide HOA).size, ← (unhide HOB).size] at h2
          rw [unhide HCN]
          exact h2)
        have b1 : w3.cell? ⟨W.heap.size, 1, none⟩ = some (.slice co cn cc) := ((unhide HX3).cell 0 1 _ rfl).1
        have hlt3 := (unhide HX3).lt
        simp at hlt3
        clear hft
        go_wp2_with fail
        go_loopw [9, 34] (fun v9 v34 wr => ∃ i : Nat, v34 = .int .i64 i ∧ i ≤ cn ∧ Hid (outE f b a.cells i = 0) ∧ OwnL w3.heap.size wr v9 (outC f b (a.cells.take i)) ∧ Below w3.heap.size w3 wr) (fun _ v34 _ => cn - (intOf v34).toNat)
        case atStart => exact ⟨0, rfl, by omega, hide rfl, by simpa [outC] using OwnL.nil _ _, Below.refl _ _⟩
        case round =>
          obtain ⟨i, rfl, hi, hE, ho, hbr⟩ := hrel
          rename World => wr
          have HO := hide ho
          have HBr := hide hbr
          have HXr := hide ((unhide HX3).next hbr)
          have hszr := hbr.size
          by_cases hin : i < cn
          · have hil : i < a.cells.length := by rw [← unhide HCN]; exact hin
            have hAr := (unhide HA).below (unhide HXr).below
            have hBr := (unhide HB).below (unhide HXr).below
            have hNc := isArr_cells hAr
            obtain ⟨cb, cof, rfl, hcb, hcell, hcap⟩ := hNc.at hil
            obtain ⟨x, hx⟩ : ∃ x, a.cells[i] = x := ⟨_, rfl⟩
            rw [hx] at hcell
            have hxf : fit64 x := (unhide HOA).fits x (by rw [← hx]; exact List.getElem_mem hil)
            have HT : Hid (outC f b (a.cells.take (i + 1)) = outC f b (a.cells.take i) ++ (f ⟨[], [x]⟩ b).1.cells) := hide (by rw [List.take_succ_eq_append_getElem hil, hx, outC_snoc])
            have HE1 : Hid (outE f b a.cells (i + 1) = (f ⟨[], [x]⟩ b).2) := hide (by rw [outE, if_neg (by rw [unhide hE]; simp), List.getD_eq_getElem?_getD, List.getElem?_eq_getElem hil, hx]; rfl)
            have HLenT : Hid ((outC f b (a.cells.take i)).length = i * b.cells.length) := hide (by
              have h3 : ∀ y ∈ a.cells.take i, (f ⟨[], [y]⟩ b).1.cells.length = b.cells.length := fun y hy => by
                obtain ⟨k, hk, rfl⟩ := List.getElem_of_mem hy
                have hk' : k < i := by simp at hk; omega
                have h4 := outE_zero (unhide hE) k hk'
                rw [List.getD_eq_getElem?_getD, List.getElem?_eq_getElem (by omega)] at h4
                rw [List.getElem_take]
                exact (unhide HSp).len _ b ((unhide HOA).fits _ (List.getElem_mem _)) (unhide HOB) h4
              rw [outC_len h3, List.length_take, Nat.min_eq_left (by omega)])
            have HXF := hide hxf
            have HBb := hide hBr
            have HScA := hide (scalar_any (fun b => OffB W.heap.size 4 P b ∧ b ≠ wr.heap.size) (wr.alloc (.cells #[.slice none 0 0, .slice none 0 0] 89)).drew (fun b hb => by simp at hb; exact ⟨unhide HP b (by omega), by omega⟩) x)
            have HScB := hide (scalar_any (OffB W.heap.size 4 P) wr.drew (fun b hb => by simp at hb; exact unhide HP b (by omega)) x)
            have HCall : Hid (∀ (w' : World) (Q : Nat → Prop) (d1 : Option Addr) (d2 d3 : Nat), Below wr.heap.size wr w' → (∀ b, w'.heap.size ≤ b → Q b) → IsArr Q w' (.agg #[.slice none 0 0, .slice d1 d2 d3]) ⟨[], [x]⟩ → (∀ b, OffB W.heap.size 4 P b → b < wr.heap.size → Q b) → Calls Tryz.prog g #[.agg #[.slice none 0 0, .slice d1 d2 d3], .agg #[.slice so2 sn2 sc2, .slice co2 cn2 cc2]] w' fun e W' => ∃ so sn sc co cn cc, e = .returned (.tuple #[.agg #[.slice so sn sc, .slice co cn cc], .int .i64 (f ⟨[], [x]⟩ b).2]) ∧ IsArr Q W' (.agg #[.slice so sn sc, .slice co cn cc]) (f ⟨[], [x]⟩ b).1 ∧ Below w'.heap.size w' W') := hide (fun w' Q d1 d2 d3 hb' hQ hS hQ2 => by
              have hbW : Below W.heap.size W w' := (unhide HXr).below.trans (hb'.mono (unhide HXr).below.size)
              exact unhide HFn w' Q _ _ _ b ((unhide HW).trans (hbW.mono (unhide HW).size)) hQ hS ((hBr.imp hQ2).below hb') (sc_ok hxf) (unhide HOB))
            have HCe : Hid (∀ w', Below wr.heap.size wr w' → w'.cell? ⟨W.heap.size + 1, 0, none⟩ = some (.slice so2 sn2 sc2) ∧ w'.cell? ⟨W.heap.size + 1, 1, none⟩ = some (.slice co2 cn2 cc2) ∧ w'.cell? ⟨W.heap.size + 1 + 1, 0, none⟩ = some (.func (.func g) #[] #[])) := hide (fun w' hb' => by
              have h1 := (unhide HXr).next hb'
              exact ⟨(h1.cell 1 0 _ rfl).1, (h1.cell 1 1 _ rfl).1, (h1.cell 2 0 _ rfl).1⟩)
            obtain ⟨y0, y1, y2⟩ := unhide HCe wr (Below.refl _ _)
            obtain ⟨R, hRR⟩ : ∃ R, f ⟨[], [x]⟩ b = R := ⟨_, rfl⟩
            simp only [hRR] at HCall HT HE1
            have HRR := hide hRR
            have i0 : (0 : Int) ≤ (i : Int) := by omega
            have i1 : (i : Int) < (cn : Int) := by omega
            have m1 : W.heap.size + 1 < wr.heap.size := by omega
            have m2 : W.heap.size + 1 + 1 < wr.heap.size := by omega
            have hcbr : cb < wr.heap.size := hcb
            have hWr4 : W.heap.size + 4 ≤ wr.heap.size := by omega
            clear ho hbr hBr hNc hx hxf hRR hcap hil hcb
            go_upto_region 10 with fail
            go_cut [12, 13] from 38 to 46 (fun v12 v13 wx => ∃ b12 s1 s2 s3 d1 d2 d3, v12 = .pointer (some ⟨b12, 0, none⟩) ∧ v13 = .int .i64 R.2 ∧ wx.cell? ⟨b12, 0, none⟩ = some (.slice s1 s2 s3) ∧ wx.cell? ⟨b12, 1, none⟩ = some (.slice d1 d2 d3) ∧ IsArr (OffB W.heap.size 4 P) wx (.agg #[.slice s1 s2 s3, .slice d1 d2 d3]) R.1 ∧ b12 < wx.heap.size ∧ Below wr.heap.size wr wx)
            case first =>
              go_region_held3 (fun w' => w'.cell? ⟨W.heap.size + 1, 0, none⟩ = some (.slice so2 sn2 sc2) ∧ w'.cell? ⟨W.heap.size + 1, 1, none⟩ = some (.slice co2 cn2 cc2) ∧ w'.cell? ⟨W.heap.size + 1 + 1, 0, none⟩ = some (.func (.func g) #[] #[]))
                (first
                  | exact unhide HCe _ (Below.refl _ _).drew
                  | exact unhide HCe _ (unhide HBa)
                  | exact unhide HCe _ (unhide HBb5)
                  | exact unhide HCe _ (unhide HB6)
                  | exact unhide HCe _ (((Below.refl _ _).alloc (Nat.le_refl _) _).drew)
                  | exact unhide HCe _ ((Below.refl _ _).drew.alloc (by simp) _)
                  | exact unhide HCe _ ((unhide HBb5).alloc (unhide HBb5).size _)
                  | exact unhide HCe _ ((unhide HB6).alloc (unhide HB6).size _)
                  | exact unhide HCe _ (((unhide HB6).setCell (p := ⟨wr.heap.size, 0, none⟩) (Nat.le_refl _) _).setCell (p := ⟨wr.heap.size, 1, none⟩) (Nat.le_refl _) _)
                  | exact unhide HCe _ (((unhide HB6).setCell (p := ⟨w5.heap.size, 0, none⟩) hsb _).setCell (p := ⟨w5.heap.size, 1, none⟩) hsb _)
                  | (trace_state; fail))
                (first
                | (go_at_call 150; (with_reducible refine (unhide HScA).mono ?_); rintro e w5 ⟨p1, p2, p3, rfl, hS5, hb5⟩; have HBa := hide (((Below.refl wr.heap.size wr).alloc (Nat.le_refl _) (.cells #[.slice none 0 0, .slice none 0 0] 89)).drew.trans (hb5.mono (by simp))); have ma0 := (hb5.cell (p := ⟨wr.heap.size, 0, none⟩) (by simp)); have ma1 := (hb5.cell (p := ⟨wr.heap.size, 1, none⟩) (by simp)); have fa0 := (hb5.frozen (p := ⟨wr.heap.size, 0, none⟩) (by simp)); have fa1 := (hb5.frozen (p := ⟨wr.heap.size, 1, none⟩) (by simp)); simp at ma0 ma1 fa0 fa1; have hsa : wr.heap.size < w5.heap.size := (by have := hb5.size; simp at this; omega); obtain ⟨u0, u1, u2⟩ := unhide HCe w5 (unhide HBa); have l1 : W.heap.size + 1 < w5.heap.size := (by omega); have l2 : W.heap.size + 1 + 1 < w5.heap.size := (by omega); have HGa := hide (unhide HCall w5 (fun b => OffB W.heap.size 4 P b ∧ b ≠ wr.heap.size) p1 p2 p3 (unhide HBa) (fun b hb => ⟨unhide HP b (by omega), by omega⟩) hS5 (fun b h hl => ⟨h, by omega⟩)); clear hS5 hb5)
                | (go_at_call 150; (with_reducible refine (unhide HScB).mono ?_); rintro e w5 ⟨p1, p2, p3, rfl, hS5, hb5⟩; have HBb5 := hide ((Below.refl wr.heap.size wr).drew.trans hb5); obtain ⟨u0, u1, u2⟩ := unhide HCe w5 (unhide HBb5); have hsb := (unhide HBb5).size; have l1 : W.heap.size + 1 < w5.heap.size := (by omega); have l2 : W.heap.size + 1 + 1 < w5.heap.size := (by omega); have HGb := hide (unhide HCall (w5.alloc (.cells #[.slice none 0 0, .slice none 0 0] 89)) (fun b => OffB W.heap.size 4 P b ∧ b ≠ w5.heap.size) p1 p2 p3 ((unhide HBb5).alloc (unhide HBb5).size _) (fun b hb => by simp at hb; exact ⟨unhide HP b (by omega), by omega⟩) ((hS5.imp (fun b h hl => ⟨h, by omega⟩)).below ((Below.refl _ _).alloc (Nat.le_refl _) _)) (fun b h hl => ⟨h, by omega⟩)); have HGc := hide (unhide HCall w5 (OffB W.heap.size 4 P) p1 p2 p3 (unhide HBb5) (fun b hb => unhide HP b (by omega)) hS5 (fun b h hl => h)); clear hS5 hb5)
                | (go_at_fn g; (with_reducible refine (unhide HGa).mono ?_); rintro e w6 ⟨s4, s5, s6, c4, c5, c6, rfl, hA6, hb6⟩; have HA6a := hide hA6; have HB6 := hide ((unhide HBa).trans (hb6.mono (unhide HBa).size)); have m0' := (hb6.cell (p := ⟨wr.heap.size, 0, none⟩) hsa).trans ma0; have m1' := (hb6.cell (p := ⟨wr.heap.size, 1, none⟩) hsa).trans ma1; have f0' := (hb6.frozen (p := ⟨wr.heap.size, 0, none⟩) hsa).trans fa0; have f1' := (hb6.frozen (p := ⟨wr.heap.size, 1, none⟩) hsa).trans fa1; have hs6 := hb6.size; have k6 : wr.heap.size < w6.heap.size := (by omega); clear hA6 hb6)
                | (go_at_fn g; (with_reducible refine (unhide HGb).mono ?_); rintro e w6 ⟨s4, s5, s6, c4, c5, c6, rfl, hA6, hb6⟩; have HA6b := hide hA6; have HB6 := hide (((unhide HBb5).alloc (unhide HBb5).size (.cells #[.slice none 0 0, .slice none 0 0] 89)).trans (hb6.mono (by simp; omega))); have m0' := (hb6.cell (p := ⟨w5.heap.size, 0, none⟩) (by simp)); have m1' := (hb6.cell (p := ⟨w5.heap.size, 1, none⟩) (by simp)); have f0' := (hb6.frozen (p := ⟨w5.heap.size, 0, none⟩) (by simp)); have f1' := (hb6.frozen (p := ⟨w5.heap.size, 1, none⟩) (by simp)); simp at m0' m1' f0' f1'; have hs6 := hb6.size; simp at hs6; have k6 : w5.heap.size < w6.heap.size := (by omega); clear hA6 hb6)
                | (go_at_fn g; (with_reducible refine (unhide HGc).mono ?_); rintro e w6 ⟨s4, s5, s6, c4, c5, c6, rfl, hA6, hb6⟩; have HA6c := hide hA6; have HB6 := hide ((unhide HBb5).trans (hb6.mono (unhide HBb5).size)); clear hA6 hb6))
              all_goals go_wp2_with fail
              all_goals go_meet
              all_goals first
                | exact ⟨wr.heap.size, s4, s5, s6, c4, c5, c6, rfl, rfl, (put_two m0' m1' _ _).1, (put_two m0' m1' _ _).2, (((unhide HA6a).set (fun h => h.2 rfl) 0 _).set (fun h => h.2 rfl) 1 _).imp (fun b h _ => h.1), by simpa using k6, ((unhide HB6).setCell (p := ⟨wr.heap.size, 0, none⟩) (Nat.le_refl _) _).setCell (p := ⟨wr.heap.size, 1, none⟩) (Nat.le_refl _) _⟩
                | exact ⟨w5.heap.size, s4, s5, s6, c4, c5, c6, rfl, rfl, (put_two m0' m1' _ _).1, (put_two m0' m1' _ _).2, (((unhide HA6b).set (fun h => h.2 rfl) 0 _).set (fun h => h.2 rfl) 1 _).imp (fun b h _ => h.1), by simpa using k6, ((unhide HB6).setCell (p := ⟨w5.heap.size, 0, none⟩) hsb _).setCell (p := ⟨w5.heap.size, 1, none⟩) hsb _⟩
                | exact ⟨w6.heap.size, s4, s5, s6, c4, c5, c6, rfl, rfl, (World.cell?_alloc_at _ _ _ _ rfl).trans rfl, (World.cell?_alloc_at _ _ _ _ rfl).trans rfl, (unhide HA6c).below ((Below.refl _ _).alloc (Nat.le_refl _) _), by simp, (unhide HB6).alloc (unhide HB6).size _⟩
                | (trace_state; fail)
            case rest =>
              obtain ⟨b12, s1, s2, s3, d1, d2, d3, rfl, rfl, q0, q1, hA, hl12, hbx⟩ := hcut
              rename World => wc
              have HXc := hide ((unhide HXr).next hbx)
              have HOc := hide ((unhide HO).below hbx)
              have HBc : Hid (Below w3.heap.size w3 wc) := hide ((unhide HBr).trans (hbx.mono (unhide HBr).size))
              clear HScA HScB HCall HCe y0 y1 y2 HO HBr
              by_cases he : R.2 = 0
              · have hokR : R.1.ok := by
                  have := (unhide HSp).ok x b (unhide HXF) (unhide HOB)
                  rw [unhide HRR] at this
                  exact this he
                have hlenR : R.1.cells.length = b.cells.length := by
                  have := (unhide HSp).len x b (unhide HXF) (unhide HOB)
                  rw [unhide HRR] at this
                  exact this he
                have HE2 : Hid (outE f b a.cells (i + 1) = 0) := hide (by rw [unhide HE1, he])
                have hNc := isArr_cells hA
                have hd2 := nums_len hNc
                have hsm : i * b.cells.length + d2 ≤ 64 := by
                  have h1 : (i + 1) * b.cells.length ≤ cn * b.cells.length := Nat.mul_le_mul_right _ (by omega)
                  have h2 := unhide HTot
                  rw [Nat.add_mul, Nat.one_mul] at h1
                  omega
                rw [← unhide HLenT] at hsm
                rw [he]
                obtain ⟨vo, vc, rfl⟩ := (unhide HOc).shape
                obtain ⟨ol, hol⟩ : ∃ ol, outC f b (a.cells.take i) = ol := ⟨_, rfl⟩
                rw [hol] at HOc HT hsm ⊢
                have HNc := hide hNc
                have HD2 := hide hd2
                obtain ⟨-, ovc, -, hvle, -⟩ := own_slice (unhide HOc)
                clear hA hNc hokR hlenR he hbx hd2 hol
                obtain ⟨i0', hi', hz0, hz1, hz2⟩ := info_parts Tryz.info2
                have HI := hide hi'
                have HZ0 := hide hz0
                have HZ1 := hide hz1
                have HZ2 := hide hz2
                clear hi' hz0 hz1 hz2
                by_cases hd0 : d2 = 0
                · subst hd0
                  have HO4 : Hid (OwnL w3.heap.size wc (.slice vo ol.length vc) (outC f b (a.cells.take (i + 1)))) := hide (by
                    have hz : R.1.cells = [] := List.eq_nil_of_length_eq_zero (unhide HD2).symm
                    rw [unhide HT, hz, List.append_nil]
                    exact unhide HOc)
                  have hvl : ol.length ≤ vc := by
                    obtain ⟨_, _, hv, hle, _⟩ := own_slice (unhide HOc)
                    injection hv with _ _ e3
                    rw [e3]; exact hle
                  go_wp2_with (at_builtin; refine wpList_append_none rfl _ _ 32 rfl 2 i0' Tryz.underlying32 (unhide HI) _ _ _ ?c1 rfl _ _ rfl ?_)
                  case c1 => exact hvl
                  go_wp2_with fail
                  go_roundw
                  case rel => exact ⟨i + 1, by go_num, by omega, HE2, unhide HO4, unhide HBc⟩
                  case measure => simp [intOf]; omega
                · obtain ⟨ao, cap', hv, hcap, h1, _⟩ := unhide HNc
                  obtain ⟨eb, eof, rfl, _, hebl, hecell⟩ := h1 (by rw [← unhide HD2]; omega)
                  injection hv with e1 e2 e3
                  subst e1
                  clear h1 hecell hcap e2 e3
                  go_wp2_with (at_builtin; refine wpList_append_own _ rfl _ _ 32 rfl w3.heap.size 2 i0' (.int .i64 0) 1 8 Tryz.underlying32 (unhide HI) (unhide HZ0) (unhide HZ1) (unhide HZ2) rfl (by decide) _ _ _ rfl (unhide HOc) ⟨eb, eof, none⟩ d2 d3 (R.1.cells.map (Value.int .i64)) rfl (by simp [unhide HD2]) ?c2 ints_one ?c3 ?c4 ?c5 ?_)
                  case c2 =>
                    have := unhide HNc
                    rw [unhide HD2] at this
                    exact nums_src this
                  case c3 => unfold maxLen; omega
                  case c4 => omega
                  case c5 => exact (unhide HBc).size
                  intro v' w7 hown7 hgrow7 _
                  have HB7 : Hid (Below w3.heap.size w3 w7) := hide ((unhide HBc).grown hgrow7 (unhide HBc).size (fun q hq => (World.ownsRow.lt (unhide HOc) q hq).1))
                  have HO7 : Hid (OwnL w3.heap.size w7 v' (outC f b (a.cells.take (i + 1)))) := hide (by
                    rw [unhide HT]
                    unfold OwnL
                    rw [List.length_append, List.map_append]
                    rw [unhide HD2] at hown7
                    exact hown7)
                  clear hown7 hgrow7
                  go_wp2_with fail
                  go_roundw
                  case rel => exact ⟨i + 1, by go_num, by omega, HE2, unhide HO7, unhide HB7⟩
                  case measure => simp [intOf]; omega
              · obtain ⟨er, her⟩ : ∃ er, R.2 = er := ⟨_, rfl⟩
                rw [her] at he HE1 ⊢
                have he2 : (er != 0) = true := by simpa using he
                have hr' : r = (eArr, er) := by
                  have h1 : outE f b a.cells a.cells.length = er := by
                    rw [← unhide HE1]
                    exact outE_stays (by rw [unhide HE1]; exact he) (by have := unhide HCN; omega)
                  rw [← unhide HR]
                  unfold outerP
                  rw [if_neg (unhide H1), if_neg (unhide H2), h1, if_pos he]
                subst hr'
                have r0 : wc.cell? ⟨W.heap.size + 1 + 1 + 1, 0, none⟩ = some (.slice none 0 0) := ((unhide HXc).cell 3 0 _ rfl).1
                have r1 : wc.cell? ⟨W.heap.size + 1 + 1 + 1, 1, none⟩ = some (.slice none 0 0) := ((unhide HXc).cell 3 1 _ rfl).1
                have g0 : wc.frozen? ⟨W.heap.size + 1 + 1 + 1, 0, none⟩ = false := ((unhide HXc).cell 3 0 _ rfl).2
                have g1 : wc.frozen? ⟨W.heap.size + 1 + 1 + 1, 1, none⟩ = false := ((unhide HXc).cell 3 1 _ rfl).2
                clear hA hbx he her
                go_wp2_with fail
                have hf2 := fin_bx (q := 3) (P := P) (k := 4) (a := eArr) (u0 := .slice none 0 0) (u1 := .slice none 0 0) (unhide HXc).below (by decide) (e_arr _ _)
                exact bodyPost_ret (v := .tuple #[.agg #[.slice none 0 0, .slice none 0 0], .int .i64 er]) (by simp [results, Tryz.results199, go_sem, r0, r1]) rfl ⟨none, 0, 0, none, 0, 0, rfl, hf2.1, hf2.2⟩
          · have hie : i = cn := by omega
            have hT : a.cells.take i = a.cells := List.take_of_length_le (by have := unhide HCN; omega)
            have hE' := unhide hE
            rw [hie, unhide HCN] at hE'
            rw [hT] at ho
            have i1 : ¬ (i : Int) < (cn : Int) := by omega
            obtain ⟨vo, vc, rfl⟩ := ho.shape
            obtain ⟨ol, hol⟩ : ∃ ol, outC f b a.cells = ol := ⟨_, rfl⟩
            rw [hol] at ho ⊢
            have hr' : r = (⟨a.shape ++ b.shape, ol⟩, 0) := by
              rw [← unhide HR]
              unfold outerP
              rw [if_neg (unhide H1), if_neg (unhide H2), if_neg (by rw [hE']; simp), hol]
            subst hr'
            have HNs := hide ((unhide HN3).below hbr)
            have HNc : Hid (Nums (OffB W.heap.size 4 P) wr (.slice vo ol.length vc) ol) := hide (ho.nums.imp (fun b h _ => unhide HP b (by omega)))
            have r0 : wr.cell? ⟨W.heap.size + 1 + 1 + 1, 0, none⟩ = some (.slice none 0 0) := ((unhide HXr).cell 3 0 _ rfl).1
            have r1 : wr.cell? ⟨W.heap.size + 1 + 1 + 1, 1, none⟩ = some (.slice none 0 0) := ((unhide HXr).cell 3 1 _ rfl).1
            have g0 : wr.frozen? ⟨W.heap.size + 1 + 1 + 1, 0, none⟩ = false := ((unhide HXr).cell 3 0 _ rfl).2
            have g1 : wr.frozen? ⟨W.heap.size + 1 + 1 + 1, 1, none⟩ = false := ((unhide HXr).cell 3 1 _ rfl).2
            clear ho hbr hT hie hE'
            go_wp2_with fail
            have hf2 := fin_bx (q := 3) (u0 := .slice t1 t2 t3) (u1 := .slice vo ol.length vc) (unhide HXr).below (by decide) (arr_of (sh := a.shape ++ b.shape) (unhide HNs) (unhide HNc))
            exact bodyPost_ret (v := .tuple #[.agg #[.slice t1 t2 t3, .slice vo ol.length vc], .int .i64 0]) (by simp [results, Tryz.results199, go_sem, r0, r1]) rfl ⟨_, _, _, _, _, _, rfl, hf2.1, hf2.2⟩
      · have hft' : fitsB (a.shape ++ b.shape) = false := by simpa using hft
        rw [hft']
        have hr' : r = (eArr, 9) := by
          rw [← unhide HR]
          unfold outerP
          rw [if_neg (unhide H1), if_pos hft']
        subst hr'
        have r0 : w3.cell? ⟨W.heap.size + 1 + 1 + 1, 0, none⟩ = some (.slice none 0 0) := ((unhide HX3).cell 3 0 _ rfl).1
        have r1 : w3.cell? ⟨W.heap.size + 1 + 1 + 1, 1, none⟩ = some (.slice none 0 0) := ((unhide HX3).cell 3 1 _ rfl).1
        have g0 : w3.frozen? ⟨W.heap.size + 1 + 1 + 1, 0, none⟩ = false := ((unhide HX3).cell 3 0 _ rfl).2
        have g1 : w3.frozen? ⟨W.heap.size + 1 + 1 + 1, 1, none⟩ = false := ((unhide HX3).cell 3 1 _ rfl).2
        clear hft hft'
        go_wp2_with fail
        have hf2 := fin_bx (q := 3) (P := P) (k := 4) (a := eArr) (u0 := .slice none 0 0) (u1 := .slice none 0 0) (unhide HX3).below (by decide) (e_arr _ _)
        exact bodyPost_ret (v := .tuple #[.agg #[.slice none 0 0, .slice none 0 0], .int .i64 9]) (by simp [results, Tryz.results199, go_sem, r0, r1]) rfl ⟨none, 0, 0, none, 0, 0, rfl, hf2.1, hf2.2⟩
end Go.Proofs.YtjobgpahajhbnaaGreatDoor
