import Derived.Test.YtjobgpahajhbnaaGreatDoorCd
import Derived.Test.YtjobgpahajhbnaaGreatDoorGg
import Derived.Test.YtjobgpahajhbnaaGreatDoorTe
namespace Go.Proofs.YtjobgpahajhbnaaGreatDoor
open Go.RowKit Go.Proofs
attribute [local go_sem ↓] Go.wp_at_zero Go.wp_at_succ

theorem heads_nums {P : Nat → Prop} {w : World} {so : Option Addr} {sn sc : Nat} {co : Option Addr} {cn cc : Nat} {a : Arr} (ha : IsArr P w (.agg #[.slice so sn sc, .slice co cn cc]) a) {m : Nat} (hm : sn = m + 1) : Nums P w (.slice so m sc) (a.shape.dropLast.map Int.ofNat) := by
  have hl := (isArr_len ha).2
  obtain ⟨_, _, _, _, _, _, hv, h1, _⟩ := ha
  injection hv with hv
  simp at hv
  obtain ⟨⟨rfl, rfl, rfl⟩, _⟩ := hv
  have h2 := nums_take_any h1 (k := m) (by omega)
  have e : (a.shape.map Int.ofNat).take m = a.shape.dropLast.map Int.ofNat := by
    rw [← List.map_take, List.dropLast_eq_take]
    rw [show a.shape.length - 1 = m by omega]
  rw [e] at h2
  exact h2
theorem shape_cap {P : Nat → Prop} {w : World} {so : Option Addr} {sn sc : Nat} {co : Option Addr} {cn cc : Nat} {a : Arr} (ha : IsArr P w (.agg #[.slice so sn sc, .slice co cn cc]) a) : sn ≤ sc := by
  obtain ⟨_, _, _, _, _, _, hv, h1, _⟩ := ha
  injection hv with hv
  simp at hv
  obtain ⟨⟨rfl, rfl, rfl⟩, _⟩ := hv
  exact nums_cap h1
theorem heads_lens {a : Arr} (h : a.ok) : Lens a.shape.dropLast := ⟨by have := h.rank; simp; omega, fun n hn => by have := h.lens n (List.dropLast_subset _ hn); omega⟩
theorem arr_of {P : Nat → Prop} {w : World} {so : Option Addr} {sn sc : Nat} {co : Option Addr} {cn cc : Nat} {sh : List Nat} {xs : List Int} (h1 : Nums P w (.slice so sn sc) (sh.map Int.ofNat)) (h2 : Nums P w (.slice co cn cc) xs) : IsArr P w (.agg #[.slice so sn sc, .slice co cn cc]) ⟨sh, xs⟩ := ⟨_, _, _, _, _, _, rfl, h1, h2⟩
set_option maxHeartbeats 4000000 in
set_option maxRecDepth 20000 in
theorem fold_any {f : Arr → Arr → Arr × Int} {g : Nat} (z : Int) (hen : Enters Tryz.prog g) {w0 : World} (hfn : FnTwo g #[] w0 f) (hev : Evens f) (P : Nat → Prop) (W : World) (hW : Below w0.heap.size w0 W) (hP : ∀ b, W.heap.size ≤ b → P b) (so : Option Addr) (sn sc : Nat) (co : Option Addr) (cn cc : Nat) (a : Arr) (ha : IsArr P W (.agg #[.slice so sn sc, .slice co cn cc]) a) (hok : a.ok) :
    Calls Tryz.prog 177 #[.agg #[.slice so sn sc, .slice co cn cc], .agg #[.func (.func g) #[] #[], .int .i64 z]] W fun e W' => ∃ so sn sc co cn cc, e = .returned (.tuple #[.agg #[.slice so sn sc, .slice co cn cc], .int .i64 (foldP f z a).2]) ∧ IsArr P W' (.agg #[.slice so sn sc, .slice co cn cc]) (foldP f z a).1 ∧ Below W.heap.size W W' := by
  have hsn := (isArr_len ha).2
  have hst : Bx W (((W.alloc (.cells #[.slice so sn sc, .slice co cn cc] 89)).alloc (.cells #[.func (.func g) #[] #[], .int .i64 z] 241)).alloc (.cells #[.slice none 0 0, .slice none 0 0] 89)) [[.slice so sn sc, .slice co cn cc], [.func (.func g) #[] #[], .int .i64 z], [.slice none 0 0, .slice none 0 0]] := (((Bx.nil W).alloc (by simp) [.slice so sn sc, .slice co cn cc] 89).alloc (by simp) [.func (.func g) #[] #[], .int .i64 z] 241).alloc (by simp) [.slice none 0 0, .slice none 0 0] 89
  have HST := hide hst
  have ha' : IsArr (OffB W.heap.size 3 P) W (.agg #[.slice so sn sc, .slice co cn cc]) a := ha.imp (fun b h hl => ⟨h, Or.inl hl⟩)
  have HA := hide ha'
  have hP' : ∀ b, W.heap.size + 3 ≤ b → OffB W.heap.size 3 P b := fun b hb => OffB.new hP hb
  have HP := hide hP'
  have HFn := hide hfn
  have HEv := hide hev
  have HW := hide hW
  have HEn := hide hen
  have HOK := hide hok
  have HSN := hide hsn
  have HCap := hide (shape_cap ha)
  clear hst ha ha' hP hP' hfn hev hW hen hok hsn
  by_cases h0 : sn = 0
  · have e0 : ((sn : Int) == 0) = true := by simpa using h0
    have HR : Hid (foldP f z a = (a, 0)) := hide (by unfold foldP; rw [if_pos (by have := unhide HSN; omega)])
    clear h0
    go_enter Tryz.func177, Tryz.ntmps177
    go_wp2_with fail
    refine (isScalar_any _ so sn sc co cn cc).mono ?_
    rintro e w' ⟨rfl, hw'⟩
    have HX : Hid (Bx W w' [[.slice so sn sc, .slice co cn cc], [.func (.func g) #[] #[], .int .i64 z], [.slice none 0 0, .slice none 0 0]]) := hide ((unhide HST).next (by rw [hw']; exact ((Below.refl _ _).alloc (Nat.le_refl _) _).alloc (by simp) _))
    clear hw' HST
    have b0 : w'.cell? ⟨W.heap.size, 0, none⟩ = some (.slice so sn sc) := ((unhide HX).cell 0 0 _ rfl).1
    have b1 : w'.cell? ⟨W.heap.size, 1, none⟩ = some (.slice co cn cc) := ((unhide HX).cell 0 1 _ rfl).1
    have r0 : w'.cell? ⟨W.heap.size + 1 + 1, 0, none⟩ = some (.slice none 0 0) := ((unhide HX).cell 2 0 _ rfl).1
    have r1 : w'.cell? ⟨W.heap.size + 1 + 1, 1, none⟩ = some (.slice none 0 0) := ((unhide HX).cell 2 1 _ rfl).1
    have g0 : w'.frozen? ⟨W.heap.size + 1 + 1, 0, none⟩ = false := ((unhide HX).cell 2 0 _ rfl).2
    have g1 : w'.frozen? ⟨W.heap.size + 1 + 1, 1, none⟩ = false := ((unhide HX).cell 2 1 _ rfl).2
    go_wp2_with fail
    have hf2 := fin_bx (q := 2) (u0 := .slice so sn sc) (u1 := .slice co cn cc) (unhide HX).below (by decide) ((unhide HA).below (unhide HX).below)
    refine bodyPost_ret (v := .tuple #[.agg #[.slice so sn sc, .slice co cn cc], .int .i64 0]) (by simp [results, Tryz.results177, go_sem, r0, r1]) rfl ⟨so, sn, sc, co, cn, cc, by rw [unhide HR], by rw [unhide HR]; exact hf2.1, hf2.2⟩
  · have e0 : ((sn : Int) == 0) = false := beq_false_of_ne (by omega)
    obtain ⟨m, hm⟩ : ∃ m, sn = m + 1 := ⟨sn - 1, by omega⟩
    have hr : a.shape.length ≠ 0 := by have := unhide HSN; omega
    obtain ⟨sb, sf, rfl, hsb, -⟩ := shape_at (unhide HA) e0
    have HM := hide hm
    have HR0 := hide hr
    have hm3 : m ≤ 3 := by have := (unhide HOK).rank; have := unhide HSN; omega
    have hw1 : IntKind.i64.wrap ((sn : Int) - 1) = (m : Int) := by
      have e : ((sn : Int) - 1) = (m : Int) := by omega
      rw [e]
      exact wrap_pos (by omega) (by omega)
    have x2 : (0 : Int) ≤ (m : Int) := by omega
    have x3 : (m : Int) ≤ (sc : Int) := by have := unhide HCap; omega
    have HD : Hid (∀ w', Below W.heap.size W w' → Nums (OffB W.heap.size 3 P) w' (.slice (some ⟨sb, sf, none⟩) m sc) (a.shape.dropLast.map Int.ofNat)) := hide (fun w' hb => (heads_nums (unhide HA) hm).below hb)
    clear h0 hm hr
    go_enter Tryz.func177, Tryz.ntmps177
    go_wp2_with fail
    refine (isScalar_any _ (some ⟨sb, sf, none⟩) sn sc co cn cc).mono ?_
    rintro e w' ⟨rfl, hw'⟩
    have HX : Hid (Bx W w' [[.slice (some ⟨sb, sf, none⟩) sn sc, .slice co cn cc], [.func (.func g) #[] #[], .int .i64 z], [.slice none 0 0, .slice none 0 0]]) := hide ((unhide HST).next (by rw [hw']; exact ((Below.refl _ _).alloc (Nat.le_refl _) _).alloc (by simp) _))
    clear hw' HST
    have b0 : w'.cell? ⟨W.heap.size, 0, none⟩ = some (.slice (some ⟨sb, sf, none⟩) sn sc) := ((unhide HX).cell 0 0 _ rfl).1
    have b1 : w'.cell? ⟨W.heap.size, 1, none⟩ = some (.slice co cn cc) := ((unhide HX).cell 0 1 _ rfl).1
    have hlt : W.heap.size < w'.heap.size := by have := (unhide HX).lt; simp at this; omega
    have HS : Hid (∀ w2, Below w'.heap.size w' w2 → w2.cell? ⟨W.heap.size, 0, none⟩ = some (.slice (some ⟨sb, sf, none⟩) sn sc) ∧ w2.cell? ⟨W.heap.size, 1, none⟩ = some (.slice co cn cc)) := hide (fun w2 hb => ⟨(hb.cell (p := ⟨W.heap.size, 0, none⟩) hlt).trans b0, (hb.cell (p := ⟨W.heap.size, 1, none⟩) hlt).trans b1⟩)
    go_wp2_with fail
    go_region_held3 (fun w2 => w2.cell? ⟨W.heap.size, 0, none⟩ = some (.slice (some ⟨sb, sf, none⟩) sn sc) ∧ w2.cell? ⟨W.heap.size, 1, none⟩ = some (.slice co cn cc))
      (first
        | exact unhide HS _ (Below.refl _ _).drew
        | exact unhide HS _ ((Below.refl _ _).drew.alloc (Nat.le_refl _) _)
        | exact unhide HS _ (((Below.refl _ _).alloc (Nat.le_refl _) _).drew)
        | (trace_state; fail))
      ((go_at_call 221; refine (rank_any _ _ _ _ _ _ _).mono ?_; rintro e w2 ⟨rfl, rfl⟩))
    go_wp2_with fail
    have HX2 := hide ((unhide HX).next (((Below.refl _ _).alloc (Nat.le_refl _) (.cells #[.slice (some ⟨sb, sf, none⟩) sn sc, .slice co cn cc] 89)).drew))
    obtain ⟨w2, hw2⟩ : ∃ w2, (w'.alloc (.cells #[.slice (some ⟨sb, sf, none⟩) sn sc, .slice co cn cc] 89)).drew = w2 := ⟨_, rfl⟩
    rw [hw2] at HX2 ⊢
    clear hw2 HX HS b0 b1 hlt hw1 x2 x3
    refine (fits_any w2 _ _ _ _ (unhide HD w2 (unhide HX2).below) (heads_lens (unhide HOK))).mono ?_
    rintro e w3 ⟨rfl, hw3⟩
    have hw3' := hw3.symm
    subst hw3'
    clear hw3
    have r0 : w2.cell? ⟨W.heap.size + 1 + 1, 0, none⟩ = some (.slice none 0 0) := ((unhide HX2).cell 2 0 _ rfl).1
    have r1 : w2.cell? ⟨W.heap.size + 1 + 1, 1, none⟩ = some (.slice none 0 0) := ((unhide HX2).cell 2 1 _ rfl).1
    have g0 : w2.frozen? ⟨W.heap.size + 1 + 1, 0, none⟩ = false := ((unhide HX2).cell 2 0 _ rfl).2
    have g1 : w2.frozen? ⟨W.heap.size + 1 + 1, 1, none⟩ = false := ((unhide HX2).cell 2 1 _ rfl).2
    have b0 : w2.cell? ⟨W.heap.size, 0, none⟩ = some (.slice (some ⟨sb, sf, none⟩) sn sc) := ((unhide HX2).cell 0 0 _ rfl).1
    have b1 : w2.cell? ⟨W.heap.size, 1, none⟩ = some (.slice co cn cc) := ((unhide HX2).cell 0 1 _ rfl).1
    by_cases hft : fitsB a.shape.dropLast = true
    · rw [hft]
      have hlt2 := (unhide HX2).lt
      simp at hlt2
      have HCol := hide (columns_any (OffB W.heap.size 3 P) w2 (fun b hb => unhide HP b (by omega)) _ _ _ _ _ _ a ((unhide HA).below (unhide HX2).below) (unhide HOK) (unhide HR0))
      have HFT := hide hft
      clear hft hlt2
      go_wp2_with fail
      refine (unhide HCol).mono ?_
      rintro e w4 ⟨gc, rfl, hg1, hg2, hC, hb4⟩
      have HX4 := hide ((unhide HX2).next hb4)
      have HC := hide hC
      clear hC hb4 HX2 HCol r0 r1 g0 g1 b0 b1
      have r0 : w4.cell? ⟨W.heap.size + 1 + 1, 0, none⟩ = some (.slice none 0 0) := ((unhide HX4).cell 2 0 _ rfl).1
      have r1 : w4.cell? ⟨W.heap.size + 1 + 1, 1, none⟩ = some (.slice none 0 0) := ((unhide HX4).cell 2 1 _ rfl).1
      have g0 : w4.frozen? ⟨W.heap.size + 1 + 1, 0, none⟩ = false := ((unhide HX4).cell 2 0 _ rfl).2
      have g1 : w4.frozen? ⟨W.heap.size + 1 + 1, 1, none⟩ = false := ((unhide HX4).cell 2 1 _ rfl).2
      have s0 : w4.cell? ⟨W.heap.size + 1, 0, none⟩ = some (.func (.func g) #[] #[]) := ((unhide HX4).cell 1 0 _ rfl).1
      have s1 : w4.cell? ⟨W.heap.size + 1, 1, none⟩ = some (.int .i64 z) := ((unhide HX4).cell 1 1 _ rfl).1
      obtain ⟨n, hn⟩ : ∃ n, lastN a.shape = n := ⟨_, rfl⟩
      rw [hn]
      by_cases hn0 : n = 0
      · have e1 : ((n : Int) == 0) = true := by simpa using hn0
        have HR : Hid (foldP f z a = (⟨a.shape.dropLast, List.replicate (prodL a.shape.dropLast) z⟩, 0)) := hide (by
          unfold foldP
          rw [if_neg (unhide HR0), unhide HFT, if_neg (by simp), hn, if_pos hn0])
        have hp64 : prodL a.shape.dropLast ≤ 200 := by
          have := unhide HFT
          unfold fitsB at this
          simp only [Bool.and_eq_true, decide_eq_true_eq] at this
          omega
        have HB4 := hide (unhide HX4).below
        have HCnt : Hid (∀ w', Below W.heap.size W w' → Calls Tryz.prog 225 #[.slice (some ⟨sb, sf, none⟩) m sc] w' fun e w'' => e = .returned (.int .i64 (prodL a.shape.dropLast)) ∧ w'' = w') := hide (fun w' hb => count_any w' _ _ _ _ (unhide HD w' hb) (heads_lens (unhide HOK)))
        obtain ⟨pl, hpl⟩ : ∃ pl, prodL a.shape.dropLast = pl := ⟨_, rfl⟩
        rw [hpl] at HR HCnt hp64
        have hlt4 := (unhide HX4).lt
        simp at hlt4
        have hz1 : W.heap.size + 1 < w4.heap.size := by omega
        have hz2 : W.heap.size + 1 + 1 < w4.heap.size := by omega
        have HRep := hide (repeat_any (OffB W.heap.size 3 P) (w4.alloc (.cells #[.int .i64 z] 2)).drew (fun b hb => unhide HP b (by simp at hb; omega)) w4.heap.size 0 1 z pl hp64 (by simp) (by simp))
        clear hn0 hn HC hpl hlt4
        go_wp2_with fail
        go_region_with (first | (go_at_call 225; refine (unhide HCnt _ (by first | exact (unhide HB4).drew | exact ((unhide HB4).alloc (unhide HB4).size _).drew | exact (unhide HB4).drew.alloc (by simpa using (unhide HB4).size) _)).mono ?_; rintro e w5 ⟨rfl, hw5⟩; have hw5' := hw5.symm; subst hw5'; clear hw5) | (go_at_call 224; refine (unhide HRep).mono ?_; rintro e w5 ⟨g5, rfl, hn5, hb5⟩; have HN5 := hide hn5; have HB5 : Hid (Below w4.heap.size w4 w5) := hide (((Below.refl _ _).alloc (Nat.le_refl _) _).drew.trans (hb5.mono (by simp))); have r0' := ((unhide HB5).cell (p := ⟨W.heap.size + 1 + 1, 0, none⟩) hz2).trans r0; have r1' := ((unhide HB5).cell (p := ⟨W.heap.size + 1 + 1, 1, none⟩) hz2).trans r1; have g0' := ((unhide HB5).frozen (p := ⟨W.heap.size + 1 + 1, 0, none⟩) hz2).trans g0; have g1' := ((unhide HB5).frozen (p := ⟨W.heap.size + 1 + 1, 1, none⟩) hz2).trans g1; clear hn5 hb5))
        all_goals
          go_wp2_with fail
          have hX5 := (unhide HX4).next (unhide HB5)
          have hf2 := fin_bx (q := 2) (u0 := .slice (some ⟨sb, sf, none⟩) m sc) (u1 := .slice (some ⟨g5, 0, none⟩) pl pl) hX5.below (by decide) (arr_of (unhide HD _ hX5.below) (unhide HN5))
          refine bodyPost_ret (v := .tuple #[.agg #[.slice (some ⟨sb, sf, none⟩) m sc, .slice (some ⟨g5, 0, none⟩) pl pl], .int .i64 0]) (by simp [results, Tryz.results177, go_sem, r0', r1']) rfl ⟨_, _, _, _, _, _, by rw [unhide HR], by rw [unhide HR]; exact hf2.1, hf2.2⟩
      · have e1 : ((n : Int) == 0) = false := beq_false_of_ne (by omega)
        have HR : Hid (foldP f z a = chainL f (cols a)) := hide (by
          unfold foldP
          rw [if_neg (unhide HR0), unhide HFT, if_neg (by simp), hn, if_neg hn0])
        have hn200 : n ≤ 200 := by
          have h1 := last_split (unhide HR0)
          rw [hn] at h1
          exact (unhide HOK).lens n (by rw [h1]; simp)
        have hlt4 := (unhide HX4).lt
        simp at hlt4
        have HCh := hide (chain_any z (unhide HEn) (unhide HFn) (OffB W.heap.size 3 P) w4 ((unhide HW).trans ((unhide HX4).below.mono (unhide HW).size)) (fun b hb => unhide HP b (by omega)) gc n n (cols a) (by rw [cols_len, hn]) (by omega) hn200 hg2 (unhide HC) (fun c hc => (cols_all (unhide HOK) (unhide HR0) c hc).1) (unhide HEv).ok)
        clear hn0 hn hlt4 HC hn200
        go_wp2_with fail
        refine (unhide HCh).mono ?_
        rintro e w5 ⟨s4, s5, s6, c4, c5, c6, rfl, hA5, hb5⟩
        have HX5 := hide ((unhide HX4).next hb5)
        have HA5 := hide hA5
        clear hA5 hb5 HX4 HCh r0 r1 g0 g1 s0 s1
        have r0 : w5.cell? ⟨W.heap.size + 1 + 1, 0, none⟩ = some (.slice none 0 0) := ((unhide HX5).cell 2 0 _ rfl).1
        have r1 : w5.cell? ⟨W.heap.size + 1 + 1, 1, none⟩ = some (.slice none 0 0) := ((unhide HX5).cell 2 1 _ rfl).1
        have g0 : w5.frozen? ⟨W.heap.size + 1 + 1, 0, none⟩ = false := ((unhide HX5).cell 2 0 _ rfl).2
        have g1 : w5.frozen? ⟨W.heap.size + 1 + 1, 1, none⟩ = false := ((unhide HX5).cell 2 1 _ rfl).2
        go_wp2_with fail
        have hf2 := fin_bx (q := 2) (u0 := .slice s4 s5 s6) (u1 := .slice c4 c5 c6) (unhide HX5).below (by decide) (unhide HA5)
        refine bodyPost_ret (v := .tuple #[.agg #[.slice s4 s5 s6, .slice c4 c5 c6], .int .i64 (chainL f (cols a)).2]) (by simp [results, Tryz.results177, go_sem, r0, r1]) rfl ⟨_, _, _, _, _, _, by rw [unhide HR], by rw [unhide HR]; exact hf2.1, hf2.2⟩
    · have hft' : fitsB a.shape.dropLast = false := by simpa using hft
      rw [hft']
      have HR : Hid (foldP f z a = (eArr, 9)) := hide (by unfold foldP; rw [if_neg (unhide HR0), if_pos hft'])
      clear hft hft'
      go_wp2_with fail
      have hf2 := fin_bx (q := 2) (P := P) (k := 3) (a := eArr) (u0 := .slice none 0 0) (u1 := .slice none 0 0) (unhide HX2).below (by decide) (e_arr _ _)
      refine bodyPost_ret (v := .tuple #[.agg #[.slice none 0 0, .slice none 0 0], .int .i64 9]) (by simp [results, Tryz.results177, go_sem, r0, r1]) rfl ⟨none, 0, 0, none, 0, 0, by rw [unhide HR], by rw [unhide HR]; exact hf2.1, hf2.2⟩
end Go.Proofs.YtjobgpahajhbnaaGreatDoor
namespace Go.Proofs.YtjobgpahajhbnaaGreatDoor
open Go.RowKit Go.Proofs Go.Maps
attribute [local go_sem ↓] Go.wp_at_zero Go.wp_at_succ

def iotaN (n : Nat) : List Int := (List.range n).map Int.ofNat
theorem iotaN_inr (n : Nat) : InR n (iotaN n) := ⟨by simp [iotaN], fun x hx => by
  simp only [iotaN, List.mem_map, List.mem_range] at hx
  obtain ⟨i, hi, rfl⟩ := hx
  exact ⟨by simp, by show (i : Int) < (n : Int); omega⟩⟩
def orderP (kf : Int → Int → Int) (a : Arr) : Arr × Int := if a.shape.length ≠ 1 then (eArr, 5) else (⟨[a.cells.length], stableP (byCells kf a.cells) a.cells.length (iotaN a.cells.length)⟩, 0)
theorem insOut_inr {cf : Int → Int → Int} {a n : Nat} : ∀ {s i : Nat} {d : List Int}, InR n d → a ≤ i → i + s ≤ n → InR n (insOut cf a s i d)
  | 0, _, _, h, _, _ => h
  | s + 1, i, d, h, h1, h2 => by
    rw [insOut]
    exact insOut_inr (insIn_inr h (by omega)) (by omega) (by omega)
theorem shUp_inr {n : Nat} : ∀ {s k : Nat} {d : List Int}, InR n d → k + s < n → InR n (shUp s k d)
  | 0, _, _, h, _ => h
  | s + 1, k, d, h, h1 => by rw [shUp]; exact shUp_inr (h.swap (by omega) (by omega)) (by omega)
theorem shDn_inr {n : Nat} : ∀ {s k : Nat} {d : List Int}, InR n d → k < n → InR n (shDn s k d)
  | 0, _, _, h, _ => h
  | s + 1, k, d, h, h1 => by rw [shDn]; exact shDn_inr (h.swap (by omega) (by omega)) (by omega)
theorem swR_inr {n a b : Nat} : ∀ {s i : Nat} {d : List Int}, InR n d → a + i + s ≤ n → b + i + s ≤ n → InR n (swR a b s i d)
  | 0, _, _, h, _, _ => h
  | s + 1, i, d, h, h1, h2 => by rw [swR]; exact swR_inr (h.swap (by omega) (by omega)) (by omega) (by omega)
theorem rotP_inr {n m : Nat} : ∀ {f i j : Nat} {d : List Int}, InR n d → i + j ≤ f → i ≤ m → m + j ≤ n → 0 < i → 0 < j → InR n (rotP m f i j d)
  | 0, i, j, d, h, h1, h2, h3, h4, h5 => absurd h1 (by omega)
  | f + 1, i, j, d, h, h1, h2, h3, h4, h5 => by
    rw [rotP]
    split
    · rename_i e
      exact swR_inr h (by omega) (by omega)
    · split
      · exact rotP_inr (swR_inr h (by omega) (by omega)) (by omega) (by omega) h3 (by omega) h5
      · exact rotP_inr (swR_inr h (by omega) (by omega)) (by omega) h2 (by omega) h4 (by omega)
theorem start_rng {cf : Int → Int → Int} {a m b : Nat} {d : List Int} (h1 : a < m) (h2 : m < b) : a ≤ startF cf a m b d ∧ startF cf a m b d ≤ m ∧ startF cf a m b d ≤ (a + b) / 2 ∧ (a + b) / 2 + m ≤ startF cf a m b d + b := by
  unfold startF
  by_cases h : (a + b) / 2 < m
  · rw [if_pos h, if_pos h]
    have := bsF_rng (p := fun c => decide (¬ cf (d.getD ((a + b) / 2 + m - 1 - c) 0) (d.getD c 0) < 0)) _ (i := (a + b) / 2 + m - b) (j := (a + b) / 2) (Nat.le_refl _) (by omega)
    omega
  · rw [if_neg h, if_neg h]
    have := bsF_rng (p := fun c => decide (¬ cf (d.getD ((a + b) / 2 + m - 1 - c) 0) (d.getD c 0) < 0)) _ (i := a) (j := m) (Nat.le_refl _) (by omega)
    omega
theorem symP_inr {cf : Int → Int → Int} {n : Nat} : ∀ {f a m b : Nat} {d : List Int}, InR n d → a < m → m < b → b ≤ n → InR n (symP cf f a m b d)
  | 0, _, _, _, _, h, _, _, _ => h
  | f + 1, a, m, b, d, h, h1, h2, h3 => by
    by_cases e1 : m = a + 1
    · rw [symP, if_pos e1]
      have := bsF_rng (p := fun h => decide (cf (d.getD h 0) (d.getD a 0) < 0)) _ (i := m) (j := b) (Nat.le_refl _) (by omega)
      exact shUp_inr h (by omega)
    · by_cases e2 : b = m + 1
      · rw [symP, if_neg e1, if_pos e2]
        exact shDn_inr h (by omega)
      · rw [symP_big e1 e2]
        have hs := start_rng (cf := cf) (d := d) h1 h2
        obtain ⟨s, hs'⟩ : ∃ s, startF cf a m b d = s := ⟨_, rfl⟩
        rw [hs'] at hs ⊢
        simp only
        obtain ⟨e, he⟩ : ∃ e, (a + b) / 2 + m - s = e := ⟨_, rfl⟩
        rw [he]
        have i1 : InR n (if s < m ∧ m < e then rotF s m e d else d) := by
          split
          · exact rotP_inr h (by omega) (by omega) (by omega) (by omega) (by omega)
          · exact h
        obtain ⟨d1, hd1⟩ : ∃ d1, (if s < m ∧ m < e then rotF s m e d else d) = d1 := ⟨_, rfl⟩
        rw [hd1] at i1 ⊢
        have i2 : InR n (if a < s ∧ s < (a + b) / 2 then symP cf f a s ((a + b) / 2) d1 else d1) := by
          split
          · rename_i hh
            exact symP_inr i1 hh.1 hh.2 (by omega)
          · exact i1
        obtain ⟨d2, hd2⟩ : ∃ d2, (if a < s ∧ s < (a + b) / 2 then symP cf f a s ((a + b) / 2) d1 else d1) = d2 := ⟨_, rfl⟩
        rw [hd2] at i2 ⊢
        split
        · rename_i hh
          exact symP_inr i2 hh.1 hh.2 h3
        · exact i2
theorem st1_inr {cf : Int → Int → Int} {n : Nat} : ∀ {f a : Nat} {d : List Int}, InR n d → InR n (st1 cf n f a d)
  | 0, a, d, h => by
    rw [st1]
    by_cases e : a + 1 ≤ n
    · exact insOut_inr h (by omega) (by omega)
    · rw [show n - (a + 1) = 0 by omega, insOut]; exact h
  | f + 1, a, d, h => by
    rw [st1]
    split
    · exact st1_inr (insOut_inr h (by omega) (by omega))
    · by_cases e : a + 1 ≤ n
      · exact insOut_inr h (by omega) (by omega)
      · rw [show n - (a + 1) = 0 by omega, insOut]; exact h
theorem mrg_inr {cf : Int → Int → Int} {n s : Nat} (hs : 0 < s) : ∀ {f a : Nat} {d : List Int}, InR n d → InR n (mrg cf n s f a d)
  | 0, _, _, h => h
  | f + 1, a, d, h => by
    rw [mrg]
    split
    · exact mrg_inr hs (symP_inr h (by omega) (by omega) (by omega))
    · split
      · exact symP_inr h (by omega) (by omega) (Nat.le_refl _)
      · exact h
theorem mrgs_inr {cf : Int → Int → Int} {n : Nat} : ∀ {f s : Nat} {d : List Int}, 0 < s → InR n d → InR n (mrgs cf n f s d)
  | 0, _, _, _, h => h
  | f + 1, s, d, hs, h => by
    rw [mrgs]
    split
    · exact mrgs_inr (by omega) (mrg_inr hs h)
    · exact h
theorem stableP_inr (cf : Int → Int → Int) {n : Nat} {d : List Int} (h : InR n d) : InR n (stableP cf n d) := mrgs_inr (by omega) (st1_inr h)
theorem SAt.nums {g n : Nat} {W0 W : World} {d : List Int} (h : SAt g n W0 W d) {P : Nat → Prop} (hP : P g) {cap : Nat} (hc : n ≤ cap) : Nums P W (.slice (some ⟨g, 0, none⟩) n cap) d := by
  have hl := h.inr.len
  refine ⟨_, _, by rw [hl], by omega, fun _ => ⟨g, 0, rfl, hP, h.lt, fun i hi => ?_⟩, fun a e => by cases e; rfl⟩
  rw [Nat.zero_add, (h.row i (by omega)).1, List.getD_eq_getElem?_getD, List.getElem?_eq_getElem hi]
  rfl
set_option maxHeartbeats 4000000 in
set_option maxRecDepth 20000 in
theorem order_any {q : Nat} (hen : Enters Tryz.prog q) {kf : Int → Int → Int} (hk : ∀ W x y, Calls Tryz.prog q #[.int .i64 x, .int .i64 y] W fun e W' => e = .returned (.int .i64 (kf x y)) ∧ W' = W) (P : Nat → Prop) (W : World) (hP : ∀ b, W.heap.size ≤ b → P b) (so : Option Addr) (sn sc : Nat) (co : Option Addr) (cn cc : Nat) (a : Arr) (ha : IsArr P W (.agg #[.slice so sn sc, .slice co cn cc]) a) (hok : a.ok) :
    Calls Tryz.prog 236 #[.agg #[.slice so sn sc, .slice co cn cc], .func (.func q) #[] #[]] W fun e W' => ∃ so sn sc co cn cc, e = .returned (.tuple #[.agg #[.slice so sn sc, .slice co cn cc], .int .i64 (orderP kf a).2]) ∧ IsArr P W' (.agg #[.slice so sn sc, .slice co cn cc]) (orderP kf a).1 ∧ Below W.heap.size W W' := by
  have hsn := (isArr_len ha).2
  have hcn := (isArr_len ha).1
  have hst : Bx W (((W.alloc (.cells #[.slice so sn sc, .slice co cn cc] 89)).alloc (.cells #[.func (.func q) #[] #[]] 284)).alloc (.cells #[.slice none 0 0, .slice none 0 0] 89)) [[.slice so sn sc, .slice co cn cc], [.func (.func q) #[] #[]], [.slice none 0 0, .slice none 0 0]] := (((Bx.nil W).alloc (by simp) [.slice so sn sc, .slice co cn cc] 89).alloc (by simp) [.func (.func q) #[] #[]] 284).alloc (by simp) [.slice none 0 0, .slice none 0 0] 89
  have HST := hide hst
  have HP := hide hP
  have HN := hide (isArr_cells ha)
  have HK := hide hk
  have HEn := hide hen
  have HSN := hide hsn
  have HCN := hide hcn
  have hcn2 : cn ≤ 200 := by have := hok.few; omega
  obtain ⟨r, hr⟩ : ∃ r, orderP kf a = r := ⟨_, rfl⟩
  simp only [hr]
  have HR := hide hr
  clear hst ha hok hP hk hen hsn hcn hr
  go_enter Tryz.func236, Tryz.ntmps236
  go_wp2_with fail
  refine (isRow_any _ so sn sc co cn cc).mono ?_
  rintro e w1 ⟨rfl, hw1⟩
  have HX1 : Hid (Bx W w1 [[.slice so sn sc, .slice co cn cc], [.func (.func q) #[] #[]], [.slice none 0 0, .slice none 0 0]]) := hide ((unhide HST).next (by rw [hw1]; exact ((Below.refl _ _).alloc (Nat.le_refl _) _).alloc (by simp) _))
  clear hw1 HST
  by_cases hrow : sn = 1
  · have e0 : ((sn : Int) == 1) = true := by rw [hrow]; rfl
    obtain ⟨R, hR⟩ : ∃ R, stableP (byCells kf a.cells) a.cells.length (iotaN a.cells.length) = R := ⟨_, rfl⟩
    have hr' : r = (⟨[a.cells.length], R⟩, 0) := by
      rw [← unhide HR]
      unfold orderP
      rw [if_neg (by rw [← unhide HSN]; omega), hR]
    subst hr'
    have HRS : Hid (stableP (byCells kf a.cells) cn (iotaN cn) = R) := hide (by rw [unhide HCN]; exact hR)
    clear hR
    have b0 : w1.cell? ⟨W.heap.size, 0, none⟩ = some (.slice so sn sc) := ((unhide HX1).cell 0 0 _ rfl).1
    have b1 : w1.cell? ⟨W.heap.size, 1, none⟩ = some (.slice co cn cc) := ((unhide HX1).cell 0 1 _ rfl).1
    clear hrow
    go_wp2_with fail
    refine (size_any _ so sn sc co cn cc).mono ?_
    rintro e w2 ⟨rfl, hw2⟩
    have HX2 : Hid (Bx W w2 [[.slice so sn sc, .slice co cn cc], [.func (.func q) #[] #[]], [.slice none 0 0, .slice none 0 0]]) := hide ((unhide HX1).next (by rw [hw2]; exact (Below.refl _ _).alloc (Nat.le_refl _) _))
    clear hw2 HX1 b0 b1
    go_wp2_with fail
    refine (places_any cn hcn2 w2).mono ?_
    rintro e w3 ⟨rfl, hown, hb3⟩
    have HX3 := hide ((unhide HX2).next hb3)
    have hlt2 := (unhide HX2).lt
    simp at hlt2
    have hg3 : w2.heap.size < w3.heap.size := (hown.lt w2.heap.size rfl).2
    obtain ⟨g, hg⟩ : ∃ g, w2.heap.size = g := ⟨_, rfl⟩
    have hS3 : SAt g cn w3 w3 (iotaN cn) := by
      refine ⟨fun i hi => ⟨?_, by rw [← hg]; exact hown.frozenAt i⟩, OnlyB.refl _ _, iotaN_inr cn, by rw [← hg]; exact hg3⟩
      have h1 := hown.cellAt i (by simpa using hi)
      rw [hg] at h1
      rw [h1]
      simp [iotaN, hi]
    rw [hg] at hlt2 ⊢
    have HNs : Hid (Nums (fun b => b ≠ g) w3 (.slice co cn cc) a.cells) := hide (((unhide HN).imp (fun b _ hl => by omega)).below (unhide HX3).below)
    have hC : CmpC g cn (W.heap.size + 1) W.heap.size w3 (byCells kf a.cells) := cmp_any (unhide HEn) (unhide HK) g cn (W.heap.size + 1) W.heap.size w3 (by omega) (by omega) ((unhide HX3).cell 1 0 _ rfl).1 co cc ((unhide HX3).cell 0 1 _ rfl).1 (by omega) (by omega) a.cells (unhide HNs)
    have HSo := hide (sortStable_any g cn (W.heap.size + 1) W.heap.size cn w3 _ hC (by omega) w3 _ hS3)
    have hgW : W.heap.size + 3 ≤ g := hlt2
    clear hown hb3 hg hg3 hS3 hC HX2 HNs HK HEn
    go_wp2_with fail
    refine (unhide HSo).mono ?_
    rintro e w4 ⟨rfl, hS4⟩
    rw [unhide HRS] at hS4
    have HS4 := hide hS4
    have HX4 : Hid (Bx W w4 [[.slice so sn sc, .slice co cn cc], [.func (.func q) #[] #[]], [.slice none 0 0, .slice none 0 0]]) := hide ((unhide HX3).keep (hS4.only.below (by simpa using hgW)))
    have HRow := hide (row_any (OffB W.heap.size 3 P) w4 (fun b h => OffB.new (unhide HP) (by have := (unhide HX4).lt; simp at this; omega)) (.slice (some ⟨g, 0, none⟩) cn cn) R ((unhide HS4).nums (P := OffB W.heap.size 3 P) (OffB.new (unhide HP) hgW) (Nat.le_refl _)))
    have hlen : R.length = a.cells.length := by rw [(unhide HS4).inr.len, unhide HCN]
    rw [hlen] at HRow
    clear hS4 HX3 HSo
    go_wp2_with fail
    refine (unhide HRow).mono ?_
    rintro e w5 ⟨s1, s2, s3, c1, c2, c3, rfl, hA5, hb5⟩
    have HX5 := hide ((unhide HX4).next hb5)
    have HA5 := hide hA5
    clear hA5 hb5 HX4 HRow
    have r0 : w5.cell? ⟨W.heap.size + 1 + 1, 0, none⟩ = some (.slice none 0 0) := ((unhide HX5).cell 2 0 _ rfl).1
    have r1 : w5.cell? ⟨W.heap.size + 1 + 1, 1, none⟩ = some (.slice none 0 0) := ((unhide HX5).cell 2 1 _ rfl).1
    have g0 : w5.frozen? ⟨W.heap.size + 1 + 1, 0, none⟩ = false := ((unhide HX5).cell 2 0 _ rfl).2
    have g1 : w5.frozen? ⟨W.heap.size + 1 + 1, 1, none⟩ = false := ((unhide HX5).cell 2 1 _ rfl).2
    go_wp2_with fail
    have hf2 := fin_bx (q := 2) (u0 := .slice s1 s2 s3) (u1 := .slice c1 c2 c3) (unhide HX5).below (by decide) (unhide HA5)
    exact bodyPost_ret (v := .tuple #[.agg #[.slice s1 s2 s3, .slice c1 c2 c3], .int .i64 0]) (by simp [results, Tryz.results236, go_sem, r0, r1]) rfl ⟨_, _, _, _, _, _, rfl, hf2.1, hf2.2⟩
  · have e0 : ((sn : Int) == 1) = false := beq_false_of_ne (by omega)
    have hr' : r = (eArr, 5) := by
      rw [← unhide HR]
      unfold orderP
      rw [if_pos (by rw [← unhide HSN]; exact hrow)]
    subst hr'
    have r0 : w1.cell? ⟨W.heap.size + 1 + 1, 0, none⟩ = some (.slice none 0 0) := ((unhide HX1).cell 2 0 _ rfl).1
    have r1 : w1.cell? ⟨W.heap.size + 1 + 1, 1, none⟩ = some (.slice none 0 0) := ((unhide HX1).cell 2 1 _ rfl).1
    have g0 : w1.frozen? ⟨W.heap.size + 1 + 1, 0, none⟩ = false := ((unhide HX1).cell 2 0 _ rfl).2
    have g1 : w1.frozen? ⟨W.heap.size + 1 + 1, 1, none⟩ = false := ((unhide HX1).cell 2 1 _ rfl).2
    clear hrow
    go_wp2_with fail
    have hf2 := fin_bx (q := 2) (P := P) (k := 3) (a := eArr) (u0 := .slice none 0 0) (u1 := .slice none 0 0) (unhide HX1).below (by decide) (e_arr _ _)
    exact bodyPost_ret (v := .tuple #[.agg #[.slice none 0 0, .slice none 0 0], .int .i64 5]) (by simp [results, Tryz.results236, go_sem, r0, r1]) rfl ⟨none, 0, 0, none, 0, 0, rfl, hf2.1, hf2.2⟩
theorem order_okk (kf : Int → Int → Int) {a : Arr} (h : a.ok) : (orderP kf a).1.cells.length ≤ 200 ∧ ((orderP kf a).2 = 0 → (orderP kf a).1.ok) := by
  unfold orderP
  split
  · exact ⟨by simp [eArr], fun h => absurd h (by decide)⟩
  · have hi := stableP_inr (byCells kf a.cells) (iotaN_inr a.cells.length)
    have hf := h.few
    exact ⟨by show (stableP _ _ _).length ≤ 200; rw [hi.len]; exact hf, fun _ => ⟨by simp, by simp; omega, by show (stableP _ _ _).length = _; rw [hi.len]; simp [prodL], by show (stableP _ _ _).length ≤ 200; rw [hi.len]; exact hf, fun c hc => by have := hi.rng c hc; unfold fit64; omega⟩⟩
theorem Tryz.enters187 : Enters Tryz.prog 187 := Go.Proofs.enters_of Tryz.func187 (by decide) rfl
theorem Tryz.enters188 : Enters Tryz.prog 188 := Go.Proofs.enters_of Tryz.func188 (by decide) rfl
theorem Tryz.enters230 : Enters Tryz.prog 230 := Go.Proofs.enters_of Tryz.func230 (by decide) rfl
theorem Tryz.enters237 : Enters Tryz.prog 237 := Go.Proofs.enters_of Tryz.func237 (by decide) rfl
set_option maxHeartbeats 1000000 in
theorem up_fn (w : World) : FnOne 187 #[] w (orderP compF) := by
  intro W P v a _ hP ha hoa
  have ha0 := ha
  obtain ⟨so, sn, sc, co, cn, cc, rfl, _, _⟩ := ha0
  show Calls Tryz.prog 187 #[.agg #[.slice so sn sc, .slice co cn cc]] W _
  have hst : Bx W ((W.alloc (.cells #[.slice so sn sc, .slice co cn cc] 89)).alloc (.cells #[.slice none 0 0, .slice none 0 0] 89)) [[.slice so sn sc, .slice co cn cc], [.slice none 0 0, .slice none 0 0]] := ((Bx.nil W).alloc (by simp) [.slice so sn sc, .slice co cn cc] 89).alloc (by simp) [.slice none 0 0, .slice none 0 0] 89
  have HST := hide hst
  have HC := hide (order_any Tryz.enters230 comp_fn (OffB W.heap.size 2 P) _ (fun b hb => OffB.new hP (by have := hst.lt; simp at hb; omega)) so sn sc co cn cc a ((ha.imp (Q := OffB W.heap.size 2 P) (fun b h hl => ⟨h, Or.inl hl⟩)).below hst.below) hoa)
  clear hst ha hoa hP
  go_enter Tryz.func187, Tryz.ntmps187
  go_wp2_with (go_at_call 236; refine (unhide HC).mono ?_)
  rintro e w2 ⟨s4, s5, s6, c4, c5, c6, rfl, hA5, hb5⟩
  have HX := hide ((unhide HST).next hb5)
  have HA5 := hide hA5
  clear hA5 hb5 HST HC
  have r0 : w2.cell? ⟨W.heap.size + 1, 0, none⟩ = some (.slice none 0 0) := ((unhide HX).cell 1 0 _ rfl).1
  have r1 : w2.cell? ⟨W.heap.size + 1, 1, none⟩ = some (.slice none 0 0) := ((unhide HX).cell 1 1 _ rfl).1
  have g0 : w2.frozen? ⟨W.heap.size + 1, 0, none⟩ = false := ((unhide HX).cell 1 0 _ rfl).2
  have g1 : w2.frozen? ⟨W.heap.size + 1, 1, none⟩ = false := ((unhide HX).cell 1 1 _ rfl).2
  go_wp2_with fail
  have hf2 := fin_bx (q := 1) (u0 := .slice s4 s5 s6) (u1 := .slice c4 c5 c6) (unhide HX).below (by decide) (unhide HA5)
  exact bodyPost_ret (v := .tuple #[.agg #[.slice s4 s5 s6, .slice c4 c5 c6], .int .i64 (orderP compF a).2]) (by simp [results, Tryz.results187, go_sem, r0, r1]) rfl ⟨_, _, _, _, _, _, rfl, hf2.1, hf2.2⟩
set_option maxHeartbeats 1000000 in
theorem down_fn (w : World) : FnOne 188 #[] w (orderP (fun x y => compF y x)) := by
  intro W P v a _ hP ha hoa
  have ha0 := ha
  obtain ⟨so, sn, sc, co, cn, cc, rfl, _, _⟩ := ha0
  show Calls Tryz.prog 188 #[.agg #[.slice so sn sc, .slice co cn cc]] W _
  have hst : Bx W ((W.alloc (.cells #[.slice so sn sc, .slice co cn cc] 89)).alloc (.cells #[.slice none 0 0, .slice none 0 0] 89)) [[.slice so sn sc, .slice co cn cc], [.slice none 0 0, .slice none 0 0]] := ((Bx.nil W).alloc (by simp) [.slice so sn sc, .slice co cn cc] 89).alloc (by simp) [.slice none 0 0, .slice none 0 0] 89
  have HST := hide hst
  have HC := hide (order_any Tryz.enters237 comp_back (OffB W.heap.size 2 P) _ (fun b hb => OffB.new hP (by have := hst.lt; simp at hb; omega)) so sn sc co cn cc a ((ha.imp (Q := OffB W.heap.size 2 P) (fun b h hl => ⟨h, Or.inl hl⟩)).below hst.below) hoa)
  clear hst ha hoa hP
  go_enter Tryz.func188, Tryz.ntmps188
  go_wp2_with (go_at_call 236; refine (unhide HC).mono ?_)
  rintro e w2 ⟨s4, s5, s6, c4, c5, c6, rfl, hA5, hb5⟩
  have HX := hide ((unhide HST).next hb5)
  have HA5 := hide hA5
  clear hA5 hb5 HST HC
  have r0 : w2.cell? ⟨W.heap.size + 1, 0, none⟩ = some (.slice none 0 0) := ((unhide HX).cell 1 0 _ rfl).1
  have r1 : w2.cell? ⟨W.heap.size + 1, 1, none⟩ = some (.slice none 0 0) := ((unhide HX).cell 1 1 _ rfl).1
  have g0 : w2.frozen? ⟨W.heap.size + 1, 0, none⟩ = false := ((unhide HX).cell 1 0 _ rfl).2
  have g1 : w2.frozen? ⟨W.heap.size + 1, 1, none⟩ = false := ((unhide HX).cell 1 1 _ rfl).2
  go_wp2_with fail
  have hf2 := fin_bx (q := 1) (u0 := .slice s4 s5 s6) (u1 := .slice c4 c5 c6) (unhide HX).below (by decide) (unhide HA5)
  exact bodyPost_ret (v := .tuple #[.agg #[.slice s4 s5 s6, .slice c4 c5 c6], .int .i64 (orderP (fun x y => compF y x) a).2]) (by simp [results, Tryz.results188, go_sem, r0, r1]) rfl ⟨_, _, _, _, _, _, rfl, hf2.1, hf2.2⟩
theorem up_one : OneC ⟨#[117, 112]⟩ (orderP compF) := ⟨fun w => (find_one (t := ⟨#[117, 112]⟩) (k1 := .string [112]) (k2 := .string [117, 112]) (f := 187) (by decide) (by kernel_rfl) (by kernel_rfl) (by kernel_rfl) (by kernel_rfl) w).mono (by rintro e w' ⟨rfl, hb⟩; exact ⟨187, #[], rfl, Tryz.enters187, hb, up_fn w'⟩), fun a ha => order_okk _ ha⟩
theorem down_one : OneC ⟨#[100, 111, 119, 110]⟩ (orderP (fun x y => compF y x)) := ⟨fun w => (find_one (t := ⟨#[100, 111, 119, 110]⟩) (k1 := .string [111, 119, 110]) (k2 := .string [100, 111, 119, 110]) (f := 188) (by decide) (by kernel_rfl) (by kernel_rfl) (by kernel_rfl) (by kernel_rfl) w).mono (by rintro e w' ⟨rfl, hb⟩; exact ⟨188, #[], rfl, Tryz.enters188, hb, down_fn w'⟩), fun a ha => order_okk _ ha⟩
end Go.Proofs.YtjobgpahajhbnaaGreatDoor
