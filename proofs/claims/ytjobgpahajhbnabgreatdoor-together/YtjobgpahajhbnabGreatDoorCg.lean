import Derived.Test.YtjobgpahajhbnabGreatDoorCe
import Derived.Test.YtjobgpahajhbnabGreatDoorTe
import Derived.Deep.CutRange
import Derived.Test.YtjobgpahajhbnabGreatDoorGg
import Derived.Test.YtjobgpahajhbnabGreatDoorTd
import Derived.Test.YtjobgpahajhbnabGreatDoorJc
namespace Go.Proofs.YtjobgpahajhbnabGreatDoor
open Go.RowKit Go.Proofs
attribute [local go_sem ↓] Go.wp_at_zero Go.wp_at_succ
structure Rw (w : World) (g : Nat) (xs : List Int) : Prop where
  lt : g < w.heap.size
  cell : ∀ p x, xs[p]? = some x → w.cell? ⟨g, p, none⟩ = some (.int .i64 x)
  fr : ∀ p, w.frozen? ⟨g, p, none⟩ = false
theorem Rw.below {w w' : World} {g : Nat} {xs : List Int} (h : Rw w g xs) (hb : Below w.heap.size w w') : Rw w' g xs :=
  ⟨Nat.lt_of_lt_of_le h.lt hb.size, fun p x hp => (hb.cell (p := ⟨g, p, none⟩) h.lt).trans (h.cell p x hp), fun p => (hb.frozen (p := ⟨g, p, none⟩) h.lt).trans (h.fr p)⟩
theorem Rw.set {w : World} {g : Nat} {xs : List Int} (h : Rw w g xs) {p : Nat} (hp : p < xs.length) (x : Int) : Rw (w.setCell ⟨g, p, none⟩ (.int .i64 x)) g (xs.set p x) := by
  refine ⟨by simpa using h.lt, fun q y hq => ?_, fun q => (World.frozen?_setCell ..).trans (h.fr q)⟩
  by_cases e : q = p
  · subst e
    rw [List.getElem?_set_self hp] at hq
    rw [← Option.some.inj hq]
    exact World.cell?_setCell_same _ _ _ (h.cell q _ (List.getElem?_eq_getElem hp))
  · rw [World.cell?_setCell_other _ _ _ _ (by intro h; injection h with _ e2; exact e e2.symm)]
    rw [List.getElem?_set_ne (fun h => e h.symm)] at hq
    exact h.cell q y hq
theorem Rw.nums {P : Nat → Prop} {w : World} {g : Nat} {xs : List Int} (h : Rw w g xs) (hP : P g) {n : Nat} (hn : xs.length = n) : Nums P w (.slice (some ⟨g, 0, none⟩) n n) xs := by
  subst hn
  exact ⟨_, _, rfl, Nat.le_refl _, fun _ => ⟨g, 0, rfl, hP, h.lt, fun i hi => by rw [Nat.zero_add]; exact h.cell i _ (List.getElem?_eq_getElem hi)⟩, fun a e => by cases e; rfl⟩
theorem Cols.keep {Q : Nat → Prop} {w w' : World} {gb g : Nat} {cs : List Arr} (h : Cols Q w gb cs) (hg : gb < w.heap.size) (hne : gb ≠ g) (hb : Bs (fun b => b = g) w w') (hq : ∀ b, Q b → b ≠ g) : Cols Q w' gb cs := fun i hi => by
  obtain ⟨so, sn, sc, co, cn, cc, a, b, c⟩ := h i hi
  exact ⟨so, sn, sc, co, cn, cc, (hb.cell hg hne).trans a, (hb.cell hg hne).trans b, c.keep hb.size (fun b hb' hl => hb.block b hl (hq b hb'))⟩
theorem Bx.bs {W w w' : World} {l : List (List Value)} {g : Nat} (h : Bx W w l) (hb : Bs (fun b => b = g) w w') (hg : W.heap.size + l.length ≤ g) : Bx W w' l :=
  h.keep ⟨hb.os, hb.tape, hb.output, hb.size, fun k hk => by have hk : k < W.heap.size + l.length := hk; exact hb.block k (Nat.lt_of_lt_of_le hk h.lt) (fun (e : k = g) => by omega)⟩
theorem Jlr {g p : Nat} {w w1 : World} (h : Bs (fun b => b = g) w w1) (v : Value) : Bs (fun b => b = g) w (w1.setCell ⟨g, p, none⟩ v) :=
  ⟨h.os, h.tape, h.output, by simpa using h.size, fun k hk hne => (RowKit.Below.heap_setCell _ _ _ _ (by intro e; exact hne e)).trans (h.block k hk hne)⟩
theorem Vh {w : World} {b : Nat} {u0 u1 : Value} (h0 : w.cell? ⟨b, 0, none⟩ = some u0) (h1 : w.cell? ⟨b, 1, none⟩ = some u1) (v0 v1 : Value) : ((w.setCell ⟨b, 0, none⟩ v0).setCell ⟨b, 1, none⟩ v1).cell? ⟨b, 0, none⟩ = some v0 ∧ ((w.setCell ⟨b, 0, none⟩ v0).setCell ⟨b, 1, none⟩ v1).cell? ⟨b, 1, none⟩ = some v1 :=
  ⟨(World.cell?_setCell_other _ _ _ _ (by simp)).trans (World.cell?_setCell_same _ _ _ h0), World.cell?_setCell_same _ _ _ (u := u1) ((World.cell?_setCell_other _ _ _ _ (by simp)).trans h1)⟩
def Qg (f : Arr → Arr → Arr × Int) (cs : List Arr) (m n i j : Nat) : List Int := (List.range (m * n)).map fun p => if p % n < i ∨ (p % n = i ∧ p / n < j) then (Jl f (cs.take (p % n + 1))).1.cells.getD (p / n) 0 else 0
theorem Jfo (f : Arr → Arr → Arr × Int) (cs : List Arr) (m n i j : Nat) : (Qg f cs m n i j).length = m * n := by simp [Qg]
theorem Jfq (f : Arr → Arr → Arr × Int) (cs : List Arr) (m n i : Nat) : (Ko f cs m n i).length = m * n := by simp [Ko]
theorem Jdu (f : Arr → Arr → Arr × Int) (cs : List Arr) (m n : Nat) : Ko f cs m n 0 = List.replicate (m * n) 0 := by
  simp [Ko, List.map_const']
theorem Jdt (f : Arr → Arr → Arr × Int) (cs : List Arr) (m n i : Nat) : Qg f cs m n i 0 = Ko f cs m n i := by
  unfold Qg Ko
  apply List.map_congr_left
  intro p _
  simp
theorem Jfp (f : Arr → Arr → Arr × Int) (cs : List Arr) (m n i : Nat) : Qg f cs m n i m = Ko f cs m n (i + 1) := by
  unfold Qg Ko
  apply List.map_congr_left
  intro p hp
  have hp : p < m * n := by simpa using hp
  have hd : p / n < m := by
    rcases Nat.eq_zero_or_pos n with e | e
    · subst e; omega
    · exact Nat.div_lt_of_lt_mul (by rw [Nat.mul_comm]; exact hp)
  by_cases h : p % n < i + 1
  · rw [if_pos h, if_pos (by omega)]
  · rw [if_neg h, if_neg (by omega)]
theorem Jfn {f : Arr → Arr → Arr × Int} {cs : List Arr} {m n i j : Nat} (hi : i < n) (_hj : j < m) : (Qg f cs m n i j).set (j * n + i) ((Jl f (cs.take (i + 1))).1.cells.getD j 0) = Qg f cs m n i (j + 1) := by
  have hmod : (j * n + i) % n = i := by rw [Nat.add_comm, Nat.add_mul_mod_self_right, Nat.mod_eq_of_lt hi]
  have hdiv : (j * n + i) / n = j := by rw [Nat.add_comm, Nat.add_mul_div_right _ _ (by omega), Nat.div_eq_of_lt hi, Nat.zero_add]
  apply List.ext_getElem
  · simp [Qg]
  · intro p h1 h2
    simp only [Qg, List.getElem_set, List.getElem_map, List.getElem_range]
    by_cases e : j * n + i = p
    · subst e
      rw [if_pos rfl, hmod, hdiv, if_pos (by omega)]
    · rw [if_neg e]
      have hne : ¬ (p % n = i ∧ p / n = j) := by
        rintro ⟨h3, h4⟩
        have := Nat.div_add_mod p n
        rw [h3, h4, Nat.mul_comm] at this
        exact e this
      by_cases h : p % n < i ∨ (p % n = i ∧ p / n < j)
      · rw [if_pos h, if_pos (by omega)]
      · rw [if_neg h, if_neg (by omega)]
set_option maxHeartbeats 8000000 in
set_option maxRecDepth 20000 in
theorem Ji8 {f : Arr → Arr → Arr × Int} {g : Nat} (z : Int) (hen : Enters Tryz.prog g) {w0 : World} (hfn : FnTwo g #[] w0 f) (hev : Evens f) (P : Nat → Prop) (W : World) (hW : Below w0.heap.size w0 W) (hP : ∀ b, W.heap.size ≤ b → P b) (so : Option Addr) (sn sc : Nat) (co : Option Addr) (cn cc : Nat) (a : Arr) (ha : IsArr P W (.agg #[.slice so sn sc, .slice co cn cc]) a) (hok : a.ok) :
    Calls Tryz.prog 98 #[.agg #[.slice so sn sc, .slice co cn cc], .agg #[.func (.func g) #[] #[], .int .i64 z]] W fun e W' => ∃ so sn sc co cn cc, e = .returned (.tuple #[.agg #[.slice so sn sc, .slice co cn cc], .int .i64 (Yt f a).2]) ∧ IsArr P W' (.agg #[.slice so sn sc, .slice co cn cc]) (Yt f a).1 ∧ Below W.heap.size W W' := by
  have hsn := (Jc ha).2
  have hcn := (Jc ha).1
  have hst : Bx W (((W.alloc (.cells #[.slice so sn sc, .slice co cn cc] 57)).alloc (.cells #[.func (.func g) #[] #[], .int .i64 z] 143)).alloc (.cells #[.slice none 0 0, .slice none 0 0] 57)) [[.slice so sn sc, .slice co cn cc], [.func (.func g) #[] #[], .int .i64 z], [.slice none 0 0, .slice none 0 0]] := (((Bx.nil W).alloc (by simp) [.slice so sn sc, .slice co cn cc] 57).alloc (by simp) [.func (.func g) #[] #[], .int .i64 z] 143).alloc (by simp) [.slice none 0 0, .slice none 0 0] 57
  have HST := hide hst
  have HA := hide ha
  have HP := hide hP
  have HFn := hide hfn
  have HEv := hide hev
  have HW := hide hW
  have HEn := hide hen
  have HOK := hide hok
  have HSN := hide hsn
  have HCN := hide hcn
  clear hst ha hP hfn hev hW hen hok hsn hcn
  by_cases h0 : sn = 0
  · have e0 : ((sn : Int) == 0) = true := by simpa using h0
    have HR : Hid (Yt f a = (a, 0)) := hide (by unfold Yt; rw [if_pos (by have := Ja HSN; omega)])
    clear h0
    go_enter Tryz.func98, Tryz.ntmps98
    go_wp2_with fail
    refine (Ji _ so sn sc co cn cc).mono ?_
    rintro e w' ⟨rfl, hw'⟩
    have HX : Hid (Bx W w' [[.slice so sn sc, .slice co cn cc], [.func (.func g) #[] #[], .int .i64 z], [.slice none 0 0, .slice none 0 0]]) := hide ((Ja HST).next (by rw [hw']; exact ((Below.refl _ _).alloc (Nat.le_refl _) _).alloc (by simp) _))
    clear hw' HST
    have b0 : w'.cell? ⟨W.heap.size, 0, none⟩ = some (.slice so sn sc) := ((Ja HX).cell 0 0 _ rfl).1
    have b1 : w'.cell? ⟨W.heap.size, 1, none⟩ = some (.slice co cn cc) := ((Ja HX).cell 0 1 _ rfl).1
    have r0 : w'.cell? ⟨W.heap.size + 1 + 1, 0, none⟩ = some (.slice none 0 0) := ((Ja HX).cell 2 0 _ rfl).1
    have r1 : w'.cell? ⟨W.heap.size + 1 + 1, 1, none⟩ = some (.slice none 0 0) := ((Ja HX).cell 2 1 _ rfl).1
    have g0 : w'.frozen? ⟨W.heap.size + 1 + 1, 0, none⟩ = false := ((Ja HX).cell 2 0 _ rfl).2
    have g1 : w'.frozen? ⟨W.heap.size + 1 + 1, 1, none⟩ = false := ((Ja HX).cell 2 1 _ rfl).2
    go_wp2_with fail
    have hf2 := Yd (q := 2) (k := 3) (P := P) (u0 := .slice so sn sc) (u1 := .slice co cn cc) (Ja HX).below (by decide) (((Ja HA).imp (fun b h hl => ⟨h, Or.inl hl⟩)).below (Ja HX).below)
    refine bodyPost_ret (v := .tuple #[.agg #[.slice so sn sc, .slice co cn cc], .int .i64 0]) (by simp [results, Tryz.results98, go_sem, r0, r1]) rfl ⟨so, sn, sc, co, cn, cc, by rw [Ja HR], by rw [Ja HR]; exact hf2.1, hf2.2⟩
  · have e0 : ((sn : Int) == 0) = false := beq_false_of_ne (by omega)
    have hr : a.shape.length ≠ 0 := by have := Ja HSN; omega
    have HR0 := hide hr
    obtain ⟨i0, hi, hz0, hz1, hz2⟩ := info_parts Tryz.info2
    have HI := hide hi
    have HZ0 := hide hz0
    have HZ1 := hide hz1
    have HZ2 := hide hz2
    obtain ⟨n, hn⟩ : ∃ n, Ju a.shape = n := ⟨_, rfl⟩
    obtain ⟨m, hm⟩ : ∃ m, Jj a.shape.dropLast = m := ⟨_, rfl⟩
    have hsz := Xb (Ja HOK) hr
    rw [hn, hm] at hsz
    have hcm : cn = m * n := by rw [Ja HCN, hsz]
    have hcn2 : cn ≤ 200 := by have := (Ja HOK).few; have := Ja HCN; omega
    have hn200 : n ≤ 200 := by
      have h1 := J8 hr
      rw [hn] at h1
      exact (Ja HOK).lens n (by rw [h1]; simp)
    have HN := hide hn
    have HMm := hide hm
    have HCM := hide hcm
    clear h0 hr hi hz0 hz1 hz2 hn hm hsz hcm
    go_enter Tryz.func98, Tryz.ntmps98
    go_wp2_with fail
    refine (Ji _ so sn sc co cn cc).mono ?_
    rintro e w1 ⟨rfl, hw'⟩
    have HX : Hid (Bx W w1 [[.slice so sn sc, .slice co cn cc], [.func (.func g) #[] #[], .int .i64 z], [.slice none 0 0, .slice none 0 0]]) := hide ((Ja HST).next (by rw [hw']; exact ((Below.refl _ _).alloc (Nat.le_refl _) _).alloc (by simp) _))
    clear hw' HST
    have b0 : w1.cell? ⟨W.heap.size, 0, none⟩ = some (.slice so sn sc) := ((Ja HX).cell 0 0 _ rfl).1
    have b1 : w1.cell? ⟨W.heap.size, 1, none⟩ = some (.slice co cn cc) := ((Ja HX).cell 0 1 _ rfl).1
    go_wp2_with fail
    refine (J2 _ so sn sc co cn cc).mono ?_
    rintro e w2 ⟨rfl, hw2⟩
    have HX2 : Hid (Bx W w2 [[.slice so sn sc, .slice co cn cc], [.func (.func g) #[] #[], .int .i64 z], [.slice none 0 0, .slice none 0 0]]) := hide ((Ja HX).next (by rw [hw2]; exact (Below.refl _ _).alloc (Nat.le_refl _) _))
    clear hw2 HX b0 b1
    go_wp2_with (at_make; refine wpList_make_full _ rfl _ _ 32 rfl w2.heap.size 2 i0 (.int .i64 0) 1 Tryz.underlying32 (Ja HI) (Ja HZ0) (Ja HZ1) .i64 .i64 cn cn cn rfl rfl rfl rfl ?c1 ?c2 (Nat.le_refl _) ?_)
    case c1 => rw [Ja HZ2]; omega
    case c2 => unfold maxLen; omega
    intro w3 hown hg
    have hown : w3.ownsRow w2.heap.size 2 1 (.slice (some ⟨w2.heap.size, 0, none⟩) cn cn) cn (List.replicate cn (.int .i64 0)) := by
      have := toList_madeCells_one (.int .i64 0) (cn * 1)
      rw [Nat.mul_one] at this
      rw [← this]
      simpa using hown
    have hb3 : Below w2.heap.size w2 w3 := (Below.refl _ _).grown hg (Nat.le_refl _) (fun _ h => by cases h)
    have hlt3 : w2.heap.size < w3.heap.size := hown.lt w2.heap.size rfl |>.2
    have hcl : ∀ p x, (Ko f (cols a) m n 0)[p]? = some x → w3.cell? ⟨w2.heap.size, p, none⟩ = some (.int .i64 x) := by
      intro p x hp
      rw [Jdu, ← Ja HCM, List.getElem?_replicate] at hp
      split at hp
      · rename_i hpl
        have h1 := hown.cellAt p (by simpa using hpl)
        rw [List.getElem?_replicate, if_pos hpl] at h1
        rw [← Option.some.inj hp]
        exact h1
      · cases hp
    have HRw : Hid (Rw w3 w2.heap.size (Ko f (cols a) m n 0)) := hide ⟨hlt3, hcl, fun p => hown.frozenAt p⟩
    have HX3 := hide ((Ja HX2).next hb3)
    have hgk : W.heap.size + 3 ≤ w2.heap.size := (Ja HX2).lt
    obtain ⟨gk, hgke⟩ : ∃ gk, w2.heap.size = gk := ⟨_, rfl⟩
    rw [hgke] at HRw hgk hlt3 ⊢
    clear hown hg hb3 HX2 hgke HI HZ0 HZ1 HZ2 hcl
    have HCol := hide (X5 (OffG W.heap.size gk P) w3 (fun b hb => ⟨Ja HP b (by omega), Or.inr (by omega)⟩) _ _ _ _ _ _ a (((Ja HA).imp (fun b h hl => ⟨h, Or.inl hl⟩)).below (Ja HX3).below) (Ja HOK) (Ja HR0))
    have b0 : w3.cell? ⟨W.heap.size, 0, none⟩ = some (.slice so sn sc) := ((Ja HX3).cell 0 0 _ rfl).1
    have b1 : w3.cell? ⟨W.heap.size, 1, none⟩ = some (.slice co cn cc) := ((Ja HX3).cell 0 1 _ rfl).1
    go_wp2_with fail
    refine (Ja HCol).mono ?_
    rintro e w4 ⟨gc, rfl, hg1, hg2, hC, hb4⟩
    rw [Ja HN]
    have HX4 := hide ((Ja HX3).next hb4)
    have HC := hide hC
    have HRw4 := hide ((Ja HRw).below hb4)
    have hgc : gk < gc := by omega
    have hgk4 : gk < w4.heap.size := by omega
    clear hC hb4 HX3 HCol b0 b1 HRw hlt3 hg1
    go_wp2_with fail
    go_loopw [23] (fun v23 wr => ∃ i : Nat, v23 = .int .i64 i ∧ i ≤ n ∧ Hid (Ki f (cols a) i = 0) ∧ Bs (fun b => b = gk) w4 wr ∧ Rw wr gk (Ko f (cols a) m n i)) (fun v23 _ => n - (intOf v23).toNat)
    case atStart => exact ⟨0, rfl, by omega, hide rfl, Bs.of (Below.refl _ _), Ja HRw4⟩
    case round =>
      obtain ⟨i, rfl, hin, hE, hbs, hrw⟩ := hrel
      rename World => wr
      have HX5 := hide ((Ja HX4).bs hbs (by simpa using hgk))
      have HBs := hide hbs
      have HRw5 := hide hrw
      have hszr := hbs.size
      have hlt5 := (Ja HX5).lt
      simp at hlt5
      by_cases hil : i < n
      · have s0 : wr.cell? ⟨W.heap.size + 1, 0, none⟩ = some (.func (.func g) #[] #[]) := ((Ja HX5).cell 1 0 _ rfl).1
        have s1 : wr.cell? ⟨W.heap.size + 1, 1, none⟩ = some (.int .i64 z) := ((Ja HX5).cell 1 1 _ rfl).1
        have hCr : Cols (OffG W.heap.size gk P) wr gc ((cols a).take (i + 1)) := ((Ja HC).keep hg2 (by omega) hbs (fun b hb e => by subst e; rcases hb.2 with h | h <;> omega)).take _
        have hlen : ((cols a).take (i + 1)).length = i + 1 := by rw [List.length_take, Qe, Ja HN]; omega
        have hmem := Qj (Ja HOK) (Ja HR0) (k := i + 1)
        have hWr : Below W.heap.size W wr := (Ja HX5).below
        have hgcr : gc < wr.heap.size := by omega
        have hbA : Below wr.heap.size wr (wr.alloc (.cells #[.slice none 0 0, .slice none 0 0] 57)).drew := ((Below.refl _ _).alloc (Nat.le_refl _) _).drew
        have hbB : Below wr.heap.size wr wr.drew := (Below.refl _ _).drew
        have HChA := hide (X8 z (Ja HEn) (Ja HFn) (fun b => OffG W.heap.size gk P b ∧ b ≠ wr.heap.size) (wr.alloc (.cells #[.slice none 0 0, .slice none 0 0] 57)).drew ((Ja HW).trans ((hWr.trans (hbA.mono hWr.size)).mono (Ja HW).size)) (fun b hb => by simp at hb; exact ⟨⟨Ja HP b (by omega), Or.inr (by omega)⟩, by omega⟩) gc (i + 1) n ((cols a).take (i + 1)) hlen (by omega) (by omega) (Nat.lt_of_lt_of_le hgcr hbA.size) ((hCr.imp (fun b h hl => ⟨h, by omega⟩)).below hgcr hbA) (fun c hc => (hmem c hc).1) (Ja HEv).ok)
        have HChB := hide (X8 z (Ja HEn) (Ja HFn) (OffG W.heap.size gk P) wr.drew ((Ja HW).trans ((hWr.trans (hbB.mono hWr.size)).mono (Ja HW).size)) (fun b hb => by simp at hb; exact ⟨Ja HP b (by omega), Or.inr (by omega)⟩) gc (i + 1) n ((cols a).take (i + 1)) hlen (by omega) (by omega) hgcr (hCr.below hgcr hbB) (fun c hc => (hmem c hc).1) (Ja HEv).ok)
        obtain ⟨R, hR⟩ : ∃ R, Jl f ((cols a).take (i + 1)) = R := ⟨_, rfl⟩
        rw [hR] at HChA HChB
        have HRR := hide hR
        obtain ⟨k1, hk1⟩ : ∃ k1, i + 1 = k1 := ⟨_, rfl⟩
        rw [hk1] at HChA HChB
        have hkw : IntKind.i64.wrap ((i : Int) + 1) = (k1 : Int) := by
          have e : (i : Int) + 1 = (k1 : Int) := by omega
          rw [e]
          exact Jd (by omega) (by omega)
        have x0 : (0 : Int) ≤ (i : Int) := by omega
        have x1 : (i : Int) < (n : Int) := by omega
        have x2 : (k1 : Int) ≤ (n : Int) := by omega
        have x3 : (0 : Int) ≤ (k1 : Int) := by omega
        have HK1 := hide hk1
        have z1 : W.heap.size + 1 < wr.heap.size := by omega
        have hno : ¬ (OffG W.heap.size gk P wr.heap.size ∧ wr.heap.size ≠ wr.heap.size) := fun h => h.2 rfl
        have HNo := hide hno
        clear hCr hlen hmem hWr hbA hbB hR hbs hrw hno hk1
        go_upto_region 8 with fail
        go_cut [9, 10] from 26 to 34 (fun v9 v10 wx => ∃ b9 s1 s2 s3 c1 c2 c3, v9 = .pointer (some ⟨b9, 0, none⟩) ∧ v10 = .int .i64 R.2 ∧ wx.cell? ⟨b9, 0, none⟩ = some (.slice s1 s2 s3) ∧ wx.cell? ⟨b9, 1, none⟩ = some (.slice c1 c2 c3) ∧ IsArr (OffG W.heap.size gk P) wx (.agg #[.slice s1 s2 s3, .slice c1 c2 c3]) R.1 ∧ b9 ≠ gk ∧ b9 < wx.heap.size ∧ Below wr.heap.size wr wx)
        case first =>
          go_region_with (first
            | (go_at_call 149; (with_reducible refine (Ja HChA).mono ?_); rintro e w5 ⟨s4, s5, s6, c4, c5, c6, rfl, hA5, hb5⟩; have HA5 := hide hA5; have HB5 := hide (((Below.refl wr.heap.size wr).alloc (Nat.le_refl _) (.cells #[.slice none 0 0, .slice none 0 0] 57)).drew.trans (hb5.mono (by simp))); have m0' := (hb5.cell (p := ⟨wr.heap.size, 0, none⟩) (by simp)); have m1' := (hb5.cell (p := ⟨wr.heap.size, 1, none⟩) (by simp)); have f0' := (hb5.frozen (p := ⟨wr.heap.size, 0, none⟩) (by simp)); have f1' := (hb5.frozen (p := ⟨wr.heap.size, 1, none⟩) (by simp)); simp at m0' m1' f0' f1'; have hsz5 : wr.heap.size < w5.heap.size := (by have := hb5.size; simp at this; omega); clear hA5 hb5)
            | (go_at_call 149; (with_reducible refine (Ja HChB).mono ?_); rintro e w5 ⟨s4, s5, s6, c4, c5, c6, rfl, hA5, hb5⟩; have HA5b := hide hA5; have HB5 := hide ((Below.refl wr.heap.size wr).drew.trans hb5); clear hA5 hb5))
          all_goals go_wp2_with fail
          all_goals go_meet
          all_goals first
            | exact ⟨wr.heap.size, s4, s5, s6, c4, c5, c6, rfl, rfl, (Vh m0' m1' _ _).1, (Vh m0' m1' _ _).2, (((Ja HA5).set (Ja HNo) 0 _).set (Ja HNo) 1 _).imp (fun b h _ => h.1), by omega, by simpa using hsz5, ((Ja HB5).setCell (p := ⟨wr.heap.size, 0, none⟩) (Nat.le_refl _) _).setCell (p := ⟨wr.heap.size, 1, none⟩) (Nat.le_refl _) _⟩
            | exact ⟨w5.heap.size, s4, s5, s6, c4, c5, c6, rfl, rfl, (World.cell?_alloc_at _ _ _ _ rfl).trans rfl, (World.cell?_alloc_at _ _ _ _ rfl).trans rfl, (Ja HA5b).below ((Below.refl _ _).alloc (Nat.le_refl _) _), by have := (Ja HB5).size; omega, by simp, (Ja HB5).alloc (Ja HB5).size _⟩
            | (trace_state; fail)
        case rest =>
          clear s0 s1 hkw x2 x3
          obtain ⟨b9, s1, s2, s3, c1, c2, c3, rfl, rfl, m0, m1, hA, hn9, hl9, hbx⟩ := hcut
          rename World => wc
          have HXc := hide ((Ja HX5).next hbx)
          have HRwc := hide ((Ja HRw5).below hbx)
          have HBsc : Hid (Bs (fun b => b = gk) w4 wc) := hide ((Ja HBs).trans (Bs.of (S := fun b => b = gk) hbx) (fun _ _ h => h))
          have HA9 := hide hA
          have hszc := hbx.size
          by_cases he : R.2 = 0
          · have hne : (cols a).take (i + 1) ≠ [] := by
              intro e
              have h1 := congrArg List.length e
              rw [List.length_take, Qe, Ja HN] at h1
              simp at h1
              omega
            have hok9 : R.1.ok ∧ R.1.shape = a.shape.dropLast := by
              rw [← Ja HRR] at he ⊢
              exact V8 (Ja HEv) hne (Qj (Ja HOK) (Ja HR0)) he
            have hlen9 : R.1.cells.length = m := by rw [hok9.1.size, hok9.2]; exact Ja HMm
            have hc2 : c2 = m := by rw [(Jc hA).1, hlen9]
            have HE2 : Hid (Ki f (cols a) (i + 1) = 0) := hide (by
              rw [Ki, if_neg (by rw [Ja hE]; simp), Ja HRR]
              exact he)
            subst hc2
            rw [he]
            have HLen := hide hlen9
            have hc200 : c2 ≤ 200 := by
              have h1 : c2 * 1 ≤ c2 * n := Nat.mul_le_mul_left _ (by omega)
              have h2 := Ja HCM
              omega
            clear hA hbx hne hok9 hlen9 he
            go_wp2_with fail
            go_loopw [42] (fun v42 wx => ∃ j : Nat, v42 = .int .i64 j ∧ j ≤ c2 ∧ Bs (fun b => b = gk) wc wx ∧ Rw wx gk (Qg f (cols a) c2 n i j)) (fun v42 _ => c2 - (intOf v42).toNat)
            case atStart => exact ⟨0, rfl, by omega, Bs.of (Below.refl _ _), by rw [Jdt]; exact Ja HRwc⟩
            case round =>
              obtain ⟨j, rfl, hjm, hbs2, hrw2⟩ := hrel
              rename World => wx
              have HBs2 := hide hbs2
              have HRw2 := hide hrw2
              by_cases hjl : j < c2
              · have hA2 : IsArr (OffG W.heap.size gk P) wx (.agg #[.slice s1 s2 s3, .slice c1 c2 c3]) R.1 := (Ja HA9).keep hbs2.size (fun b hb hl => hbs2.block b hl (fun (e : b = gk) => by subst e; rcases hb.2 with h | h <;> omega))
                have hnc := Jq hA2
                obtain ⟨cb, cof, rfl, hcb, hcell, hcap⟩ := hnc.at (k := j) (by rw [Ja HLen]; exact hjl)
                obtain ⟨x, hx⟩ : ∃ x, R.1.cells[j]'(by rw [Ja HLen]; exact hjl) = x := ⟨_, rfl⟩
                rw [hx] at hcell
                have hxd : (Jl f ((cols a).take (i + 1))).1.cells.getD j 0 = x := by
                  rw [Ja HRR, List.getD_eq_getElem?_getD, List.getElem?_eq_getElem (by rw [Ja HLen]; exact hjl), hx]
                  rfl
                have hpos : i + j * n < c2 * n := Jln hjl hil
                have hpos2 : i + j * n < cn := by rw [Ja HCM]; exact hpos
                obtain ⟨jn, hjn⟩ : ∃ jn, j * n = jn := ⟨_, rfl⟩
                rw [hjn] at hpos2 hpos
                have HSet : Hid ((Qg f (cols a) c2 n i j).set (jn + i) x = Qg f (cols a) c2 n i (j + 1)) := hide (by rw [← hjn, ← hxd]; exact Jfn hil hjl)
                have hw1 : IntKind.i64.wrap ((j : Int) * (n : Int)) = (jn : Int) := by
                  rw [← Int.natCast_mul, hjn]
                  exact Jd (by omega) (by omega)
                obtain ⟨pp, hpp⟩ : ∃ pp, jn + i = pp := ⟨_, rfl⟩
                have hw2 : IntKind.i64.wrap ((jn : Int) + (i : Int)) = (pp : Int) := by
                  have e : ((jn : Int) + (i : Int)) = (pp : Int) := by omega
                  rw [e]
                  exact Jd (by omega) (by omega)
                rw [hpp] at HSet
                have p0 : (0 : Int) ≤ (pp : Int) := by omega
                have p1 : (pp : Int) < (cn : Int) := by omega
                have j0 : (0 : Int) ≤ (j : Int) := by omega
                have j1 : (j : Int) < (c2 : Int) := by omega
                have hsl : (Qg f (cols a) c2 n i j).length = cn := by rw [Jfo, Ja HCM]
                have hplt : pp < (Qg f (cols a) c2 n i j).length := by rw [hsl]; omega
                have gc0 := hrw2.cell pp _ (List.getElem?_eq_getElem hplt)
                obtain ⟨old, hold⟩ : ∃ old, (Qg f (cols a) c2 n i j)[pp]'hplt = old := ⟨_, rfl⟩
                rw [hold] at gc0
                have gf0 := hrw2.fr pp
                have gl0 := hrw2.lt
                have HRw3 := hide (hrw2.set hplt x)
                have HBs3 := hide (Jlr (p := pp) hbs2 (.int .i64 x))
                clear hbs2 hrw2 hA2 hnc hx hxd hpos hpos2 hjn hpp hsl hold hplt
                go_wp2_with fail
                go_roundw
                case rel => exact ⟨j + 1, by go_num, by omega, Ja HBs3, by rw [← Ja HSet]; exact Ja HRw3⟩
                case measure => simp [intOf]; omega
              · have hje : j = c2 := by omega
                subst hje
                have HFin : Hid (Rw wx gk (Ko f (cols a) j n (i + 1))) := hide (by rw [← Jfp]; exact hrw2)
                have HBsF : Hid (Bs (fun b => b = gk) w4 wx) := hide ((Ja HBsc).trans hbs2 (fun _ _ h => h))
                clear hbs2 hrw2
                go_wp2_with fail
                go_roundw
                case rel => exact ⟨i + 1, by go_num, by omega, HE2, Ja HBsF, Ja HFin⟩
                case measure => simp [intOf]; omega
          · have HR : Hid (Yt f a = (eArr, R.2)) := hide (by
              have h1 : Ki f (cols a) (i + 1) = R.2 := by
                rw [Ki, if_neg (by rw [Ja hE]; simp), Ja HRR]
              have h2 : Ki f (cols a) n = R.2 := by
                rw [← h1]
                exact Xl (by rw [h1]; exact he) (by omega)
              unfold Yt
              rw [if_neg (Ja HR0), Ja HN, if_pos (by rw [h2]; exact he), h2])
            obtain ⟨er, her⟩ : ∃ er, R.2 = er := ⟨_, rfl⟩
            rw [her] at he HR ⊢
            have he2 : (er != 0) = true := by simpa using he
            have r0 : wc.cell? ⟨W.heap.size + 1 + 1, 0, none⟩ = some (.slice none 0 0) := ((Ja HXc).cell 2 0 _ rfl).1
            have r1 : wc.cell? ⟨W.heap.size + 1 + 1, 1, none⟩ = some (.slice none 0 0) := ((Ja HXc).cell 2 1 _ rfl).1
            have g0 : wc.frozen? ⟨W.heap.size + 1 + 1, 0, none⟩ = false := ((Ja HXc).cell 2 0 _ rfl).2
            have g1 : wc.frozen? ⟨W.heap.size + 1 + 1, 1, none⟩ = false := ((Ja HXc).cell 2 1 _ rfl).2
            clear hA hbx he her
            go_wp2_with fail
            have hf2 := Yd (q := 2) (P := P) (k := 3) (a := eArr) (u0 := .slice none 0 0) (u1 := .slice none 0 0) (Ja HXc).below (by decide) (Yb _ _)
            refine bodyPost_ret (v := .tuple #[.agg #[.slice none 0 0, .slice none 0 0], .int .i64 er]) (by simp [results, Tryz.results98, go_sem, r0, r1]) rfl ⟨none, 0, 0, none, 0, 0, by rw [Ja HR], by rw [Ja HR]; exact hf2.1, hf2.2⟩
      · have hie : i = n := by omega
        subst hie
        have HR : Hid (Yt f a = (⟨a.shape, Ko f (cols a) m i i⟩, 0)) := hide (by
          unfold Yt
          rw [if_neg (Ja HR0), Ja HN, Ja hE, if_neg (by simp), Ja HMm])
        have b0 : wr.cell? ⟨W.heap.size, 0, none⟩ = some (.slice so sn sc) := ((Ja HX5).cell 0 0 _ rfl).1
        have r0 : wr.cell? ⟨W.heap.size + 1 + 1, 0, none⟩ = some (.slice none 0 0) := ((Ja HX5).cell 2 0 _ rfl).1
        have r1 : wr.cell? ⟨W.heap.size + 1 + 1, 1, none⟩ = some (.slice none 0 0) := ((Ja HX5).cell 2 1 _ rfl).1
        have g0 : wr.frozen? ⟨W.heap.size + 1 + 1, 0, none⟩ = false := ((Ja HX5).cell 2 0 _ rfl).2
        have g1 : wr.frozen? ⟨W.heap.size + 1 + 1, 1, none⟩ = false := ((Ja HX5).cell 2 1 _ rfl).2
        clear hbs hrw
        go_wp2_with fail
        have hA3 : IsArr (OffB W.heap.size 3 P) wr (.agg #[.slice so sn sc, .slice co cn cc]) a := ((Ja HA).imp (Q := OffB W.heap.size 3 P) (fun b h hl => ⟨h, Or.inl hl⟩)).below (Ja HX5).below
        have hA4 : IsArr (OffB W.heap.size 3 P) wr (.agg #[.slice so sn sc, .slice (some ⟨gk, 0, none⟩) cn cn]) ⟨a.shape, Ko f (cols a) m i i⟩ := by
          obtain ⟨_, _, _, _, _, _, hv, h1, _⟩ := hA3
          injection hv with hv
          simp at hv
          obtain ⟨⟨rfl, rfl, rfl⟩, _⟩ := hv
          exact G8 h1 ((Ja HRw5).nums (OffB.new (Ja HP) hgk) (by rw [Jfq, Ja HCM]))
        have hf2 := Yd (q := 2) (u0 := .slice so sn sc) (u1 := .slice (some ⟨gk, 0, none⟩) cn cn) (Ja HX5).below (by decide) hA4
        refine bodyPost_ret (v := .tuple #[.agg #[.slice so sn sc, .slice (some ⟨gk, 0, none⟩) cn cn], .int .i64 0]) (by simp [results, Tryz.results98, go_sem, r0, r1]) rfl ⟨_, _, _, _, _, _, by rw [Ja HR], by rw [Ja HR]; exact hf2.1, hf2.2⟩
end Go.Proofs.YtjobgpahajhbnabGreatDoor
namespace Go.Proofs.YtjobgpahajhbnabGreatDoor
open Go.RowKit Go.Proofs Go.Maps
attribute [local go_sem ↓] Go.wp_at_zero Go.wp_at_succ
theorem Tryz.full235 (h : Nat) (w : World) : (binOp .eql 137 (.func (.func h) #[] #[]) .nilFunc).run Tryz.prog w = .ok (.bool false) w := by kernel_rfl
set_option maxHeartbeats 2000000 in
set_option maxRecDepth 20000 in
theorem Jan {t : ByteArray} {k1 ks : Lit} {h g : Nat} {z : Int} (h1 : 1 ≤ t.size) (hk1 : keyOf Tryz.prog 9 (.string (t.extract 1 t.size)) = some k1) (ha1 : formsOneD.atKey k1 (.held .nilFunc) = .held (.func (.func h) #[] #[])) (hks : keyOf Tryz.prog 9 (.string (t.extract 0 1)) = some ks) (has : signsD.atKey ks (.held Jdg) = .held (.agg #[.func (.func g) #[] #[], .int .i64 z])) (w : World) :
    Calls Tryz.prog 47 #[.string t] w fun e w' => ∃ b3 b4, e = .returned (.func (.func 75) #[] #[.pointer (some ⟨b3, 0, none⟩), .pointer (some ⟨b4, 0, none⟩)]) ∧ w'.cell? ⟨b3, 0, none⟩ = some (.func (.func h) #[] #[]) ∧ b3 < w'.heap.size ∧ w'.cell? ⟨b4, 0, none⟩ = some (.func (.func g) #[] #[]) ∧ w'.cell? ⟨b4, 1, none⟩ = some (.int .i64 z) ∧ b4 < w'.heap.size ∧ Below w.heap.size w w' := by
  have HL1 : Hid (∀ w' b, w'.ownsMap Tryz.prog 9 Jm b 2 formsOneD → (Instr.lookup 138 (.map (some b)) (.string (t.extract 1 t.size)) false).run Tryz.prog w' = .ok (.func (.func h) #[] #[]) w') := hide (fun w' b h => Yy Tryz.underlying138 (Tryz.zero137 w') h hk1 ha1)
  have HL2 : Hid (∀ w' b, w'.ownsMap Tryz.prog 9 Jm b 9 signsD → (Instr.lookup 144 (.map (some b)) (.string (t.extract 0 1)) false).run Tryz.prog w' = .ok (.agg #[.func (.func g) #[] #[], .int .i64 z]) w') := hide (fun w' b h => Yy Tryz.underlying144 (Tryz.zero143 w') h hks has)
  have hnn := Tryz.full235 h
  clear hk1 ha1 hks has
  go_enter Tryz.func47, Tryz.ntmps47
  go_upto_region 1 with fail
  go_cut [3] from 5 to 8 (fun v3 wx => ∃ b3, v3 = .pointer (some ⟨b3, 0, none⟩) ∧ wx.cell? ⟨b3, 0, none⟩ = some (.func (.func h) #[] #[]) ∧ b3 < wx.heap.size ∧ Below w.heap.size w wx)
  case first =>
    go_region_with (first | (go_at_call 72; refine (Z2 _).mono ?_; rintro e w1 ⟨rfl, ho, hb⟩; have hl := Ja HL1 _ w.heap.size (by exact ho); have hl3 := Ja HL1 (w1.alloc (.cells #[.nilFunc] 137)) w.heap.size (World.ownsMap.alloc (by exact ho) _); have HB := hide hb; obtain ⟨hc, hf⟩ := Jr hb; have hs := hb.size; (try simp at hs); (try have hs2 : w.heap.size < w1.heap.size := by omega); clear ho hb) | (go_at_call 72; refine (Z2 _).mono ?_; rintro e w1 ⟨rfl, ho, hb⟩; have hl : (Instr.lookup 138 (.map (some (w.heap.size + 1))) (.string (t.extract 1 t.size)) false).run Tryz.prog w1 = .ok (.func (.func h) #[] #[]) w1 := (by have := Ja HL1 _ _ ho; simpa [World.drew] using this); have HB := hide hb; obtain ⟨hc, hf⟩ := Jr hb; have hs := hb.size; (try simp at hs); (try have hs2 : w.heap.size < w1.heap.size := by omega); clear ho hb))
    all_goals go_wp2_with fail
    all_goals go_meet
    all_goals first
      | exact ⟨w1.heap.size, rfl, (World.cell?_alloc_at _ _ _ _ rfl).trans rfl, by simp, (Jk (Ja HB)).alloc (Jk (Ja HB)).size _⟩
      | exact ⟨w.heap.size, rfl, World.cell?_setCell_same _ _ _ (u := .nilFunc) ((hc w.heap.size 0 (by simp)).trans ((World.cell?_alloc_at _ _ _ _ rfl).trans rfl)), by simp; omega, ((((Below.refl w.heap.size w).alloc (Nat.le_refl _) _).drew.trans ((Ja HB).mono (by simp))).setCell (p := ⟨w.heap.size, 0, none⟩) (Nat.le_refl _) _)⟩
      | (trace_state; fail)
  case rest =>
    obtain ⟨b3, rfl, c3, l3, hb3⟩ := hcut
    rename World => wc
    have HB3 := hide hb3
    clear hb3
    go_upto_region 4 with fail
    go_cut [4] from 14 to 17 (fun v4 wx => ∃ b4, v4 = .pointer (some ⟨b4, 0, none⟩) ∧ wx.cell? ⟨b4, 0, none⟩ = some (.func (.func g) #[] #[]) ∧ wx.cell? ⟨b4, 1, none⟩ = some (.int .i64 z) ∧ b4 < wx.heap.size ∧ Below wc.heap.size wc wx)
    case first =>
      go_region_with (first | (go_at_call 74; refine (Zn _).mono ?_; rintro e w1 ⟨rfl, ho, hb⟩; have hl := Ja HL2 _ wc.heap.size (by exact ho); have hl3 := Ja HL2 (w1.alloc (.cells #[.nilFunc, .int .i64 0] 143)) wc.heap.size (World.ownsMap.alloc (by exact ho) _); have HB := hide hb; obtain ⟨hc, hf⟩ := Jr hb; have hs := hb.size; (try simp at hs); (try have hs2 : wc.heap.size < w1.heap.size := by omega); clear ho hb) | (go_at_call 74; refine (Zn _).mono ?_; rintro e w1 ⟨rfl, ho, hb⟩; have hl : (Instr.lookup 144 (.map (some (wc.heap.size + 1))) (.string (t.extract 0 1)) false).run Tryz.prog w1 = .ok (.agg #[.func (.func g) #[] #[], .int .i64 z]) w1 := (by have := Ja HL2 _ _ ho; simpa [World.drew] using this); have HB := hide hb; obtain ⟨hc, hf⟩ := Jr hb; have hs := hb.size; (try simp at hs); (try have hs2 : wc.heap.size < w1.heap.size := by omega); clear ho hb))
      all_goals go_wp2_with fail
      all_goals go_meet
      all_goals first
        | exact ⟨w1.heap.size, rfl, (World.cell?_alloc_at _ _ _ _ rfl).trans rfl, (World.cell?_alloc_at _ _ _ _ rfl).trans rfl, by simp, (Jk (Ja HB)).alloc (Jk (Ja HB)).size _⟩
        | exact ⟨wc.heap.size, rfl, (World.cell?_setCell_other _ _ _ _ (by simp)).trans (World.cell?_setCell_same _ _ _ (u := .nilFunc) ((hc wc.heap.size 0 (by simp)).trans ((World.cell?_alloc_at _ _ _ _ rfl).trans rfl))), World.cell?_setCell_same _ _ _ (u := .int .i64 0) ((World.cell?_setCell_other _ _ _ _ (by simp)).trans ((hc wc.heap.size 1 (by simp)).trans ((World.cell?_alloc_at _ _ _ _ rfl).trans rfl))), by simp; omega, (((((Below.refl wc.heap.size wc).alloc (Nat.le_refl _) _).drew.trans ((Ja HB).mono (by simp))).setCell (p := ⟨wc.heap.size, 0, none⟩) (Nat.le_refl _) _).setCell (p := ⟨wc.heap.size, 1, none⟩) (Nat.le_refl _) _)⟩
        | (trace_state; fail)
    case rest =>
      obtain ⟨b4, rfl, c4, c5, l4, hb4⟩ := hcut
      rename World => wd
      have HB4 := hide hb4
      clear hb4
      go_wp2_with fail
      exact bodyPost_ret (v := .func (.func 75) #[] #[.pointer (some ⟨b3, 0, none⟩), .pointer (some ⟨b4, 0, none⟩)]) (by simp [results, Tryz.results47, go_sem]) rfl ⟨b3, b4, rfl, ((Ja HB4).cell (p := ⟨b3, 0, none⟩) l3).trans c3, Nat.lt_of_lt_of_le l3 (Ja HB4).size, c4, c5, l4, (Ja HB3).trans ((Ja HB4).mono (Ja HB3).size)⟩
end Go.Proofs.YtjobgpahajhbnabGreatDoor
namespace Go.Proofs.YtjobgpahajhbnabGreatDoor
open Go.RowKit Go.Proofs
theorem Jo {F : Int → Int → Int × Int} (hf : ∀ x y, Jg x → Jg y → Jg (F x y).1) : Evens (Je F) where
  ok := fun a b ha hb h => (Y5 hf ha hb).2 h
  shape := fun a b ha hb hs h0 => by
    unfold Je at h0 ⊢
    have hz : ∀ {sh : List Nat} {xs ys : List Int}, (zipA F sh xs ys).2 = 0 → (zipA F sh xs ys).1.shape = sh := by
      intro sh xs ys h
      unfold zipA at h ⊢
      cases hc : zipF F xs ys with
      | inl e => rw [hc] at h; exact absurd h (Fb hc)
      | inr l => rfl
    split
    · rename_i h1
      rw [if_pos h1] at h0
      rw [hz h0, ← hs]
    · rename_i h1
      rw [if_neg h1] at h0
      split
      · rename_i h2
        exact absurd (hs.trans h2) h1
      · rename_i h2
        rw [if_neg h2, if_neg (by simp [hs]), if_neg (by simp [hs])] at h0
        rw [if_neg (by simp [hs]), if_neg (by simp [hs]), hz h0]
end Go.Proofs.YtjobgpahajhbnabGreatDoor
namespace Go.Proofs.YtjobgpahajhbnabGreatDoor
open Go.RowKit Go.Proofs Go.Maps
attribute [local go_sem ↓] Go.wp_at_zero Go.wp_at_succ
theorem Jhu {h g : Nat} {z : Int} (hh : Enters Tryz.prog h) {F : Arr → Arr × Int} {w' : World} (hF : ∀ (P : Nat → Prop) (W : World), Below w'.heap.size w' W → (∀ b, W.heap.size ≤ b → P b) → ∀ (so : Option Addr) (sn sc : Nat) (co : Option Addr) (cn cc : Nat) (a : Arr), IsArr P W (.agg #[.slice so sn sc, .slice co cn cc]) a → a.ok → Calls Tryz.prog h #[.agg #[.slice so sn sc, .slice co cn cc], .agg #[.func (.func g) #[] #[], .int .i64 z]] W fun e W' => ∃ so sn sc co cn cc, e = .returned (.tuple #[.agg #[.slice so sn sc, .slice co cn cc], .int .i64 (F a).2]) ∧ IsArr P W' (.agg #[.slice so sn sc, .slice co cn cc]) (F a).1 ∧ Below W.heap.size W W')
    {b3 b4 : Nat} (c3 : w'.cell? ⟨b3, 0, none⟩ = some (.func (.func h) #[] #[])) (l3 : b3 < w'.heap.size) (c4 : w'.cell? ⟨b4, 0, none⟩ = some (.func (.func g) #[] #[])) (c5 : w'.cell? ⟨b4, 1, none⟩ = some (.int .i64 z)) (l4 : b4 < w'.heap.size) : FnOne 75 #[.pointer (some ⟨b3, 0, none⟩), .pointer (some ⟨b4, 0, none⟩)] w' F := by
  intro W P v a hW hP hA hok
  have hA0 := hA
  obtain ⟨so, sn, sc, co, cn, cc, rfl, _, _⟩ := hA0
  show Calls Tryz.prog 75 #[.agg #[.slice so sn sc, .slice co cn cc], .pointer (some ⟨b3, 0, none⟩), .pointer (some ⟨b4, 0, none⟩)] W _
  have d3 := (hW.cell (p := ⟨b3, 0, none⟩) l3).trans c3
  have d4 := (hW.cell (p := ⟨b4, 0, none⟩) l4).trans c4
  have d5 := (hW.cell (p := ⟨b4, 1, none⟩) l4).trans c5
  have hsz := hW.size
  have k3 : b3 < W.heap.size := by omega
  have k4 : b4 < W.heap.size := by omega
  have hen2 : ∀ args w, (callFunc h args).run Tryz.prog w = .ok (.enter h args) w := hh
  have hst : Bx W ((W.alloc (.cells #[.slice so sn sc, .slice co cn cc] 57)).alloc (.cells #[.slice none 0 0, .slice none 0 0] 57)) [[.slice so sn sc, .slice co cn cc], [.slice none 0 0, .slice none 0 0]] := ((Bx.nil W).alloc (by simp) [.slice so sn sc, .slice co cn cc] 57).alloc (by simp) [.slice none 0 0, .slice none 0 0] 57
  have HST := hide hst
  have HC := hide (hF (OffB W.heap.size 2 P) _ (hW.trans (hst.below.mono hsz)) (fun b hb => OffB.new hP (by have := hst.lt; simp at hb; omega)) so sn sc co cn cc a ((hA.imp (Q := OffB W.heap.size 2 P) (fun b h hl => ⟨h, Or.inl hl⟩)).below hst.below) hok)
  clear hst hA hok hP hF hh c3 l3 c4 c5 l4 hW hsz
  go_enter Tryz.func75, Tryz.ntmps75
  go_wp2_with (go_at_fn h; refine (Ja HC).mono ?_)
  rintro e w2 ⟨s4, s5, s6, c4, c5, c6, rfl, hA5, hb5⟩
  have HX := hide ((Ja HST).next hb5)
  have HA5 := hide hA5
  clear hA5 hb5 HST HC d3 d4 d5
  have r0 : w2.cell? ⟨W.heap.size + 1, 0, none⟩ = some (.slice none 0 0) := ((Ja HX).cell 1 0 _ rfl).1
  have r1 : w2.cell? ⟨W.heap.size + 1, 1, none⟩ = some (.slice none 0 0) := ((Ja HX).cell 1 1 _ rfl).1
  have g0 : w2.frozen? ⟨W.heap.size + 1, 0, none⟩ = false := ((Ja HX).cell 1 0 _ rfl).2
  have g1 : w2.frozen? ⟨W.heap.size + 1, 1, none⟩ = false := ((Ja HX).cell 1 1 _ rfl).2
  go_wp2_with fail
  have hf2 := Yd (q := 1) (u0 := .slice s4 s5 s6) (u1 := .slice c4 c5 c6) (Ja HX).below (by decide) (Ja HA5)
  exact bodyPost_ret (v := .tuple #[.agg #[.slice s4 s5 s6, .slice c4 c5 c6], .int .i64 (F a).2]) (by simp [results, Tryz.results75, go_sem, r0, r1]) rfl ⟨_, _, _, _, _, _, rfl, hf2.1, hf2.2⟩
theorem Tryz.enters75 : Enters Tryz.prog 75 := Go.Proofs.enters_of Tryz.func75 (by decide) rfl
theorem Tryz.enters97 : Enters Tryz.prog 97 := Go.Proofs.enters_of Tryz.func97 (by decide) rfl
theorem Tryz.enters98 : Enters Tryz.prog 98 := Go.Proofs.enters_of Tryz.func98 (by decide) rfl
theorem Q0 {t : ByteArray} {ks : Lit} {g : Nat} {z : Int} {f : Arr → Arr → Arr × Int} (h1 : 1 ≤ t.size) (hk1 : keyOf Tryz.prog 9 (.string (t.extract 1 t.size)) = some (.string [47])) (hks : keyOf Tryz.prog 9 (.string (t.extract 0 1)) = some ks) (has : signsD.atKey ks (.held Jdg) = .held (.agg #[.func (.func g) #[] #[], .int .i64 z])) (hen : Enters Tryz.prog g) (hfn : ∀ w, FnTwo g #[] w f) (hev : Evens f) (hz : Jg z) : OneC t (Yr f z) where
  finds := fun w => (Jan h1 hk1 (show formsOneD.atKey (.string [47]) (.held .nilFunc) = .held (.func (.func 97) #[] #[]) by kernel_rfl) hks has w).mono (by
    rintro e w' ⟨b3, b4, rfl, c3, l3, c4, c5, l4, hb⟩
    exact ⟨75, _, rfl, Tryz.enters75, hb, Jhu Tryz.enters97 (fun P W hW hP so sn sc co cn cc a ha hok => Jks z hen (hfn w') hev P W hW hP so sn sc co cn cc a ha hok) c3 l3 c4 c5 l4⟩)
  ok := fun a ha => Jmu hev hz ha
theorem Qp {t : ByteArray} {ks : Lit} {g : Nat} {z : Int} {f : Arr → Arr → Arr × Int} (h1 : 1 ≤ t.size) (hk1 : keyOf Tryz.prog 9 (.string (t.extract 1 t.size)) = some (.string [92])) (hks : keyOf Tryz.prog 9 (.string (t.extract 0 1)) = some ks) (has : signsD.atKey ks (.held Jdg) = .held (.agg #[.func (.func g) #[] #[], .int .i64 z])) (hen : Enters Tryz.prog g) (hfn : ∀ w, FnTwo g #[] w f) (hev : Evens f) : OneC t (Yt f) where
  finds := fun w => (Jan h1 hk1 (show formsOneD.atKey (.string [92]) (.held .nilFunc) = .held (.func (.func 98) #[] #[]) by kernel_rfl) hks has w).mono (by
    rintro e w' ⟨b3, b4, rfl, c3, l3, c4, c5, l4, hb⟩
    exact ⟨75, _, rfl, Tryz.enters75, hb, Jhu Tryz.enters98 (fun P W hW hP so sn sc co cn cc a ha hok => Ji8 z hen (hfn w') hev P W hW hP so sn sc co cn cc a ha hok) c3 l3 c4 c5 l4⟩)
  ok := fun a ha => Jl2 hev ha
theorem Jl1 : OneC ⟨#[43, 47]⟩ (Yr (Je Qr) 0) := Q0 (by decide) (by kernel_rfl) (ks := .string [43]) (by kernel_rfl) (by kernel_rfl) Tryz.enters110 Fp (Jo plus_rule.fits) (by unfold Jg; omega)
theorem Jnb : OneC ⟨#[45, 47]⟩ (Yr (Je Zz) 0) := Q0 (by decide) (by kernel_rfl) (ks := .string [45]) (by kernel_rfl) (by kernel_rfl) Tryz.enters111 V3 (Jo minus_rule.fits) (by unfold Jg; omega)
theorem Jjn : OneC ⟨#[42, 47]⟩ (Yr (Je Zw) 1) := Q0 (by decide) (by kernel_rfl) (ks := .string [42]) (by kernel_rfl) (by kernel_rfl) Tryz.enters112 Vz (Jo times_rule.fits) (by unfold Jg; omega)
theorem Jjm : OneC ⟨#[37, 47]⟩ (Yr (Je Y6) 1) := Q0 (by decide) (by kernel_rfl) (ks := .string [37]) (by kernel_rfl) (by kernel_rfl) Tryz.enters113 Fs (Jo over_rule.fits) (by unfold Jg; omega)
theorem Jf4 : OneC ⟨#[124, 47]⟩ (Yr (Je Kr) 0) := Q0 (by decide) (by kernel_rfl) (ks := .string [124]) (by kernel_rfl) (by kernel_rfl) Tryz.enters114 Fl (Jo rest_rule.fits) (by unfold Jg; omega)
theorem Jhe : OneC ⟨#[38, 47]⟩ (Yr (Je Y7) 9223372036854775807) := Q0 (by decide) (by kernel_rfl) (ks := .string [38]) (by kernel_rfl) (by kernel_rfl) Tryz.enters115 Qv (Jo lesser_rule.fits) (by unfold Jg; omega)
theorem Jj3 : OneC ⟨#[33, 47]⟩ (Yr (Je Yj) (-9223372036854775808)) := Q0 (by decide) (by kernel_rfl) (ks := .string [33]) (by kernel_rfl) (by kernel_rfl) Tryz.enters116 Qb (Jo greater_rule.fits) (by unfold Jg; omega)
theorem Jfv : OneC ⟨#[61, 47]⟩ (Yr (Je Qq) 1) := Q0 (by decide) (by kernel_rfl) (ks := .string [61]) (by kernel_rfl) (by kernel_rfl) Tryz.enters117 Fi (Jo same_rule.fits) (by unfold Jg; omega)
theorem Jer : OneC ⟨#[60, 47]⟩ (Yr (Je Z4) 0) := Q0 (by decide) (by kernel_rfl) (ks := .string [60]) (by kernel_rfl) (by kernel_rfl) Tryz.enters118 Xa (Jo below_rule.fits) (by unfold Jg; omega)
end Go.Proofs.YtjobgpahajhbnabGreatDoor
