import Derived.Test.YtjobgpahajhbnaaGreatDoorCf
import Derived.Test.YtjobgpahajhbnaaGreatDoorTe
import Derived.Deep.CutRange
import Derived.Test.YtjobgpahajhbnaaGreatDoorGg
import Derived.Test.YtjobgpahajhbnaaGreatDoorTd
import Derived.Test.YtjobgpahajhbnaaGreatDoorJc
namespace Go.Proofs.YtjobgpahajhbnaaGreatDoor
open Go.RowKit Go.Proofs
attribute [local go_sem ↓] Go.wp_at_zero Go.wp_at_succ

/-- block g holds these numbers -/
structure Rw (w : World) (g : Nat) (xs : List Int) : Prop where
  lt : g < w.heap.size
  cell : ∀ p x, xs[p]? = some x → w.cell? ⟨g, p, none⟩ = some (.int .i64 x)
  fr : ∀ p, w.frozen? ⟨g, p, none⟩ = false
theorem Rw.below {w w' : World} {g : Nat} {xs : List Int} (h : Rw w g xs) (hb : Below w.heap.size w w') : Rw w' g xs :=
  ⟨Nat.lt_of_lt_of_le h.lt hb.size, fun p x hp => (hb.cell (p := ⟨g, p, none⟩) h.lt).trans (h.cell p x hp), fun p => (hb.frozen (p := ⟨g, p, none⟩) h.lt).trans (h.fr p)⟩
theorem Rw.set {w : World} {g : Nat} {xs : List Int} (h : Rw w g xs) {p : Nat} (hp : p < xs.length) (x : Int) : Rw (w.setCell ⟨g, p, none⟩ (.int .i64 x)) g (xs.set p x) := by
  refine ⟨by simpa using h.lt, fun q y hq => ?_, fun q => (World.frozen?_setCell ..).trans (h.fr q)⟩
  by_cases e : q = p
  · subst e
    rw [List.getElem?_set_self hp] at hq
    rw [← Option.some.inj hq]
    exact World.cell?_setCell_same _ _ _ (h.cell q _ (List.getElem?_eq_getElem hp))
  · rw [World.cell?_setCell_other _ _ _ _ (by intro h; injection h with _ e2; exact e e2.symm)]
    rw [List.getElem?_set_ne (fun h => e h.symm)] at hq
    exact h.cell q y hq
theorem Rw.nums {P : Nat → Prop} {w : World} {g : Nat} {xs : List Int} (h : Rw w g xs) (hP : P g) {n : Nat} (hn : xs.length = n) : Nums P w (.slice (some ⟨g, 0, none⟩) n n) xs := by
  subst hn
  exact ⟨_, _, rfl, Nat.le_refl _, fun _ => ⟨g, 0, rfl, hP, h.lt, fun i hi => by rw [Nat.zero_add]; exact h.cell i _ (List.getElem?_eq_getElem hi)⟩, fun a e => by cases e; rfl⟩
theorem Cols.keep {Q : Nat → Prop} {w w' : World} {gb g : Nat} {cs : List Arr} (h : Cols Q w gb cs) (hg : gb < w.heap.size) (hne : gb ≠ g) (hb : Bs (fun b => b = g) w w') (hq : ∀ b, Q b → b ≠ g) : Cols Q w' gb cs := fun i hi => by
  obtain ⟨so, sn, sc, co, cn, cc, a, b, c⟩ := h i hi
  exact ⟨so, sn, sc, co, cn, cc, (hb.cell hg hne).trans a, (hb.cell hg hne).trans b, c.keep hb.size (fun b hb' hl => hb.block b hl (hq b hb'))⟩
theorem Bx.bs {W w w' : World} {l : List (List Value)} {g : Nat} (h : Bx W w l) (hb : Bs (fun b => b = g) w w') (hg : W.heap.size + l.length ≤ g) : Bx W w' l :=
  h.keep ⟨hb.os, hb.tape, hb.output, hb.size, fun k hk => by have hk : k < W.heap.size + l.length := hk; exact hb.block k (Nat.lt_of_lt_of_le hk h.lt) (fun (e : k = g) => by omega)⟩
theorem bs_set {g p : Nat} {w w1 : World} (h : Bs (fun b => b = g) w w1) (v : Value) : Bs (fun b => b = g) w (w1.setCell ⟨g, p, none⟩ v) :=
  ⟨h.os, h.tape, h.output, by simpa using h.size, fun k hk hne => (RowKit.Below.heap_setCell _ _ _ _ (by intro e; exact hne e)).trans (h.block k hk hne)⟩
theorem put_two {w : World} {b : Nat} {u0 u1 : Value} (h0 : w.cell? ⟨b, 0, none⟩ = some u0) (h1 : w.cell? ⟨b, 1, none⟩ = some u1) (v0 v1 : Value) : ((w.setCell ⟨b, 0, none⟩ v0).setCell ⟨b, 1, none⟩ v1).cell? ⟨b, 0, none⟩ = some v0 ∧ ((w.setCell ⟨b, 0, none⟩ v0).setCell ⟨b, 1, none⟩ v1).cell? ⟨b, 1, none⟩ = some v1 :=
  ⟨(World.cell?_setCell_other _ _ _ _ (by simp)).trans (World.cell?_setCell_same _ _ _ h0), World.cell?_setCell_same _ _ _ (u := u1) ((World.cell?_setCell_other _ _ _ _ (by simp)).trans h1)⟩
/-- .. i columns are done, and j rows of the next -/
def scanJ (f : Arr → Arr → Arr × Int) (cs : List Arr) (m n i j : Nat) : List Int := (List.range (m * n)).map fun p => if p % n < i ∨ (p % n = i ∧ p / n < j) then (chainL f (cs.take (p % n + 1))).1.cells.getD (p / n) 0 else 0
theorem scanJ_len (f : Arr → Arr → Arr × Int) (cs : List Arr) (m n i j : Nat) : (scanJ f cs m n i j).length = m * n := by simp [scanJ]
theorem scanC_len (f : Arr → Arr → Arr × Int) (cs : List Arr) (m n i : Nat) : (scanC f cs m n i).length = m * n := by simp [scanC]
theorem scanC_zero (f : Arr → Arr → Arr × Int) (cs : List Arr) (m n : Nat) : scanC f cs m n 0 = List.replicate (m * n) 0 := by
  simp [scanC, List.map_const']
theorem scanJ_zero (f : Arr → Arr → Arr × Int) (cs : List Arr) (m n i : Nat) : scanJ f cs m n i 0 = scanC f cs m n i := by
  unfold scanJ scanC
  apply List.map_congr_left
  intro p _
  simp
theorem scanJ_all (f : Arr → Arr → Arr × Int) (cs : List Arr) (m n i : Nat) : scanJ f cs m n i m = scanC f cs m n (i + 1) := by
  unfold scanJ scanC
  apply List.map_congr_left
  intro p hp
  have hp : p < m * n := by simpa using hp
  have hd : p / n < m := by
    rcases Nat.eq_zero_or_pos n with e | e
    · subst e; omega
    · exact Nat.div_lt_of_lt_mul (by rw [Nat.mul_comm]; exact hp)
  by_cases h : p % n < i + 1
  · rw [if_pos h, if_pos (by omega)]
  · rw [if_neg h, if_neg (by omega)]
theorem scanJ_set {f : Arr → Arr → Arr × Int} {cs : List Arr} {m n i j : Nat} (hi : i < n) (_hj : j < m) : (scanJ f cs m n i j).set (j * n + i) ((chainL f (cs.take (i + 1))).1.cells.getD j 0) = scanJ f cs m n i (j + 1) := by
  have hmod : (j * n + i) % n = i := by rw [Nat.add_comm, Nat.add_mul_mod_self_right, Nat.mod_eq_of_lt hi]
  have hdiv : (j * n + i) / n = j := by rw [Nat.add_comm, Nat.add_mul_div_right _ _ (by omega), Nat.div_eq_of_lt hi, Nat.zero_add]
  apply List.ext_getElem
  · simp [scanJ]
  · intro p h1 h2
    simp only [scanJ, List.getElem_set, List.getElem_map, List.getElem_range]
    by_cases e : j * n + i = p
    · subst e
      rw [if_pos rfl, hmod, hdiv, if_pos (by omega)]
    · rw [if_neg e]
      have hne : ¬ (p % n = i ∧ p / n = j) := by
        rintro ⟨h3, h4⟩
        have := Nat.div_add_mod p n
        rw [h3, h4, Nat.mul_comm] at this
        exact e this
      by_cases h : p % n < i ∨ (p % n = i ∧ p / n < j)
      · rw [if_pos h, if_pos (by omega)]
      · rw [if_neg h, if_neg (by omega)]
set_option maxHeartbeats 8000000 in
set_option maxRecDepth 20000 in
theorem scan_any {f : Arr → Arr → Arr × Int} {g : Nat} (z : Int) (hen : Enters Tryz.prog g) {w0 : World} (hfn : FnTwo g #[] w0 f) (hev : Evens f) (P : Nat → Prop) (W : World) (hW : Below w0.heap.size w0 W) (hP : ∀ b, W.heap.size ≤ b → P b) (so : Option Addr) (sn sc : Nat) (co : Option Addr) (cn cc : Nat) (a : Arr) (ha : IsArr P W (.agg #[.slice so sn sc, .slice co cn cc]) a) (hok : a.ok) :
    Calls Tryz.prog 178 #[.agg #[.slice so sn sc, .slice co cn cc], .agg #[.func (.func g) #[] #[], .int .i64 z]] W fun e W' => ∃ so sn sc co cn cc, e = .returned (.tuple #[.agg #[.slice so sn sc, .slice co cn cc], .int .i64 (scanP f a).2]) ∧ IsArr P W' (.agg #[.slice so sn sc, .slice co cn cc]) (scanP f a).1 ∧ Below W.heap.size W W' := by
  have hsn := (isArr_len ha).2
  have hcn := (isArr_len ha).1
  have hst : Bx W (((W.alloc (.cells #[.slice so sn sc, .slice co cn cc] 89)).alloc (.cells #[.func (.func g) #[] #[], .int .i64 z] 241)).alloc (.cells #[.slice none 0 0, .slice none 0 0] 89)) [[.slice so sn sc, .slice co cn cc], [.func (.func g) #[] #[], .int .i64 z], [.slice none 0 0, .slice none 0 0]] := (((Bx.nil W).alloc (by simp) [.slice so sn sc, .slice co cn cc] 89).alloc (by simp) [.func (.func g) #[] #[], .int .i64 z] 241).alloc (by simp) [.slice none 0 0, .slice none 0 0] 89
  have HST := hide hst
  have HA := hide ha
  have HP := hide hP
  have HFn := hide hfn
  have HEv := hide hev
  have HW := hide hW
  have HEn := hide hen
  have HOK := hide hok
  have HSN := hide hsn
  have HCN := hide hcn
  clear hst ha hP hfn hev hW hen hok hsn hcn
  by_cases h0 : sn = 0
  · have e0 : ((sn : Int) == 0) = true := by simpa using h0
    have HR : Hid (scanP f a = (a, 0)) := hide (by unfold scanP; rw [if_pos (by have := unhide HSN; omega)])
    clear h0
    go_enter Tryz.func178, Tryz.ntmps178
    go_wp2_with fail
    refine (isScalar_any _ so sn sc co cn cc).mono ?_
    rintro e w' ⟨rfl, hw'⟩
    have HX : Hid (Bx W w' [[.slice so sn sc, .slice co cn cc], [.func (.func g) #[] #[], .int .i64 z], [.slice none 0 0, .slice none 0 0]]) := hide ((unhide HST).next (by rw [hw']; exact ((Below.refl _ _).alloc (Nat.le_refl _) _).alloc (by simp) _))
    clear hw' HST
    have b0 : w'.cell? ⟨W.heap.size, 0, none⟩ = some (.slice so sn sc) := ((unhide HX).cell 0 0 _ rfl).1
    have b1 : w'.cell? ⟨W.heap.size, 1, none⟩ = some (.slice co cn cc) := ((unhide HX).cell 0 1 _ rfl).1
    have r0 : w'.cell? ⟨W.heap.size + 1 + 1, 0, none⟩ = some (.slice none 0 0) := ((unhide HX).cell 2 0 _ rfl).1
    have r1 : w'.cell? ⟨W.heap.size + 1 + 1, 1, none⟩ = some (.slice none 0 0) := ((unhide HX).cell 2 1 _ rfl).1
    have g0 : w'.frozen? ⟨W.heap.size + 1 + 1, 0, none⟩ = false := ((unhide HX).cell 2 0 _ rfl).2
    have g1 : w'.frozen? ⟨W.heap.size + 1 + 1, 1, none⟩ = false := ((unhide HX).cell 2 1 _ rfl).2
    go_wp2_with fail
    have hf2 := fin_bx (q := 2) (k := 3) (P := P) (u0 := .slice so sn sc) (u1 := .slice co cn cc) (unhide HX).below (by decide) (((unhide HA).imp (fun b h hl => ⟨h, Or.inl hl⟩)).below (unhide HX).below)
    refine bodyPost_ret (v := .tuple #[.agg #[.slice so sn sc, .slice co cn cc], .int .i64 0]) (by simp [results, Tryz.results178, go_sem, r0, r1]) rfl ⟨so, sn, sc, co, cn, cc, by rw [unhide HR], by rw [unhide HR]; exact hf2.1, hf2.2⟩
  · have e0 : ((sn : Int) == 0) = false := beq_false_of_ne (by omega)
    have hr : a.shape.length ≠ 0 := by have := unhide HSN; omega
    have HR0 := hide hr
    obtain ⟨i0, hi, hz0, hz1, hz2⟩ := info_parts Tryz.info2
    have HI := hide hi
    have HZ0 := hide hz0
    have HZ1 := hide hz1
    have HZ2 := hide hz2
    obtain ⟨n, hn⟩ : ∃ n, lastN a.shape = n := ⟨_, rfl⟩
    obtain ⟨m, hm⟩ : ∃ m, prodL a.shape.dropLast = m := ⟨_, rfl⟩
    have hsz := arr_size (unhide HOK) hr
    rw [hn, hm] at hsz
    have hcm : cn = m * n := by rw [unhide HCN, hsz]
    have hcn2 : cn ≤ 200 := by have := (unhide HOK).few; have := unhide HCN; omega
    have hn200 : n ≤ 200 := by
      have h1 := last_split hr
      rw [hn] at h1
      exact (unhide HOK).lens n (by rw [h1]; simp)
    have HN := hide hn
    have HMm := hide hm
    have HCM := hide hcm
    clear h0 hr hi hz0 hz1 hz2 hn hm hsz hcm
    go_enter Tryz.func178, Tryz.ntmps178
    go_wp2_with fail
    refine (isScalar_any _ so sn sc co cn cc).mono ?_
    rintro e w1 ⟨rfl, hw'⟩
    have HX : Hid (Bx W w1 [[.slice so sn sc, .slice co cn cc], [.func (.func g) #[] #[], .int .i64 z], [.slice none 0 0, .slice none 0 0]]) := hide ((unhide HST).next (by rw [hw']; exact ((Below.refl _ _).alloc (Nat.le_refl _) _).alloc (by simp) _))
    clear hw' HST
    have b0 : w1.cell? ⟨W.heap.size, 0, none⟩ = some (.slice so sn sc) := ((unhide HX).cell 0 0 _ rfl).1
    have b1 : w1.cell? ⟨W.heap.size, 1, none⟩ = some (.slice co cn cc) := ((unhide HX).cell 0 1 _ rfl).1
    go_wp2_with fail
    refine (size_any _ so sn sc co cn cc).mono ?_
    rintro e w2 ⟨rfl, hw2⟩
    have HX2 : Hid (Bx W w2 [[.slice so sn sc, .slice co cn cc], [.func (.func g) #[] #[], .int .i64 z], [.slice none 0 0, .slice none 0 0]]) := hide ((unhide HX).next (by rw [hw2]; exact (Below.refl _ _).alloc (Nat.le_refl _) _))
    clear hw2 HX b0 b1
    go_wp2_with (at_make; refine wpList_make_full _ rfl _ _ 32 rfl w2.heap.size 2 i0 (.int .i64 0) 1 Tryz.underlying32 (unhide HI) (unhide HZ0) (unhide HZ1) .i64 .i64 cn cn cn rfl rfl rfl rfl ?c1 ?c2 (Nat.le_refl _) ?_)
    case c1 => rw [unhide HZ2]; omega
    case c2 => unfold maxLen; omega
    intro w3 hown hg
    have hown : w3.ownsRow w2.heap.size 2 1 (.slice (some ⟨w2.heap.size, 0, none⟩) cn cn) cn (List.replicate cn (.int .i64 0)) := by
      have := toList_madeCells_one (.int .i64 0) (cn * 1)
      rw [Nat.mul_one] at this
      rw [← this]
      simpa using hown
    have hb3 : Below w2.heap.size w2 w3 := (Below.refl _ _).grown hg (Nat.le_refl _) (fun _ h => by cases h)
    have hlt3 : w2.heap.size < w3.heap.size := hown.lt w2.heap.size rfl |>.2
    have hcl : ∀ p x, (scanC f (cols a) m n 0)[p]? = some x → w3.cell? ⟨w2.heap.size, p, none⟩ = some (.int .i64 x) := by
      intro p x hp
      rw [scanC_zero, ← unhide HCM, List.getElem?_replicate] at hp
      split at hp
      · rename_i hpl
        have h1 := hown.cellAt p (by simpa using hpl)
        rw [List.getElem?_replicate, if_pos hpl] at h1
        rw [← Option.some.inj hp]
        exact h1
      · cases hp
    have HRw : Hid (Rw w3 w2.heap.size (scanC f (cols a) m n 0)) := hide ⟨hlt3, hcl, fun p => hown.frozenAt p⟩
    have HX3 := hide ((unhide HX2).next hb3)
    have hgk : W.heap.size + 3 ≤ w2.heap.size := (unhide HX2).lt
    obtain ⟨gk, hgke⟩ : ∃ gk, w2.heap.size = gk := ⟨_, rfl⟩
    rw [hgke] at HRw hgk hlt3 ⊢
    clear hown hg hb3 HX2 hgke HI HZ0 HZ1 HZ2 hcl
    have HCol := hide (columns_any (OffG W.heap.size gk P) w3 (fun b hb => ⟨unhide HP b (by omega), Or.inr (by omega)⟩) _ _ _ _ _ _ a (((unhide HA).imp (fun b h hl => ⟨h, Or.inl hl⟩)).below (unhide HX3).below) (unhide HOK) (unhide HR0))
    have b0 : w3.cell? ⟨W.heap.size, 0, none⟩ = some (.slice so sn sc) := ((unhide HX3).cell 0 0 _ rfl).1
    have b1 : w3.cell? ⟨W.heap.size, 1, none⟩ = some (.slice co cn cc) := ((unhide HX3).cell 0 1 _ rfl).1
    go_wp2_with fail
    refine (unhide HCol).mono ?_
    rintro e w4 ⟨gc, rfl, hg1, hg2, hC, hb4⟩
    rw [unhide HN]
    have HX4 := hide ((unhide HX3).next hb4)
    have HC := hide hC
    have HRw4 := hide ((unhide HRw).below hb4)
    have hgc : gk < gc := by omega
    have hgk4 : gk < w4.heap.size := by omega
    clear hC hb4 HX3 HCol b0 b1 HRw hlt3 hg1
    go_wp2_with fail
    go_loopw [23] (fun v23 wr => ∃ i : Nat, v23 = .int .i64 i ∧ i ≤ n ∧ Hid (scanE f (cols a) i = 0) ∧ Bs (fun b => b = gk) w4 wr ∧ Rw wr gk (scanC f (cols a) m n i)) (fun v23 _ => n - (intOf v23).toNat)
    case atStart => exact ⟨0, rfl, by omega, hide rfl, Bs.of (Below.refl _ _), unhide HRw4⟩
    case round =>
      obtain ⟨i, rfl, hin, hE, hbs, hrw⟩ := hrel
      rename World => wr
      have HX5 := hide ((unhide HX4).bs hbs (by simpa using hgk))
      have HBs := hide hbs
      have HRw5 := hide hrw
      have hszr := hbs.size
      have hlt5 := (unhide HX5).lt
      simp at hlt5
      by_cases hil : i < n
      · have s0 : wr.cell? ⟨W.heap.size + 1, 0, none⟩ = some (.func (.func g) #[] #[]) := ((unhide HX5).cell 1 0 _ rfl).1
        have s1 : wr.cell? ⟨W.heap.size + 1, 1, none⟩ = some (.int .i64 z) := ((unhide HX5).cell 1 1 _ rfl).1
        have hCr : Cols (OffG W.heap.size gk P) wr gc ((cols a).take (i + 1)) := ((unhide HC).keep hg2 (by omega) hbs (fun b hb e => by subst e; rcases hb.2 with h | h <;> omega)).take _
        have hlen : ((cols a).take (i + 1)).length = i + 1 := by rw [List.length_take, cols_len, unhide HN]; omega
        have hmem := take_mem_ok (unhide HOK) (unhide HR0) (k := i + 1)
        have hWr : Below W.heap.size W wr := (unhide HX5).below
        have hgcr : gc < wr.heap.size := by omega
        have hbA : Below wr.heap.size wr (wr.alloc (.cells #[.slice none 0 0, .slice none 0 0] 89)).drew := ((Below.refl _ _).alloc (Nat.le_refl _) _).drew
        have hbB : Below wr.heap.size wr wr.drew := (Below.refl _ _).drew
        have HChA := hide (chain_any z (unhide HEn) (unhide HFn) (fun b => OffG W.heap.size gk P b ∧ b ≠ wr.heap.size) (wr.alloc (.cells #[.slice none 0 0, .slice none 0 0] 89)).drew ((unhide HW).trans ((hWr.trans (hbA.mono hWr.size)).mono (unhide HW).size)) (fun b hb => by simp at hb; exact ⟨⟨unhide HP b (by omega), Or.inr (by omega)⟩, by omega⟩) gc (i + 1) n ((cols a).take (i + 1)) hlen (by omega) (by omega) (Nat.lt_of_lt_of_le hgcr hbA.size) ((hCr.imp (fun b h hl => ⟨h, by omega⟩)).below hgcr hbA) (fun c hc => (hmem c hc).1) (unhide HEv).ok)
        have HChB := hide (chain_any z (unhide HEn) (unhide HFn) (OffG W.heap.size gk P) wr.drew ((unhide HW).trans ((hWr.trans (hbB.mono hWr.size)).mono (unhide HW).size)) (fun b hb => by simp at hb; exact ⟨unhide HP b (by omega), Or.inr (by omega)⟩) gc (i + 1) n ((cols a).take (i + 1)) hlen (by omega) (by omega) hgcr (hCr.below hgcr hbB) (fun c hc => (hmem c hc).1) (unhide HEv).ok)
        obtain ⟨R, hR⟩ : ∃ R, chainL f ((cols a).take (i + 1)) = R := ⟨_, rfl⟩
        rw [hR] at HChA HChB
        have HRR := hide hR
        obtain ⟨k1, hk1⟩ : ∃ k1, i + 1 = k1 := ⟨_, rfl⟩
        rw [hk1] at HChA HChB
        have hkw : IntKind.i64.wrap ((i : Int) + 1) = (k1 : Int) := by
          have e : (i : Int) + 1 = (k1 : Int) := by omega
          rw [e]
          exact wrap_pos (by omega) (by omega)
        have x0 : (0 : Int) ≤ (i : Int) := by omega
        have x1 : (i : Int) < (n : Int) := by omega
        have x2 : (k1 : Int) ≤ (n : Int) := by omega
        have x3 : (0 : Int) ≤ (k1 : Int) := by omega
        have HK1 := hide hk1
        have z1 : W.heap.size + 1 < wr.heap.size := by omega
        have hno : ¬ (OffG W.heap.size gk P wr.heap.size ∧ wr.heap.size ≠ wr.heap.size) := fun h => h.2 rfl
        have HNo := hide hno
        clear hCr hlen hmem hWr hbA hbB hR hbs hrw hno hk1
        go_upto_region 8 with fail
        go_cut [9, 10] from 26 to 34 (fun v9 v10 wx => ∃ b9 s1 s2 s3 c1 c2 c3, v9 = .pointer (some ⟨b9, 0, none⟩) ∧ v10 = .int .i64 R.2 ∧ wx.cell? ⟨b9, 0, none⟩ = some (.slice s1 s2 s3) ∧ wx.cell? ⟨b9, 1, none⟩ = some (.slice c1 c2 c3) ∧ IsArr (OffG W.heap.size gk P) wx (.agg #[.slice s1 s2 s3, .slice c1 c2 c3]) R.1 ∧ b9 ≠ gk ∧ b9 < wx.heap.size ∧ Below wr.heap.size wr wx)
        case first =>
          go_region_with (first
            | (go_at_call 226; (with_reducible refine (unhide HChA).mono ?_); rintro e w5 ⟨s4, s5, s6, c4, c5, c6, rfl, hA5, hb5⟩; have HA5 := hide hA5; have HB5 := hide (((Below.refl wr.heap.size wr).alloc (Nat.le_refl _) (.cells #[.slice none 0 0, .slice none 0 0] 89)).drew.trans (hb5.mono (by simp))); have m0' := (hb5.cell (p := ⟨wr.heap.size, 0, none⟩) (by simp)); have m1' := (hb5.cell (p := ⟨wr.heap.size, 1, none⟩) (by simp)); have f0' := (hb5.frozen (p := ⟨wr.heap.size, 0, none⟩) (by simp)); have f1' := (hb5.frozen (p := ⟨wr.heap.size, 1, none⟩) (by simp)); simp at m0' m1' f0' f1'; have hsz5 : wr.heap.size < w5.heap.size := (by have := hb5.size; simp at this; omega); clear hA5 hb5)
            | (go_at_call 226; (with_reducible refine (unhide HChB).mono ?_); rintro e w5 ⟨s4, s5, s6, c4, c5, c6, rfl, hA5, hb5⟩; have HA5b := hide hA5; have HB5 := hide ((Below.refl wr.heap.size wr).drew.trans hb5); clear hA5 hb5))
          all_goals go_wp2_with fail
          all_goals go_meet
          all_goals first
            | exact ⟨wr.heap.size, s4, s5, s6, c4, c5, c6, rfl, rfl, (put_two m0' m1' _ _).1, (put_two m0' m1' _ _).2, (((unhide HA5).set (unhide HNo) 0 _).set (unhide HNo) 1 _).imp (fun b h _ => h.1), by omega, by simpa using hsz5, ((unhide HB5).setCell (p := ⟨wr.heap.size, 0, none⟩) (Nat.le_refl _) _).setCell (p := ⟨wr.heap.size, 1, none⟩) (Nat.le_refl _) _⟩
            | exact ⟨w5.heap.size, s4, s5, s6, c4, c5, c6, rfl, rfl, (World.cell?_alloc_at _ _ _ _ rfl).trans rfl, (World.cell?_alloc_at _ _ _ _ rfl).trans rfl, (unhide HA5b).below ((Below.refl _ _).alloc (Nat.le_refl _) _), by have := (unhide HB5).size; omega, by simp, (unhide HB5).alloc (unhide HB5).size _⟩
            | (trace_state; fail)
        case rest =>
          clear s0 s1 hkw x2 x3
          obtain ⟨b9, s1, s2, s3, c1, c2, c3, rfl, rfl, m0, m1, hA, hn9, hl9, hbx⟩ := hcut
          rename World => wc
          have HXc := hide ((unhide HX5).next hbx)
          have HRwc := hide ((unhide HRw5).below hbx)
          have HBsc : Hid (Bs (fun b => b = gk) w4 wc) := hide ((unhide HBs).trans (Bs.of (S := fun b => b = gk) hbx) (fun _ _ h => h))
          have HA9 := hide hA
          have hszc := hbx.size
          by_cases he : R.2 = 0
          · have hne : (cols a).take (i + 1) ≠ [] := by
              intro e
              have h1 := congrArg List.length e
              rw [List.length_take, cols_len, unhide HN] at h1
              simp at h1
              omega
            have hok9 : R.1.ok ∧ R.1.shape = a.shape.dropLast := by
              rw [← unhide HRR] at he ⊢
              exact chain_ok (unhide HEv) hne (take_mem_ok (unhide HOK) (unhide HR0)) he
            have hlen9 : R.1.cells.length = m := by rw [hok9.1.size, hok9.2]; exact unhide HMm
            have hc2 : c2 = m := by rw [(isArr_len hA).1, hlen9]
            have HE2 : Hid (scanE f (cols a) (i + 1) = 0) := hide (by
              rw [scanE, if_neg (by rw [unhide hE]; simp), unhide HRR]
              exact he)
            subst hc2
            rw [he]
            have HLen := hide hlen9
            have hc200 : c2 ≤ 200 := by
              have h1 : c2 * 1 ≤ c2 * n := Nat.mul_le_mul_left _ (by omega)
              have h2 := unhide HCM
              omega
            clear hA hbx hne hok9 hlen9 he
            go_wp2_with fail
            go_loopw [42] (fun v42 wx => ∃ j : Nat, v42 = .int .i64 j ∧ j ≤ c2 ∧ Bs (fun b => b = gk) wc wx ∧ Rw wx gk (scanJ f (cols a) c2 n i j)) (fun v42 _ => c2 - (intOf v42).toNat)
            case atStart => exact ⟨0, rfl, by omega, Bs.of (Below.refl _ _), by rw [scanJ_zero]; exact unhide HRwc⟩
            case round =>
              obtain ⟨j, rfl, hjm, hbs2, hrw2⟩ := hrel
              rename World => wx
              have HBs2 := hide hbs2
              have HRw2 := hide hrw2
              by_cases hjl : j < c2
              · have hA2 : IsArr (OffG W.heap.size gk P) wx (.agg #[.slice s1 s2 s3, .slice c1 c2 c3]) R.1 := (unhide HA9).keep hbs2.size (fun b hb hl => hbs2.block b hl (fun (e : b = gk) => by subst e; rcases hb.2 with h | h <;> omega))
                have hnc := isArr_cells hA2
                obtain ⟨cb, cof, rfl, hcb, hcell, hcap⟩ := hnc.at (k := j) (by rw [unhide HLen]; exact hjl)
                obtain ⟨x, hx⟩ : ∃ x, R.1.cells[j]'(by rw [unhide HLen]; exact hjl) = x := ⟨_, rfl⟩
                rw [hx] at hcell
                have hxd : (chainL f ((cols a).take (i + 1))).1.cells.getD j 0 = x := by
                  rw [unhide HRR, List.getD_eq_getElem?_getD, List.getElem?_eq_getElem (by rw [unhide HLen]; exact hjl), hx]
                  rfl
                have hpos : i + j * n < c2 * n := div_lt hjl hil
                have hpos2 : i + j * n < cn := by rw [unhide HCM]; exact hpos
                obtain ⟨jn, hjn⟩ : ∃ jn, j * n = jn := ⟨_, rfl⟩
                rw [hjn] at hpos2 hpos
                have HSet : Hid ((scanJ f (cols a) c2 n i j).set (jn + i) x = scanJ f (cols a) c2 n i (j + 1)) := hide (by rw [← hjn, ← hxd]; exact scanJ_set hil hjl)
                have hw1 : IntKind.i64.wrap ((j : Int) * (n : Int)) = (jn : Int) := by
                  rw [← Int.natCast_mul, hjn]
                  exact wrap_pos (by omega) (by omega)
                obtain ⟨pp, hpp⟩ : ∃ pp, jn + i = pp := ⟨_, rfl⟩
                have hw2 : IntKind.i64.wrap ((jn : Int) + (i : Int)) = (pp : Int) := by
                  have e : ((jn : Int) + (i : Int)) = (pp : Int) := by omega
                  rw [e]
                  exact wrap_pos (by omega) (by omega)
                rw [hpp] at HSet
                have p0 : (0 : Int) ≤ (pp : Int) := by omega
                have p1 : (pp : Int) < (cn : Int) := by omega
                have j0 : (0 : Int) ≤ (j : Int) := by omega
                have j1 : (j : Int) < (c2 : Int) := by omega
                have hsl : (scanJ f (cols a) c2 n i j).length = cn := by rw [scanJ_len, unhide HCM]
                have hplt : pp < (scanJ f (cols a) c2 n i j).length := by rw [hsl]; omega
                have gc0 := hrw2.cell pp _ (List.getElem?_eq_getElem hplt)
                obtain ⟨old, hold⟩ : ∃ old, (scanJ f (cols a) c2 n i j)[pp]'hplt = old := ⟨_, rfl⟩
                rw [hold] at gc0
                have gf0 := hrw2.fr pp
                have gl0 := hrw2.lt
                have HRw3 := hide (hrw2.set hplt x)
                have HBs3 := hide (bs_set (p := pp) hbs2 (.int .i64 x))
                clear hbs2 hrw2 hA2 hnc hx hxd hpos hpos2 hjn hpp hsl hold hplt
                go_wp2_with fail
                go_roundw
                case rel => exact ⟨j + 1, by go_num, by omega, unhide HBs3, by rw [← unhide HSet]; exact unhide HRw3⟩
                case measure => simp [intOf]; omega
              · have hje : j = c2 := by omega
                subst hje
                have HFin : Hid (Rw wx gk (scanC f (cols a) j n (i + 1))) := hide (by rw [← scanJ_all]; exact hrw2)
                have HBsF : Hid (Bs (fun b => b = gk) w4 wx) := hide ((unhide HBsc).trans hbs2 (fun _ _ h => h))
                clear hbs2 hrw2
                go_wp2_with fail
                go_roundw
                case rel => exact ⟨i + 1, by go_num, by omega, HE2, unhide HBsF, unhide HFin⟩
                case measure => simp [intOf]; omega
          · have HR : Hid (scanP f a = (eArr, R.2)) := hide (by
              have h1 : scanE f (cols a) (i + 1) = R.2 := by
                rw [scanE, if_neg (by rw [unhide hE]; simp), unhide HRR]
              have h2 : scanE f (cols a) n = R.2 := by
                rw [← h1]
                exact scanE_stays (by rw [h1]; exact he) (by omega)
              unfold scanP
              rw [if_neg (unhide HR0), unhide HN, if_pos (by rw [h2]; exact he), h2])
            obtain ⟨er, her⟩ : ∃ er, R.2 = er := ⟨_, rfl⟩
            rw [her] at he HR ⊢
            have he2 : (er != 0) = true := by simpa using he
            have r0 : wc.cell? ⟨W.heap.size + 1 + 1, 0, none⟩ = some (.slice none 0 0) := ((unhide HXc).cell 2 0 _ rfl).1
            have r1 : wc.cell? ⟨W.heap.size + 1 + 1, 1, none⟩ = some (.slice none 0 0) := ((unhide HXc).cell 2 1 _ rfl).1
            have g0 : wc.frozen? ⟨W.heap.size + 1 + 1, 0, none⟩ = false := ((unhide HXc).cell 2 0 _ rfl).2
            have g1 : wc.frozen? ⟨W.heap.size + 1 + 1, 1, none⟩ = false := ((unhide HXc).cell 2 1 _ rfl).2
            clear hA hbx he her
            go_wp2_with fail
            have hf2 := fin_bx (q := 2) (P := P) (k := 3) (a := eArr) (u0 := .slice none 0 0) (u1 := .slice none 0 0) (unhide HXc).below (by decide) (e_arr _ _)
            refine bodyPost_ret (v := .tuple #[.agg #[.slice none 0 0, .slice none 0 0], .int .i64 er]) (by simp [results, Tryz.results178, go_sem, r0, r1]) rfl ⟨none, 0, 0, none, 0, 0, by rw [unhide HR], by rw [unhide HR]; exact hf2.1, hf2.2⟩
      · have hie : i = n := by omega
        subst hie
        have HR : Hid (scanP f a = (⟨a.shape, scanC f (cols a) m i i⟩, 0)) := hide (by
          unfold scanP
          rw [if_neg (unhide HR0), unhide HN, unhide hE, if_neg (by simp), unhide HMm])
        have b0 : wr.cell? ⟨W.heap.size, 0, none⟩ = some (.slice so sn sc) := ((unhide HX5).cell 0 0 _ rfl).1
        have r0 : wr.cell? ⟨W.heap.size + 1 + 1, 0, none⟩ = some (.slice none 0 0) := ((unhide HX5).cell 2 0 _ rfl).1
        have r1 : wr.cell? ⟨W.heap.size + 1 + 1, 1, none⟩ = some (.slice none 0 0) := ((unhide HX5).cell 2 1 _ rfl).1
        have g0 : wr.frozen? ⟨W.heap.size + 1 + 1, 0, none⟩ = false := ((unhide HX5).cell 2 0 _ rfl).2
        have g1 : wr.frozen? ⟨W.heap.size + 1 + 1, 1, none⟩ = false := ((unhide HX5).cell 2 1 _ rfl).2
        clear hbs hrw
        go_wp2_with fail
        have hA3 : IsArr (OffB W.heap.size 3 P) wr (.agg #[.slice so sn sc, .slice co cn cc]) a := ((unhide HA).imp (Q := OffB W.heap.size 3 P) (fun b h hl => ⟨h, Or.inl hl⟩)).below (unhide HX5).below
        have hA4 : IsArr (OffB W.heap.size 3 P) wr (.agg #[.slice so sn sc, .slice (some ⟨gk, 0, none⟩) cn cn]) ⟨a.shape, scanC f (cols a) m i i⟩ := by
          obtain ⟨_, _, _, _, _, _, hv, h1, _⟩ := hA3
          injection hv with hv
          simp at hv
          obtain ⟨⟨rfl, rfl, rfl⟩, _⟩ := hv
          exact arr_of h1 ((unhide HRw5).nums (OffB.new (unhide HP) hgk) (by rw [scanC_len, unhide HCM]))
        have hf2 := fin_bx (q := 2) (u0 := .slice so sn sc) (u1 := .slice (some ⟨gk, 0, none⟩) cn cn) (unhide HX5).below (by decide) hA4
        refine bodyPost_ret (v := .tuple #[.agg #[.slice so sn sc, .slice (some ⟨gk, 0, none⟩) cn cn], .int .i64 0]) (by simp [results, Tryz.results178, go_sem, r0, r1]) rfl ⟨_, _, _, _, _, _, by rw [unhide HR], by rw [unhide HR]; exact hf2.1, hf2.2⟩
end Go.Proofs.YtjobgpahajhbnaaGreatDoor
namespace Go.Proofs.YtjobgpahajhbnaaGreatDoor
open Go.RowKit Go.Proofs Go.Maps
attribute [local go_sem ↓] Go.wp_at_zero Go.wp_at_succ

theorem Tryz.full235 (h : Nat) (w : World) : (binOp .eql 235 (.func (.func h) #[] #[]) .nilFunc).run Tryz.prog w = .ok (.bool false) w := by kernel_rfl
set_option maxHeartbeats 2000000 in
set_option maxRecDepth 20000 in
theorem find_form {t : ByteArray} {k1 ks : Lit} {h g : Nat} {z : Int} (h1 : 1 ≤ t.size) (hk1 : keyOf Tryz.prog 9 (.string (t.extract 1 t.size)) = some k1) (ha1 : formsOneD.atKey k1 (.held .nilFunc) = .held (.func (.func h) #[] #[])) (hks : keyOf Tryz.prog 9 (.string (t.extract 0 1)) = some ks) (has : signsD.atKey ks (.held zSign) = .held (.agg #[.func (.func g) #[] #[], .int .i64 z])) (w : World) :
    Calls Tryz.prog 109 #[.string t] w fun e w' => ∃ b3 b4, e = .returned (.func (.func 155) #[] #[.pointer (some ⟨b3, 0, none⟩), .pointer (some ⟨b4, 0, none⟩)]) ∧ w'.cell? ⟨b3, 0, none⟩ = some (.func (.func h) #[] #[]) ∧ b3 < w'.heap.size ∧ w'.cell? ⟨b4, 0, none⟩ = some (.func (.func g) #[] #[]) ∧ w'.cell? ⟨b4, 1, none⟩ = some (.int .i64 z) ∧ b4 < w'.heap.size ∧ Below w.heap.size w w' := by
  have HL1 : Hid (∀ w' b, w'.ownsMap Tryz.prog 9 selfE b 2 formsOneD → (Instr.lookup 236 (.map (some b)) (.string (t.extract 1 t.size)) false).run Tryz.prog w' = .ok (.func (.func h) #[] #[]) w') := hide (fun w' b h => look_self0 Tryz.underlying236 (Tryz.zero235 w') h hk1 ha1)
  have HL2 : Hid (∀ w' b, w'.ownsMap Tryz.prog 9 selfE b 9 signsD → (Instr.lookup 242 (.map (some b)) (.string (t.extract 0 1)) false).run Tryz.prog w' = .ok (.agg #[.func (.func g) #[] #[], .int .i64 z]) w') := hide (fun w' b h => look_self0 Tryz.underlying242 (Tryz.zero241 w') h hks has)
  have hnn := Tryz.full235 h
  clear hk1 ha1 hks has
  go_enter Tryz.func109, Tryz.ntmps109
  go_upto_region 1 with fail
  go_cut [3] from 5 to 8 (fun v3 wx => ∃ b3, v3 = .pointer (some ⟨b3, 0, none⟩) ∧ wx.cell? ⟨b3, 0, none⟩ = some (.func (.func h) #[] #[]) ∧ b3 < wx.heap.size ∧ Below w.heap.size w wx)
  case first =>
    go_region_with (first | (go_at_call 152; refine (formsOne_any _).mono ?_; rintro e w1 ⟨rfl, ho, hb⟩; have hl := unhide HL1 _ w.heap.size (by exact ho); have hl3 := unhide HL1 (w1.alloc (.cells #[.nilFunc] 235)) w.heap.size (World.ownsMap.alloc (by exact ho) _); have HB := hide hb; obtain ⟨hc, hf⟩ := bcell hb; have hs := hb.size; (try simp at hs); (try have hs2 : w.heap.size < w1.heap.size := by omega); clear ho hb) | (go_at_call 152; refine (formsOne_any _).mono ?_; rintro e w1 ⟨rfl, ho, hb⟩; have hl : (Instr.lookup 236 (.map (some (w.heap.size + 1))) (.string (t.extract 1 t.size)) false).run Tryz.prog w1 = .ok (.func (.func h) #[] #[]) w1 := (by have := unhide HL1 _ _ ho; simpa [World.drew] using this); have HB := hide hb; obtain ⟨hc, hf⟩ := bcell hb; have hs := hb.size; (try simp at hs); (try have hs2 : w.heap.size < w1.heap.size := by omega); clear ho hb))
    all_goals go_wp2_with fail
    all_goals go_meet
    all_goals first
      | exact ⟨w1.heap.size, rfl, (World.cell?_alloc_at _ _ _ _ rfl).trans rfl, by simp, (below_drew (unhide HB)).alloc (below_drew (unhide HB)).size _⟩
      | exact ⟨w.heap.size, rfl, World.cell?_setCell_same _ _ _ (u := .nilFunc) ((hc w.heap.size 0 (by simp)).trans ((World.cell?_alloc_at _ _ _ _ rfl).trans rfl)), by simp; omega, ((((Below.refl w.heap.size w).alloc (Nat.le_refl _) _).drew.trans ((unhide HB).mono (by simp))).setCell (p := ⟨w.heap.size, 0, none⟩) (Nat.le_refl _) _)⟩
      | (trace_state; fail)
  case rest =>
    obtain ⟨b3, rfl, c3, l3, hb3⟩ := hcut
    rename World => wc
    have HB3 := hide hb3
    clear hb3
    go_upto_region 4 with fail
    go_cut [4] from 14 to 17 (fun v4 wx => ∃ b4, v4 = .pointer (some ⟨b4, 0, none⟩) ∧ wx.cell? ⟨b4, 0, none⟩ = some (.func (.func g) #[] #[]) ∧ wx.cell? ⟨b4, 1, none⟩ = some (.int .i64 z) ∧ b4 < wx.heap.size ∧ Below wc.heap.size wc wx)
    case first =>
      go_region_with (first | (go_at_call 154; refine (signs_any _).mono ?_; rintro e w1 ⟨rfl, ho, hb⟩; have hl := unhide HL2 _ wc.heap.size (by exact ho); have hl3 := unhide HL2 (w1.alloc (.cells #[.nilFunc, .int .i64 0] 241)) wc.heap.size (World.ownsMap.alloc (by exact ho) _); have HB := hide hb; obtain ⟨hc, hf⟩ := bcell hb; have hs := hb.size; (try simp at hs); (try have hs2 : wc.heap.size < w1.heap.size := by omega); clear ho hb) | (go_at_call 154; refine (signs_any _).mono ?_; rintro e w1 ⟨rfl, ho, hb⟩; have hl : (Instr.lookup 242 (.map (some (wc.heap.size + 1))) (.string (t.extract 0 1)) false).run Tryz.prog w1 = .ok (.agg #[.func (.func g) #[] #[], .int .i64 z]) w1 := (by have := unhide HL2 _ _ ho; simpa [World.drew] using this); have HB := hide hb; obtain ⟨hc, hf⟩ := bcell hb; have hs := hb.size; (try simp at hs); (try have hs2 : wc.heap.size < w1.heap.size := by omega); clear ho hb))
      all_goals go_wp2_with fail
      all_goals go_meet
      all_goals first
        | exact ⟨w1.heap.size, rfl, (World.cell?_alloc_at _ _ _ _ rfl).trans rfl, (World.cell?_alloc_at _ _ _ _ rfl).trans rfl, by simp, (below_drew (unhide HB)).alloc (below_drew (unhide HB)).size _⟩
        | exact ⟨wc.heap.size, rfl, (World.cell?_setCell_other _ _ _ _ (by simp)).trans (World.cell?_setCell_same _ _ _ (u := .nilFunc) ((hc wc.heap.size 0 (by simp)).trans ((World.cell?_alloc_at _ _ _ _ rfl).trans rfl))), World.cell?_setCell_same _ _ _ (u := .int .i64 0) ((World.cell?_setCell_other _ _ _ _ (by simp)).trans ((hc wc.heap.size 1 (by simp)).trans ((World.cell?_alloc_at _ _ _ _ rfl).trans rfl))), by simp; omega, (((((Below.refl wc.heap.size wc).alloc (Nat.le_refl _) _).drew.trans ((unhide HB).mono (by simp))).setCell (p := ⟨wc.heap.size, 0, none⟩) (Nat.le_refl _) _).setCell (p := ⟨wc.heap.size, 1, none⟩) (Nat.le_refl _) _)⟩
        | (trace_state; fail)
    case rest =>
      obtain ⟨b4, rfl, c4, c5, l4, hb4⟩ := hcut
      rename World => wd
      have HB4 := hide hb4
      clear hb4
      go_wp2_with fail
      exact bodyPost_ret (v := .func (.func 155) #[] #[.pointer (some ⟨b3, 0, none⟩), .pointer (some ⟨b4, 0, none⟩)]) (by simp [results, Tryz.results109, go_sem]) rfl ⟨b3, b4, rfl, ((unhide HB4).cell (p := ⟨b3, 0, none⟩) l3).trans c3, Nat.lt_of_lt_of_le l3 (unhide HB4).size, c4, c5, l4, (unhide HB3).trans ((unhide HB4).mono (unhide HB3).size)⟩
end Go.Proofs.YtjobgpahajhbnaaGreatDoor
namespace Go.Proofs.YtjobgpahajhbnaaGreatDoor
open Go.RowKit Go.Proofs

theorem pair_evens {F : Int → Int → Int × Int} (hf : ∀ x y, fit64 x → fit64 y → fit64 (F x y).1) : Evens (pairP F) where
  ok := fun a b ha hb h => (pairP_ok hf ha hb).2 h
  shape := fun a b ha hb hs h0 => by
    unfold pairP at h0 ⊢
    have hz : ∀ {sh : List Nat} {xs ys : List Int}, (zipA F sh xs ys).2 = 0 → (zipA F sh xs ys).1.shape = sh := by
      intro sh xs ys h
      unfold zipA at h ⊢
      cases hc : zipF F xs ys with
      | inl e => rw [hc] at h; exact absurd h (zip_err hc)
      | inr l => rfl
    split
    · rename_i h1
      rw [if_pos h1] at h0
      rw [hz h0, ← hs]
    · rename_i h1
      rw [if_neg h1] at h0
      split
      · rename_i h2
        exact absurd (hs.trans h2) h1
      · rename_i h2
        rw [if_neg h2, if_neg (by simp [hs]), if_neg (by simp [hs])] at h0
        rw [if_neg (by simp [hs]), if_neg (by simp [hs]), hz h0]
end Go.Proofs.YtjobgpahajhbnaaGreatDoor
