import Derived.Test.YtjobgpahajhbnaaGreatDoorKd
import Derived.Test.YtjobgpahajhbnaaGreatDoorTr
import Derived.Test.YtjobgpahajhbnaaGreatDoorVg
import Derived.Test.YtjobgpahajhbnaaGreatDoorTa
import Derived.Test.YtjobgpahajhbnaaGreatDoorSi
namespace Go.Proofs.YtjobgpahajhbnaaGreatDoor
open Go.RowKit Go.Proofs Go.Maps
attribute [local go_sem ↓] Go.wp_at_zero Go.wp_at_succ

def lastN : List Nat → Nat
  | [] => 0
  | [x] => x
  | _ :: y :: l => lastN (y :: l)
theorem last_split : ∀ {l : List Nat}, l.length ≠ 0 → l = l.dropLast ++ [lastN l]
  | [], h => absurd rfl h
  | [x], _ => rfl
  | x :: y :: l, _ => by
    have := last_split (l := y :: l) (by simp)
    show x :: y :: l = x :: ((y :: l).dropLast ++ [lastN (y :: l)])
    rw [← this]
end Go.Proofs.YtjobgpahajhbnaaGreatDoor
namespace Go.Proofs.YtjobgpahajhbnaaGreatDoor
open Go.RowKit Go.Proofs

/-- every n-th cell from place i on: r of them -/
def colC (xs : List Int) (n i r : Nat) : List Int := (List.range r).map fun j => xs.getD (i + j * n) 0
/-- the array at the last index i -/
def col (b : Arr) (i : Nat) : Arr := ⟨b.shape.dropLast, colC b.cells (lastN b.shape) i (prodL b.shape.dropLast)⟩
def cols (b : Arr) : List Arr := (List.range (lastN b.shape)).map (col b)
theorem colC_len (xs : List Int) (n i r : Nat) : (colC xs n i r).length = r := by simp [colC]
theorem colC_succ (xs : List Int) (n i r : Nat) : colC xs n i (r + 1) = colC xs n i r ++ [xs.getD (i + r * n) 0] := by
  simp [colC, List.range_succ]
theorem cols_len (b : Arr) : (cols b).length = lastN b.shape := by simp [cols]
theorem cols_at {b : Arr} {i : Nat} (h : i < (cols b).length) : (cols b)[i] = col b i := by simp [cols]
theorem arr_size {b : Arr} (h : b.ok) (hr : b.shape.length ≠ 0) : b.cells.length = prodL b.shape.dropLast * lastN b.shape := by
  rw [h.size]
  have := last_split hr
  rw [this, prodL_append, prodL_one, ← this]
theorem heads_le {b : Arr} (h : b.ok) (hr : b.shape.length ≠ 0) (hn : 0 < lastN b.shape) : prodL b.shape.dropLast ≤ b.cells.length := by
  rw [arr_size h hr]
  exact Nat.le_mul_of_pos_right _ hn
theorem col_ok {b : Arr} (h : b.ok) (hr : b.shape.length ≠ 0) (hn : 0 < lastN b.shape) (i : Nat) : (col b i).ok := by
  refine ⟨by have := h.rank; simp [col]; omega, fun n hn => h.lens n (List.dropLast_subset _ hn), by simp [col, colC_len], ?_, ?_⟩
  · have := heads_le h hr hn
    have := h.few
    simp [col, colC_len]
    omega
  · intro c hc
    simp only [col, colC, List.mem_map] at hc
    obtain ⟨j, _, rfl⟩ := hc
    rw [List.getD_eq_getElem?_getD]
    cases hg : b.cells[i + j * lastN b.shape]? with
    | none => simp [fit64]
    | some v => exact h.fits v (List.mem_of_getElem? hg)
/-- a f (b f (.. f z)) -/
def chainL (f : Arr → Arr → Arr × Int) : List Arr → Arr × Int
  | [] => (eArr, 0)
  | c :: r => if r = [] then (c, 0) else if (chainL f r).2 ≠ 0 then (eArr, (chainL f r).2) else if (f c (chainL f r).1).2 ≠ 0 then (eArr, (f c (chainL f r).1).2) else f c (chainL f r).1
theorem chain_one (f : Arr → Arr → Arr × Int) (c : Arr) : chainL f [c] = (c, 0) := by simp [chainL]
theorem chain_cons {f : Arr → Arr → Arr × Int} {c : Arr} {r : List Arr} (hr : r ≠ []) (h0 : (chainL f r).2 = 0) : chainL f (c :: r) = if (f c (chainL f r).1).2 ≠ 0 then (eArr, (f c (chainL f r).1).2) else f c (chainL f r).1 := by
  rw [chainL, if_neg hr, if_neg (by simp [h0])]
theorem chain_err {f : Arr → Arr → Arr × Int} {e : Int} (he : e ≠ 0) : ∀ {p r : List Arr}, r ≠ [] → chainL f r = (eArr, e) → chainL f (p ++ r) = (eArr, e)
  | [], r, _, h => h
  | c :: p, r, hr, h => by
    have := chain_err (p := p) he hr h
    rw [List.cons_append, chainL, if_neg (by simp [hr]), this]
    simp [he]
/-- what keeps arrays of one shape -/
structure Evens (f : Arr → Arr → Arr × Int) : Prop where
  ok : ∀ a b, a.ok → b.ok → (f a b).2 = 0 → (f a b).1.ok
  shape : ∀ a b, a.ok → b.ok → a.shape = b.shape → (f a b).2 = 0 → (f a b).1.shape = a.shape
theorem chain_ok {f : Arr → Arr → Arr × Int} (hf : Evens f) {sh : List Nat} : ∀ {l : List Arr}, l ≠ [] → (∀ c ∈ l, c.ok ∧ c.shape = sh) → (chainL f l).2 = 0 → (chainL f l).1.ok ∧ (chainL f l).1.shape = sh
  | [], h, _, _ => absurd rfl h
  | c :: r, _, hl, h0 => by
    by_cases hr : r = []
    · subst hr
      rw [chain_one]
      exact hl c (by simp)
    · have hc := hl c (by simp)
      by_cases h1 : (chainL f r).2 = 0
      · have ih := chain_ok hf hr (fun d hd => hl d (by simp [hd])) h1
        rw [chain_cons hr h1] at h0 ⊢
        by_cases h2 : (f c (chainL f r).1).2 = 0
        · rw [if_neg (by simp [h2])]
          exact ⟨hf.ok _ _ hc.1 ih.1 h2, (hf.shape _ _ hc.1 ih.1 (hc.2.trans ih.2.symm) h2).trans hc.2⟩
        · rw [if_pos h2] at h0
          exact absurd h0 h2
      · rw [chainL, if_neg hr, if_pos h1] at h0
        exact absurd h0 h1
theorem chain_short {f : Arr → Arr → Arr × Int} {l : List Arr} (h : (chainL f l).2 ≠ 0) : (chainL f l).1 = eArr := by
  cases l with
  | nil => rfl
  | cons c r =>
    rw [chainL] at h ⊢
    split
    · rename_i hr
      rw [if_pos hr] at h
      exact absurd rfl h
    · rename_i hr
      rw [if_neg hr] at h
      split
      · rfl
      · rename_i h1
        rw [if_neg h1] at h
        split
        · rfl
        · rename_i h2
          rw [if_neg h2] at h
          exact absurd h h2
def foldP (f : Arr → Arr → Arr × Int) (z : Int) (b : Arr) : Arr × Int :=
  if b.shape.length = 0 then (b, 0) else if fitsB b.shape.dropLast = false then (eArr, 9)
  else if lastN b.shape = 0 then (⟨b.shape.dropLast, List.replicate (prodL b.shape.dropLast) z⟩, 0) else chainL f (cols b)
theorem cols_all {b : Arr} (h : b.ok) (hr : b.shape.length ≠ 0) : ∀ c ∈ cols b, c.ok ∧ c.shape = b.shape.dropLast := by
  intro c hc
  simp only [cols, List.mem_map, List.mem_range] at hc
  obtain ⟨i, hi, rfl⟩ := hc
  exact ⟨col_ok h hr (by omega) i, rfl⟩
theorem fold_ok {f : Arr → Arr → Arr × Int} (hf : Evens f) {z : Int} (hz : fit64 z) {b : Arr} (h : b.ok) : (foldP f z b).1.cells.length ≤ 200 ∧ ((foldP f z b).2 = 0 → (foldP f z b).1.ok) := by
  unfold foldP
  by_cases h0 : b.shape.length = 0
  · rw [if_pos h0]
    exact ⟨h.few, fun _ => h⟩
  rw [if_neg h0]
  by_cases h1 : fitsB b.shape.dropLast = false
  · rw [if_pos h1]
    exact ⟨by simp [eArr], fun h => absurd h (by decide)⟩
  rw [if_neg h1]
  have hfit : fitsB b.shape.dropLast = true := by simpa using h1
  unfold fitsB at hfit
  simp only [Bool.and_eq_true, decide_eq_true_eq, List.all_eq_true] at hfit
  by_cases h2 : lastN b.shape = 0
  · rw [if_pos h2]
    refine ⟨by simp; omega, fun _ => ⟨by have := h.rank; simp; omega, fun n hn => by have := hfit.1 n hn; omega, by simp, by simp; omega, ?_⟩⟩
    intro c hc
    rw [List.eq_of_mem_replicate hc]
    exact hz
  rw [if_neg h2]
  have hne : cols b ≠ [] := by
    intro e
    have := cols_len b
    rw [e] at this
    exact h2 this.symm
  by_cases h3 : (chainL f (cols b)).2 = 0
  · have := (chain_ok hf hne (cols_all h h0) h3).1
    exact ⟨this.few, fun _ => this⟩
  · rw [chain_short h3]
    exact ⟨by simp [eArr], fun h => absurd h h3⟩
end Go.Proofs.YtjobgpahajhbnaaGreatDoor
namespace Go.Proofs.YtjobgpahajhbnaaGreatDoor
open Go.RowKit Go.Proofs
attribute [local go_sem ↓] Go.wp_at_zero Go.wp_at_succ

/-- boxes from W on: what each of their cells holds -/
structure Bx (W w : World) (l : List (List Value)) : Prop where
  below : Below W.heap.size W w
  lt : W.heap.size + l.length ≤ w.heap.size
  cell : ∀ q j v, (l[q]?.bind (·[j]?)) = some v → w.cell? ⟨W.heap.size + q, j, none⟩ = some v ∧ w.frozen? ⟨W.heap.size + q, j, none⟩ = false
theorem Bx.nil (W : World) : Bx W W [] := ⟨Below.refl _ _, by simp, fun q j v h => by simp at h⟩
theorem Bx.next {W w w' : World} {l : List (List Value)} (h : Bx W w l) (hb : Below w.heap.size w w') : Bx W w' l := by
  have h1 := h.lt
  have h2 := hb.size
  refine ⟨h.below.trans (hb.mono h.below.size), by omega, fun q j v hq => ?_⟩
  have hql : q < l.length := by
    rcases Nat.lt_or_ge q l.length with h | h
    · exact h
    · rw [List.getElem?_eq_none h] at hq
      cases hq
  obtain ⟨a, b⟩ := h.cell q j v hq
  exact ⟨(hb.cell (p := ⟨W.heap.size + q, j, none⟩) (by show W.heap.size + q < w.heap.size; omega)).trans a, (hb.frozen (p := ⟨W.heap.size + q, j, none⟩) (by show W.heap.size + q < w.heap.size; omega)).trans b⟩
theorem Bx.keep {W w w' : World} {l : List (List Value)} (h : Bx W w l) (hb : Below (W.heap.size + l.length) w w') : Bx W w' l := by
  have h1 := h.lt
  have h2 := hb.size
  refine ⟨h.below.trans (hb.mono (by omega)), by omega, fun q j v hq => ?_⟩
  have hql : q < l.length := by
    rcases Nat.lt_or_ge q l.length with h | h
    · exact h
    · rw [List.getElem?_eq_none h] at hq
      cases hq
  obtain ⟨a, b⟩ := h.cell q j v hq
  exact ⟨(hb.cell (p := ⟨W.heap.size + q, j, none⟩) (by show W.heap.size + q < W.heap.size + l.length; omega)).trans a, (hb.frozen (p := ⟨W.heap.size + q, j, none⟩) (by show W.heap.size + q < W.heap.size + l.length; omega)).trans b⟩
theorem Bx.alloc {W w : World} {l : List (List Value)} (h : Bx W w l) (hs : w.heap.size = W.heap.size + l.length) (vs : List Value) (e : TypeId) : Bx W (w.alloc (.cells vs.toArray e)) (l ++ [vs]) := by
  refine ⟨h.below.alloc h.below.size _, by simp; omega, fun q j v hq => ?_⟩
  by_cases hql : q < l.length
  · rw [List.getElem?_append_left hql] at hq
    obtain ⟨a, b⟩ := h.cell q j v hq
    have hb : Below w.heap.size w (w.alloc (.cells vs.toArray e)) := (Below.refl _ _).alloc (Nat.le_refl _) _
    exact ⟨(hb.cell (p := ⟨W.heap.size + q, j, none⟩) (by show W.heap.size + q < w.heap.size; omega)).trans a, (hb.frozen (p := ⟨W.heap.size + q, j, none⟩) (by show W.heap.size + q < w.heap.size; omega)).trans b⟩
  · rw [List.getElem?_append_right (by omega)] at hq
    have : q - l.length = 0 := by
      rcases Nat.eq_zero_or_pos (q - l.length) with e | e
      · exact e
      · rw [List.getElem?_eq_none (by simp; omega)] at hq
        cases hq
    rw [this] at hq
    have hq : vs[j]? = some v := by simpa using hq
    have hqe : W.heap.size + q = w.heap.size := by omega
    rw [hqe]
    exact ⟨(World.cell?_alloc_at _ _ _ _ rfl).trans (by simpa using hq), World.frozen?_alloc_at _ _ _ _ rfl⟩
theorem Bx.set {W w : World} {l : List (List Value)} (h : Bx W w l) (q j : Nat) (u v : Value) (hu : (l[q]?.bind (·[j]?)) = some u) : Bx W (w.setCell ⟨W.heap.size + q, j, none⟩ v) (l.modify q (·.set j v)) := by
  have hc := (h.cell q j u hu).1
  refine ⟨h.below.setCell (by show W.heap.size ≤ W.heap.size + q; omega) _, by have := h.lt; simpa using this, fun q' j' v' hq => ?_⟩
  rw [World.frozen?_setCell]
  by_cases e : q' = q ∧ j' = j
  · obtain ⟨rfl, rfl⟩ := e
    rw [List.getElem?_modify] at hq
    simp only [if_pos] at hq
    cases hl : l[q']? with
    | none => rw [hl] at hu; cases hu
    | some x =>
      rw [hl] at hq hu
      have hu : x[j']? = some u := by simpa using hu
      have hjl : j' < x.length := by
        rcases Nat.lt_or_ge j' x.length with h | h
        · exact h
        · rw [List.getElem?_eq_none h] at hu; cases hu
      have hq : v = v' := by simpa [hjl] using hq
      subst hq
      exact ⟨World.cell?_setCell_same _ _ _ hc, (h.cell q' j' u (by rw [hl]; simpa using hu)).2⟩
  · have hne : (⟨W.heap.size + q', j', none⟩ : Addr) ≠ ⟨W.heap.size + q, j, none⟩ := fun he => e (by injection he; omega)
    rw [World.cell?_setCell_other _ _ _ _ hne.symm]
    refine h.cell q' j' v' ?_
    rw [List.getElem?_modify] at hq
    by_cases e1 : q = q'
    · subst e1
      simp only [if_pos] at hq
      cases hl : l[q]? with
      | none => rw [hl] at hq; cases hq
      | some x =>
        rw [hl] at hq
        have hq : (x.set j v)[j']? = some v' := by simpa using hq
        rw [List.getElem?_set_ne (fun h => e ⟨rfl, h.symm⟩)] at hq
        simpa using hq
    · simpa [if_neg e1] using hq
/-- blocks of which P holds, the boxes aside -/
def OffB (n k : Nat) (P : Nat → Prop) (b : Nat) : Prop := P b ∧ (b < n ∨ n + k ≤ b)
theorem OffB.new {n k : Nat} {P : Nat → Prop} (hP : ∀ b, n ≤ b → P b) {b : Nat} (h : n + k ≤ b) : OffB n k P b := ⟨hP b (by omega), Or.inr h⟩
/-- columns in memory: block gb holds them, two cells each -/
def Cols (Q : Nat → Prop) (w : World) (gb : Nat) (cs : List Arr) : Prop := ∀ i, (h : i < cs.length) → ∃ so sn sc co cn cc, w.cell? ⟨gb, i * 2, none⟩ = some (.slice so sn sc) ∧ w.cell? ⟨gb, i * 2 + 1, none⟩ = some (.slice co cn cc) ∧ IsArr Q w (.agg #[.slice so sn sc, .slice co cn cc]) cs[i]
theorem Cols.imp {P Q : Nat → Prop} {w : World} {gb : Nat} {cs : List Arr} (h : Cols P w gb cs) (hq : ∀ b, P b → b < w.heap.size → Q b) : Cols Q w gb cs := fun i hi => by
  obtain ⟨so, sn, sc, co, cn, cc, a, b, c⟩ := h i hi
  exact ⟨so, sn, sc, co, cn, cc, a, b, c.imp hq⟩
end Go.Proofs.YtjobgpahajhbnaaGreatDoor
namespace Go.Proofs.YtjobgpahajhbnaaGreatDoor
open Go.RowKit Go.Proofs
attribute [local go_sem ↓] Go.wp_at_zero Go.wp_at_succ

theorem chain_okk {f : Arr → Arr → Arr × Int} (hf : ∀ a b, a.ok → b.ok → (f a b).2 = 0 → (f a b).1.ok) : ∀ {l : List Arr}, l ≠ [] → (∀ c ∈ l, c.ok) → (chainL f l).2 = 0 → (chainL f l).1.ok
  | [], h, _, _ => absurd rfl h
  | c :: r, _, hl, h0 => by
    by_cases hr : r = []
    · subst hr
      rw [chain_one]
      exact hl c (by simp)
    · by_cases h1 : (chainL f r).2 = 0
      · have ih := chain_okk hf hr (fun d hd => hl d (by simp [hd])) h1
        rw [chain_cons hr h1] at h0 ⊢
        by_cases h2 : (f c (chainL f r).1).2 = 0
        · rw [if_neg (by simp [h2])]
          exact hf _ _ (hl c (by simp)) ih h2
        · rw [if_pos h2] at h0
          exact absurd h0 h2
      · rw [chainL, if_neg hr, if_pos h1] at h0
        exact absurd h0 h1
theorem fin_bx {W w : World} {P : Nat → Prop} {k q : Nat} {v u0 u1 : Value} {a : Arr} (hb : Below W.heap.size W w) (hq : q < k) (hA : IsArr (OffB W.heap.size k P) w v a) : IsArr P ((w.setCell ⟨W.heap.size + q, 0, none⟩ u0).setCell ⟨W.heap.size + q, 1, none⟩ u1) v a ∧ Below W.heap.size W ((w.setCell ⟨W.heap.size + q, 0, none⟩ u0).setCell ⟨W.heap.size + q, 1, none⟩ u1) := by
  have hno : ¬ OffB W.heap.size k P (W.heap.size + q) := by
    rintro ⟨_, h⟩
    omega
  exact ⟨((hA.set hno 0 _).set hno 1 _).imp (fun b h _ => h.1), (hb.setCell (p := ⟨W.heap.size + q, 0, none⟩) (by show W.heap.size ≤ W.heap.size + q; omega) _).setCell (p := ⟨W.heap.size + q, 1, none⟩) (by show W.heap.size ≤ W.heap.size + q; omega) _⟩
set_option maxHeartbeats 2000000 in
set_option maxRecDepth 20000 in
theorem chain_any {f : Arr → Arr → Arr × Int} {g : Nat} (z : Int) (hen : Enters Tryz.prog g) {w0 : World} (hfn : FnTwo g #[] w0 f) (P : Nat → Prop) (W : World) (hW : Below w0.heap.size w0 W) (hP : ∀ b, W.heap.size ≤ b → P b) (gb k cap : Nat) (cs : List Arr) (hk : cs.length = k) (hk0 : 0 < k) (hk2 : k ≤ 200) (hgb : gb < W.heap.size) (hC : Cols P W gb cs) (hok : ∀ c ∈ cs, c.ok) (hev : ∀ a b, a.ok → b.ok → (f a b).2 = 0 → (f a b).1.ok) :
    Calls Tryz.prog 226 #[.agg #[.func (.func g) #[] #[], .int .i64 z], .slice (some ⟨gb, 0, none⟩) k cap] W fun e W' => ∃ so sn sc co cn cc, e = .returned (.tuple #[.agg #[.slice so sn sc, .slice co cn cc], .int .i64 (chainL f cs).2]) ∧ IsArr P W' (.agg #[.slice so sn sc, .slice co cn cc]) (chainL f cs).1 ∧ Below W.heap.size W W' := by
  obtain ⟨q, rfl⟩ : ∃ q, k = q + 1 := ⟨k - 1, by omega⟩
  have hC' := hC.imp (Q := OffB W.heap.size 3 P) (fun b h hl => ⟨h, Or.inl hl⟩)
  obtain ⟨so, sn, sc, co, cn, cc, l0, l1, lA⟩ := hC' q (by omega)
  have HC := hide hC'
  have HLA := hide lA
  have HP := hide hP
  have HFn := hide hfn
  have HOk := hide hok
  have HEv := hide hev
  have HW := hide hW
  have hen2 : ∀ args w, (callFunc g args).run Tryz.prog w = .ok (.enter g args) w := hen
  have q0 : (0 : Int) ≤ (q : Int) := by omega
  have q1 : (q : Int) < ((q : Int) + 1) := by omega
  clear hC hC' lA hP hfn hok hev hW hen
  go_enter Tryz.func226, Tryz.ntmps226
  go_wp2_with fail
  have hstart := ((Bx.nil W).alloc (by simp) [.func (.func g) #[] #[], .int .i64 z] 241).alloc (by simp) [.slice none 0 0, .slice none 0 0] 89 |>.alloc (by simp) [.slice so sn sc, .slice co cn cc] 89
  have hbs : Below W.heap.size W (((W.alloc (.cells #[.func (.func g) #[] #[], .int .i64 z] 241)).alloc (.cells #[.slice none 0 0, .slice none 0 0] 89)).alloc (.cells #[.slice so sn sc, .slice co cn cc] 89)) := hstart.below
  obtain ⟨wS, hwS⟩ : ∃ wS, ((W.alloc (.cells #[.func (.func g) #[] #[], .int .i64 z] 241)).alloc (.cells #[.slice none 0 0, .slice none 0 0] 89)).alloc (.cells #[.slice so sn sc, .slice co cn cc] 89) = wS := ⟨_, rfl⟩
  have hstart : Bx W wS [[.func (.func g) #[] #[], .int .i64 z], [.slice none 0 0, .slice none 0 0], [.slice so sn sc, .slice co cn cc]] := by rw [← hwS]; exact hstart
  rw [hwS] at hbs ⊢
  have HSt := hide hstart
  have HLS := hide ((unhide HLA).below hbs)
  clear hwS hstart hbs HLA l0 l1
  go_loopw [8] (fun v8 wr => ∃ j : Nat, v8 = .int .i64 ((j : Int) - 1) ∧ j ≤ q ∧ ∃ so sn sc co cn cc, Bx W wr [[.func (.func g) #[] #[], .int .i64 z], [.slice none 0 0, .slice none 0 0], [.slice so sn sc, .slice co cn cc]] ∧ IsArr (OffB W.heap.size 3 P) wr (.agg #[.slice so sn sc, .slice co cn cc]) (chainL f (cs.drop j)).1 ∧ (chainL f (cs.drop j)).2 = 0) (fun v8 _ => (intOf v8 + 1).toNat)
  case atStart =>
    have e : cs.drop q = [cs[q]'(by omega)] := by
      rw [List.drop_eq_getElem_cons (by omega), List.drop_eq_nil_of_le (by omega)]
    refine ⟨q, rfl, by omega, so, sn, sc, co, cn, cc, unhide HSt, ?_, ?_⟩ <;> rw [e, chain_one]
    exact unhide HLS
  case round =>
    obtain ⟨j, rfl, hj, s1, s2, s3, c1, c2, c3, hX, hM, hM0⟩ := hrel
    have HX := hide hX
    have HM := hide hM
    have HM0 := hide hM0
    have m0 : wr.cell? ⟨W.heap.size + 1 + 1, 0, none⟩ = some (.slice s1 s2 s3) := (hX.cell 2 0 _ rfl).1
    have m1 : wr.cell? ⟨W.heap.size + 1 + 1, 1, none⟩ = some (.slice c1 c2 c3) := (hX.cell 2 1 _ rfl).1
    have hlt : W.heap.size + 1 + 1 + 1 ≤ wr.heap.size := hX.lt
    by_cases hj0 : j = 0
    · subst hj0
      have r0 : wr.cell? ⟨W.heap.size + 1, 0, none⟩ = some (.slice none 0 0) := (hX.cell 1 0 _ rfl).1
      have r1 : wr.cell? ⟨W.heap.size + 1, 1, none⟩ = some (.slice none 0 0) := (hX.cell 1 1 _ rfl).1
      have g0 : wr.frozen? ⟨W.heap.size + 1, 0, none⟩ = false := (hX.cell 1 0 _ rfl).2
      have g1 : wr.frozen? ⟨W.heap.size + 1, 1, none⟩ = false := (hX.cell 1 1 _ rfl).2
      have i0 : ¬ (0 : Int) ≤ ((0 : Nat) : Int) - 1 := by omega
      clear hX hM hM0
      go_wp2_with fail
      have hf2 := fin_bx (q := 1) (u0 := .slice s1 s2 s3) (u1 := .slice c1 c2 c3) (unhide HX).below (by decide) (unhide HM)
      have h0 := unhide HM0
      rw [List.drop_zero] at hf2 h0
      refine bodyPost_ret (v := .tuple #[.agg #[.slice s1 s2 s3, .slice c1 c2 c3], .int .i64 0]) (by simp [results, Tryz.results226, go_sem, r0, r1]) rfl ⟨s1, s2, s3, c1, c2, c3, by rw [h0], hf2.1, hf2.2⟩
    · obtain ⟨i, rfl⟩ : ∃ i, j = i + 1 := ⟨j - 1, by omega⟩
      have hji : ((i + 1 : Nat) : Int) - 1 = (i : Int) := by omega
      rw [hji]
      obtain ⟨t1, t2, t3, d1, d2, d3, k0, k1, hcol⟩ := (unhide HC) i (by omega)
      have hmem : cs[i]'(by omega) ∈ cs := List.getElem_mem _
      have hcok := unhide HOk _ hmem
      have hmok : (chainL f (cs.drop (i + 1))).1.ok := chain_okk (unhide HEv) (by intro e; have := congrArg List.length e; simp at this; omega) (fun c hc => unhide HOk c (List.mem_of_mem_drop hc)) hM0
      have hdrop : cs.drop i = cs[i]'(by omega) :: cs.drop (i + 1) := List.drop_eq_getElem_cons (by omega)
      have hne : cs.drop (i + 1) ≠ [] := by intro e; have := congrArg List.length e; simp at this; omega
      have hch := chain_cons (f := f) (c := cs[i]'(by omega)) hne hM0
      rw [← hdrop] at hch
      have HCh := hide hch
      have HS : Hid (∀ w', Below wr.heap.size wr w' → w'.cell? ⟨W.heap.size, 0, none⟩ = some (.func (.func g) #[] #[]) ∧ w'.cell? ⟨gb, i * 2, none⟩ = some (.slice t1 t2 t3) ∧ w'.cell? ⟨gb, i * 2 + 1, none⟩ = some (.slice d1 d2 d3) ∧ w'.cell? ⟨W.heap.size + 1 + 1, 0, none⟩ = some (.slice s1 s2 s3) ∧ w'.cell? ⟨W.heap.size + 1 + 1, 1, none⟩ = some (.slice c1 c2 c3)) := hide (fun w' hb => by
        have hbb : Below W.heap.size W w' := (unhide HX).below.trans (hb.mono (by omega))
        have hX' := (unhide HX).next hb
        exact ⟨(hX'.cell 0 0 _ rfl).1, (hbb.cell (p := ⟨gb, i * 2, none⟩) hgb).trans k0, (hbb.cell (p := ⟨gb, i * 2 + 1, none⟩) hgb).trans k1, (hX'.cell 2 0 _ rfl).1, (hX'.cell 2 1 _ rfl).1⟩)
      obtain ⟨A, hA⟩ : ∃ A, cs[i]'(by omega) = A := ⟨_, rfl⟩
      obtain ⟨B, hB⟩ : ∃ B, (chainL f (cs.drop (i + 1))).1 = B := ⟨_, rfl⟩
      rw [hA] at hcol hcok HCh
      rw [hB] at hM hmok HCh
      have HCall : Hid (∀ w', Below wr.heap.size wr w' → Calls Tryz.prog g #[.agg #[.slice t1 t2 t3, .slice d1 d2 d3], .agg #[.slice s1 s2 s3, .slice c1 c2 c3]] w' fun e W' => ∃ so sn sc co cn cc, e = .returned (.tuple #[.agg #[.slice so sn sc, .slice co cn cc], .int .i64 (f A B).2]) ∧ IsArr (OffB W.heap.size 3 P) W' (.agg #[.slice so sn sc, .slice co cn cc]) (f A B).1 ∧ Below w'.heap.size w' W') := hide (fun w' hb => by
        have hbb : Below W.heap.size W w' := (unhide HX).below.trans (hb.mono (unhide HX).below.size)
        have hsz := hb.size
        exact unhide HFn w' (OffB W.heap.size 3 P) _ _ A B ((unhide HW).trans (hbb.mono (unhide HW).size)) (fun b h => OffB.new (unhide HP) (by omega)) (hcol.below hbb) (hM.below hb) hcok hmok)
      have f0 : wr.frozen? ⟨W.heap.size + 1 + 1, 0, none⟩ = false := (hX.cell 2 0 _ rfl).2
      have f1 : wr.frozen? ⟨W.heap.size + 1 + 1, 1, none⟩ = false := (hX.cell 2 1 _ rfl).2
      have i0 : (0 : Int) ≤ (i : Int) := by omega
      have i1 : (i : Int) < (q : Int) + 1 := by omega
      have hgr : gb < wr.heap.size := by omega
      have hwr : W.heap.size < wr.heap.size := by omega
      clear hX hM hM0 hcol hcok hmok hmem hch hdrop k0 k1 hA hB hne hji hj0
      go_wp2_with fail
      obtain ⟨z0, z1, z2, -, -⟩ := unhide HS wr (Below.refl _ _)
      go_region_with ((go_at_fn g; refine (unhide HCall _ (Below.refl _ _).drew).mono ?_; rintro e w5 ⟨s4, s5, s6, c4, c5, c6, rfl, hA5, hb5⟩; have HA5 := hide hA5; have HB5w := hide ((Below.refl wr.heap.size wr).drew.trans hb5); have HB5 : Hid (Below (W.heap.size + 1 + 1) wr w5) := hide ((unhide HB5w).mono (by omega)); have m0' := ((unhide HB5w).cell (p := ⟨W.heap.size + 1 + 1, 0, none⟩) (by show W.heap.size + 1 + 1 < wr.heap.size; omega)).trans m0; have m1' := ((unhide HB5w).cell (p := ⟨W.heap.size + 1 + 1, 1, none⟩) (by show W.heap.size + 1 + 1 < wr.heap.size; omega)).trans m1; have f0' := ((unhide HB5w).frozen (p := ⟨W.heap.size + 1 + 1, 0, none⟩) (by show W.heap.size + 1 + 1 < wr.heap.size; omega)).trans f0; have f1' := ((unhide HB5w).frozen (p := ⟨W.heap.size + 1 + 1, 1, none⟩) (by show W.heap.size + 1 + 1 < wr.heap.size; omega)).trans f1; clear hA5 hb5))
      all_goals
        have HX5 : Hid (Bx W ((w5.setCell ⟨W.heap.size + 1 + 1, 0, none⟩ (.slice s4 s5 s6)).setCell ⟨W.heap.size + 1 + 1, 1, none⟩ (.slice c4 c5 c6)) [[.func (.func g) #[] #[], .int .i64 z], [.slice none 0 0, .slice none 0 0], [.slice s4 s5 s6, .slice c4 c5 c6]]) := hide ((((unhide HX).next (unhide HB5w)).set 2 0 _ (.slice s4 s5 s6) rfl).set 2 1 _ (.slice c4 c5 c6) rfl)
        have hno : ¬ OffB W.heap.size 3 P (W.heap.size + 1 + 1) := by rintro ⟨_, h⟩; omega
        have HA6 := hide (((unhide HA5).set hno 0 (.slice s4 s5 s6)).set hno 1 (.slice c4 c5 c6))
        obtain ⟨w6, hw6⟩ : ∃ w6, (w5.setCell ⟨W.heap.size + 1 + 1, 0, none⟩ (.slice s4 s5 s6)).setCell ⟨W.heap.size + 1 + 1, 1, none⟩ (.slice c4 c5 c6) = w6 := ⟨_, rfl⟩
        rw [hw6] at HX5 HA6 ⊢
        clear hw6 hno m0 m1 f0 f1 m0' m1' f0' f1' HA5 HB5 HB5w HS HCall HX z0 z1 z2
        by_cases he : (f A B).2 = 0
        · rw [he]
          have hch := unhide HCh
          rw [if_neg (by simp [he])] at hch
          have HCh2 := hide hch
          have HE := hide he
          clear hch HCh he
          go_wp2_with fail
          go_roundw
          case rel => exact ⟨i, by go_num, by omega, s4, s5, s6, c4, c5, c6, unhide HX5, by rw [unhide HCh2]; exact unhide HA6, by rw [unhide HCh2]; exact unhide HE⟩
          case measure => simp [intOf]
        · have hch := unhide HCh
          rw [if_pos he] at hch
          have hall := chain_err (f := f) he (p := cs.take i) (r := cs.drop i) (by intro e; have := congrArg List.length e; simp at this; omega) hch
          rw [List.take_append_drop] at hall
          have HAll := hide hall
          obtain ⟨er, her⟩ : ∃ er, (f A B).2 = er := ⟨_, rfl⟩
          rw [her] at he HAll ⊢
          have he2 : (er != 0) = true := by simpa using he
          have r0 : w6.cell? ⟨W.heap.size + 1, 0, none⟩ = some (.slice none 0 0) := ((unhide HX5).cell 1 0 _ rfl).1
          have r1 : w6.cell? ⟨W.heap.size + 1, 1, none⟩ = some (.slice none 0 0) := ((unhide HX5).cell 1 1 _ rfl).1
          have g0 : w6.frozen? ⟨W.heap.size + 1, 0, none⟩ = false := ((unhide HX5).cell 1 0 _ rfl).2
          have g1 : w6.frozen? ⟨W.heap.size + 1, 1, none⟩ = false := ((unhide HX5).cell 1 1 _ rfl).2
          clear hch hall HCh he her HA6
          go_wp2_with fail
          have hf2 := fin_bx (q := 1) (P := P) (k := 3) (a := eArr) (u0 := .slice none 0 0) (u1 := .slice none 0 0) (unhide HX5).below (by decide) (e_arr _ _)
          refine bodyPost_ret (v := .tuple #[.agg #[.slice none 0 0, .slice none 0 0], .int .i64 er]) (by simp [results, Tryz.results226, go_sem, r0, r1]) rfl ⟨none, 0, 0, none, 0, 0, by rw [unhide HAll], by rw [unhide HAll]; exact hf2.1, hf2.2⟩
end Go.Proofs.YtjobgpahajhbnaaGreatDoor
namespace Go.Proofs.YtjobgpahajhbnaaGreatDoor
open Go.RowKit

/-- a function of one array, as it is written ahead of a blank -/
structure Fn1 (f : List UInt8) : Prop where
  hd : ∃ c l, f = c :: l ∧ c ≠ 32 ∧ tailU c = false
  tl : ∀ r, tl (f ++ (32 :: r)) = some f.length
  kind : kindT ⟨f.toArray⟩ = 3
  role : roleB (roleT ⟨f.toArray⟩) 1 = true
theorem tl_ravel (r : List UInt8) : tl ([114, 97, 118, 101, 108] ++ (32 :: r)) = some 5 := by
  have h : ([114, 97, 118, 101, 108] ++ (32 :: r)).takeWhile lU = [114, 97, 118, 101, 108] := rfl
  have hf : isFn [114, 97, 118, 101, 108] = true := by decide +kernel
  show wrdE ([114, 97, 118, 101, 108] ++ (32 :: r)) = some 5
  unfold wrdE
  rw [h]
  simp [hf]
theorem fn1_ravel : Fn1 [114, 97, 118, 101, 108] := ⟨⟨114, [97, 118, 101, 108], rfl, by decide, by decide⟩, tl_ravel, by decide +kernel, by decide +kernel⟩
end Go.Proofs.YtjobgpahajhbnaaGreatDoor
namespace Go.Proofs.YtjobgpahajhbnaaGreatDoor
open Go.RowKit

/-- numbers with blanks between -/
inductive NmRow : List Int → List UInt8 → Prop where
  | one (n : Int) (t : List UInt8) : Nm n t → NmRow [n] t
  | more (n : Int) (t : List UInt8) (ns : List Int) (u : List UInt8) : Nm n t → NmRow ns u → NmRow (n :: ns) (t ++ (32 :: u))
theorem stop_blank (r : List UInt8) : Stop (32 :: r) := by intro c hc; simp at hc; subst hc; decide
theorem row_toks {ns : List Int} {t : List UInt8} (h : NmRow ns t) : ∀ (p : Nat) (r : List UInt8), Stop r → ∃ A : List (Nat × Nat), LY p t r A ∧ A.length = ns.length ∧
    ∀ (s : ByteArray) (q : List UInt8), s.data.toList = q ++ (t ++ r) → q.length = p → ∀ i, (hi : i < ns.length) → ∃ x y, A[i]? = some (x, y) ∧ kindT (s.extract x y) = 0 ∧ roleT (s.extract x y) = 0 ∧ worthT (s.extract x y) = ns[i] := by
  induction h with
  | one n t hn =>
    intro p r hr
    refine ⟨[(p, p + t.length)], nm_ly hn hr p, rfl, ?_⟩
    intro s q hs hq i hi
    have : i = 0 := by simpa using hi
    subst this
    obtain ⟨k1, k2, k3⟩ := nm_tok hn
    have ht := ext_mid hs hq
    exact ⟨p, p + t.length, rfl, by rw [ht, k1], by rw [ht, k2], by rw [ht, k3]; rfl⟩
  | more n t ns u hn hu ih =>
    intro p r hr
    obtain ⟨A, hA, hl, hf⟩ := ih (p + t.length + 1) r hr
    refine ⟨(p, p + t.length) :: A, ?_, by simp [hl], ?_⟩
    · have h1 := nm_ly hn (stop_blank (u ++ r)) p
      exact h1.append (l2 := 32 :: u) (r := r) (by simp) (LY.blank _ _ _ _ hA)
    · intro s q hs hq i hi
      match i, hi with
      | 0, _ =>
        obtain ⟨k1, k2, k3⟩ := nm_tok hn
        have ht := ext_mid (t := t) (r := (32 :: u) ++ r) (by rw [hs]; simp) hq
        exact ⟨p, p + t.length, rfl, by rw [ht, k1], by rw [ht, k2], by rw [ht, k3]; rfl⟩
      | i + 1, hi =>
        obtain ⟨x, y, h1, h2⟩ := hf s (q ++ t ++ [32]) (by rw [hs]; simp) (by simp [hq]; omega) i (by simpa using hi)
        exact ⟨x, y, by simpa using h1, by simpa using h2⟩
theorem row_pos {ns : List Int} {t : List UInt8} (h : NmRow ns t) : 0 < ns.length := by cases h <;> simp
/-- a function of two arrays, with blanks round it -/
structure Fn2 (f : List UInt8) : Prop where
  hd : ∃ c l, f = c :: l ∧ c ≠ 32
  tl : ∀ r, tl (f ++ (32 :: r)) = some f.length
  kind : kindT ⟨f.toArray⟩ = 3
  role : roleB (roleT ⟨f.toArray⟩) 2 = true
/-- what may come behind a name -/
def StopN (r : List UInt8) : Prop := ∀ c, r.head? = some c → lU c = false
/-- a name -/
structure NameT (t : List UInt8) : Prop where
  hd : ∃ c l, t = c :: l ∧ c ≠ 32 ∧ tailU c = false
  tl : ∀ r, StopN r → tl (t ++ r) = some t.length
  kind : kindT ⟨t.toArray⟩ = 1
  role : roleT ⟨t.toArray⟩ = 0
/-- a text at place p, its tree; brackets so deep at most; true: it is a THING -/
inductive Tw : Nat → Bool → Nat → Ex → List UInt8 → Prop where
  | row (d p : Nat) (ns : List Int) (t : List UInt8) : NmRow ns t → Tw d true p (.num ns) t
  | name (d p : Nat) (t : List UInt8) : NameT t → Tw d true p (.name ⟨t.toArray⟩ p) t
  | br (d p : Nat) (x : Ex) (t : List UInt8) : Tw d false (p + 1) x t → Tw (d + 1) true p x (40 :: (t ++ [41]))
  | only (d p : Nat) (x : Ex) (t : List UInt8) : Tw d true p x t → Tw d false p x t
  | two (d p : Nat) (f : List UInt8) (l r : Ex) (a b : List UInt8) : Fn2 f → Tw d true p l a → Tw d false (p + a.length + 1 + f.length + 1) r b → Tw d false p (.two ⟨f.toArray⟩ (p + a.length + 1) l r) (a ++ (32 :: (f ++ (32 :: b))))
  | one (d p : Nat) (f : List UInt8) (r : Ex) (b : List UInt8) : Fn1 f → Tw d false (p + f.length + 1) r b → Tw d false p (.one ⟨f.toArray⟩ p r) (f ++ (32 :: b))
/-- the tokens A of a text t at place p give the tree x, wherever they stand, and none of them is 'is' -/
def GivesW (d : Nat) (b : Bool) (x : Ex) (t : List UInt8) (p : Nat) (r : List UInt8) (A : List (Nat × Nat)) : Prop :=
  ∀ (s : ByteArray) (q : List UInt8), s.data.toList = q ++ (t ++ r) → q.length = p → ∀ (pre post : List (Nat × Nat)) (o : Nat), d + o ≤ 8 →
    kB (kr (toks s (pre ++ (A ++ post)))) (pre.length + A.length) 0 = false → (b = false → fB (kr (toks s (pre ++ (A ++ post)))) (pre.length + A.length) 2 = false) →
    (b = true → fB (kr (toks s (pre ++ (A ++ post)))) pre.length 1 = false) ∧ (∀ i, i < A.length → kB (kr (toks s (pre ++ (A ++ post)))) (pre.length + i) 2 = false) ∧ PX (toks s (pre ++ (A ++ post))) b pre.length o x (pre.length + A.length)
theorem at_in {pre A post : List (Nat × Nat)} {i : Nat} {z : Nat × Nat} (h : A[i]? = some z) : (pre ++ (A ++ post))[pre.length + i]? = some z := by
  rw [List.getElem?_append_right (by omega), Nat.add_sub_cancel_left, List.getElem?_append_left (List.getElem?_eq_some_iff.1 h).1]
  exact h
theorem worths_row {s : ByteArray} {pre A post : List (Nat × Nat)} {ns : List Int} (hl : A.length = ns.length) (h : ∀ i, (hi : i < ns.length) → ∃ x y, A[i]? = some (x, y) ∧ worthT (s.extract x y) = ns[i]) : worths (toks s (pre ++ (A ++ post))) pre.length (pre.length + A.length) = ns := by
  apply List.ext_getElem
  · rw [worths_len _ _ _ (by rw [toks_len]; simp)]; omega
  · intro i h1 h2
    obtain ⟨x, y, e1, e2⟩ := h i h2
    have e3 := at_in (pre := pre) (post := post) e1
    have hlt : pre.length + i < (pre ++ (A ++ post)).length := (List.getElem?_eq_some_iff.1 e3).1
    have e4 : (pre ++ (A ++ post))[pre.length + i] = (x, y) := by rw [List.getElem?_eq_getElem hlt] at e3; exact Option.some.inj e3
    simp only [worths, toks, List.getElem_map, List.getElem_drop, List.getElem_take]
    rw [e4]
    exact e2
end Go.Proofs.YtjobgpahajhbnaaGreatDoor
