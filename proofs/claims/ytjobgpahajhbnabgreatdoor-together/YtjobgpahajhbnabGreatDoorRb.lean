import Derived.Test.YtjobgpahajhbnabGreatDoorEa
import Derived.Deep.DrawnRows
namespace Go.Proofs.YtjobgpahajhbnabGreatDoor
open Go.RowKit Go.Proofs
attribute [local go_sem ↓] Go.wp_at_zero Go.wp_at_succ
set_option maxHeartbeats 600000 in
theorem Yi (w : World) (so : Option Addr) (sn sc : Nat) (co : Option Addr) (cn cc : Nat) :
    Calls Tryz.prog 144 #[.agg #[.slice so sn sc, .slice co cn cc]] w fun e w' => e = .returned (.int .i64 sn) ∧ w' = w.alloc (.cells #[.slice so sn sc, .slice co cn cc] 57) := by
  go_enter Tryz.func144, Tryz.ntmps144
  go_wp2
  go_ret
  exact ⟨rfl, rfl⟩
set_option maxHeartbeats 600000 in
theorem Ji (w : World) (so : Option Addr) (sn sc : Nat) (co : Option Addr) (cn cc : Nat) :
    Calls Tryz.prog 143 #[.agg #[.slice so sn sc, .slice co cn cc]] w fun e w' => e = .returned (.bool ((sn : Int) == 0)) ∧ w' = (w.alloc (.cells #[.slice so sn sc, .slice co cn cc] 57)).alloc (.cells #[.slice so sn sc, .slice co cn cc] 57) := by
  go_enter Tryz.func143, Tryz.ntmps143
  go_wp2_with (go_at_call 144; refine (Yi _ so sn sc co cn cc).mono ?_; rintro e w' ⟨rfl, rfl⟩)
  go_ret
  exact ⟨rfl, rfl⟩
theorem Jg8 {W : World} {n : Nat} (h : W.heap.size = n) (v : Value) (e : TypeId) (o : Obj) : ((W.alloc (.cells #[v] e)).alloc o).drew.cell? ⟨n, 0, none⟩ = some v := by
  subst h
  show ((W.alloc (.cells #[v] e)).alloc o).cell? ⟨W.heap.size, 0, none⟩ = some v
  simp
theorem Jg7 {W : World} {n : Nat} (h : W.heap.size + 1 = n) (v : Value) (e : TypeId) (o : Obj) : ((W.alloc o).alloc (.cells #[v] e)).drew.cell? ⟨n, 0, none⟩ = some v := by
  subst h
  show ((W.alloc o).alloc (.cells #[v] e)).cell? ⟨W.heap.size + 1, 0, none⟩ = some v
  simp
theorem Nums.set {P : Nat → Prop} {w : World} {v : Value} {a : List Int} (h : Nums P w v a) {b : Nat} (hb : ¬ P b) (i : Nat) (u : Value) : Nums P (w.setCell ⟨b, i, none⟩ u) v a :=
  h.keep (by simp) (fun c hc _ => RowKit.Below.heap_setCell _ _ _ _ (fun e => hb (by rw [← show c = b from e]; exact hc)))
theorem Vm {P : Nat → Prop} {w w2 : World} {so : Option Addr} {sn sc : Nat} {cv : Value} {co : Option Addr} {cn cc : Nat} {a : Arr} {ys : List Int} {u0 u1 : Value} (ha : IsArr P w (.agg #[.slice so sn sc, cv]) a) (hb : Below w.heap.size w w2) (hn : Nums (fun b => P b ∧ b ≠ w.heap.size + 1) w2 (.slice co cn cc) ys) :
    IsArr P ((w2.setCell ⟨w.heap.size + 1, 0, none⟩ u0).setCell ⟨w.heap.size + 1, 1, none⟩ u1) (.agg #[.slice so sn sc, .slice co cn cc]) ⟨a.shape, ys⟩ := by
  obtain ⟨so', sn', sc', co', cn', cc', hv, h1, _⟩ := ha
  injection hv with hv
  simp at hv
  obtain ⟨⟨rfl, rfl, rfl⟩, _⟩ := hv
  have h2 : Nums (fun b => P b ∧ b ≠ w.heap.size + 1) w2 (.slice so sn sc) (a.shape.map Int.ofNat) := (h1.imp (fun b hp hl => ⟨hp, by omega⟩)).below hb
  exact ⟨_, _, _, _, _, _, rfl, ((h2.set (fun h => h.2 rfl) 0 u0).set (fun h => h.2 rfl) 1 u1).imp (fun _ h _ => h.1), ((hn.set (fun h => h.2 rfl) 0 u0).set (fun h => h.2 rfl) 1 u1).imp (fun _ h _ => h.1)⟩
set_option maxHeartbeats 1000000 in
theorem Vn (P : Nat → Prop) (w : World) (hP : ∀ b, w.heap.size ≤ b → P b) (so : Option Addr) (sn sc : Nat) (co : Option Addr) (cn cc : Nat) (a : Arr) (ha : IsArr P w (.agg #[.slice so sn sc, .slice co cn cc]) a) (hf : a.cells.length ≤ 200) (x : Int) :
    Calls Tryz.prog 186 #[.agg #[.slice so sn sc, .slice co cn cc], .int .i64 x] w fun e w' => ∃ co' cn' cc', e = .returned (.agg #[.slice so sn sc, .slice co' cn' cc']) ∧ IsArr P w' (.agg #[.slice so sn sc, .slice co' cn' cc']) ⟨a.shape, List.replicate a.cells.length x⟩ ∧ Below w.heap.size w w' := by
  obtain ⟨hl, hsl⟩ := Jc ha
  have hcn : cn ≤ 200 := by omega
  have HP : Hid (∀ b, w.heap.size ≤ b → P b) := hP
  have HA := hide ha
  have HL := hide hl
  clear hP ha hl hsl
  go_enter Tryz.func186, Tryz.ntmps186
  go_wp2_with fail
  go_region_with (first | (go_at_call 76; refine (J2 _ so sn sc co cn cc).mono ?_; rintro e w1 ⟨rfl, rfl⟩) | (go_at_call 147; refine (Vg (fun b => P b ∧ b ≠ w.heap.size + 1) _ (fun b h => ⟨Ja HP b (by simp at h; omega), by simp at h; omega⟩) _ _ _ x cn hcn ?_ ?_).mono ?_; (first | exact Jg8 (by simp) _ _ _ | exact Jg7 (by simp) _ _ _); (first | (simp; omega) | simp); rintro e w2 ⟨g2, rfl, hn2, hb2⟩; have HN2 := hide hn2; have HB2 := hide hb2; obtain ⟨hc2, hf2⟩ := Jr hb2; clear hn2 hb2))
  all_goals
    have d0 := hc2 (w.heap.size + 1) 0 (by simp)
    have d1 := hc2 (w.heap.size + 1) 1 (by simp)
    simp [World.cell?_alloc_past] at d0 d1
    go_wp2_with fail
    refine bodyPost_ret (v := .agg #[.slice so sn sc, .slice (some ⟨g2, 0, none⟩) cn cn]) (by simp [results, Tryz.results186, go_sem, d0, d1]) rfl ⟨_, _, _, rfl, ?_, ?_⟩
    · have hb3 : Below w.heap.size w w2 := (((((Below.refl w.heap.size w).alloc (Nat.le_refl _) _).alloc (by simp) _).alloc (by simp; omega) _).alloc (by simp; omega) _).drew.trans ((Ja HB2).mono (by simp; omega))
      exact Vm (Ja HA) hb3 (by rw [← Ja HL]; exact Ja HN2)
    · exact (((((((Below.refl w.heap.size w).alloc (Nat.le_refl _) _).alloc (by simp) _).alloc (by simp; omega) _).alloc (by simp; omega) _).drew.trans ((Ja HB2).mono (by simp; omega))).setCell (p := ⟨w.heap.size + 1, 0, none⟩) (Nat.le_succ _) _).setCell (p := ⟨w.heap.size + 1, 1, none⟩) (Nat.le_succ _) _
end Go.Proofs.YtjobgpahajhbnabGreatDoor
namespace Go.Proofs.YtjobgpahajhbnabGreatDoor
open Go.RowKit Go.Proofs
attribute [local go_sem ↓] Go.wp_at_zero Go.wp_at_succ
def zipF (f : Int → Int → Int × Int) : List Int → List Int → Sum Int (List Int)
  | x :: xs, y :: ys => if (f x y).2 ≠ 0 then .inl (f x y).2 else match zipF f xs ys with
    | .inl e => .inl e
    | .inr l => .inr ((f x y).1 :: l)
  | _, _ => .inr []
def eArr : Arr := ⟨[], []⟩
def zipA (f : Int → Int → Int × Int) (shape : List Nat) (xs ys : List Int) : Arr × Int := match zipF f xs ys with
  | .inl e => (eArr, e)
  | .inr l => (⟨shape, l⟩, 0)
def Je (f : Int → Int → Int × Int) (a b : Arr) : Arr × Int :=
  if a.shape = [] then zipA f b.shape (List.replicate b.cells.length (a.cells.headD 0)) b.cells
  else if b.shape = [] then zipA f a.shape a.cells (List.replicate a.cells.length (b.cells.headD 0))
  else if a.shape.length ≠ b.shape.length then (eArr, 5)
  else if a.shape ≠ b.shape then (eArr, 6)
  else zipA f a.shape a.cells b.cells
theorem Ja1 {f : Int → Int → Int × Int} : ∀ {xs ys l : List Int}, zipF f xs ys = .inr l → xs.length = ys.length → l.length = xs.length
  | [], [], l, h, _ => by simp [zipF] at h; subst h; rfl
  | x :: xs, y :: ys, l, h, hl => by
    unfold zipF at h
    split at h
    · cases h
    · cases hz : zipF f xs ys with
      | inl e => rw [hz] at h; cases h
      | inr m =>
        rw [hz] at h
        cases h
        simp at hl ⊢
        exact Ja1 hz hl
  | [], y :: ys, _, _, hl => by simp at hl
  | x :: xs, [], _, _, hl => by simp at hl
theorem Vy {f : Int → Int → Int × Int} : ∀ (k : Nat) (xs ys : List Int), xs.length = ys.length → (hk : k < xs.length) → (hk' : k < ys.length) → ∀ l, zipF f (xs.take k) (ys.take k) = .inr l →
    ((f xs[k] ys[k]).2 ≠ 0 → zipF f xs ys = .inl (f xs[k] ys[k]).2) ∧ ((f xs[k] ys[k]).2 = 0 → zipF f (xs.take (k + 1)) (ys.take (k + 1)) = .inr (l ++ [(f xs[k] ys[k]).1]))
  | 0, x :: xs, y :: ys, _, _, _, l, h => by
    simp [zipF] at h
    subst h
    refine ⟨fun he => ?_, fun he => ?_⟩
    · simp at he ⊢
      unfold zipF
      rw [if_pos he]
    · simp at he ⊢
      unfold zipF
      rw [if_neg (by simpa using he)]
      simp [zipF]
  | k + 1, x :: xs, y :: ys, hl, hk, hk', l, h => by
    simp at hl hk hk'
    simp only [List.take_succ_cons] at h ⊢
    unfold zipF at h
    split at h
    · cases h
    · rename_i h0
      cases hz : zipF f (xs.take k) (ys.take k) with
      | inl e => rw [hz] at h; cases h
      | inr m =>
        rw [hz] at h
        cases h
        have ih := Vy k xs ys hl hk hk' m hz
        simp only [List.getElem_cons_succ]
        refine ⟨fun he => ?_, fun he => ?_⟩
        · unfold zipF
          rw [if_neg h0, ih.1 he]
        · have := ih.2 he
          unfold zipF
          rw [if_neg h0, this]
          simp
  | _, [], _, _, hk, _, _, _ => by simp at hk
  | _, _ :: _, [], _, _, hk', _, _ => by simp at hk'
structure RuleC (g : Nat) (f : Int → Int → Int × Int) : Prop where
  enters : Enters Tryz.prog g
  call : ∀ (x y : Int) (w : World), Jg x → Jg y → Calls Tryz.prog g #[.int .i64 x, .int .i64 y] w fun e w' => e = .returned (.tuple #[.int .i64 (f x y).1, .int .i64 (f x y).2]) ∧ w' = w
  fits : ∀ x y : Int, Jg x → Jg y → Jg (f x y).1
end Go.Proofs.YtjobgpahajhbnabGreatDoor
namespace Go.Proofs.YtjobgpahajhbnabGreatDoor
open Go.RowKit Go.Proofs
attribute [local go_sem ↓] Go.wp_at_zero Go.wp_at_succ
structure PairS (n : Nat) (wS : World) (so : Option Addr) (sn sc : Nat) (xo : Option Addr) (xc : Nat) (y0 : Value) (yo : Option Addr) (yc N : Nat) (xs ys : List Int) : Prop where
  a0 : wS.cell? ⟨n, 0, none⟩ = some (.slice so sn sc)
  a1 : wS.cell? ⟨n, 1, none⟩ = some (.slice xo N xc)
  b1 : wS.cell? ⟨n + 1, 1, none⟩ = some (.slice yo N yc)
  b0 : wS.cell? ⟨n + 1, 0, none⟩ = some y0
  r0 : wS.cell? ⟨n + 2, 0, none⟩ = some (.slice none 0 0)
  r1 : wS.cell? ⟨n + 2, 1, none⟩ = some (.slice none 0 0)
  f0 : wS.frozen? ⟨n + 2, 0, none⟩ = false
  f1 : wS.frozen? ⟨n + 2, 1, none⟩ = false
  lt : n + 2 < wS.heap.size
  xl : xs.length = N
  yl : ys.length = N
  few : N ≤ 200
  xfit : ∀ c ∈ xs, Jg c
  yfit : ∀ c ∈ ys, Jg c
  x : 0 < N → ∃ b off, xo = some ⟨b, off, none⟩ ∧ b < wS.heap.size ∧ ∀ i, (h : i < xs.length) → wS.cell? ⟨b, off + i, none⟩ = some (.int .i64 xs[i])
  y : 0 < N → ∃ b off, yo = some ⟨b, off, none⟩ ∧ b < wS.heap.size ∧ ∀ i, (h : i < ys.length) → wS.cell? ⟨b, off + i, none⟩ = some (.int .i64 ys[i])
structure Box3 (w W : World) (a0 a1 b0 b1 : Value) : Prop where
  bel : Below w.heap.size w W
  sz : w.heap.size + 2 < W.heap.size
  c0 : W.cell? ⟨w.heap.size, 0, none⟩ = some a0
  c1 : W.cell? ⟨w.heap.size, 1, none⟩ = some a1
  d0 : W.cell? ⟨w.heap.size + 1, 0, none⟩ = some b0
  d1 : W.cell? ⟨w.heap.size + 1, 1, none⟩ = some b1
  r0 : W.cell? ⟨w.heap.size + 2, 0, none⟩ = some (.slice none 0 0)
  r1 : W.cell? ⟨w.heap.size + 2, 1, none⟩ = some (.slice none 0 0)
  fc0 : W.frozen? ⟨w.heap.size, 0, none⟩ = false
  fc1 : W.frozen? ⟨w.heap.size, 1, none⟩ = false
  fd0 : W.frozen? ⟨w.heap.size + 1, 0, none⟩ = false
  fd1 : W.frozen? ⟨w.heap.size + 1, 1, none⟩ = false
  fr0 : W.frozen? ⟨w.heap.size + 2, 0, none⟩ = false
  fr1 : W.frozen? ⟨w.heap.size + 2, 1, none⟩ = false
theorem X9 {w W : World} {a0 a1 b0 b1 : Value} (hb : Below (w.heap.size + 3) (((w.alloc (.cells #[a0, a1] 57)).alloc (.cells #[b0, b1] 57)).alloc (.cells #[.slice none 0 0, .slice none 0 0] 57)) W) : Box3 w W a0 a1 b0 b1 := by
  have hs := hb.size
  simp at hs
  have e0 : ∀ i, W.cell? ⟨w.heap.size, i, none⟩ = (w.alloc (.cells #[a0, a1] 57)).cell? ⟨w.heap.size, i, none⟩ := fun i => by
    rw [hb.cell (p := ⟨w.heap.size, i, none⟩) (show w.heap.size < w.heap.size + 3 by omega), World.cell?_alloc_past _ _ _ (by simp; omega), World.cell?_alloc_past _ _ _ (by simp)]
  have e1 : ∀ i, W.cell? ⟨w.heap.size + 1, i, none⟩ = ((w.alloc (.cells #[a0, a1] 57)).alloc (.cells #[b0, b1] 57)).cell? ⟨w.heap.size + 1, i, none⟩ := fun i => by
    rw [hb.cell (p := ⟨w.heap.size + 1, i, none⟩) (show w.heap.size + 1 < w.heap.size + 3 by omega), World.cell?_alloc_past _ _ _ (by simp)]
  have e2 : ∀ i, W.cell? ⟨w.heap.size + 2, i, none⟩ = (#[Value.slice none 0 0, .slice none 0 0] : Array Value)[i]? := fun i => by
    rw [hb.cell (p := ⟨w.heap.size + 2, i, none⟩) (show w.heap.size + 2 < w.heap.size + 3 by omega), World.cell?_alloc_at _ _ _ _ (by simp)]
  have f0 : ∀ i, W.frozen? ⟨w.heap.size, i, none⟩ = false := fun i => by
    rw [hb.frozen (p := ⟨w.heap.size, i, none⟩) (show w.heap.size < w.heap.size + 3 by omega), World.frozen?_of_block (a := ⟨w.heap.size, i, none⟩) (RowKit.Below.heap_alloc _ _ _ (by simp; omega)), World.frozen?_of_block (a := ⟨w.heap.size, i, none⟩) (RowKit.Below.heap_alloc _ _ _ (by simp))]
    exact World.frozen?_alloc_at _ _ _ _ rfl
  have f1 : ∀ i, W.frozen? ⟨w.heap.size + 1, i, none⟩ = false := fun i => by
    rw [hb.frozen (p := ⟨w.heap.size + 1, i, none⟩) (show w.heap.size + 1 < w.heap.size + 3 by omega), World.frozen?_of_block (a := ⟨w.heap.size + 1, i, none⟩) (RowKit.Below.heap_alloc _ _ _ (by simp))]
    exact World.frozen?_alloc_at _ _ _ _ (by simp)
  have f2 : ∀ i, W.frozen? ⟨w.heap.size + 2, i, none⟩ = false := fun i => by
    rw [hb.frozen (p := ⟨w.heap.size + 2, i, none⟩) (show w.heap.size + 2 < w.heap.size + 3 by omega)]
    exact World.frozen?_alloc_at _ _ _ _ (by simp)
  refine ⟨((((Below.refl w.heap.size w).alloc (Nat.le_refl _) _).alloc (by simp) _).alloc (by simp; omega) _).trans (hb.mono (by omega)), by omega, ?_, ?_, ?_, ?_, ?_, ?_, f0 _, f0 _, f1 _, f1 _, f2 _, f2 _⟩
  · rw [e0]; simp
  · rw [e0]; simp
  · rw [e1]; simp
  · rw [e1]; simp
  · rw [e2]; rfl
  · rw [e2]; rfl
theorem Jc9 {P : Nat → Prop} {w : World} {so : Option Addr} {sn sc : Nat} {co : Option Addr} {cn cc : Nat} {a : Arr} (h : IsArr P w (.agg #[.slice so sn sc, .slice co cn cc]) a) {x : Int} {r : List Int} (hx : a.cells = x :: r) : ∃ b off, co = some ⟨b, off, none⟩ ∧ b < w.heap.size ∧ w.cell? ⟨b, off, none⟩ = some (.int .i64 x) := by
  obtain ⟨so', sn', sc', co', cn', cc', hv, _, ⟨ao, cap, h2, _, hc, _⟩⟩ := h
  injection hv with hv
  simp at hv
  obtain ⟨_, rfl, rfl, rfl⟩ := hv
  rw [hx] at hc h2
  obtain ⟨b, off, h3, _, h4, h5⟩ := hc (by simp)
  have h6 := h5 0 (by simp)
  injection h2 with h2
  exact ⟨b, off, h2.trans h3, h4, by simpa using h6⟩
theorem Jgo {P : Nat → Prop} {w W3 w2 : World} {a0 a1 : Value} {so2 : Option Addr} {sn2 sc2 : Nat} {co2 : Option Addr} {cn2 cc2 : Nat} {co5 : Option Addr} {cn5 cc5 : Nat} {b : Arr} {x0 : Int} (h3 : Box3 w W3 a0 a1 (.slice so2 sn2 sc2) (.slice co2 cn2 cc2)) (h5 : Below W3.heap.size W3 w2)
    (h : IsArr (fun b' => P b' ∧ (b' < w.heap.size ∨ w.heap.size + 2 < b')) w2 (.agg #[.slice so2 sn2 sc2, .slice co5 cn5 cc5]) ⟨b.shape, List.replicate b.cells.length x0⟩) (hb : IsArr P w (.agg #[.slice so2 sn2 sc2, .slice co2 cn2 cc2]) b) (hok : b.ok) (hx0 : Jg x0) :
    PairS w.heap.size ((w2.setCell ⟨w.heap.size, 0, none⟩ (.slice so2 sn2 sc2)).setCell ⟨w.heap.size, 1, none⟩ (.slice co5 b.cells.length cc5)) so2 sn2 sc2 co5 cc5 (.slice so2 sn2 sc2) co2 cc2 b.cells.length (List.replicate b.cells.length x0) b.cells := by
  have hsz := h3.sz
  have hs5 := h5.size
  have hl5 : cn5 = b.cells.length := by have := (Jc h).1; simpa using this
  have hl2 := (Jc hb).1
  subst hl5
  obtain ⟨_, _, _, _, _, _, hv1, _, hn1⟩ := h
  injection hv1 with hv1
  simp at hv1
  obtain ⟨_, rfl, rfl, rfl⟩ := hv1
  obtain ⟨_, _, _, _, _, _, hv2, _, hn2⟩ := hb
  injection hv2 with hv2
  simp at hv2
  obtain ⟨_, rfl, rfl, rfl⟩ := hv2
  have ot : ∀ (c i : Nat), c ≠ w.heap.size → ((w2.setCell ⟨w.heap.size, 0, none⟩ (.slice so2 sn2 sc2)).setCell ⟨w.heap.size, 1, none⟩ (.slice co5 b.cells.length cc5)).cell? ⟨c, i, none⟩ = w2.cell? ⟨c, i, none⟩ := fun c i hc => by
    rw [World.cell?_setCell_other, World.cell?_setCell_other] <;> (intro e; injection e; omega)
  have k2 : ∀ (c i : Nat), c < W3.heap.size → w2.cell? ⟨c, i, none⟩ = W3.cell? ⟨c, i, none⟩ := fun c i hc => h5.cell (p := ⟨c, i, none⟩) hc
  have kf : ∀ (c i : Nat), c < W3.heap.size → ((w2.setCell ⟨w.heap.size, 0, none⟩ (.slice so2 sn2 sc2)).setCell ⟨w.heap.size, 1, none⟩ (.slice co5 b.cells.length cc5)).frozen? ⟨c, i, none⟩ = W3.frozen? ⟨c, i, none⟩ := fun c i hc => by
    rw [World.frozen?_setCell, World.frozen?_setCell]
    exact h5.frozen (p := ⟨c, i, none⟩) hc
  refine ⟨?_, ?_, ?_, ?_, ?_, ?_, ?_, ?_, by simp; omega, by simp, rfl, hok.few, fun c hc => by rw [(List.mem_replicate.1 hc).2]; exact hx0, hok.fits, ?_, ?_⟩
  · rw [World.cell?_setCell_other _ _ _ _ (by simp)]
    exact World.cell?_setCell_same _ _ _ ((k2 _ _ (by omega)).trans h3.c0)
  · exact World.cell?_setCell_same _ _ _ ((World.cell?_setCell_other _ _ _ _ (by simp)).trans ((k2 _ _ (by omega)).trans h3.c1))
  · rw [ot _ _ (by omega), k2 _ _ (by omega)]; rw [hl2] at h3; exact h3.d1
  · rw [ot _ _ (by omega), k2 _ _ (by omega)]; exact h3.d0
  · rw [ot _ _ (by omega), k2 _ _ (by omega)]; exact h3.r0
  · rw [ot _ _ (by omega), k2 _ _ (by omega)]; exact h3.r1
  · rw [kf _ _ (by omega)]; exact h3.fr0
  · rw [kf _ _ (by omega)]; exact h3.fr1
  · intro h0
    obtain ⟨ao, cap, hv, _, hc, _⟩ := hn1
    obtain ⟨xb, xf, rfl, hp, hl, hcell⟩ := hc (by simpa using h0)
    injection hv with hv
    refine ⟨xb, xf, hv, by simpa using hl, fun i hi => ?_⟩
    rw [ot _ _ (by rcases hp.2 with h | h <;> omega)]
    exact hcell i hi
  · intro h0
    obtain ⟨ao, cap, hv, _, hc, _⟩ := hn2
    obtain ⟨yb, yf, rfl, hp, hl, hcell⟩ := hc h0
    injection hv with hv
    refine ⟨yb, yf, hv, by simp; omega, fun i hi => ?_⟩
    rw [ot _ _ (by omega), k2 _ _ (by omega)]
    exact (h3.bel.cell (p := ⟨yb, yf + i, none⟩) hl).trans (hcell i hi)
theorem Fr {P : Nat → Prop} {w wS wr : World} {so : Option Addr} {sn sc : Nat} {cv : Value} {vo : Option Addr} {k vc : Nat} {b : Arr} {l : List Int} {u0 u1 : Value} (hb : IsArr P w (.agg #[.slice so sn sc, cv]) b) (hbel : Below w.heap.size w wr) (hown : wr.ownsRow wS.heap.size 2 1 (.slice vo k vc) k (l.map (Value.int .i64))) (hP : ∀ b, w.heap.size ≤ b → P b) (hlt : w.heap.size + 2 < wS.heap.size) :
    IsArr P ((wr.setCell ⟨w.heap.size + 1 + 1, 0, none⟩ u0).setCell ⟨w.heap.size + 1 + 1, 1, none⟩ u1) (.agg #[.slice so sn sc, .slice vo k vc]) ⟨b.shape, l⟩ := by
  obtain ⟨so', sn', sc', co', cn', cc', hv, h1, _⟩ := hb
  injection hv with hv
  simp at hv
  obtain ⟨⟨rfl, rfl, rfl⟩, _⟩ := hv
  have hn := Js (P := fun b => P b ∧ b ≠ w.heap.size + 1 + 1) hown (fun b hb => ⟨hP b (by omega), by omega⟩)
  have h2 : Nums (fun b => P b ∧ b ≠ w.heap.size + 1 + 1) wr (.slice so sn sc) (b.shape.map Int.ofNat) := (h1.imp (fun b hp hl => ⟨hp, by omega⟩)).below hbel
  exact ⟨_, _, _, _, _, _, rfl, ((h2.set (fun h => h.2 rfl) 0 u0).set (fun h => h.2 rfl) 1 u1).imp (fun _ h _ => h.1), ((hn.set (fun h => h.2 rfl) 0 u0).set (fun h => h.2 rfl) 1 u1).imp (fun _ h _ => h.1)⟩
theorem Jgl {P : Nat → Prop} {w : World} {f : Int → Int → Int × Int} {a b : Arr} {x0 : Int} {v : Value} (hx : a.cells = [x0]) (hs : a.shape = []) (_ : IsArr P w v b) : Je f a b = zipA f b.shape (List.replicate b.cells.length x0) b.cells := by
  unfold Je
  rw [if_pos hs, hx]
  rfl
theorem K2 {f : Int → Int → Int × Int} {sh : List Nat} {xs ys : List Int} {e : Int} (h : zipF f xs ys = .inl e) : zipA f sh xs ys = (eArr, e) := by unfold zipA; rw [h]
theorem Vc {f : Int → Int → Int × Int} {sh : List Nat} {xs ys l : List Int} (h : zipF f xs ys = .inr l) : zipA f sh xs ys = (⟨sh, l⟩, 0) := by unfold zipA; rw [h]
theorem J9 {w : World} {B : Nat} {e : TypeId} {v : Value} {n : Nat} {xs : List Value} (h : w.ownsRow B e 1 v n xs) : ∃ ao cap, v = .slice ao n cap ∧ n ≤ cap ∧ True := by
  obtain ⟨_, ⟨rfl, rfl⟩ | ⟨g, cap, cur, rfl, _, _, hn, _⟩⟩ := h
  · exact ⟨none, 0, rfl, Nat.le_refl _, trivial⟩
  · exact ⟨_, cap, rfl, hn, trivial⟩
theorem Xs {w : World} {B : Nat} {e : TypeId} {k : Nat} {v : Value} {n : Nat} {xs : List Value} (h : w.ownsRow B e k v n xs) (q : Nat) : (w.drewN q).ownsRow B e k v n xs := h
set_option maxRecDepth 20000 in
set_option maxHeartbeats 2000000 in
theorem Jgj (f : Int → Int → Int × Int) (g : Nat) (hrule : RuleC g f) (P : Nat → Prop) (w : World) (hP : ∀ b, w.heap.size ≤ b → P b) (so : Option Addr) (sc : Nat) (co : Option Addr) (cn cc : Nat) (so2 : Option Addr) (sn2 sc2 : Nat) (co2 : Option Addr) (cn2 cc2 : Nat) (a b : Arr) (ha : IsArr P w (.agg #[.slice so 0 sc, .slice co cn cc]) a) (hb : IsArr P w (.agg #[.slice so2 sn2 sc2, .slice co2 cn2 cc2]) b) (hoa : a.ok) (hob : b.ok) :
    Calls Tryz.prog 163 #[.agg #[.slice so 0 sc, .slice co cn cc], .agg #[.slice so2 sn2 sc2, .slice co2 cn2 cc2], .func (.func g) #[] #[]] w fun e w' => ∃ s1 s2 s3 c1 c2 c3, e = .returned (.tuple #[.agg #[.slice s1 s2 s3, .slice c1 c2 c3], .int .i64 (Je f a b).2]) ∧ IsArr P w' (.agg #[.slice s1 s2 s3, .slice c1 c2 c3]) (Je f a b).1 ∧ Below w.heap.size w w' := by
  obtain ⟨i0, hi, hz0, hz1, hz2⟩ := info_parts Tryz.info2
  have HI := hide hi
  have HZ0 := hide hz0
  have HZ1 := hide hz1
  have HZ2 := hide hz2
  have hen2 : ∀ args w, (callFunc g args).run Tryz.prog w = .ok (.enter g args) w := hrule.enters
  have HP : Hid (∀ b, w.heap.size ≤ b → P b) := hP
  have HA := hide ha
  have HB := hide hb
  obtain ⟨hcl, hsl⟩ := Jc ha
  have hsh : a.shape = [] := List.eq_nil_of_length_eq_zero hsl.symm
  have hc1 : a.cells.length = 1 := by have := hoa.size; rw [hsh] at this; simpa [Jj] using this
  obtain ⟨x0, hx0⟩ : ∃ x, a.cells = [x] := by
    match h : a.cells, hc1 with
    | [x], _ => exact ⟨x, rfl⟩
  obtain ⟨cb, cf, rfl, hcb, hcc0⟩ := Jc9 ha hx0
  have hcn : cn = 1 := by omega
  subst hcn
  have HOB := hide hob
  have HX0 := hide hx0
  have HSH := hide hsh
  have HOA := hide hoa
  have HF0 := hide (hoa.fits x0 (by rw [hx0]; simp))
  have HCC := hide hcc0
  clear hi hz0 hz1 hz2 hP ha hb hcl hsl hc1 hx0 hsh hoa hob
  have hcb1 : cb < w.heap.size + 1 := by omega
  have hcb2 : cb < w.heap.size + 1 + 1 := by omega
  have hcb3 : cb < w.heap.size + 1 + 1 + 1 := by omega
  go_enter Tryz.func163, Tryz.ntmps163
  go_wp2_with (go_at_call 143; refine (Ji _ _ _ _ _ _ _).mono ?_; rintro e w' ⟨rfl, rfl⟩)
  have hX3 := X9 (w := w) (a0 := .slice so 0 sc) (a1 := .slice (some ⟨cb, cf, none⟩) 1 cc) (b0 := .slice so2 sn2 sc2) (b1 := .slice co2 cn2 cc2) (((Below.refl (w.heap.size + 3) _).alloc (by simp) (.cells #[.slice so 0 sc, .slice (some ⟨cb, cf, none⟩) 1 cc] 57)).alloc (by simp) (.cells #[.slice so 0 sc, .slice (some ⟨cb, cf, none⟩) 1 cc] 57))
  have HX3 := hide hX3
  obtain ⟨W3, hW3⟩ : ∃ W3, (((((w.alloc (.cells #[.slice so 0 sc, .slice (some ⟨cb, cf, none⟩) 1 cc] 57)).alloc (.cells #[.slice so2 sn2 sc2, .slice co2 cn2 cc2] 57)).alloc (.cells #[.slice none 0 0, .slice none 0 0] 57)).alloc (.cells #[.slice so 0 sc, .slice (some ⟨cb, cf, none⟩) 1 cc] 57)).alloc (.cells #[.slice so 0 sc, .slice (some ⟨cb, cf, none⟩) 1 cc] 57)) = W3 := ⟨_, rfl⟩
  rw [hW3] at HX3 ⊢
  clear hX3 hW3
  have z0 := (Ja HX3).c0
  have z1 := (Ja HX3).c1
  have z2 := (Ja HX3).d0
  have z3 := (Ja HX3).d1
  have zc := ((Ja HX3).bel.cell (p := ⟨cb, cf, none⟩) hcb).trans (Ja HCC)
  have hfb := (Ja HOB).few
  have hsz0 : w.heap.size < W3.heap.size := by have := (Ja HX3).sz; omega
  go_region_with (first | (go_at_call 186; refine (Vn (fun b' => P b' ∧ (b' < w.heap.size ∨ w.heap.size + 2 < b')) _ (fun b' h => ⟨Ja HP b' (by have := (Ja HX3).sz; simp at h; omega), Or.inr (by have := (Ja HX3).sz; simp at h; omega)⟩) so2 sn2 sc2 co2 cn2 cc2 b ?_ hfb x0).mono ?_; exact (((Ja HB).imp (fun _ h hl => ⟨h, Or.inl hl⟩)).below (Ja HX3).bel).below (Below.refl _ _).drew; rintro e w2 ⟨co5, cn5, cc5, rfl, ha5, hb5⟩; have HA5 := hide ha5; have HB5 : Hid (Below W3.heap.size W3 w2) := hide ((Below.refl W3.heap.size W3).drew.trans hb5); have u0 := ((Ja HB5).cell (p := ⟨w.heap.size, 0, none⟩) hsz0).trans (Ja HX3).c0; have u1 := ((Ja HB5).cell (p := ⟨w.heap.size, 1, none⟩) hsz0).trans (Ja HX3).c1; have u2 := ((Ja HB5).frozen (p := ⟨w.heap.size, 0, none⟩) hsz0).trans (Ja HX3).fc0; have u3 := ((Ja HB5).frozen (p := ⟨w.heap.size, 1, none⟩) hsz0).trans (Ja HX3).fc1; clear ha5 hb5))
  all_goals
    have hPS := Jgo (Ja HX3) (Ja HB5) (Ja HA5) (Ja HB) (Ja HOB) (Ja HF0)
    obtain ⟨N, hN⟩ : ∃ N, b.cells.length = N := ⟨_, rfl⟩
    have hcn5 : cn5 = N := by rw [← hN]; have := (Jc (Ja HA5)).1; simpa using this
    have hcn2 : cn2 = N := by rw [← hN]; exact (Jc (Ja HB)).1
    rw [hN] at hPS
    have HFin := hide (Jgl (f := f) (x0 := x0) (Ja HX0) (Ja HSH) (Ja HB))
    rw [hN] at HFin
    subst hcn5 hcn2
    have HPS := hide hPS
    obtain ⟨xs, hxs⟩ : ∃ xs, List.replicate cn2 x0 = xs := ⟨_, rfl⟩
    obtain ⟨ys, hys⟩ : ∃ ys, b.cells = ys := ⟨_, rfl⟩
    rw [hxs, hys] at HPS HFin
    obtain ⟨wS, hwS⟩ : ∃ wS, (w2.setCell ⟨w.heap.size, 0, none⟩ (.slice so2 sn2 sc2)).setCell ⟨w.heap.size, 1, none⟩ (.slice co5 cn2 cc5) = wS := ⟨_, rfl⟩
    have HBS : Hid (Below w.heap.size w wS) := hide (by rw [← hwS]; exact ((((Ja HX3).bel.trans ((Ja HB5).mono (Ja HX3).bel.size)).setCell (p := ⟨w.heap.size, 0, none⟩) (Nat.le_refl _) _).setCell (p := ⟨w.heap.size, 1, none⟩) (Nat.le_refl _) _))
    rw [hwS] at HPS ⊢
    clear hPS hwS hxs hys hN u0 u1 u2 u3 z0 z1 z2 z3 zc hcb hcb1 hcb2 hcb3 hcc0 hsz0 hfb
    obtain ⟨a0, a1, b1, b0, r0, r1, q0, q1, hlt, hxl, hyl, hfew, hxf, hyf, hX, hY⟩ := Ja HPS
    have HXL := hide hxl
    have HYL := hide hyl
    have HXF := hide hxf
    have HYF := hide hyf
    have HX := hide hX
    have HY := hide hY
    have hrc := hrule.call
    have HRC := hide hrc
    clear hxl hyl hxf hyf hX hY hrc hrule
    go_wp2_with fail
    go_loopw [8, 48] (fun v8 v48 wr => ∃ (k : Nat) (l : List Int), v48 = .int .i64 k ∧ k ≤ cn2 ∧ zipF f (xs.take k) (ys.take k) = .inr l ∧ l.length = k ∧ wr.ownsRow wS.heap.size 2 1 v8 k (l.map (Value.int .i64)) ∧ Below wS.heap.size wS wr) (fun _ v48 _ => cn2 - (intOf v48).toNat)
    case atStart => exact ⟨0, [], rfl, Nat.zero_le _, by simp [zipF], rfl, World.ownsRow_nil _ _ _ _, Below.refl _ _⟩
    case round =>
      obtain ⟨k, l, rfl, hkN, hz, hll, hown, hbel⟩ := hrel
      have a0' := (hbel.cell (p := ⟨w.heap.size, 0, none⟩) (show w.heap.size < wS.heap.size by omega)).trans a0
      have a1' := (hbel.cell (p := ⟨w.heap.size, 1, none⟩) (show w.heap.size < wS.heap.size by omega)).trans a1
      have b1' := (hbel.cell (p := ⟨w.heap.size + 1, 1, none⟩) (show w.heap.size + 1 < wS.heap.size by omega)).trans b1
      have r0' := (hbel.cell (p := ⟨w.heap.size + 1 + 1, 0, none⟩) hlt).trans r0
      have r1' := (hbel.cell (p := ⟨w.heap.size + 1 + 1, 1, none⟩) hlt).trans r1
      have q0' := (hbel.frozen (p := ⟨w.heap.size + 1 + 1, 0, none⟩) hlt).trans q0
      have q1' := (hbel.frozen (p := ⟨w.heap.size + 1 + 1, 1, none⟩) hlt).trans q1
      have HZ := hide hz
      have HLL := hide hll
      have HOw := hide hown
      have HBe := hide hbel
      by_cases hkn : k < cn2
      · obtain ⟨xb, xf, rfl, hxb, hxc⟩ := Ja HX (by omega)
        obtain ⟨yb, yf, rfl, hyb, hyc⟩ := Ja HY (by omega)
        have hkx : k < xs.length := by rw [Ja HXL]; exact hkn
        have hky : k < ys.length := by rw [Ja HYL]; exact hkn
        have cx := (hbel.cell (p := ⟨xb, xf + k, none⟩) hxb).trans (hxc k hkx)
        have cy := (hbel.cell (p := ⟨yb, yf + k, none⟩) hyb).trans (hyc k hky)
        have hzt := Vy (f := f) k xs ys (by rw [Ja HXL, Ja HYL]) hkx hky l hz
        have hfx := Ja HXF _ (List.getElem_mem hkx)
        have hfy := Ja HYF _ (List.getElem_mem hky)
        obtain ⟨x, hx⟩ : ∃ x, xs[k] = x := ⟨_, rfl⟩
        obtain ⟨y, hy⟩ : ∃ y, ys[k] = y := ⟨_, rfl⟩
        rw [hx] at cx hfx
        rw [hy] at cy hfy
        rw [hx, hy] at hzt
        have HRule := hide (fun w => Ja HRC x y w hfx hfy)
        obtain ⟨u, hu⟩ : ∃ u, (f x y).1 = u := ⟨_, rfl⟩
        obtain ⟨er, her⟩ : ∃ er, (f x y).2 = er := ⟨_, rfl⟩
        simp only [hu, her] at HRule hzt
        have HZT := hide hzt
        have hk0 : (0 : Int) ≤ (k : Int) := by omega
        have hk1 : (k : Int) < (cn2 : Int) := by omega
        clear hz hll hown hbel hxc hyc hzt hx hy hu her hfx hfy hxb hyb
        cases hee : (er != 0)
        · have he0 : er = 0 := by simpa using hee
          subst he0
          clear hee
          go_wp2_with fail
          go_quiet ((go_at_fn g; exact Calls.quiet_of_same (Ja HRule _)))
          go_wp2_with (at_builtin; refine wpList_append_own _ rfl _ _ 32 rfl wS.heap.size 2 i0 (.int .i64 0) 1 8 Tryz.underlying32 (Ja HI) (Ja HZ0) (Ja HZ1) (Ja HZ2) rfl (by decide) _ _ _ rfl (((Xs (Ja HOw) _)).alloc _) ⟨wr.heap.size, 0, none⟩ 1 1 [.int .i64 u] rfl rfl ?c1 ?c2 ?c3 ?c4 ?c5 ?_)
          case c1 => intro j v hj; match j, hj with | 0, hj => simp at hj; subst hj; exact (World.cell?_alloc_at _ _ _ _ rfl).trans rfl
          case c2 => intro v hv; simp at hv; subst hv; rfl
          case c3 => unfold maxLen; omega
          case c4 => omega
          case c5 => have := (Ja HBe).size; simp; omega
          · intro v' w4 hown4 hgrow4 _
            have HB4 : Hid (Below wS.heap.size wS w4) := hide ((Ys (Ja HBe) _ |>.alloc (by have := (Ja HBe).size; simpa using this) _).grown hgrow4 (by have := (Ja HBe).size; simp; omega) (fun q hq => ((Ja HOw).lt q hq).1))
            have HO4 := hide hown4
            clear hown4 hgrow4
            go_wp2_with fail
            go_roundw
            case rel => exact ⟨k + 1, l ++ [u], by go_num, by omega, (Ja HZT).2 trivial, by simp [Ja HLL], by rw [List.map_append]; exact Ja HO4, Ja HB4⟩
            case measure => simp [intOf]; omega
        · have hne : er ≠ 0 := by simpa using hee
          go_wp2_with fail
          go_quiet ((go_at_fn g; exact Calls.quiet_of_same (Ja HRule _)))
          go_wp2_with fail
          refine bodyPost_ret (v := .tuple #[.agg #[.slice none 0 0, .slice none 0 0], .int .i64 er]) (by simp [results, Tryz.results163, go_sem, r0', r1']) rfl ⟨none, 0, 0, none, 0, 0, ?_, ?_, ?_⟩
          · rw [Ja HFin, K2 ((Ja HZT).1 hne)]
          · rw [Ja HFin, K2 ((Ja HZT).1 hne)]
            exact ⟨_, _, _, _, _, _, rfl, Jn _ _, Jn _ _⟩
          · exact (((Ja HBS).trans ((Ys (Ja HBe) _).mono (Ja HBS).size)).setCell (p := ⟨w.heap.size + 1 + 1, 0, none⟩) (by show w.heap.size ≤ w.heap.size + 1 + 1; omega) _).setCell (p := ⟨w.heap.size + 1 + 1, 1, none⟩) (by show w.heap.size ≤ w.heap.size + 1 + 1; omega) _
      · have hkN' : k = cn2 := by omega
        subst hkN'
        have hz2 : zipF f xs ys = .inr l := by have := Ja HZ; rwa [List.take_of_length_le (by rw [Ja HXL]; omega), List.take_of_length_le (by rw [Ja HYL]; omega)] at this
        have HZ2 := hide hz2
        obtain ⟨vo, vc, hv8, hvle, hcells⟩ := J9 (Ja HOw)
        subst hv8
        clear hz hll hown hbel hz2 hcells
        go_wp2_with fail
        refine bodyPost_ret (v := .tuple #[.agg #[.slice so2 sn2 sc2, .slice vo k vc], .int .i64 0]) (by simp [results, Tryz.results163, go_sem, r0', r1']) rfl ⟨so2, sn2, sc2, vo, k, vc, ?_, ?_, ?_⟩
        · rw [Ja HFin, Vc (Ja HZ2)]
        · rw [Ja HFin, Vc (Ja HZ2)]
          exact Fr (Ja HB) ((Ja HBS).trans ((Ja HBe).mono (Ja HBS).size)) (Ja HOw) (Ja HP) hlt
        · exact (((Ja HBS).trans ((Ja HBe).mono (Ja HBS).size)).setCell (p := ⟨w.heap.size + 1 + 1, 0, none⟩) (by show w.heap.size ≤ w.heap.size + 1 + 1; omega) _).setCell (p := ⟨w.heap.size + 1 + 1, 1, none⟩) (by show w.heap.size ≤ w.heap.size + 1 + 1; omega) _
end Go.Proofs.YtjobgpahajhbnabGreatDoor
