import Derived.Test.YtjobgpahajhbnabGreatDoorGg
namespace Go.Proofs.YtjobgpahajhbnabGreatDoor
open Go.RowKit Go.Proofs
attribute [local go_sem ↓] Go.wp_at_zero Go.wp_at_succ
def OffG (n g : Nat) (P : Nat → Prop) (b : Nat) : Prop := P b ∧ (b < n ∨ g < b)
structure CB (W w : World) (P : Nat → Prop) (b0 b1 : Value) (g n i : Nat) (a : Arr) : Prop where
  bx : Bx W w [[b0, b1]]
  gW : W.heap.size < g
  glt : g < w.heap.size
  done : ∀ q, q < i → ∃ so sn sc co cn cc, w.cell? ⟨g, q * 2, none⟩ = some (.slice so sn sc) ∧ w.cell? ⟨g, q * 2 + 1, none⟩ = some (.slice co cn cc) ∧ IsArr (OffG W.heap.size g P) w (.agg #[.slice so sn sc, .slice co cn cc]) (col a q)
  todo : ∀ q, i ≤ q → q < n → w.cell? ⟨g, q * 2, none⟩ = some (.slice none 0 0) ∧ w.cell? ⟨g, q * 2 + 1, none⟩ = some (.slice none 0 0)
  fr : ∀ j, w.frozen? ⟨g, j, none⟩ = false
theorem CB.next {W w w' : World} {P : Nat → Prop} {b0 b1 : Value} {g n i : Nat} {a : Arr} (h : CB W w P b0 b1 g n i a) (hb : Below w.heap.size w w') : CB W w' P b0 b1 g n i a := by
  have hg := h.glt; refine ⟨h.bx.next hb, h.gW, Nat.lt_of_lt_of_le hg hb.size, fun q hq => ?_, fun q h1 h2 => ?_, fun j => (hb.frozen (p := ⟨g, j, none⟩) hg).trans (h.fr j)⟩
  · obtain ⟨so, sn, sc, co, cn, cc, k1, k2, k3⟩ := h.done q hq; exact ⟨so, sn, sc, co, cn, cc, (hb.cell (p := ⟨g, q * 2, none⟩) hg).trans k1, (hb.cell (p := ⟨g, q * 2 + 1, none⟩) hg).trans k2, k3.below hb⟩
  · obtain ⟨k1, k2⟩ := h.todo q h1 h2; exact ⟨(hb.cell (p := ⟨g, q * 2, none⟩) hg).trans k1, (hb.cell (p := ⟨g, q * 2 + 1, none⟩) hg).trans k2⟩
structure CI (W w : World) (P : Nat → Prop) (b0 b1 : Value) (g n i : Nat) (a : Arr) (V : Value) : Prop where
  bx : Bx W w [[b0, b1]]
  gW : W.heap.size < g
  glt : g < w.heap.size
  done : ∀ q, q < i → ∃ so sn sc co cn cc, w.cell? ⟨g, q * 2, none⟩ = some (.slice so sn sc) ∧ w.cell? ⟨g, q * 2 + 1, none⟩ = some (.slice co cn cc) ∧ IsArr (OffG W.heap.size g P) w (.agg #[.slice so sn sc, .slice co cn cc]) (col a q)
  todo : ∀ q, i < q → q < n → w.cell? ⟨g, q * 2, none⟩ = some (.slice none 0 0) ∧ w.cell? ⟨g, q * 2 + 1, none⟩ = some (.slice none 0 0)
  here0 : w.cell? ⟨g, i * 2, none⟩ = some V
  here1 : w.cell? ⟨g, i * 2 + 1, none⟩ = some (.slice none 0 0)
  fr : ∀ j, w.frozen? ⟨g, j, none⟩ = false
theorem CB.begins {W w : World} {P : Nat → Prop} {b0 b1 : Value} {g n i : Nat} {a : Arr} (h : CB W w P b0 b1 g n i a) (hi : i < n) (V : Value) (o : Obj) : CI W ((w.setCell ⟨g, i * 2, none⟩ V).alloc o).drew P b0 b1 g n i a V := by
  have hgW := h.gW; have hgl := h.glt; have hb : Below (W.heap.size + 1) w ((w.setCell ⟨g, i * 2, none⟩ V).alloc o).drew := (((Below.refl _ _).setCell (p := ⟨g, i * 2, none⟩) (by show W.heap.size + 1 ≤ g; omega) _).alloc (by have := h.bx.lt; simpa using this) _).drew; have hcell : ∀ j, j ≠ i * 2 → ((w.setCell ⟨g, i * 2, none⟩ V).alloc o).drew.cell? ⟨g, j, none⟩ = w.cell? ⟨g, j, none⟩ := fun j hj => by
    have hb2 : Below (w.setCell ⟨g, i * 2, none⟩ V).heap.size (w.setCell ⟨g, i * 2, none⟩ V) ((w.setCell ⟨g, i * 2, none⟩ V).alloc o).drew := ((Below.refl _ _).alloc (Nat.le_refl _) _).drew; rw [hb2.cell (p := ⟨g, j, none⟩) (by simpa using hgl), World.cell?_setCell_other _ _ _ _ (by intro e; injection e with _ e2; exact hj e2.symm)]
  have hno : ¬ OffG W.heap.size g P g := by rintro ⟨_, h⟩; omega
  obtain ⟨k1, k2⟩ := h.todo i (Nat.le_refl _) hi; refine ⟨h.bx.keep hb, hgW, by simp; omega, fun q hq => ?_, fun q h1 h2 => ?_, ?_, ?_, fun j => ?_⟩
  · obtain ⟨so, sn, sc, co, cn, cc, a1, a2, a3⟩ := h.done q hq; exact ⟨so, sn, sc, co, cn, cc, (hcell _ (by omega)).trans a1, (hcell _ (by omega)).trans a2, (a3.set hno _ _).below ((Below.refl _ _).alloc (Nat.le_refl _) _).drew⟩
  · obtain ⟨a1, a2⟩ := h.todo q (by omega) h2; exact ⟨(hcell _ (by omega)).trans a1, (hcell _ (by omega)).trans a2⟩
  · have hb2 : Below (w.setCell ⟨g, i * 2, none⟩ V).heap.size (w.setCell ⟨g, i * 2, none⟩ V) ((w.setCell ⟨g, i * 2, none⟩ V).alloc o).drew := ((Below.refl _ _).alloc (Nat.le_refl _) _).drew; rw [hb2.cell (p := ⟨g, i * 2, none⟩) (by simpa using hgl)]; exact World.cell?_setCell_same _ _ _ k1
  · exact (hcell _ (by omega)).trans k2
  · have hb2 : Below (w.setCell ⟨g, i * 2, none⟩ V).heap.size (w.setCell ⟨g, i * 2, none⟩ V) ((w.setCell ⟨g, i * 2, none⟩ V).alloc o).drew := ((Below.refl _ _).alloc (Nat.le_refl _) _).drew; rw [hb2.frozen (p := ⟨g, j, none⟩) (by simpa using hgl), World.frozen?_setCell]; exact h.fr j
theorem CI.ends {W w w' : World} {P : Nat → Prop} {b0 b1 : Value} {g n i : Nat} {a : Arr} {so : Option Addr} {sn sc : Nat} (h : CI W w P b0 b1 g n i a (.slice so sn sc)) (hP : ∀ b, W.heap.size ≤ b → P b) (hI : Into g (i * 2 + 1) w w') (hs : Nums P W (.slice so sn sc) (a.shape.dropLast.map Int.ofNat)) {v : Value} (hc : w'.cell? ⟨g, i * 2 + 1, none⟩ = some v) (ho : OwnL w.heap.size w' v (col a i).cells) : CB W w' P b0 b1 g n (i + 1) a := by
  have hgW := h.gW; have hgl := h.glt; have hlt := h.bx.lt; simp at hlt; have hb : Below (W.heap.size + 1) w w' := ⟨hI.bs.os, hI.bs.tape, hI.bs.output, hI.bs.size, fun k hk => hI.bs.block k (by omega) (by omega)⟩; have hbx := h.bx.keep hb; have hq : ∀ b, OffG W.heap.size g P b → b < w.heap.size → w'.heap[b]? = w.heap[b]? := fun b hb hl => hI.bs.block b hl (fun e => by subst e; rcases hb.2 with h | h <;> omega)
  refine ⟨hbx, hgW, Nat.lt_of_lt_of_le hgl hI.bs.size, fun q hql => ?_, fun q h1 h2 => ?_, fun j => (hI.fr j).trans (h.fr j)⟩
  · by_cases hqi : q = i
    · subst hqi; obtain ⟨vo, vc, rfl⟩ := ho.shape; refine ⟨so, sn, sc, vo, _, vc, (hI.cell _ (by omega)).trans h.here0, hc, _, _, _, _, _, _, rfl, (hs.imp (fun b hp hl => ⟨hp, Or.inl hl⟩)).below hbx.below, ho.nums.imp (fun b hb _ => ⟨hP b (by omega), Or.inr (by omega)⟩)⟩
    · obtain ⟨s1, s2, s3, c1, c2, c3, a1, a2, a3⟩ := h.done q (by omega); exact ⟨s1, s2, s3, c1, c2, c3, (hI.cell _ (by omega)).trans a1, (hI.cell _ (by omega)).trans a2, a3.keep hI.bs.size hq⟩
  · obtain ⟨a1, a2⟩ := h.todo q (by omega) h2; exact ⟨(hI.cell _ (by omega)).trans a1, (hI.cell _ (by omega)).trans a2⟩
theorem Jj8 {B g c : Nat} {w : World} {v : Value} {xs : List Int} (h : OwnL B w v xs) (hg : g < B) (u : Value) : OwnL B (w.setCell ⟨g, c, none⟩ u) v xs := by
  have hk := World.ownsRow.lt h; refine ⟨h.1, ?_⟩; rcases h.2 with hn | ⟨g', cap, cur, hv, hb, hgg, rest⟩
  · exact .inl hn
  · have hb' := hk g' (by rw [hv]; rfl); refine .inr ⟨g', cap, cur, hv, hb, ?_, rest⟩; rw [RowKit.Below.heap_setCell _ _ _ _ (show g' ≠ g by omega)]; exact hgg
theorem Jl7 {r m n i : Nat} (hr : r < m) (hi : i < n) : i + r * n < m * n := by
  have : (r + 1) * n ≤ m * n := Nat.mul_le_mul_right n hr
  rw [Nat.add_mul] at this; omega
set_option maxHeartbeats 4000000 in
set_option maxRecDepth 20000 in
theorem Ga (P : Nat → Prop) (W : World) (hP : ∀ b, W.heap.size ≤ b → P b) (so : Option Addr) (sn sc : Nat) (co : Option Addr) (cn cc : Nat) (a : Arr) (ha : IsArr P W (.agg #[.slice so sn sc, .slice co cn cc]) a) (hok : a.ok) (hr : a.shape.length ≠ 0) :
    Calls Tryz.prog 146 #[.agg #[.slice so sn sc, .slice co cn cc]] W fun e W' => ∃ g, e = .returned (.slice (some ⟨g, 0, none⟩) (Jv a.shape) (Jv a.shape)) ∧ W.heap.size ≤ g ∧ g < W'.heap.size ∧ Cols P W' g (cols a) ∧ Below W.heap.size W W' := by
  obtain ⟨i0, hi, hz0, hz1, hz2⟩ := info_parts Tryz.info57; have hsn := (Jc ha).2; obtain ⟨sb, sf, rfl, hsb, hsc⟩ := K8 ha (beq_false_of_ne (by omega)); obtain ⟨m, hm⟩ : ∃ m, sn = m + 1 := ⟨sn - 1, by omega⟩; have HM := hide hm; have hb0 : Below W.heap.size W (W.alloc (.cells #[.slice (some ⟨sb, sf, none⟩) sn sc, .slice co cn cc] 57)) := (Below.refl _ _).alloc (Nat.le_refl _) _; have HLast := hide (Q5 (W.alloc (.cells #[.slice (some ⟨sb, sf, none⟩) sn sc, .slice co cn cc] 57)) _ _ _ _ _ _ a (ha.below hb0) a.shape.dropLast (Jv a.shape) (Ya hr) (by have := hok.rank; simp; omega)); have hBx : Bx W (W.alloc (.cells #[.slice (some ⟨sb, sf, none⟩) sn sc, .slice co cn cc] 57)) [[.slice (some ⟨sb, sf, none⟩) sn sc, .slice co cn cc]] := (Bx.nil W).alloc (by simp) _ _; obtain ⟨n, hn⟩ : ∃ n, Jv a.shape = n := ⟨_, rfl⟩; have hn200 : n ≤ 200 := by
    have h1 := Ya hr; rw [hn] at h1; exact hok.lens n (by rw [h1]; simp)
  have hsz := Xf hok hr; rw [hn] at HLast hsz; have hcn := (Jc ha).1; have HI := hide hi; have HZ0 := hide hz0; have HZ1 := hide hz1; have HZ2 := hide hz2; have HBx := hide hBx; have HA := hide ha; have HOK := hide hok; have HP := hide hP; have HN := hide hn; have HSZ := hide hsz; have HSN := hide hsn; have HCN := hide hcn; clear hi hz0 hz1 hz2 hBx ha hok hP hn hsz hb0 hsc hcn hr hsn hm; rw [Ja HN]; go_enter Tryz.func146, Tryz.ntmps146; go_wp2_with fail; refine (Ja HLast).mono ?_; rintro e w1 ⟨rfl, hb1⟩; have HX1 := hide ((Ja HBx).next hb1); clear hb1 HBx HLast; go_wp2_with (at_make; refine wpList_make_full _ rfl _ _ 190 rfl w1.heap.size 57 i0 (.agg #[.slice none 0 0, .slice none 0 0]) 2 Tryz.underlying190 (Ja HI) (Ja HZ0) (Ja HZ1) .i64 .i64 n n n rfl rfl rfl rfl ?c1 ?c2 (Nat.le_refl _) ?_)
  case c1 => rw [Ja HZ2]; omega
  case c2 => unfold maxLen; omega
  intro w2 hown hg; have hown : w2.ownsRow w1.heap.size 57 2 (.slice (some ⟨w1.heap.size, 0, none⟩) n n) n (List.replicate (n * 2) (.slice none 0 0)) := by
    rw [← Jki]; exact hown
  have hb2 : Below w1.heap.size w1 w2 := (Below.refl _ _).grown hg (Nat.le_refl _) (fun _ h => by cases h); have hlt2 : w1.heap.size < w2.heap.size := hown.lt w1.heap.size rfl |>.2
  have HCB : Hid (CB W w2 P (.slice (some ⟨sb, sf, none⟩) sn sc) (.slice co cn cc) w1.heap.size n 0 a) := hide ⟨(Ja HX1).next hb2, by have := (Ja HX1).lt; simp at this; omega, hlt2, fun q hq => absurd hq (by omega), fun q _ hq => by
    have h1 := hown.cellAt (q * 2) (by omega); have h2 := hown.cellAt (q * 2 + 1) (by omega); rw [List.getElem?_replicate, if_pos (by omega)] at h1 h2; exact ⟨h1, h2⟩, fun j => hown.frozenAt j⟩
  obtain ⟨g, hgg⟩ : ∃ g, w1.heap.size = g := ⟨_, rfl⟩; rw [hgg] at HCB ⊢; clear hown hg hb2 hlt2 HX1 hgg HI HZ0 HZ1 HZ2; go_wp2_with fail; go_loopw [13] (fun v13 wr => ∃ i : Nat, v13 = .int .i64 i ∧ i ≤ n ∧ CB W wr P (.slice (some ⟨sb, sf, none⟩) sn sc) (.slice co cn cc) g n i a) (fun v13 _ => n - (intOf v13).toNat)
  case atStart => exact ⟨0, rfl, by omega, Ja HCB⟩
  case round =>
    obtain ⟨i, rfl, hi, hB⟩ := hrel; have HCB2 := hide hB; by_cases hin : i < n
    · have z0 : wr.cell? ⟨W.heap.size, 0, none⟩ = some (.slice (some ⟨sb, sf, none⟩) sn sc) := (hB.bx.cell 0 0 _ rfl).1; have z1 : wr.cell? ⟨W.heap.size, 1, none⟩ = some (.slice co cn cc) := (hB.bx.cell 0 1 _ rfl).1; have hlt : W.heap.size + 1 ≤ wr.heap.size := hB.bx.lt; have HS : Hid (∀ w', Below (W.heap.size + 1) wr w' → w'.cell? ⟨W.heap.size, 0, none⟩ = some (.slice (some ⟨sb, sf, none⟩) sn sc) ∧ w'.cell? ⟨W.heap.size, 1, none⟩ = some (.slice co cn cc)) := hide (fun w' hb => ⟨(hb.cell (p := ⟨W.heap.size, 0, none⟩) (by show W.heap.size < W.heap.size + 1; omega)).trans z0, (hb.cell (p := ⟨W.heap.size, 1, none⟩) (by show W.heap.size < W.heap.size + 1; omega)).trans z1⟩); obtain ⟨t0, t1⟩ := hB.todo i (Nat.le_refl _) hin; have f0 := hB.fr (i * 2); have hgW := hB.gW; have hgl := hB.glt; have hcap : sn ≤ sc := by
        obtain ⟨_, _, _, _, _, _, hv, h1, _⟩ := Ja HA; injection hv with hv; simp at hv; obtain ⟨⟨rfl, rfl, rfl⟩, _⟩ := hv; exact Zk h1
      have x0 : (0 : Int) ≤ (i : Int) := by omega
      have x1 : (i : Int) < (n : Int) := by omega
      have hm3 : m ≤ 3 := by have := (Ja HOK).rank; have := Ja HSN; have := Ja HM; omega
      have hw1 : IntKind.i64.wrap ((sn : Int) - 1) = (m : Int) := by
        have e : ((sn : Int) - 1) = (m : Int) := by have := Ja HM; omega
        rw [e]; exact Jd (by omega) (by omega)
      have x2 : (0 : Int) ≤ (m : Int) := by omega
      have x3 : (m : Int) ≤ (sc : Int) := by have := Ja HM; omega
      have hgl2 : g < wr.heap.size + 1 := by omega
      have hne : W.heap.size ≠ g := by omega
      clear hB HCB; go_wp2_with fail; go_region_held3 (fun w' => w'.cell? ⟨W.heap.size, 0, none⟩ = some (.slice (some ⟨sb, sf, none⟩) sn sc) ∧ w'.cell? ⟨W.heap.size, 1, none⟩ = some (.slice co cn cc))
        (first
          | exact Ja HS _ (Below.refl _ _).drew
          | exact Ja HS _ ((Below.refl _ _).drew.alloc (by simpa using hlt) _)
          | exact Ja HS _ (((Below.refl _ _).setCell (p := ⟨g, i * 2, none⟩) (by show W.heap.size + 1 ≤ g; omega) _).alloc (by simpa using hlt) _).drew
          | (trace_state; fail))
        ((go_at_call 144; refine (Yk _ _ _ _ _ _ _).mono ?_; rintro e w' ⟨rfl, rfl⟩))
      go_wp2_with fail; have HCI := hide ((Ja HCB2).begins hin (.slice (some ⟨sb, sf, none⟩) m sc) (.cells #[.slice (some ⟨sb, sf, none⟩) sn sc, .slice co cn cc] 57)); obtain ⟨wI, hwI⟩ : ∃ wI, ((wr.setCell ⟨g, i * 2, none⟩ (.slice (some ⟨sb, sf, none⟩) m sc)).alloc (.cells #[.slice (some ⟨sb, sf, none⟩) sn sc, .slice co cn cc] 57)).drew = wI := ⟨_, rfl⟩; rw [hwI] at HCI ⊢; clear hwI HCB2 HS z0 z1 t0 t1 f0 hlt hgl hgl2 hcap hw1 x2 x3 hm3; obtain ⟨cb, cof, hco⟩ : ∃ cb cof, (0 < a.cells.length → co = some ⟨cb, cof, none⟩ ∧ cb < W.heap.size ∧ ∀ j, (h : j < a.cells.length) → W.cell? ⟨cb, cof + j, none⟩ = some (.int .i64 a.cells[j])) := by
        by_cases h0 : 0 < a.cells.length
        · obtain ⟨_, _, _, _, _, _, hv, _, h1⟩ := Ja HA; injection hv with hv; simp at hv; obtain ⟨_, ⟨rfl, rfl, rfl⟩⟩ := hv; obtain ⟨_, _, h2⟩ := J7 h1; obtain ⟨b, off, e, hl, hc⟩ := h2 h0; exact ⟨b, off, fun _ => ⟨e, hl, hc⟩⟩
        · exact ⟨0, 0, fun h => absurd h h0⟩
      have HCO := hide hco; clear hco; go_loopw [6] (fun v6 wx => ∃ r p : Nat, v6 = .int .i64 p ∧ Hid (p = i + r * n) ∧ r ≤ Jj a.shape.dropLast ∧ p ≤ 400 ∧ ∃ vo vc, wx.cell? ⟨g, i * 2 + 1, none⟩ = some (.slice vo r vc) ∧ OwnL wI.heap.size wx (.slice vo r vc) (colC a.cells n i r) ∧ Into g (i * 2 + 1) wI wx) (fun v6 _ => 1000 - (intOf v6).toNat)
      case atStart => exact ⟨0, i, rfl, hide (by simp), by omega, by omega, none, 0, (Ja HCI).here1, OwnL.nil _ _, Into.refl _ _ _⟩
      case round =>
        obtain ⟨r, p, rfl, hp, hrm, hp4, vo, vc, hc, ho, hI⟩ := hrel; rename World => wx
        have HO := hide ho; have HIn := hide hI; have hltI := (Ja HCI).bx.lt; have hgI := (Ja HCI).glt; have hszI := hI.bs.size; simp at hltI; have hbx : Bx W wx [[.slice (some ⟨sb, sf, none⟩) sn sc, .slice co cn cc]] := (Ja HCI).bx.keep ⟨hI.bs.os, hI.bs.tape, hI.bs.output, hI.bs.size, fun k hk => by have hk : k < W.heap.size + 1 := hk; exact hI.bs.block k (by omega) (fun (e : k = g) => by omega)⟩; have z0 : wx.cell? ⟨W.heap.size, 0, none⟩ = some (.slice (some ⟨sb, sf, none⟩) sn sc) := (hbx.cell 0 0 _ rfl).1; have z1 : wx.cell? ⟨W.heap.size, 1, none⟩ = some (.slice co cn cc) := (hbx.cell 0 1 _ rfl).1; have hWx : W.heap.size < wx.heap.size := by omega
        have hgx : g < wx.heap.size := by omega
        have HBX := hide hbx; by_cases hrl : r < Jj a.shape.dropLast
        · have hpl : p < a.cells.length := by rw [Ja HSZ, Ja hp]; exact Jl7 hrl hin
          obtain ⟨rfl, hcb, hcc⟩ := Ja HCO (by omega); have cx : wx.cell? ⟨cb, cof + p, none⟩ = some (.int .i64 a.cells[p]) := (hbx.below.cell (p := ⟨cb, cof + p, none⟩) hcb).trans (hcc p hpl); obtain ⟨x, hx⟩ : ∃ x, a.cells[p] = x := ⟨_, rfl⟩; rw [hx] at cx; have HC1 : Hid (colC a.cells n i (r + 1) = colC a.cells n i r ++ [x]) := hide (by rw [Jim, ← Ja hp, List.getD_eq_getElem?_getD, List.getElem?_eq_getElem hpl, hx]; rfl); have HP1 : Hid (p + n = i + (r + 1) * n) := hide (by rw [Ja hp, Nat.add_mul]; omega); have hp200 : p < 200 := by have := (Ja HOK).few; omega
          have hcn2 : p < cn := by rw [Ja HCN]; exact hpl
          have hr200 : r ≤ 200 := by
            have h1 := Jc9 (Ja HOK) (by have := Ja HSN; have := Ja HM; omega) (by rw [Ja HN]; omega); have := (Ja HOK).few; omega
          have p0 : (0 : Int) ≤ (p : Int) := by omega
          have p1 : (p : Int) < (cn : Int) := by omega
          have hcbx : cb < wx.heap.size := by omega
          clear hbx ho hI hcc hx hp hpl; go_wp2_with (go_at_call 76; refine (J2 _ _ _ _ _ _ _).mono ?_; rintro e w' ⟨rfl, rfl⟩); have hbA : Below wx.heap.size wx (wx.alloc (.cells #[.slice (some ⟨sb, sf, none⟩) sn sc, .slice (some ⟨cb, cof, none⟩) cn cc] 57)) := (Below.refl _ _).alloc (Nat.le_refl _) _; obtain ⟨wA, hwA⟩ : ∃ wA, wx.alloc (.cells #[.slice (some ⟨sb, sf, none⟩) sn sc, .slice (some ⟨cb, cof, none⟩) cn cc] 57) = wA := ⟨_, rfl⟩; rw [hwA] at hbA ⊢; clear hwA; have HOA := hide ((Ja HO).below hbA); have HIA := hide ((Ja HIn).below hgx hszI hbA); have y1 := (hbA.cell (p := ⟨W.heap.size, 1, none⟩) hWx).trans z1; have yc := (hbA.cell (p := ⟨cb, cof + p, none⟩) hcbx).trans cx; have yg := (hbA.cell (p := ⟨g, i * 2 + 1, none⟩) hgx).trans hc; have yf : wA.frozen? ⟨g, i * 2 + 1, none⟩ = false := ((Ja HIA).fr _).trans ((Ja HCI).fr _); have hszA := hbA.size; have hszIA : wI.heap.size ≤ wA.heap.size := by omega
          have hgA : g < wA.heap.size := by omega
          have HG : Hid (g < wI.heap.size) := hide hgI; clear z0 z1 cx hc hbA HO HIn hWx hgx hcbx hszI hszA hgI hltI HBX; go_region_law (refine Nj rfl _ _ rfl rfl ((Ja HOA).below (Below.refl _ _).drew) (by rw [Xb]; omega) hszIA x rfl rfl ?_; intro v6 w6 ho6 hg6; obtain ⟨vo6, vc6, rfl⟩ := ho6.shape; have HO6 := hide ho6; have HI6 := hide (((Ja HIA).below hgA hszIA (Below.refl _ _).drew).below (Ja HG) (Nat.le_refl _) hg6.bel); have c6 := (hg6.bel.cell (p := ⟨g, i * 2 + 1, none⟩) (Ja HG)).trans yg; have f6 := (hg6.bel.frozen (p := ⟨g, i * 2 + 1, none⟩) (Ja HG)).trans yf; have hg6l : g < w6.heap.size := Nat.lt_of_lt_of_le hgA hg6.bel.size; clear ho6 hg6)
          all_goals
            have hlen : (colC a.cells n i r).length + 1 = r + 1 := by rw [Xb]
            rw [hlen]; have HO7 : Hid (OwnL wI.heap.size (w6.setCell ⟨g, i * 2 + 1, none⟩ (.slice vo6 (r + 1) vc6)) (.slice vo6 (r + 1) vc6) (colC a.cells n i r ++ [x])) := hide (by
              have h1 := Ja HO6; rw [List.length_append, List.length_singleton, hlen] at h1; exact Jj8 h1 (Ja HG) _)
            have HI7 := hide ((Ja HI6).set (.slice vo6 (r + 1) vc6)); have c7 := World.cell?_setCell_same w6 ⟨g, i * 2 + 1, none⟩ (.slice vo6 (r + 1) vc6) c6; obtain ⟨w7, hw7⟩ : ∃ w7, w6.setCell ⟨g, i * 2 + 1, none⟩ (.slice vo6 (r + 1) vc6) = w7 := ⟨_, rfl⟩; rw [hw7] at HO7 HI7 c7 ⊢; clear hw7 hlen HO6 HI6 c6 f6 hg6l HOA HIA y1 yc yg yf; go_wp2_with fail; go_roundw
            case rel => exact ⟨r + 1, p + n, by go_num, HP1, by omega, by omega, vo6, vc6, c7, by rw [Ja HC1]; exact Ja HO7, Ja HI7⟩
            case measure => simp [intOf]; omega
        · have hre : r = Jj a.shape.dropLast := by omega
          have hpl : ¬ p < cn := by rw [Ja HCN, Ja HSZ, Ja hp, hre]; omega
          have p1 : ¬ (p : Int) < (cn : Int) := by omega
          have hend : CB W wx P (.slice (some ⟨sb, sf, none⟩) sn sc) (.slice co cn cc) g n (i + 1) a := (Ja HCI).ends (Ja HP) hI (by
              obtain ⟨_, _, _, _, _, _, hv, h1, _⟩ := Ja HA; injection hv with hv; simp at hv; obtain ⟨⟨rfl, rfl, rfl⟩, _⟩ := hv; have h2 := Yi h1 (k := m) (by have := Ja HM; omega); have e : (a.shape.map Int.ofNat).take m = a.shape.dropLast.map Int.ofNat := by
                rw [← List.map_take, List.dropLast_eq_take]; have := Ja HSN; have := Ja HM; rw [show a.shape.length - 1 = m by omega]
              rw [e] at h2; exact h2) hc (by
              show OwnL wI.heap.size wx _ (colC a.cells (Jv a.shape) i (Jj a.shape.dropLast)); rw [Ja HN, ← hre]; exact ho)
          have HE := hide (hend.next ((Below.refl _ _).alloc (Nat.le_refl _) (.cells #[.slice (some ⟨sb, sf, none⟩) sn sc, .slice co cn cc] 57))); clear hbx ho hI hend hre hpl hp hrl hrm; go_wp2_with (go_at_call 76; refine (J2 _ _ _ _ _ _ _).mono ?_; rintro e w' ⟨rfl, rfl⟩); go_roundw
          case rel => exact ⟨i + 1, by go_num, by omega, Ja HE⟩
          case measure => simp [intOf]; omega
    · have hie : i = n := by omega
      subst hie; clear hB HCB; go_wp2_with fail; refine bodyPost_ret (v := .slice (some ⟨g, 0, none⟩) i i) (by simp [results, Tryz.results146, go_sem]) rfl ⟨g, rfl, Nat.le_of_lt (Ja HCB2).gW, (Ja HCB2).glt, ?_, (Ja HCB2).bx.below⟩; intro q hq; have hq' : q < i := by rw [Qi, Ja HN] at hq; exact hq
      obtain ⟨s1, s2, s3, c1, c2, c3, k1, k2, k3⟩ := (Ja HCB2).done q hq'; exact ⟨s1, s2, s3, c1, c2, c3, k1, k2, by rw [Jny]; exact k3.imp (fun b h _ => h.1)⟩
end Go.Proofs.YtjobgpahajhbnabGreatDoor
namespace Go.Proofs.YtjobgpahajhbnabGreatDoor
open Go.RowKit Go.Proofs
attribute [local go_sem ↓] Go.wp_at_zero Go.wp_at_succ
theorem Jer {P : Nat → Prop} {w : World} {so : Option Addr} {sn sc : Nat} {co : Option Addr} {cn cc : Nat} {a : Arr} (ha : IsArr P w (.agg #[.slice so sn sc, .slice co cn cc]) a) {m : Nat} (hm : sn = m + 1) : Nums P w (.slice so m sc) (a.shape.dropLast.map Int.ofNat) := by
  have hl := (Jc ha).2; obtain ⟨_, _, _, _, _, _, hv, h1, _⟩ := ha; injection hv with hv; simp at hv; obtain ⟨⟨rfl, rfl, rfl⟩, _⟩ := hv; have h2 := Yi h1 (k := m) (by omega); have e : (a.shape.map Int.ofNat).take m = a.shape.dropLast.map Int.ofNat := by
    rw [← List.map_take, List.dropLast_eq_take]; rw [show a.shape.length - 1 = m by omega]
  rw [e] at h2; exact h2
theorem Jfr {P : Nat → Prop} {w : World} {so : Option Addr} {sn sc : Nat} {co : Option Addr} {cn cc : Nat} {a : Arr} (ha : IsArr P w (.agg #[.slice so sn sc, .slice co cn cc]) a) : sn ≤ sc := by
  obtain ⟨_, _, _, _, _, _, hv, h1, _⟩ := ha; injection hv with hv; simp at hv; obtain ⟨⟨rfl, rfl, rfl⟩, _⟩ := hv; exact Zk h1
theorem G5 {a : Arr} (h : a.ok) : Lens a.shape.dropLast := ⟨by have := h.rank; simp; omega, fun n hn => by have := h.lens n (List.dropLast_subset _ hn); omega⟩
theorem Fc {P : Nat → Prop} {w : World} {so : Option Addr} {sn sc : Nat} {co : Option Addr} {cn cc : Nat} {sh : List Nat} {xs : List Int} (h1 : Nums P w (.slice so sn sc) (sh.map Int.ofNat)) (h2 : Nums P w (.slice co cn cc) xs) : IsArr P w (.agg #[.slice so sn sc, .slice co cn cc]) ⟨sh, xs⟩ := ⟨_, _, _, _, _, _, rfl, h1, h2⟩
set_option maxHeartbeats 4000000 in
set_option maxRecDepth 20000 in
theorem Jk1 {f : Arr → Arr → Arr × Int} {g : Nat} (z : Int) (hen : Enters Tryz.prog g) {w0 : World} (hfn : FnTwo g #[] w0 f) (hev : Evens f) (P : Nat → Prop) (W : World) (hW : Below w0.heap.size w0 W) (hP : ∀ b, W.heap.size ≤ b → P b) (so : Option Addr) (sn sc : Nat) (co : Option Addr) (cn cc : Nat) (a : Arr) (ha : IsArr P W (.agg #[.slice so sn sc, .slice co cn cc]) a) (hok : a.ok) :
    Calls Tryz.prog 97 #[.agg #[.slice so sn sc, .slice co cn cc], .agg #[.func (.func g) #[] #[], .int .i64 z]] W fun e W' => ∃ so sn sc co cn cc, e = .returned (.tuple #[.agg #[.slice so sn sc, .slice co cn cc], .int .i64 (Yt f z a).2]) ∧ IsArr P W' (.agg #[.slice so sn sc, .slice co cn cc]) (Yt f z a).1 ∧ Below W.heap.size W W' := by
  have hsn := (Jc ha).2; have hst : Bx W (((W.alloc (.cells #[.slice so sn sc, .slice co cn cc] 57)).alloc (.cells #[.func (.func g) #[] #[], .int .i64 z] 143)).alloc (.cells #[.slice none 0 0, .slice none 0 0] 57)) [[.slice so sn sc, .slice co cn cc], [.func (.func g) #[] #[], .int .i64 z], [.slice none 0 0, .slice none 0 0]] := (((Bx.nil W).alloc (by simp) [.slice so sn sc, .slice co cn cc] 57).alloc (by simp) [.func (.func g) #[] #[], .int .i64 z] 143).alloc (by simp) [.slice none 0 0, .slice none 0 0] 57; have HST := hide hst; have ha' : IsArr (OffB W.heap.size 3 P) W (.agg #[.slice so sn sc, .slice co cn cc]) a := ha.imp (fun b h hl => ⟨h, Or.inl hl⟩); have HA := hide ha'; have hP' : ∀ b, W.heap.size + 3 ≤ b → OffB W.heap.size 3 P b := fun b hb => OffB.new hP hb
  have HP := hide hP'; have HFn := hide hfn; have HEv := hide hev; have HW := hide hW; have HEn := hide hen; have HOK := hide hok; have HSN := hide hsn; have HCap := hide (Jfr ha); clear hst ha ha' hP hP' hfn hev hW hen hok hsn; by_cases h0 : sn = 0
  · have e0 : ((sn : Int) == 0) = true := by simpa using h0
    have HR : Hid (Yt f z a = (a, 0)) := hide (by unfold Yt; rw [if_pos (by have := Ja HSN; omega)]); clear h0; go_enter Tryz.func97, Tryz.ntmps97; go_wp2_with fail; refine (Ji _ so sn sc co cn cc).mono ?_; rintro e w' ⟨rfl, hw'⟩; have HX : Hid (Bx W w' [[.slice so sn sc, .slice co cn cc], [.func (.func g) #[] #[], .int .i64 z], [.slice none 0 0, .slice none 0 0]]) := hide ((Ja HST).next (by rw [hw']; exact ((Below.refl _ _).alloc (Nat.le_refl _) _).alloc (by simp) _)); clear hw' HST; have b0 : w'.cell? ⟨W.heap.size, 0, none⟩ = some (.slice so sn sc) := ((Ja HX).cell 0 0 _ rfl).1; have b1 : w'.cell? ⟨W.heap.size, 1, none⟩ = some (.slice co cn cc) := ((Ja HX).cell 0 1 _ rfl).1; have r0 : w'.cell? ⟨W.heap.size + 1 + 1, 0, none⟩ = some (.slice none 0 0) := ((Ja HX).cell 2 0 _ rfl).1; have r1 : w'.cell? ⟨W.heap.size + 1 + 1, 1, none⟩ = some (.slice none 0 0) := ((Ja HX).cell 2 1 _ rfl).1; have g0 : w'.frozen? ⟨W.heap.size + 1 + 1, 0, none⟩ = false := ((Ja HX).cell 2 0 _ rfl).2; have g1 : w'.frozen? ⟨W.heap.size + 1 + 1, 1, none⟩ = false := ((Ja HX).cell 2 1 _ rfl).2; go_wp2_with fail; have hf2 := Yf (q := 2) (u0 := .slice so sn sc) (u1 := .slice co cn cc) (Ja HX).below (by decide) ((Ja HA).below (Ja HX).below); refine bodyPost_ret (v := .tuple #[.agg #[.slice so sn sc, .slice co cn cc], .int .i64 0]) (by simp [results, Tryz.results97, go_sem, r0, r1]) rfl ⟨so, sn, sc, co, cn, cc, by rw [Ja HR], by rw [Ja HR]; exact hf2.1, hf2.2⟩
  · have e0 : ((sn : Int) == 0) = false := beq_false_of_ne (by omega); obtain ⟨m, hm⟩ : ∃ m, sn = m + 1 := ⟨sn - 1, by omega⟩; have hr : a.shape.length ≠ 0 := by have := Ja HSN; omega
    obtain ⟨sb, sf, rfl, hsb, -⟩ := K8 (Ja HA) e0; have HM := hide hm; have HR0 := hide hr; have hm3 : m ≤ 3 := by have := (Ja HOK).rank; have := Ja HSN; omega
    have hw1 : IntKind.i64.wrap ((sn : Int) - 1) = (m : Int) := by
      have e : ((sn : Int) - 1) = (m : Int) := by omega
      rw [e]; exact Jd (by omega) (by omega)
    have x2 : (0 : Int) ≤ (m : Int) := by omega
    have x3 : (m : Int) ≤ (sc : Int) := by have := Ja HCap; omega
    have HD : Hid (∀ w', Below W.heap.size W w' → Nums (OffB W.heap.size 3 P) w' (.slice (some ⟨sb, sf, none⟩) m sc) (a.shape.dropLast.map Int.ofNat)) := hide (fun w' hb => (Jer (Ja HA) hm).below hb); clear h0 hm hr; go_enter Tryz.func97, Tryz.ntmps97; go_wp2_with fail; refine (Ji _ (some ⟨sb, sf, none⟩) sn sc co cn cc).mono ?_; rintro e w' ⟨rfl, hw'⟩; have HX : Hid (Bx W w' [[.slice (some ⟨sb, sf, none⟩) sn sc, .slice co cn cc], [.func (.func g) #[] #[], .int .i64 z], [.slice none 0 0, .slice none 0 0]]) := hide ((Ja HST).next (by rw [hw']; exact ((Below.refl _ _).alloc (Nat.le_refl _) _).alloc (by simp) _)); clear hw' HST; have b0 : w'.cell? ⟨W.heap.size, 0, none⟩ = some (.slice (some ⟨sb, sf, none⟩) sn sc) := ((Ja HX).cell 0 0 _ rfl).1; have b1 : w'.cell? ⟨W.heap.size, 1, none⟩ = some (.slice co cn cc) := ((Ja HX).cell 0 1 _ rfl).1; have hlt : W.heap.size < w'.heap.size := by have := (Ja HX).lt; simp at this; omega
    have HS : Hid (∀ w2, Below w'.heap.size w' w2 → w2.cell? ⟨W.heap.size, 0, none⟩ = some (.slice (some ⟨sb, sf, none⟩) sn sc) ∧ w2.cell? ⟨W.heap.size, 1, none⟩ = some (.slice co cn cc)) := hide (fun w2 hb => ⟨(hb.cell (p := ⟨W.heap.size, 0, none⟩) hlt).trans b0, (hb.cell (p := ⟨W.heap.size, 1, none⟩) hlt).trans b1⟩); go_wp2_with fail; go_region_held3 (fun w2 => w2.cell? ⟨W.heap.size, 0, none⟩ = some (.slice (some ⟨sb, sf, none⟩) sn sc) ∧ w2.cell? ⟨W.heap.size, 1, none⟩ = some (.slice co cn cc))
      (first
        | exact Ja HS _ (Below.refl _ _).drew
        | exact Ja HS _ ((Below.refl _ _).drew.alloc (Nat.le_refl _) _)
        | exact Ja HS _ (((Below.refl _ _).alloc (Nat.le_refl _) _).drew)
        | (trace_state; fail))
      ((go_at_call 144; refine (Yk _ _ _ _ _ _ _).mono ?_; rintro e w2 ⟨rfl, rfl⟩))
    go_wp2_with fail; have HX2 := hide ((Ja HX).next (((Below.refl _ _).alloc (Nat.le_refl _) (.cells #[.slice (some ⟨sb, sf, none⟩) sn sc, .slice co cn cc] 57)).drew)); obtain ⟨w2, hw2⟩ : ∃ w2, (w'.alloc (.cells #[.slice (some ⟨sb, sf, none⟩) sn sc, .slice co cn cc] 57)).drew = w2 := ⟨_, rfl⟩; rw [hw2] at HX2 ⊢; clear hw2 HX HS b0 b1 hlt hw1 x2 x3; refine (Xa w2 _ _ _ _ (Ja HD w2 (Ja HX2).below) (G5 (Ja HOK))).mono ?_; rintro e w3 ⟨rfl, hw3⟩; have hw3' := hw3.symm; subst hw3'; clear hw3; have r0 : w2.cell? ⟨W.heap.size + 1 + 1, 0, none⟩ = some (.slice none 0 0) := ((Ja HX2).cell 2 0 _ rfl).1; have r1 : w2.cell? ⟨W.heap.size + 1 + 1, 1, none⟩ = some (.slice none 0 0) := ((Ja HX2).cell 2 1 _ rfl).1; have g0 : w2.frozen? ⟨W.heap.size + 1 + 1, 0, none⟩ = false := ((Ja HX2).cell 2 0 _ rfl).2; have g1 : w2.frozen? ⟨W.heap.size + 1 + 1, 1, none⟩ = false := ((Ja HX2).cell 2 1 _ rfl).2; have b0 : w2.cell? ⟨W.heap.size, 0, none⟩ = some (.slice (some ⟨sb, sf, none⟩) sn sc) := ((Ja HX2).cell 0 0 _ rfl).1; have b1 : w2.cell? ⟨W.heap.size, 1, none⟩ = some (.slice co cn cc) := ((Ja HX2).cell 0 1 _ rfl).1; by_cases hft : Yy a.shape.dropLast = true
    · rw [hft]; have hlt2 := (Ja HX2).lt; simp at hlt2; have HCol := hide (Ga (OffB W.heap.size 3 P) w2 (fun b hb => Ja HP b (by omega)) _ _ _ _ _ _ a ((Ja HA).below (Ja HX2).below) (Ja HOK) (Ja HR0)); have HFT := hide hft; clear hft hlt2; go_wp2_with fail; refine (Ja HCol).mono ?_; rintro e w4 ⟨gc, rfl, hg1, hg2, hC, hb4⟩; have HX4 := hide ((Ja HX2).next hb4); have HC := hide hC; clear hC hb4 HX2 HCol r0 r1 g0 g1 b0 b1; have r0 : w4.cell? ⟨W.heap.size + 1 + 1, 0, none⟩ = some (.slice none 0 0) := ((Ja HX4).cell 2 0 _ rfl).1; have r1 : w4.cell? ⟨W.heap.size + 1 + 1, 1, none⟩ = some (.slice none 0 0) := ((Ja HX4).cell 2 1 _ rfl).1; have g0 : w4.frozen? ⟨W.heap.size + 1 + 1, 0, none⟩ = false := ((Ja HX4).cell 2 0 _ rfl).2; have g1 : w4.frozen? ⟨W.heap.size + 1 + 1, 1, none⟩ = false := ((Ja HX4).cell 2 1 _ rfl).2; have s0 : w4.cell? ⟨W.heap.size + 1, 0, none⟩ = some (.func (.func g) #[] #[]) := ((Ja HX4).cell 1 0 _ rfl).1; have s1 : w4.cell? ⟨W.heap.size + 1, 1, none⟩ = some (.int .i64 z) := ((Ja HX4).cell 1 1 _ rfl).1; obtain ⟨n, hn⟩ : ∃ n, Jv a.shape = n := ⟨_, rfl⟩; rw [hn]; by_cases hn0 : n = 0
      · have e1 : ((n : Int) == 0) = true := by simpa using hn0
        have HR : Hid (Yt f z a = (⟨a.shape.dropLast, List.replicate (Jj a.shape.dropLast) z⟩, 0)) := hide (by
          unfold Yt; rw [if_neg (Ja HR0), Ja HFT, if_neg (by simp), hn, if_pos hn0])
        have hp64 : Jj a.shape.dropLast ≤ 200 := by
          have := Ja HFT; unfold Yy at this; simp only [Bool.and_eq_true, decide_eq_true_eq] at this; omega
        have HB4 := hide (Ja HX4).below; have HCnt : Hid (∀ w', Below W.heap.size W w' → Calls Tryz.prog 148 #[.slice (some ⟨sb, sf, none⟩) m sc] w' fun e w'' => e = .returned (.int .i64 (Jj a.shape.dropLast)) ∧ w'' = w') := hide (fun w' hb => Vb w' _ _ _ _ (Ja HD w' hb) (G5 (Ja HOK))); obtain ⟨pl, hpl⟩ : ∃ pl, Jj a.shape.dropLast = pl := ⟨_, rfl⟩; rw [hpl] at HR HCnt hp64; have hlt4 := (Ja HX4).lt; simp at hlt4; have hz1 : W.heap.size + 1 < w4.heap.size := by omega
        have hz2 : W.heap.size + 1 + 1 < w4.heap.size := by omega
        have HRep := hide (Vl (OffB W.heap.size 3 P) (w4.alloc (.cells #[.int .i64 z] 2)).drew (fun b hb => Ja HP b (by simp at hb; omega)) w4.heap.size 0 1 z pl hp64 (by simp) (by simp)); clear hn0 hn HC hpl hlt4; go_wp2_with fail; go_region_with (first | (go_at_call 148; refine (Ja HCnt _ (by first | exact (Ja HB4).drew | exact ((Ja HB4).alloc (Ja HB4).size _).drew | exact (Ja HB4).drew.alloc (by simpa using (Ja HB4).size) _)).mono ?_; rintro e w5 ⟨rfl, hw5⟩; have hw5' := hw5.symm; subst hw5'; clear hw5) | (go_at_call 147; refine (Ja HRep).mono ?_; rintro e w5 ⟨g5, rfl, hn5, hb5⟩; have HN5 := hide hn5; have HB5 : Hid (Below w4.heap.size w4 w5) := hide (((Below.refl _ _).alloc (Nat.le_refl _) _).drew.trans (hb5.mono (by simp))); have r0' := ((Ja HB5).cell (p := ⟨W.heap.size + 1 + 1, 0, none⟩) hz2).trans r0; have r1' := ((Ja HB5).cell (p := ⟨W.heap.size + 1 + 1, 1, none⟩) hz2).trans r1; have g0' := ((Ja HB5).frozen (p := ⟨W.heap.size + 1 + 1, 0, none⟩) hz2).trans g0; have g1' := ((Ja HB5).frozen (p := ⟨W.heap.size + 1 + 1, 1, none⟩) hz2).trans g1; clear hn5 hb5))
        all_goals
          go_wp2_with fail; have hX5 := (Ja HX4).next (Ja HB5); have hf2 := Yf (q := 2) (u0 := .slice (some ⟨sb, sf, none⟩) m sc) (u1 := .slice (some ⟨g5, 0, none⟩) pl pl) hX5.below (by decide) (Fc (Ja HD _ hX5.below) (Ja HN5)); refine bodyPost_ret (v := .tuple #[.agg #[.slice (some ⟨sb, sf, none⟩) m sc, .slice (some ⟨g5, 0, none⟩) pl pl], .int .i64 0]) (by simp [results, Tryz.results97, go_sem, r0', r1']) rfl ⟨_, _, _, _, _, _, by rw [Ja HR], by rw [Ja HR]; exact hf2.1, hf2.2⟩
      · have e1 : ((n : Int) == 0) = false := beq_false_of_ne (by omega); have HR : Hid (Yt f z a = Jl f (cols a)) := hide (by
          unfold Yt; rw [if_neg (Ja HR0), Ja HFT, if_neg (by simp), hn, if_neg hn0])
        have hn200 : n ≤ 200 := by
          have h1 := Ya (Ja HR0); rw [hn] at h1; exact (Ja HOK).lens n (by rw [h1]; simp)
        have hlt4 := (Ja HX4).lt; simp at hlt4; have HCh := hide (Gd z (Ja HEn) (Ja HFn) (OffB W.heap.size 3 P) w4 ((Ja HW).trans ((Ja HX4).below.mono (Ja HW).size)) (fun b hb => Ja HP b (by omega)) gc n n (cols a) (by rw [Qi, hn]) (by omega) hn200 hg2 (Ja HC) (fun c hc => (F7 (Ja HOK) (Ja HR0) c hc).1) (Ja HEv).ok); clear hn0 hn hlt4 HC hn200; go_wp2_with fail; refine (Ja HCh).mono ?_; rintro e w5 ⟨s4, s5, s6, c4, c5, c6, rfl, hA5, hb5⟩; have HX5 := hide ((Ja HX4).next hb5); have HA5 := hide hA5; clear hA5 hb5 HX4 HCh r0 r1 g0 g1 s0 s1; have r0 : w5.cell? ⟨W.heap.size + 1 + 1, 0, none⟩ = some (.slice none 0 0) := ((Ja HX5).cell 2 0 _ rfl).1; have r1 : w5.cell? ⟨W.heap.size + 1 + 1, 1, none⟩ = some (.slice none 0 0) := ((Ja HX5).cell 2 1 _ rfl).1; have g0 : w5.frozen? ⟨W.heap.size + 1 + 1, 0, none⟩ = false := ((Ja HX5).cell 2 0 _ rfl).2; have g1 : w5.frozen? ⟨W.heap.size + 1 + 1, 1, none⟩ = false := ((Ja HX5).cell 2 1 _ rfl).2; go_wp2_with fail; have hf2 := Yf (q := 2) (u0 := .slice s4 s5 s6) (u1 := .slice c4 c5 c6) (Ja HX5).below (by decide) (Ja HA5); refine bodyPost_ret (v := .tuple #[.agg #[.slice s4 s5 s6, .slice c4 c5 c6], .int .i64 (Jl f (cols a)).2]) (by simp [results, Tryz.results97, go_sem, r0, r1]) rfl ⟨_, _, _, _, _, _, by rw [Ja HR], by rw [Ja HR]; exact hf2.1, hf2.2⟩
    · have hft' : Yy a.shape.dropLast = false := by simpa using hft
      rw [hft']; have HR : Hid (Yt f z a = (eArr, 9)) := hide (by unfold Yt; rw [if_neg (Ja HR0), if_pos hft']); clear hft hft'; go_wp2_with fail; have hf2 := Yf (q := 2) (P := P) (k := 3) (a := eArr) (u0 := .slice none 0 0) (u1 := .slice none 0 0) (Ja HX2).below (by decide) (Yd _ _); refine bodyPost_ret (v := .tuple #[.agg #[.slice none 0 0, .slice none 0 0], .int .i64 9]) (by simp [results, Tryz.results97, go_sem, r0, r1]) rfl ⟨none, 0, 0, none, 0, 0, by rw [Ja HR], by rw [Ja HR]; exact hf2.1, hf2.2⟩
end Go.Proofs.YtjobgpahajhbnabGreatDoor
