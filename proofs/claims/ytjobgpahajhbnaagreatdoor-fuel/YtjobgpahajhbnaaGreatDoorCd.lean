import Derived.Test.YtjobgpahajhbnaaGreatDoorGg
import Derived.Test.YtjobgpahajhbnaaGreatDoorJc
import Derived.Deep.RegionLaw
namespace Go.Proofs.YtjobgpahajhbnaaGreatDoor
open Go.RowKit Go.Proofs
attribute [local go_sem ↓] Go.wp_at_zero Go.wp_at_succ

theorem Tryz.info89 : (Tryz.prog.info? 89).map (fun i => (i.zero, i.size, i.bytes)) = some (some (.agg #[.slice none 0 0, .slice none 0 0]), 2, 48) := by kernel_rfl
theorem made_two (z : Value) (n : Nat) : (madeCells #[z, z] n).toList = List.replicate n z := by
  apply List.ext_getElem?
  intro j
  by_cases hj : j < n
  · have h2 : j % 2 < 2 := Nat.mod_lt _ (by decide)
    simp [madeCells, hj]
    have : j % 2 = 0 ∨ j % 2 = 1 := by omega
    rcases this with e | e <;> simp [e]
  · simp [madeCells, hj]
theorem step_app1 {ops : Array Oper} {o : Oper} {a : Act} {w : World} {K : Act → World → Prop} {Q : Exit → Act → World → Prop} {E : Prop} (hg : o.guard = none) (s x : Operand) (hop : o.op = Op.call { callee := Callee.builtin Builtin.append, args := #[s, x], argTypes := #[32, 32] }) (hty : o.type = 32)
    {B : Nat} {v : Value} {xs : List Int} (h : OwnL B w v xs) (hx : xs.length ≤ 1000) (hB : B ≤ w.heap.size) (y : Int) (hs : a.eval s = v) (hv : a.eval x = .slice (some ⟨w.heap.size, 0, none⟩) 1 1)
    (hK : ∀ v' w', OwnL B w' v' (xs ++ [y]) → Grew B w v v' w' → K (a.put o.dst v') w') : if Region.wanted o (yielded ops a.tmps) = true then Oper.wp Tryz.prog o a (w.alloc (.cells #[.int .i64 y] 2)) K Q else E := by
  have hw : Region.wanted o (yielded ops a.tmps) = true := by simp [Region.wanted, hg]
  rw [if_pos hw]
  obtain ⟨v', w', hrun, h1, h2⟩ := app1 h hx hB y
  unfold Oper.wp
  simp [execOp, hop, hty, resolve, invoke, builtin, hs, hv, hrun, Result.andThen]
  exact hK v' w' h1 h2
/-- all is kept but cell c of block g, and what lies from B on -/
structure Into (g c : Nat) (w w' : World) : Prop where
  bs : Bs (fun b => b = g) w w'
  cell : ∀ j, j ≠ c → w'.cell? ⟨g, j, none⟩ = w.cell? ⟨g, j, none⟩
  fr : ∀ j, w'.frozen? ⟨g, j, none⟩ = w.frozen? ⟨g, j, none⟩
theorem Into.refl (g c : Nat) (w : World) : Into g c w w := ⟨Bs.of (Below.refl _ _), fun _ _ => rfl, fun _ => rfl⟩
theorem Into.below {g c n : Nat} {w w1 w2 : World} (h : Into g c w w1) (hg : g < n) (hn : w.heap.size ≤ n) (hb : Below n w1 w2) : Into g c w w2 :=
  ⟨⟨hb.os.trans h.bs.os, hb.tape.trans h.bs.tape, hb.output.trans h.bs.output, Nat.le_trans h.bs.size hb.size, fun k hk hne => (hb.block k (by omega)).trans (h.bs.block k hk hne)⟩, fun j hj => (hb.cell (p := ⟨g, j, none⟩) hg).trans (h.cell j hj), fun j => (hb.frozen (p := ⟨g, j, none⟩) hg).trans (h.fr j)⟩
theorem Into.set {g c : Nat} {w w1 : World} (h : Into g c w w1) (v : Value) : Into g c w (w1.setCell ⟨g, c, none⟩ v) :=
  ⟨⟨h.bs.os, h.bs.tape, h.bs.output, by simpa using h.bs.size, fun k hk hne => (RowKit.Below.heap_setCell _ _ _ _ (by intro e; exact hne e)).trans (h.bs.block k hk hne)⟩, fun j hj => (World.cell?_setCell_other _ _ _ _ (by intro e; injection e with _ e2; exact hj e2.symm)).trans (h.cell j hj), fun j => (World.frozen?_setCell ..).trans (h.fr j)⟩
end Go.Proofs.YtjobgpahajhbnaaGreatDoor
namespace Go.Proofs.YtjobgpahajhbnaaGreatDoor
open Go.RowKit Go.Proofs
attribute [local go_sem ↓] Go.wp_at_zero Go.wp_at_succ

def OffG (n g : Nat) (P : Nat → Prop) (b : Nat) : Prop := P b ∧ (b < n ∨ g < b)
/-- where columns stands: i of them are done -/
structure CB (W w : World) (P : Nat → Prop) (b0 b1 : Value) (g n i : Nat) (a : Arr) : Prop where
  bx : Bx W w [[b0, b1]]
  gW : W.heap.size < g
  glt : g < w.heap.size
  done : ∀ q, q < i → ∃ so sn sc co cn cc, w.cell? ⟨g, q * 2, none⟩ = some (.slice so sn sc) ∧ w.cell? ⟨g, q * 2 + 1, none⟩ = some (.slice co cn cc) ∧ IsArr (OffG W.heap.size g P) w (.agg #[.slice so sn sc, .slice co cn cc]) (col a q)
  todo : ∀ q, i ≤ q → q < n → w.cell? ⟨g, q * 2, none⟩ = some (.slice none 0 0) ∧ w.cell? ⟨g, q * 2 + 1, none⟩ = some (.slice none 0 0)
  fr : ∀ j, w.frozen? ⟨g, j, none⟩ = false
theorem CB.next {W w w' : World} {P : Nat → Prop} {b0 b1 : Value} {g n i : Nat} {a : Arr} (h : CB W w P b0 b1 g n i a) (hb : Below w.heap.size w w') : CB W w' P b0 b1 g n i a := by
  have hg := h.glt
  refine ⟨h.bx.next hb, h.gW, Nat.lt_of_lt_of_le hg hb.size, fun q hq => ?_, fun q h1 h2 => ?_, fun j => (hb.frozen (p := ⟨g, j, none⟩) hg).trans (h.fr j)⟩
  · obtain ⟨so, sn, sc, co, cn, cc, k1, k2, k3⟩ := h.done q hq
    exact ⟨so, sn, sc, co, cn, cc, (hb.cell (p := ⟨g, q * 2, none⟩) hg).trans k1, (hb.cell (p := ⟨g, q * 2 + 1, none⟩) hg).trans k2, k3.below hb⟩
  · obtain ⟨k1, k2⟩ := h.todo q h1 h2
    exact ⟨(hb.cell (p := ⟨g, q * 2, none⟩) hg).trans k1, (hb.cell (p := ⟨g, q * 2 + 1, none⟩) hg).trans k2⟩
/-- .. its shape is laid, its cells come -/
structure CI (W w : World) (P : Nat → Prop) (b0 b1 : Value) (g n i : Nat) (a : Arr) (V : Value) : Prop where
  bx : Bx W w [[b0, b1]]
  gW : W.heap.size < g
  glt : g < w.heap.size
  done : ∀ q, q < i → ∃ so sn sc co cn cc, w.cell? ⟨g, q * 2, none⟩ = some (.slice so sn sc) ∧ w.cell? ⟨g, q * 2 + 1, none⟩ = some (.slice co cn cc) ∧ IsArr (OffG W.heap.size g P) w (.agg #[.slice so sn sc, .slice co cn cc]) (col a q)
  todo : ∀ q, i < q → q < n → w.cell? ⟨g, q * 2, none⟩ = some (.slice none 0 0) ∧ w.cell? ⟨g, q * 2 + 1, none⟩ = some (.slice none 0 0)
  here0 : w.cell? ⟨g, i * 2, none⟩ = some V
  here1 : w.cell? ⟨g, i * 2 + 1, none⟩ = some (.slice none 0 0)
  fr : ∀ j, w.frozen? ⟨g, j, none⟩ = false
theorem CB.begins {W w : World} {P : Nat → Prop} {b0 b1 : Value} {g n i : Nat} {a : Arr} (h : CB W w P b0 b1 g n i a) (hi : i < n) (V : Value) (o : Obj) : CI W ((w.setCell ⟨g, i * 2, none⟩ V).alloc o).drew P b0 b1 g n i a V := by
  have hgW := h.gW
  have hgl := h.glt
  have hb : Below (W.heap.size + 1) w ((w.setCell ⟨g, i * 2, none⟩ V).alloc o).drew := (((Below.refl _ _).setCell (p := ⟨g, i * 2, none⟩) (by show W.heap.size + 1 ≤ g; omega) _).alloc (by have := h.bx.lt; simpa using this) _).drew
  have hcell : ∀ j, j ≠ i * 2 → ((w.setCell ⟨g, i * 2, none⟩ V).alloc o).drew.cell? ⟨g, j, none⟩ = w.cell? ⟨g, j, none⟩ := fun j hj => by
    have hb2 : Below (w.setCell ⟨g, i * 2, none⟩ V).heap.size (w.setCell ⟨g, i * 2, none⟩ V) ((w.setCell ⟨g, i * 2, none⟩ V).alloc o).drew := ((Below.refl _ _).alloc (Nat.le_refl _) _).drew
    rw [hb2.cell (p := ⟨g, j, none⟩) (by simpa using hgl), World.cell?_setCell_other _ _ _ _ (by intro e; injection e with _ e2; exact hj e2.symm)]
  have hno : ¬ OffG W.heap.size g P g := by rintro ⟨_, h⟩; omega
  obtain ⟨k1, k2⟩ := h.todo i (Nat.le_refl _) hi
  refine ⟨h.bx.keep hb, hgW, by simp; omega, fun q hq => ?_, fun q h1 h2 => ?_, ?_, ?_, fun j => ?_⟩
  · obtain ⟨so, sn, sc, co, cn, cc, a1, a2, a3⟩ := h.done q hq
    exact ⟨so, sn, sc, co, cn, cc, (hcell _ (by omega)).trans a1, (hcell _ (by omega)).trans a2, (a3.set hno _ _).below ((Below.refl _ _).alloc (Nat.le_refl _) _).drew⟩
  · obtain ⟨a1, a2⟩ := h.todo q (by omega) h2
    exact ⟨(hcell _ (by omega)).trans a1, (hcell _ (by omega)).trans a2⟩
  · have hb2 : Below (w.setCell ⟨g, i * 2, none⟩ V).heap.size (w.setCell ⟨g, i * 2, none⟩ V) ((w.setCell ⟨g, i * 2, none⟩ V).alloc o).drew := ((Below.refl _ _).alloc (Nat.le_refl _) _).drew
    rw [hb2.cell (p := ⟨g, i * 2, none⟩) (by simpa using hgl)]
    exact World.cell?_setCell_same _ _ _ k1
  · exact (hcell _ (by omega)).trans k2
  · have hb2 : Below (w.setCell ⟨g, i * 2, none⟩ V).heap.size (w.setCell ⟨g, i * 2, none⟩ V) ((w.setCell ⟨g, i * 2, none⟩ V).alloc o).drew := ((Below.refl _ _).alloc (Nat.le_refl _) _).drew
    rw [hb2.frozen (p := ⟨g, j, none⟩) (by simpa using hgl), World.frozen?_setCell]
    exact h.fr j
theorem CI.ends {W w w' : World} {P : Nat → Prop} {b0 b1 : Value} {g n i : Nat} {a : Arr} {so : Option Addr} {sn sc : Nat} (h : CI W w P b0 b1 g n i a (.slice so sn sc)) (hP : ∀ b, W.heap.size ≤ b → P b) (hI : Into g (i * 2 + 1) w w') (hs : Nums P W (.slice so sn sc) (a.shape.dropLast.map Int.ofNat)) {v : Value} (hc : w'.cell? ⟨g, i * 2 + 1, none⟩ = some v) (ho : OwnL w.heap.size w' v (col a i).cells) : CB W w' P b0 b1 g n (i + 1) a := by
  have hgW := h.gW
  have hgl := h.glt
  have hlt := h.bx.lt
  simp at hlt
  have hb : Below (W.heap.size + 1) w w' := ⟨hI.bs.os, hI.bs.tape, hI.bs.output, hI.bs.size, fun k hk => hI.bs.block k (by omega) (by omega)⟩
  have hbx := h.bx.keep hb
  have hq : ∀ b, OffG W.heap.size g P b → b < w.heap.size → w'.heap[b]? = w.heap[b]? := fun b hb hl => hI.bs.block b hl (fun e => by subst e; rcases hb.2 with h | h <;> omega)
  refine ⟨hbx, hgW, Nat.lt_of_lt_of_le hgl hI.bs.size, fun q hql => ?_, fun q h1 h2 => ?_, fun j => (hI.fr j).trans (h.fr j)⟩
  · by_cases hqi : q = i
    · subst hqi
      obtain ⟨vo, vc, rfl⟩ := ho.shape
      refine ⟨so, sn, sc, vo, _, vc, (hI.cell _ (by omega)).trans h.here0, hc, _, _, _, _, _, _, rfl, (hs.imp (fun b hp hl => ⟨hp, Or.inl hl⟩)).below hbx.below, ho.nums.imp (fun b hb _ => ⟨hP b (by omega), Or.inr (by omega)⟩)⟩
    · obtain ⟨s1, s2, s3, c1, c2, c3, a1, a2, a3⟩ := h.done q (by omega)
      exact ⟨s1, s2, s3, c1, c2, c3, (hI.cell _ (by omega)).trans a1, (hI.cell _ (by omega)).trans a2, a3.keep hI.bs.size hq⟩
  · obtain ⟨a1, a2⟩ := h.todo q (by omega) h2
    exact ⟨(hI.cell _ (by omega)).trans a1, (hI.cell _ (by omega)).trans a2⟩
theorem owns_set {B g c : Nat} {w : World} {v : Value} {xs : List Int} (h : OwnL B w v xs) (hg : g < B) (u : Value) : OwnL B (w.setCell ⟨g, c, none⟩ u) v xs := by
  have hk := World.ownsRow.lt h
  refine ⟨h.1, ?_⟩
  rcases h.2 with hn | ⟨g', cap, cur, hv, hb, hgg, rest⟩
  · exact .inl hn
  · have hb' := hk g' (by rw [hv]; rfl)
    refine .inr ⟨g', cap, cur, hv, hb, ?_, rest⟩
    rw [RowKit.Below.heap_setCell _ _ _ _ (show g' ≠ g by omega)]
    exact hgg
theorem div_lt {r m n i : Nat} (hr : r < m) (hi : i < n) : i + r * n < m * n := by
  have : (r + 1) * n ≤ m * n := Nat.mul_le_mul_right n hr
  rw [Nat.add_mul] at this
  omega
set_option maxHeartbeats 4000000 in
set_option maxRecDepth 20000 in
theorem columns_any (P : Nat → Prop) (W : World) (hP : ∀ b, W.heap.size ≤ b → P b) (so : Option Addr) (sn sc : Nat) (co : Option Addr) (cn cc : Nat) (a : Arr) (ha : IsArr P W (.agg #[.slice so sn sc, .slice co cn cc]) a) (hok : a.ok) (hr : a.shape.length ≠ 0) :
    Calls Tryz.prog 223 #[.agg #[.slice so sn sc, .slice co cn cc]] W fun e W' => ∃ g, e = .returned (.slice (some ⟨g, 0, none⟩) (lastN a.shape) (lastN a.shape)) ∧ W.heap.size ≤ g ∧ g < W'.heap.size ∧ Cols P W' g (cols a) ∧ Below W.heap.size W W' := by
  obtain ⟨i0, hi, hz0, hz1, hz2⟩ := info_parts Tryz.info89
  have hsn := (isArr_len ha).2
  obtain ⟨sb, sf, rfl, hsb, hsc⟩ := shape_at ha (beq_false_of_ne (by omega))
  obtain ⟨m, hm⟩ : ∃ m, sn = m + 1 := ⟨sn - 1, by omega⟩
  have HM := hide hm
  have hb0 : Below W.heap.size W (W.alloc (.cells #[.slice (some ⟨sb, sf, none⟩) sn sc, .slice co cn cc] 89)) := (Below.refl _ _).alloc (Nat.le_refl _) _
  have HLast := hide (last_any (W.alloc (.cells #[.slice (some ⟨sb, sf, none⟩) sn sc, .slice co cn cc] 89)) _ _ _ _ _ _ a (ha.below hb0) a.shape.dropLast (lastN a.shape) (last_split hr) (by have := hok.rank; simp; omega))
  have hBx : Bx W (W.alloc (.cells #[.slice (some ⟨sb, sf, none⟩) sn sc, .slice co cn cc] 89)) [[.slice (some ⟨sb, sf, none⟩) sn sc, .slice co cn cc]] := (Bx.nil W).alloc (by simp) _ _
  obtain ⟨n, hn⟩ : ∃ n, lastN a.shape = n := ⟨_, rfl⟩
  have hn200 : n ≤ 200 := by
    have h1 := last_split hr
    rw [hn] at h1
    exact hok.lens n (by rw [h1]; simp)
  have hsz := arr_size hok hr
  rw [hn] at HLast hsz
  have hcn := (isArr_len ha).1
  have HI := hide hi
  have HZ0 := hide hz0
  have HZ1 := hide hz1
  have HZ2 := hide hz2
  have HBx := hide hBx
  have HA := hide ha
  have HOK := hide hok
  have HP := hide hP
  have HN := hide hn
  have HSZ := hide hsz
  have HSN := hide hsn
  have HCN := hide hcn
  clear hi hz0 hz1 hz2 hBx ha hok hP hn hsz hb0 hsc hcn hr hsn hm
  rw [unhide HN]
  go_enter Tryz.func223, Tryz.ntmps223
  go_wp2_with fail
  refine (unhide HLast).mono ?_
  rintro e w1 ⟨rfl, hb1⟩
  have HX1 := hide ((unhide HBx).next hb1)
  clear hb1 HBx HLast
  go_wp2_with (at_make; refine wpList_make_full _ rfl _ _ 278 rfl w1.heap.size 89 i0 (.agg #[.slice none 0 0, .slice none 0 0]) 2 Tryz.underlying278 (unhide HI) (unhide HZ0) (unhide HZ1) .i64 .i64 n n n rfl rfl rfl rfl ?c1 ?c2 (Nat.le_refl _) ?_)
  case c1 => rw [unhide HZ2]; omega
  case c2 => unfold maxLen; omega
  intro w2 hown hg
  have hown : w2.ownsRow w1.heap.size 89 2 (.slice (some ⟨w1.heap.size, 0, none⟩) n n) n (List.replicate (n * 2) (.slice none 0 0)) := by
    rw [← made_two]
    exact hown
  have hb2 : Below w1.heap.size w1 w2 := (Below.refl _ _).grown hg (Nat.le_refl _) (fun _ h => by cases h)
  have hlt2 : w1.heap.size < w2.heap.size := hown.lt w1.heap.size rfl |>.2
  have HCB : Hid (CB W w2 P (.slice (some ⟨sb, sf, none⟩) sn sc) (.slice co cn cc) w1.heap.size n 0 a) := hide ⟨(unhide HX1).next hb2, by have := (unhide HX1).lt; simp at this; omega, hlt2, fun q hq => absurd hq (by omega), fun q _ hq => by
    have h1 := hown.cellAt (q * 2) (by omega)
    have h2 := hown.cellAt (q * 2 + 1) (by omega)
    rw [List.getElem?_replicate, if_pos (by omega)] at h1 h2
    exact ⟨h1, h2⟩, fun j => hown.frozenAt j⟩
  obtain ⟨g, hgg⟩ : ∃ g, w1.heap.size = g := ⟨_, rfl⟩
  rw [hgg] at HCB ⊢
  clear hown hg hb2 hlt2 HX1 hgg HI HZ0 HZ1 HZ2
  go_wp2_with fail
  go_loopw [13] (fun v13 wr => ∃ i : Nat, v13 = .int .i64 i ∧ i ≤ n ∧ CB W wr P (.slice (some ⟨sb, sf, none⟩) sn sc) (.slice co cn cc) g n i a) (fun v13 _ => n - (intOf v13).toNat)
  case atStart => exact ⟨0, rfl, by omega, unhide HCB⟩
  case round =>
    obtain ⟨i, rfl, hi, hB⟩ := hrel
    have HCB2 := hide hB
    by_cases hin : i < n
    · have z0 : wr.cell? ⟨W.heap.size, 0, none⟩ = some (.slice (some ⟨sb, sf, none⟩) sn sc) := (hB.bx.cell 0 0 _ rfl).1
      have z1 : wr.cell? ⟨W.heap.size, 1, none⟩ = some (.slice co cn cc) := (hB.bx.cell 0 1 _ rfl).1
      have hlt : W.heap.size + 1 ≤ wr.heap.size := hB.bx.lt
      have HS : Hid (∀ w', Below (W.heap.size + 1) wr w' → w'.cell? ⟨W.heap.size, 0, none⟩ = some (.slice (some ⟨sb, sf, none⟩) sn sc) ∧ w'.cell? ⟨W.heap.size, 1, none⟩ = some (.slice co cn cc)) := hide (fun w' hb => ⟨(hb.cell (p := ⟨W.heap.size, 0, none⟩) (by show W.heap.size < W.heap.size + 1; omega)).trans z0, (hb.cell (p := ⟨W.heap.size, 1, none⟩) (by show W.heap.size < W.heap.size + 1; omega)).trans z1⟩)
      obtain ⟨t0, t1⟩ := hB.todo i (Nat.le_refl _) hin
      have f0 := hB.fr (i * 2)
      have hgW := hB.gW
      have hgl := hB.glt
      have hcap : sn ≤ sc := by
        obtain ⟨_, _, _, _, _, _, hv, h1, _⟩ := unhide HA
        injection hv with hv
        simp at hv
        obtain ⟨⟨rfl, rfl, rfl⟩, _⟩ := hv
        exact nums_cap h1
      have x0 : (0 : Int) ≤ (i : Int) := by omega
      have x1 : (i : Int) < (n : Int) := by omega
      have hm3 : m ≤ 3 := by have := (unhide HOK).rank; have := unhide HSN; have := unhide HM; omega
      have hw1 : IntKind.i64.wrap ((sn : Int) - 1) = (m : Int) := by
        have e : ((sn : Int) - 1) = (m : Int) := by have := unhide HM; omega
        rw [e]
        exact wrap_pos (by omega) (by omega)
      have x2 : (0 : Int) ≤ (m : Int) := by omega
      have x3 : (m : Int) ≤ (sc : Int) := by have := unhide HM; omega
      have hgl2 : g < wr.heap.size + 1 := by omega
      have hne : W.heap.size ≠ g := by omega
      clear hB HCB
      go_wp2_with fail
      go_region_held3 (fun w' => w'.cell? ⟨W.heap.size, 0, none⟩ = some (.slice (some ⟨sb, sf, none⟩) sn sc) ∧ w'.cell? ⟨W.heap.size, 1, none⟩ = some (.slice co cn cc))
        (first
          | exact unhide HS _ (Below.refl _ _).drew
          | exact unhide HS _ ((Below.refl _ _).drew.alloc (by simpa using hlt) _)
          | exact unhide HS _ (((Below.refl _ _).setCell (p := ⟨g, i * 2, none⟩) (by show W.heap.size + 1 ≤ g; omega) _).alloc (by simpa using hlt) _).drew
          | (trace_state; fail))
        ((go_at_call 221; refine (rank_any _ _ _ _ _ _ _).mono ?_; rintro e w' ⟨rfl, rfl⟩))
      go_wp2_with fail
      have HCI := hide ((unhide HCB2).begins hin (.slice (some ⟨sb, sf, none⟩) m sc) (.cells #[.slice (some ⟨sb, sf, none⟩) sn sc, .slice co cn cc] 89))
      obtain ⟨wI, hwI⟩ : ∃ wI, ((wr.setCell ⟨g, i * 2, none⟩ (.slice (some ⟨sb, sf, none⟩) m sc)).alloc (.cells #[.slice (some ⟨sb, sf, none⟩) sn sc, .slice co cn cc] 89)).drew = wI := ⟨_, rfl⟩
      rw [hwI] at HCI ⊢
      clear hwI HCB2 HS z0 z1 t0 t1 f0 hlt hgl hgl2 hcap hw1 x2 x3 hm3
      obtain ⟨cb, cof, hco⟩ : ∃ cb cof, (0 < a.cells.length → co = some ⟨cb, cof, none⟩ ∧ cb < W.heap.size ∧ ∀ j, (h : j < a.cells.length) → W.cell? ⟨cb, cof + j, none⟩ = some (.int .i64 a.cells[j])) := by
        by_cases h0 : 0 < a.cells.length
        · obtain ⟨_, _, _, _, _, _, hv, _, h1⟩ := unhide HA
          injection hv with hv
          simp at hv
          obtain ⟨_, ⟨rfl, rfl, rfl⟩⟩ := hv
          obtain ⟨_, _, h2⟩ := nums_at h1
          obtain ⟨b, off, e, hl, hc⟩ := h2 h0
          exact ⟨b, off, fun _ => ⟨e, hl, hc⟩⟩
        · exact ⟨0, 0, fun h => absurd h h0⟩
      have HCO := hide hco
      clear hco
      go_loopw [6] (fun v6 wx => ∃ r p : Nat, v6 = .int .i64 p ∧ Hid (p = i + r * n) ∧ r ≤ prodL a.shape.dropLast ∧ p ≤ 400 ∧ ∃ vo vc, wx.cell? ⟨g, i * 2 + 1, none⟩ = some (.slice vo r vc) ∧ OwnL wI.heap.size wx (.slice vo r vc) (colC a.cells n i r) ∧ Into g (i * 2 + 1) wI wx) (fun v6 _ => 1000 - (intOf v6).toNat)
      case atStart => exact ⟨0, i, rfl, hide (by simp), by omega, by omega, none, 0, (unhide HCI).here1, OwnL.nil _ _, Into.refl _ _ _⟩
      case round =>
        obtain ⟨r, p, rfl, hp, hrm, hp4, vo, vc, hc, ho, hI⟩ := hrel
        rename World => wx
        have HO := hide ho
        have HIn := hide hI
        have hltI := (unhide HCI).bx.lt
        have hgI := (unhide HCI).glt
        have hszI := hI.bs.size
        simp at hltI
        have hbx : Bx W wx [[.slice (some ⟨sb, sf, none⟩) sn sc, .slice co cn cc]] := (unhide HCI).bx.keep ⟨hI.bs.os, hI.bs.tape, hI.bs.output, hI.bs.size, fun k hk => by have hk : k < W.heap.size + 1 := hk; exact hI.bs.block k (by omega) (fun (e : k = g) => by omega)⟩
        have z0 : wx.cell? ⟨W.heap.size, 0, none⟩ = some (.slice (some ⟨sb, sf, none⟩) sn sc) := (hbx.cell 0 0 _ rfl).1
        have z1 : wx.cell? ⟨W.heap.size, 1, none⟩ = some (.slice co cn cc) := (hbx.cell 0 1 _ rfl).1
        have hWx : W.heap.size < wx.heap.size := by omega
        have hgx : g < wx.heap.size := by omega
        have HBX := hide hbx
        by_cases hrl : r < prodL a.shape.dropLast
        · have hpl : p < a.cells.length := by rw [unhide HSZ, unhide hp]; exact div_lt hrl hin
          obtain ⟨rfl, hcb, hcc⟩ := unhide HCO (by omega)
          have cx : wx.cell? ⟨cb, cof + p, none⟩ = some (.int .i64 a.cells[p]) := (hbx.below.cell (p := ⟨cb, cof + p, none⟩) hcb).trans (hcc p hpl)
          obtain ⟨x, hx⟩ : ∃ x, a.cells[p] = x := ⟨_, rfl⟩
          rw [hx] at cx
          have HC1 : Hid (colC a.cells n i (r + 1) = colC a.cells n i r ++ [x]) := hide (by rw [colC_succ, ← unhide hp, List.getD_eq_getElem?_getD, List.getElem?_eq_getElem hpl, hx]; rfl)
          have HP1 : Hid (p + n = i + (r + 1) * n) := hide (by rw [unhide hp, Nat.add_mul]; omega)
          have hp200 : p < 200 := by have := (unhide HOK).few; omega
          have hcn2 : p < cn := by rw [unhide HCN]; exact hpl
          have hr200 : r ≤ 200 := by
            have h1 := heads_le (unhide HOK) (by have := unhide HSN; have := unhide HM; omega) (by rw [unhide HN]; omega)
            have := (unhide HOK).few
            omega
          have p0 : (0 : Int) ≤ (p : Int) := by omega
          have p1 : (p : Int) < (cn : Int) := by omega
          have hcbx : cb < wx.heap.size := by omega
          clear hbx ho hI hcc hx hp hpl
          go_wp2_with (go_at_call 156; refine (size_any _ _ _ _ _ _ _).mono ?_; rintro e w' ⟨rfl, rfl⟩)
          have hbA : Below wx.heap.size wx (wx.alloc (.cells #[.slice (some ⟨sb, sf, none⟩) sn sc, .slice (some ⟨cb, cof, none⟩) cn cc] 89)) := (Below.refl _ _).alloc (Nat.le_refl _) _
          obtain ⟨wA, hwA⟩ : ∃ wA, wx.alloc (.cells #[.slice (some ⟨sb, sf, none⟩) sn sc, .slice (some ⟨cb, cof, none⟩) cn cc] 89) = wA := ⟨_, rfl⟩
          rw [hwA] at hbA ⊢
          clear hwA
          have HOA := hide ((unhide HO).below hbA)
          have HIA := hide ((unhide HIn).below hgx hszI hbA)
          have y1 := (hbA.cell (p := ⟨W.heap.size, 1, none⟩) hWx).trans z1
          have yc := (hbA.cell (p := ⟨cb, cof + p, none⟩) hcbx).trans cx
          have yg := (hbA.cell (p := ⟨g, i * 2 + 1, none⟩) hgx).trans hc
          have yf : wA.frozen? ⟨g, i * 2 + 1, none⟩ = false := ((unhide HIA).fr _).trans ((unhide HCI).fr _)
          have hszA := hbA.size
          have hszIA : wI.heap.size ≤ wA.heap.size := by omega
          have hgA : g < wA.heap.size := by omega
          have HG : Hid (g < wI.heap.size) := hide hgI
          clear z0 z1 cx hc hbA HO HIn hWx hgx hcbx hszI hszA hgI hltI HBX
          go_region_law (refine step_app1 rfl _ _ rfl rfl ((unhide HOA).below (Below.refl _ _).drew) (by rw [colC_len]; omega) hszIA x rfl rfl ?_; intro v6 w6 ho6 hg6; obtain ⟨vo6, vc6, rfl⟩ := ho6.shape; have HO6 := hide ho6; have HI6 := hide (((unhide HIA).below hgA hszIA (Below.refl _ _).drew).below (unhide HG) (Nat.le_refl _) hg6.bel); have c6 := (hg6.bel.cell (p := ⟨g, i * 2 + 1, none⟩) (unhide HG)).trans yg; have f6 := (hg6.bel.frozen (p := ⟨g, i * 2 + 1, none⟩) (unhide HG)).trans yf; have hg6l : g < w6.heap.size := Nat.lt_of_lt_of_le hgA hg6.bel.size; clear ho6 hg6)
          all_goals
            have hlen : (colC a.cells n i r).length + 1 = r + 1 := by rw [colC_len]
            rw [hlen]
            have HO7 : Hid (OwnL wI.heap.size (w6.setCell ⟨g, i * 2 + 1, none⟩ (.slice vo6 (r + 1) vc6)) (.slice vo6 (r + 1) vc6) (colC a.cells n i r ++ [x])) := hide (by
              have h1 := unhide HO6
              rw [List.length_append, List.length_singleton, hlen] at h1
              exact owns_set h1 (unhide HG) _)
            have HI7 := hide ((unhide HI6).set (.slice vo6 (r + 1) vc6))
            have c7 := World.cell?_setCell_same w6 ⟨g, i * 2 + 1, none⟩ (.slice vo6 (r + 1) vc6) c6
            obtain ⟨w7, hw7⟩ : ∃ w7, w6.setCell ⟨g, i * 2 + 1, none⟩ (.slice vo6 (r + 1) vc6) = w7 := ⟨_, rfl⟩
            rw [hw7] at HO7 HI7 c7 ⊢
            clear hw7 hlen HO6 HI6 c6 f6 hg6l HOA HIA y1 yc yg yf
            go_wp2_with fail
            go_roundw
            case rel => exact ⟨r + 1, p + n, by go_num, HP1, by omega, by omega, vo6, vc6, c7, by rw [unhide HC1]; exact unhide HO7, unhide HI7⟩
            case measure => simp [intOf]; omega
        · have hre : r = prodL a.shape.dropLast := by omega
          have hpl : ¬ p < cn := by rw [unhide HCN, unhide HSZ, unhide hp, hre]; omega
          have p1 : ¬ (p : Int) < (cn : Int) := by omega
          have hend : CB W wx P (.slice (some ⟨sb, sf, none⟩) sn sc) (.slice co cn cc) g n (i + 1) a := (unhide HCI).ends (unhide HP) hI (by
              obtain ⟨_, _, _, _, _, _, hv, h1, _⟩ := unhide HA
              injection hv with hv
              simp at hv
              obtain ⟨⟨rfl, rfl, rfl⟩, _⟩ := hv
              have h2 := nums_take_any h1 (k := m) (by have := unhide HM; omega)
              have e : (a.shape.map Int.ofNat).take m = a.shape.dropLast.map Int.ofNat := by
                rw [← List.map_take, List.dropLast_eq_take]
                have := unhide HSN
                have := unhide HM
                rw [show a.shape.length - 1 = m by omega]
              rw [e] at h2
              exact h2) hc (by
              show OwnL wI.heap.size wx _ (colC a.cells (lastN a.shape) i (prodL a.shape.dropLast))
              rw [unhide HN, ← hre]
              exact ho)
          have HE := hide (hend.next ((Below.refl _ _).alloc (Nat.le_refl _) (.cells #[.slice (some ⟨sb, sf, none⟩) sn sc, .slice co cn cc] 89)))
          clear hbx ho hI hend hre hpl hp hrl hrm
          go_wp2_with (go_at_call 156; refine (size_any _ _ _ _ _ _ _).mono ?_; rintro e w' ⟨rfl, rfl⟩)
          go_roundw
          case rel => exact ⟨i + 1, by go_num, by omega, unhide HE⟩
          case measure => simp [intOf]; omega
    · have hie : i = n := by omega
      subst hie
      clear hB HCB
      go_wp2_with fail
      refine bodyPost_ret (v := .slice (some ⟨g, 0, none⟩) i i) (by simp [results, Tryz.results223, go_sem]) rfl ⟨g, rfl, Nat.le_of_lt (unhide HCB2).gW, (unhide HCB2).glt, ?_, (unhide HCB2).bx.below⟩
      intro q hq
      have hq' : q < i := by rw [cols_len, unhide HN] at hq; exact hq
      obtain ⟨s1, s2, s3, c1, c2, c3, k1, k2, k3⟩ := (unhide HCB2).done q hq'
      exact ⟨s1, s2, s3, c1, c2, c3, k1, k2, by rw [cols_at]; exact k3.imp (fun b h _ => h.1)⟩
end Go.Proofs.YtjobgpahajhbnaaGreatDoor
