import Derived.Test.YtjobgpahajhbnabGreatDoorTq
namespace Go.Proofs.YtjobgpahajhbnabGreatDoor
open Go.RowKit Go.Proofs Go.Maps
attribute [local go_sem ↓] Go.wp_at_zero Go.wp_at_succ
theorem Tryz.enters127 : Enters Tryz.prog 127 := Go.Proofs.enters_of Tryz.func127 (by decide) rfl
theorem Tryz.enters175 : Enters Tryz.prog 175 := Go.Proofs.enters_of Tryz.func175 (by decide) rfl
def Qh : List Int → List Int → List Int → Option (List Int)
  | t :: ts, b :: bs, acc => if 64 - (acc.length : Int) < t then none else Qh ts bs (acc ++ List.replicate t.toNat b)
  | _, _, acc => some acc
def Gk (ts bs : List Int) : Arr × Int := match Qh ts bs [] with
  | none => (eArr, 9)
  | some cs => (⟨[cs.length], cs⟩, 0)
def negB (x : Int) : Bool := decide (x < 0)
def Vv (a b : Arr) : Arr × Int := if b.shape.length ≠ 1 ∨ 1 < a.shape.length then (eArr, 5) else if a.shape.length = 1 ∧ a.cells.length ≠ b.cells.length then (eArr, 6) else if a.cells.any negB = true then (eArr, 7) else Gk (if a.shape.length = 0 then List.replicate b.cells.length (a.cells.headD 0) else a.cells) b.cells
set_option maxHeartbeats 400000 in
theorem Jcv (W0 : World) : PredC 175 #[] W0 negB where
  enters := Tryz.enters175
  call := by
    intro x w _
    unfold negB
    go_enter Tryz.func175, Tryz.ntmps175
    go_wp2
    exact bodyPost_ret (v := .bool (decide (x < 0))) (by simp [results, Tryz.results175, go_sem]) rfl ⟨rfl, rfl⟩
theorem Jef {ts bs L : List Int} {k : Nat} (h : k < ts.length) (h2 : k < bs.length) : Qh (ts.drop k) (bs.drop k) L = if 64 - (L.length : Int) < ts[k] then none else Qh (ts.drop (k + 1)) (bs.drop (k + 1)) (L ++ List.replicate ts[k].toNat bs[k]) := by
  rw [List.drop_eq_getElem_cons h, List.drop_eq_getElem_cons h2]
  rfl
theorem Jhh {ts bs L : List Int} {k : Nat} (h : ts.length ≤ k) : Qh (ts.drop k) (bs.drop k) L = some L := by
  rw [List.drop_of_length_le h]
  rfl
theorem Jjg {P : Nat → Prop} {w : World} {g n : Nat} {x : Int} (h : Nums P w (.slice (some ⟨g, 0, none⟩) n n) (List.replicate n x)) : ∀ j u, (List.replicate n (Value.int .i64 x))[j]? = some u → w.cell? ((⟨g, 0, none⟩ : Addr).add j) = some u := by
  intro j u hu
  rw [List.getElem?_replicate] at hu
  split at hu
  · rename_i hj
    obtain ⟨ao, cap, hv, _, hc, _⟩ := h
    obtain ⟨b, off, ha, _, _, hcell⟩ := hc (by simp; omega)
    injection hv with e1 e2 e3
    rw [ha] at e1
    injection e1 with e1
    injection e1 with e4 e5
    subst e4
    subst e5
    have hx := hcell j (by simpa using hj)
    have e : (⟨g, 0, none⟩ : Addr).add j = ⟨g, 0 + j, none⟩ := by cases j <;> simp [Addr.add]
    rw [e, hx, ← Option.some.inj hu]
    simp
  · cases hu
theorem Jjh {n : Nat} {x : Int} : ∀ u ∈ List.replicate n (Value.int .i64 x), u.oneCell' = true := by
  intro u hu
  rw [(List.mem_replicate.1 hu).2]
  rfl
structure TailF (W wr : World) (P : Nat → Prop) (co2 : Option Addr) (cn2 cc2 : Nat) (co' : Option Addr) (cn' cc' : Nat) (ts bs : List Int) : Prop where
  below : Below W.heap.size W wr
  lt : W.heap.size + 1 + 1 < wr.heap.size
  a1 : wr.cell? ⟨W.heap.size, 1, none⟩ = some (.slice co' cn' cc')
  b1 : wr.cell? ⟨W.heap.size + 1, 1, none⟩ = some (.slice co2 cn2 cc2)
  r0 : wr.cell? ⟨W.heap.size + 1 + 1, 0, none⟩ = some (.slice none 0 0)
  r1 : wr.cell? ⟨W.heap.size + 1 + 1, 1, none⟩ = some (.slice none 0 0)
  q0 : wr.frozen? ⟨W.heap.size + 1 + 1, 0, none⟩ = false
  q1 : wr.frozen? ⟨W.heap.size + 1 + 1, 1, none⟩ = false
  nums : ∃ Q, Nums Q wr (.slice co' cn' cc') ts
  len : ts.length = bs.length
  pos : ∀ t ∈ ts, 0 ≤ t
theorem Jiy {W w7 : World} {P : Nat → Prop} {co2 : Option Addr} {cn2 cc2 : Nat} {co' : Option Addr} {cn' cc' : Nat} {ts bs : List Int} (v0 : Value) {u1 : Value} (hb : Below W.heap.size W w7) (lt : W.heap.size + 1 + 1 < w7.heap.size) (a1 : w7.cell? ⟨W.heap.size, 1, none⟩ = some u1)
    (b1 : w7.cell? ⟨W.heap.size + 1, 1, none⟩ = some (.slice co2 cn2 cc2)) (r0 : w7.cell? ⟨W.heap.size + 1 + 1, 0, none⟩ = some (.slice none 0 0)) (r1 : w7.cell? ⟨W.heap.size + 1 + 1, 1, none⟩ = some (.slice none 0 0)) (q0 : w7.frozen? ⟨W.heap.size + 1 + 1, 0, none⟩ = false) (q1 : w7.frozen? ⟨W.heap.size + 1 + 1, 1, none⟩ = false)
    (hn : Nums (fun b => P b ∧ b ≠ W.heap.size) w7 (.slice co' cn' cc') ts) (hl : ts.length = bs.length) (hp : ∀ t ∈ ts, 0 ≤ t) : TailF W ((w7.setCell ⟨W.heap.size, 0, none⟩ v0).setCell ⟨W.heap.size, 1, none⟩ (.slice co' cn' cc')) P co2 cn2 cc2 co' cn' cc' ts bs := by
  have hbl : ∀ b, b ≠ W.heap.size → ((w7.setCell ⟨W.heap.size, 0, none⟩ v0).setCell ⟨W.heap.size, 1, none⟩ (.slice co' cn' cc')).heap[b]? = w7.heap[b]? := fun b hne => (RowKit.Below.heap_setCell _ _ _ _ (fun e => hne e)).trans (RowKit.Below.heap_setCell _ _ _ _ (fun e => hne e))
  refine ⟨(hb.setCell (p := ⟨W.heap.size, 0, none⟩) (Nat.le_refl _) _).setCell (p := ⟨W.heap.size, 1, none⟩) (Nat.le_refl _) _, by simpa using lt, ?_, ?_, ?_, ?_, ?_, ?_, ⟨_, (hn.set (fun h => h.2 rfl) 0 _).set (fun h => h.2 rfl) 1 _⟩, hl, hp⟩
  · exact World.cell?_setCell_same _ _ _ (u := u1) ((World.cell?_setCell_other _ _ _ _ (by simp)).trans a1)
  · rw [World.cell?_of_block (a := ⟨W.heap.size + 1, 1, none⟩) (hbl _ (by show W.heap.size + 1 ≠ W.heap.size; omega))]; exact b1
  · rw [World.cell?_of_block (a := ⟨W.heap.size + 1 + 1, 0, none⟩) (hbl _ (by show W.heap.size + 1 + 1 ≠ W.heap.size; omega))]; exact r0
  · rw [World.cell?_of_block (a := ⟨W.heap.size + 1 + 1, 1, none⟩) (hbl _ (by show W.heap.size + 1 + 1 ≠ W.heap.size; omega))]; exact r1
  · rw [World.frozen?_of_block (a := ⟨W.heap.size + 1 + 1, 0, none⟩) (hbl _ (by show W.heap.size + 1 + 1 ≠ W.heap.size; omega))]; exact q0
  · rw [World.frozen?_of_block (a := ⟨W.heap.size + 1 + 1, 1, none⟩) (hbl _ (by show W.heap.size + 1 + 1 ≠ W.heap.size; omega))]; exact q1
theorem Jq {P : Nat → Prop} {w : World} {so : Option Addr} {sn sc : Nat} {co : Option Addr} {cn cc : Nat} {a : Arr} (h : IsArr P w (.agg #[.slice so sn sc, .slice co cn cc]) a) : Nums P w (.slice co cn cc) a.cells := by
  obtain ⟨so', sn', sc', co', cn', cc', hv, _, h2⟩ := h
  injection hv with hv
  simp at hv
  obtain ⟨_, rfl, rfl, rfl⟩ := hv
  exact h2
theorem negs {xs : List Int} (h : xs.any negB = false) : ∀ t ∈ xs, 0 ≤ t := by
  intro t ht
  have := List.any_eq_false.1 h t ht
  simp [negB] at this
  exact this
theorem Nums.at {P : Nat → Prop} {w : World} {co : Option Addr} {cn cc : Nat} {xs : List Int} (h : Nums P w (.slice co cn cc) xs) {k : Nat} (hk : k < xs.length) : ∃ b off, co = some ⟨b, off, none⟩ ∧ b < w.heap.size ∧ w.cell? ⟨b, off + k, none⟩ = some (.int .i64 xs[k]) ∧ xs.length ≤ cc := by
  obtain ⟨ao, cap, hv, hcap, h1, _⟩ := h
  injection hv with e1 e2 e3
  obtain ⟨b, off, ha, _, hlt, hc⟩ := h1 (by omega)
  subst e3
  exact ⟨b, off, e1.trans ha, hlt, hc k hk, hcap⟩
set_option maxHeartbeats 2000000 in
set_option maxRecDepth 20000 in
theorem Jmj (w : World) : FnTwo 127 #[] w Vv := by
  intro W P u v a b _ hP ha hb hoa hob
  obtain ⟨so, sn, sc, co, cn, cc, rfl, ha1, ha2⟩ := ha
  obtain ⟨so2, sn2, sc2, co2, cn2, cc2, rfl, hb1, hb2⟩ := hb
  have hcn2 := Jf hb2
  have hsn2 := Jf hb1
  have hcn := Jf ha2
  have hsn := Jf ha1
  simp at hsn2 hsn
  obtain ⟨i0, hi, hz0, hz1, hz2⟩ := info_parts Tryz.info2
  have HI := hide hi
  have HZ0 := hide hz0
  have HZ1 := hide hz1
  have HZ2 := hide hz2
  have HP : Hid (∀ b, W.heap.size ≤ b → P b) := hP
  have HB : Hid (∀ wr, Below W.heap.size W wr → Nums P wr (.slice co2 cn2 cc2) b.cells) := hide (fun wr h => hb2.below h)
  have HBA : Hid (IsArr P W (.agg #[.slice so2 sn2 sc2, .slice co2 cn2 cc2]) b) := hide ⟨_, _, _, _, _, _, rfl, hb1, hb2⟩
  have HA : Hid (∀ wr, Below W.heap.size W wr → Nums P wr (.slice co cn cc) a.cells) := hide (fun wr h => ha2.below h)
  have HAok := hide hoa
  obtain ⟨bs, hbs⟩ : ∃ bs, b.cells = bs := ⟨_, rfl⟩
  have hfew := hob.few
  rw [hbs] at HB hcn2 hfew
  have HBS := hide hbs
  have HC2 := hide hcn2
  have HC := hide hcn
  have HS2 := hide hsn2
  have HS := hide hsn
  have hN : cn2 ≤ 200 := by omega
  obtain ⟨r, hr⟩ : ∃ r, Vv a b = r := ⟨_, rfl⟩
  simp only [hr]
  have HR := hide hr
  obtain ⟨W1, hW1⟩ : ∃ W1, ((W.alloc (.cells #[.slice so sn sc, .slice co cn cc] 57)).alloc (.cells #[.slice so2 sn2 sc2, .slice co2 cn2 cc2] 57)).alloc (.cells #[.slice none 0 0, .slice none 0 0] 57) = W1 := ⟨_, rfl⟩
  have hbW : Below W.heap.size W W1 := by rw [← hW1]; exact (((Below.refl _ _).alloc (Nat.le_refl _) _).alloc (by simp) _).alloc (by simp; omega) _
  have hs1 : W1.heap.size = W.heap.size + 1 + 1 + 1 := by rw [← hW1]; simp
  have k0 : W1.cell? ⟨W.heap.size + 1, 0, none⟩ = some (.slice so2 sn2 sc2) := by
    rw [← hW1, World.cell?_of_block (a := ⟨W.heap.size + 1, 0, none⟩) (RowKit.Below.heap_alloc _ _ _ (by simp))]
    exact (World.cell?_alloc_at _ _ _ _ (by simp)).trans rfl
  have k1 : W1.cell? ⟨W.heap.size + 1, 1, none⟩ = some (.slice co2 cn2 cc2) := by
    rw [← hW1, World.cell?_of_block (a := ⟨W.heap.size + 1, 1, none⟩) (RowKit.Below.heap_alloc _ _ _ (by simp))]
    exact (World.cell?_alloc_at _ _ _ _ (by simp)).trans rfl
  have b0 : W1.cell? ⟨W.heap.size, 0, none⟩ = some (.slice so sn sc) := by
    rw [← hW1, World.cell?_of_block (a := ⟨W.heap.size, 0, none⟩) (RowKit.Below.heap_alloc _ _ _ (by simp; omega)), World.cell?_of_block (a := ⟨W.heap.size, 0, none⟩) (RowKit.Below.heap_alloc _ _ _ (by simp))]
    exact (World.cell?_alloc_at _ _ _ _ rfl).trans rfl
  have b1 : W1.cell? ⟨W.heap.size, 1, none⟩ = some (.slice co cn cc) := by
    rw [← hW1, World.cell?_of_block (a := ⟨W.heap.size, 1, none⟩) (RowKit.Below.heap_alloc _ _ _ (by simp; omega)), World.cell?_of_block (a := ⟨W.heap.size, 1, none⟩) (RowKit.Below.heap_alloc _ _ _ (by simp))]
    exact (World.cell?_alloc_at _ _ _ _ rfl).trans rfl
  have r0 : W1.cell? ⟨W.heap.size + 1 + 1, 0, none⟩ = some (.slice none 0 0) := by rw [← hW1]; exact (World.cell?_alloc_at _ _ _ _ (by simp)).trans rfl
  have r1 : W1.cell? ⟨W.heap.size + 1 + 1, 1, none⟩ = some (.slice none 0 0) := by rw [← hW1]; exact (World.cell?_alloc_at _ _ _ _ (by simp)).trans rfl
  have f0 : ∀ b i, W.heap.size ≤ b → b < W1.heap.size → W1.frozen? ⟨b, i, none⟩ = false := fun b i h1 h2 => by
    rw [← hW1]
    by_cases e : b = W.heap.size + 1 + 1
    · subst e; exact World.frozen?_alloc_at _ _ _ _ (by simp)
    · by_cases e2 : b = W.heap.size + 1
      · subst e2
        rw [World.frozen?_of_block (a := ⟨W.heap.size + 1, i, none⟩) (RowKit.Below.heap_alloc _ _ _ (by simp))]
        exact World.frozen?_alloc_at _ _ _ _ (by simp)
      · have e3 : b = W.heap.size := by omega
        subst e3
        rw [World.frozen?_of_block (a := ⟨W.heap.size, i, none⟩) (RowKit.Below.heap_alloc _ _ _ (by simp; omega)), World.frozen?_of_block (a := ⟨W.heap.size, i, none⟩) (RowKit.Below.heap_alloc _ _ _ (by simp))]
        exact World.frozen?_alloc_at _ _ _ _ rfl
  have HFr : Hid (∀ w', Below W1.heap.size W1 w' → w'.frozen? ⟨W.heap.size, 0, none⟩ = false ∧ w'.frozen? ⟨W.heap.size, 1, none⟩ = false) := hide (fun w' hb => ⟨(hb.frozen (p := ⟨W.heap.size, 0, none⟩) (by show W.heap.size < W1.heap.size; omega)).trans (f0 _ 0 (by omega) (by omega)), (hb.frozen (p := ⟨W.heap.size, 1, none⟩) (by show W.heap.size < W1.heap.size; omega)).trans (f0 _ 1 (by omega) (by omega))⟩)
  have HF : Hid (∀ w', Below W1.heap.size W1 w' → (w'.cell? ⟨W.heap.size, 0, none⟩ = some (.slice so sn sc) ∧ w'.cell? ⟨W.heap.size, 1, none⟩ = some (.slice co cn cc) ∧ w'.cell? ⟨W.heap.size + 1, 0, none⟩ = some (.slice so2 sn2 sc2) ∧ w'.cell? ⟨W.heap.size + 1, 1, none⟩ = some (.slice co2 cn2 cc2) ∧ w'.cell? ⟨W.heap.size + 1 + 1, 0, none⟩ = some (.slice none 0 0) ∧ w'.cell? ⟨W.heap.size + 1 + 1, 1, none⟩ = some (.slice none 0 0)) ∧ w'.frozen? ⟨W.heap.size + 1 + 1, 0, none⟩ = false ∧ w'.frozen? ⟨W.heap.size + 1 + 1, 1, none⟩ = false) := hide (fun w' hb => ⟨⟨(hb.cell (p := ⟨W.heap.size, 0, none⟩) (by show W.heap.size < W1.heap.size; omega)).trans b0, (hb.cell (p := ⟨W.heap.size, 1, none⟩) (by show W.heap.size < W1.heap.size; omega)).trans b1, (hb.cell (p := ⟨W.heap.size + 1, 0, none⟩) (by show W.heap.size + 1 < W1.heap.size; omega)).trans k0, (hb.cell (p := ⟨W.heap.size + 1, 1, none⟩) (by show W.heap.size + 1 < W1.heap.size; omega)).trans k1, (hb.cell (p := ⟨W.heap.size + 1 + 1, 0, none⟩) (by show W.heap.size + 1 + 1 < W1.heap.size; omega)).trans r0, (hb.cell (p := ⟨W.heap.size + 1 + 1, 1, none⟩) (by show W.heap.size + 1 + 1 < W1.heap.size; omega)).trans r1⟩, (hb.frozen (p := ⟨W.heap.size + 1 + 1, 0, none⟩) (by show W.heap.size + 1 + 1 < W1.heap.size; omega)).trans (f0 _ 0 (by omega) (by omega)), (hb.frozen (p := ⟨W.heap.size + 1 + 1, 1, none⟩) (by show W.heap.size + 1 + 1 < W1.heap.size; omega)).trans (f0 _ 1 (by omega) (by omega))⟩)
  have HRow := hide (fun w' => (Zs w' so2 sn2 sc2 co2 cn2 cc2).mono (fun e w'' h => (⟨h.1, by rw [h.2]; exact ((Below.refl _ _).alloc (Nat.le_refl _) _).alloc (by simp) _⟩ : e = .returned (.bool ((sn2 : Int) == 1)) ∧ Below w'.heap.size w' w'')))
  have HRank := hide (fun w' => (Yi w' so sn sc co cn cc).mono (fun e w'' h => (⟨h.1, by rw [h.2]; exact (Below.refl _ _).alloc (Nat.le_refl _) _⟩ : e = .returned (.int .i64 sn) ∧ Below w'.heap.size w' w'')))
  have HScal := hide (fun w' => (Ji w' so sn sc co cn cc).mono (fun e w'' h => (⟨h.1, by rw [h.2]; exact ((Below.refl _ _).alloc (Nat.le_refl _) _).alloc (by simp) _⟩ : e = .returned (.bool ((sn : Int) == 0)) ∧ Below w'.heap.size w' w'')))
  have HHas : Hid (∀ w', Below W.heap.size W w' → Calls Tryz.prog 174 #[.agg #[.slice so sn sc, .slice co cn cc], .func (.func 175) #[] #[]] w' fun e w'' => e = .returned (.bool (a.cells.any negB)) ∧ Below w'.heap.size w' w'') := hide (fun w' hb => (Jbw P w' w' (Below.refl _ _) 175 #[] negB (Jcv w') so sn sc co cn cc a.cells (ha2.below hb) hoa.few).mono (fun e w'' h => ⟨h.1, by rw [h.2]; exact (Below.refl _ _).alloc (Nat.le_refl _) _⟩))
  have HFill : Hid (∀ w' x, Below W.heap.size W w' → W.heap.size + 1 + 1 < w'.heap.size → Calls Tryz.prog 186 #[.agg #[.slice so2 sn2 sc2, .slice co2 cn2 cc2], .int .i64 x] w' fun e w'' => ∃ co' cn' cc', e = .returned (.agg #[.slice so2 sn2 sc2, .slice co' cn' cc']) ∧ IsArr (fun b => P b ∧ b ≠ W.heap.size) w'' (.agg #[.slice so2 sn2 sc2, .slice co' cn' cc']) ⟨b.shape, List.replicate b.cells.length x⟩ ∧ Below w'.heap.size w' w'') := hide (fun w' x hb hlt => Vn (fun b => P b ∧ b ≠ W.heap.size) w' (fun b h => ⟨hP b (by omega), by omega⟩) so2 sn2 sc2 co2 cn2 cc2 b (((Ja HBA).imp (fun b hp hl => ⟨hp, by omega⟩)).below hb) hob.few x)
  have HBW := hide hbW
  clear k0 k1 b0 b1 r0 r1 f0 hbW
  clear hi hz0 hz1 hz2 hP hr hb2 hb1 ha1 ha2 hoa hob hbs hcn2 hfew hcn hsn2 hsn
  obtain ⟨⟨b0', b1', k0', k1', r0', r1'⟩, q0', q1'⟩ := Ja HF W1 (Below.refl _ _)
  go_enter Tryz.func127, Tryz.ntmps127
  go_wp2_with fail
  clear b0' b1' k0' k1' r0' r1' q0' q1'
  rename_i Q' KT hKT K1 hK1 K0 hK0
  have TAIL : ∀ {x0 x1 x5 x6 x7 x8 x9 x10 x11 x12 x13 x14 x15 x16 x17 x18 x19 x20 x21 x22 x23 x24 x25 x26 x27 x28 x29 x30 x31 x32 x33 x34 x35 x36 x37 x38 x39 x40 x41 x42 x43 x44 x45 x46 x47 x48 x49 x50 x51 x52 x53 x54 x55 x56 x57 x58 x59 x60 x61 x62 x63 x64 x65 x66 x67 x68 x69 : Value} {wT : World} (co' : Option Addr) (cn' cc' : Nat) (ts : List Int), Hid (TailF W wT P co2 cn2 cc2 co' cn' cc' ts bs) → Hid (r = Gk ts bs) → KT ⟨#[x0, x1, .pointer (some ⟨W.heap.size, 0, none⟩), .pointer (some ⟨W.heap.size + 1, 0, none⟩), .pointer (some ⟨W.heap.size + 1 + 1, 0, none⟩), x5, x6, x7, x8, x9, x10, x11, x12, x13, x14, x15, x16, x17, x18, x19, x20, x21, x22, x23, x24, x25, x26, x27, x28, x29, x30, x31, x32, x33, x34, x35, x36, x37, x38, x39, x40, x41, x42, x43, x44, x45, x46, x47, x48, x49, x50, x51, x52, x53, x54, x55, x56, x57, x58, x59, x60, x61, x62, x63, x64, x65, x66, x67, x68, x69], []⟩ wT := by
    clear hK1 hK0
    intro x0 x1 x5 x6 x7 x8 x9 x10 x11 x12 x13 x14 x15 x16 x17 x18 x19 x20 x21 x22 x23 x24 x25 x26 x27 x28 x29 x30 x31 x32 x33 x34 x35 x36 x37 x38 x39 x40 x41 x42 x43 x44 x45 x46 x47 x48 x49 x50 x51 x52 x53 x54 x55 x56 x57 x58 x59 x60 x61 x62 x63 x64 x65 x66 x67 x68 x69 wT co' cn' cc' ts HT HRR
    refine hKT _ _ ?_
    clear hKT
    have c1 := (Ja HT).a1
    have hlt := (Ja HT).lt
    have hlt1 : W.heap.size < wT.heap.size := by omega
    have hlt2 : W.heap.size + 1 < wT.heap.size := by omega
    obtain ⟨Q, hn⟩ := (Ja HT).nums
    have hcn' : cn' = ts.length := Jf hn
    have hcc : cn' = cn2 := by rw [hcn', (Ja HT).len, Ja HC2]
    have HCN := hide hcn'
    have HNT := hide hn
    have HCC := hide hcc
    have hN' : cn' ≤ 200 := by omega
    clear hn hcn' hcc
    go_wp2_with fail
    go_loopw [6, 46] (fun v6 v46 wr => ∃ (k : Nat) (L : List Int), v46 = .int .i64 k ∧ k ≤ cn' ∧ L.length ≤ 64 ∧ Qh (ts.drop k) (bs.drop k) L = Qh ts bs [] ∧ wr.ownsRow wT.heap.size 2 1 v6 L.length (L.map (Value.int .i64)) ∧ Below wT.heap.size wT wr) (fun _ v46 _ => cn' - (intOf v46).toNat)
    case atStart => exact ⟨0, [], rfl, Nat.zero_le _, by simp, rfl, World.ownsRow_nil _ _ _ _, Below.refl _ _⟩
    case round =>
      obtain ⟨k, L, rfl, hk, hL64, hL, hown, hbel⟩ := hrel
      have HL := hide hL
      have HOw := hide hown
      have HBe := hide hbel
      obtain ⟨vo, vc, rfl, hvle, -⟩ := J9 (Ja HOw)
      have b1 := (hbel.cell (p := ⟨W.heap.size + 1, 1, none⟩) hlt2).trans (Ja HT).b1
      have r0 := (hbel.cell (p := ⟨W.heap.size + 1 + 1, 0, none⟩) hlt).trans (Ja HT).r0
      have r1 := (hbel.cell (p := ⟨W.heap.size + 1 + 1, 1, none⟩) hlt).trans (Ja HT).r1
      have q0 := (hbel.frozen (p := ⟨W.heap.size + 1 + 1, 0, none⟩) hlt).trans (Ja HT).q0
      have q1 := (hbel.frozen (p := ⟨W.heap.size + 1 + 1, 1, none⟩) hlt).trans (Ja HT).q1
      have hzb := hbel.size
      have m1 : W.heap.size + 1 < wT.heap.size := hlt2
      clear hL hown hbel
      by_cases hkn : k < cn'
      · have hkt : k < ts.length := by rw [← Ja HCN]; exact hkn
        have hkb : k < bs.length := by rw [← (Ja HT).len]; exact hkt
        obtain ⟨tb, tf, rfl, htb, htc, -⟩ := (Ja HNT).at hkt
        obtain ⟨bb, bf, hbe, hbb, hbc, hbcc⟩ := (Ja HB wT (Ja HT).below).at hkb
        have ct := ((Ja HBe).cell (p := ⟨tb, tf + k, none⟩) htb).trans htc
        have cb := ((Ja HBe).cell (p := ⟨bb, bf + k, none⟩) hbb).trans hbc
        have hstep := Jef (L := L) hkt hkb
        have ht0 := (Ja HT).pos _ (List.getElem_mem hkt)
        obtain ⟨t, ht⟩ : ∃ t, ts[k] = t := ⟨_, rfl⟩
        obtain ⟨y, hy⟩ : ∃ y, bs[k] = y := ⟨_, rfl⟩
        rw [ht] at ct hstep ht0
        rw [hy] at cb hstep
        have hk1 : (k : Int) < (cn' : Int) := by omega
        have hk0 : (0 : Int) ≤ (k : Int) := by omega
        have hk2 : k < cn2 := by rw [Ja HC2]; exact hkb
        have hcc2 : cn2 ≤ cc2 := by rw [Ja HC2]; exact hbcc
        subst hbe
        have hw64 : IntKind.i64.wrap (64 - (L.length : Int)) = 64 - (L.length : Int) := Jd (by omega) (by omega)
        have hbq : bb < wr.heap.size := by omega
        clear htc hbc ht hy hbcc htb hbb
        by_cases hbig : 64 - (L.length : Int) < t
        · rw [if_pos hbig] at hstep
          have hr' : r = (eArr, 9) := by
            rw [Ja HRR]
            unfold Gk
            rw [← Ja HL, hstep]
          clear hstep
          subst hr'
          have HBz : Hid (Below W.heap.size W wr) := hide ((Ja HT).below.trans ((Ja HBe).mono (Ja HT).below.size))
          go_wp2_with fail
          refine bodyPost_ret (v := .tuple #[.agg #[.slice none 0 0, .slice none 0 0], .int .i64 9]) (by simp [results, Tryz.results127, go_sem, r0, r1]) rfl ⟨_, _, _, _, _, _, rfl, Yb _ _, ?_⟩
          exact ((Ja HBz).setCell (p := ⟨W.heap.size + 1 + 1, 0, none⟩) (by show W.heap.size ≤ W.heap.size + 1 + 1; omega) _).setCell (p := ⟨W.heap.size + 1 + 1, 1, none⟩) (by show W.heap.size ≤ W.heap.size + 1 + 1; omega) _
        · rw [if_neg hbig] at hstep
          obtain ⟨n, rfl⟩ : ∃ n : Nat, t = n := ⟨t.toNat, by omega⟩
          have hn64 : L.length + n ≤ 64 := by omega
          have HST := hide hstep
          have HRep := hide (Vg (fun _ => True) wr (fun _ _ => trivial) bb (bf + k) (cc2 - k) y n (by omega) cb hbq)
          have hbig' : ¬ (64 - (L.length : Int) < (n : Int)) := hbig
          have hkk : ((k : Int) + 1 ≤ (cc2 : Int)) := by omega
          clear hstep ht0
          go_wp2_with fail
          refine (Ja HRep).mono ?_
          rintro e w2 ⟨g, rfl, hn2, hb2⟩
          have HN2 := hide hn2
          have HB2 : Hid (Below wT.heap.size wT w2) := hide ((Ja HBe).trans (hb2.mono (Ja HBe).size))
          have HO2 := hide (K8 (Ja HOw) hb2)
          have hz2 := hb2.size
          clear hn2 hb2
          go_wp2_with (at_builtin; refine wpList_append_own _ rfl _ _ 32 rfl wT.heap.size 2 i0 (.int .i64 0) 1 8 Tryz.underlying32 (Ja HI) (Ja HZ0) (Ja HZ1) (Ja HZ2) rfl (by decide) _ _ _ rfl (Ja HO2) ⟨g, 0, none⟩ n n (List.replicate n (.int .i64 y)) rfl (by simp) (Jjg (Ja HN2)) Jjh ?c3 ?c4 ?c5 ?_)
          case c3 => unfold maxLen; omega
          case c4 => omega
          case c5 => omega
          intro v' w4 hown4 hgrow4 _
          have HB4 : Hid (Below wT.heap.size wT w4) := hide ((Ja HB2).grown hgrow4 (by omega) (fun q hq => ((Ja HO2).lt q hq).1))
          have HO4 : Hid (w4.ownsRow wT.heap.size 2 1 v' (L ++ List.replicate n y).length ((L ++ List.replicate n y).map (Value.int .i64))) := hide (by
            rw [List.map_append, List.map_replicate, List.length_append, List.length_replicate]
            exact hown4)
          clear hown4 hgrow4
          go_wp2_with fail
          go_roundw
          case rel => exact ⟨k + 1, L ++ List.replicate n y, by go_num, by omega, by simp; omega, by rw [← Ja HL]; exact (Ja HST).symm, Ja HO4, Ja HB4⟩
          case measure => simp [intOf]; omega
      · have hkN : k = cn' := by omega
        have hend := Jhh (ts := ts) (bs := bs) (L := L) (k := k) (by rw [hkN, Ja HCN]; exact Nat.le_refl _)
        have hr' : r = (⟨[L.length], L⟩, 0) := by
          rw [Ja HRR]
          unfold Gk
          rw [← Ja HL, hend]
        subst hr'
        clear hend
        have HBz : Hid (Below W.heap.size W wr) := hide ((Ja HT).below.trans ((Ja HBe).mono (Ja HT).below.size))
        have HRow := hide (Zp (fun b => P b ∧ b ≠ W.heap.size + 1 + 1) wr (fun b h => ⟨Ja HP b (by omega), by omega⟩) _ L (Js (Ja HOw) (fun b h => ⟨Ja HP b (by omega), by omega⟩)))
        go_wp2_with fail
        refine (Ja HRow).mono ?_
        rintro e w2 ⟨s1, s2, s3, c1', c2', c3', rfl, hA2, hb2⟩
        have HA2 := hide hA2
        have e0 := (hb2.cell (p := ⟨W.heap.size + 1 + 1, 0, none⟩) (by show W.heap.size + 1 + 1 < wr.heap.size; omega)).trans r0
        have e1 := (hb2.cell (p := ⟨W.heap.size + 1 + 1, 1, none⟩) (by show W.heap.size + 1 + 1 < wr.heap.size; omega)).trans r1
        have g0 := (hb2.frozen (p := ⟨W.heap.size + 1 + 1, 0, none⟩) (by show W.heap.size + 1 + 1 < wr.heap.size; omega)).trans q0
        have g1 := (hb2.frozen (p := ⟨W.heap.size + 1 + 1, 1, none⟩) (by show W.heap.size + 1 + 1 < wr.heap.size; omega)).trans q1
        have HB2 : Hid (Below W.heap.size W w2) := hide ((Ja HBz).trans (hb2.mono (Ja HBz).size))
        have hz2 := hb2.size
        have hw2 : W.heap.size + 1 + 1 < w2.heap.size := by omega
        clear hA2 hb2 r0 r1 q0 q1
        go_wp2_with fail
        refine bodyPost_ret (v := .tuple #[.agg #[.slice s1 s2 s3, .slice c1' c2' c3'], .int .i64 0]) (by simp [results, Tryz.results127, go_sem, e0, e1]) rfl ⟨_, _, _, _, _, _, rfl, ?_, ?_⟩
        · exact (((Ja HA2).set (fun h => h.2 rfl) 0 _).set (fun h => h.2 rfl) 1 _).imp (fun b h _ => h.1)
        · exact ((Ja HB2).setCell (p := ⟨W.heap.size + 1 + 1, 0, none⟩) (by show W.heap.size ≤ W.heap.size + 1 + 1; omega) _).setCell (p := ⟨W.heap.size + 1 + 1, 1, none⟩) (by show W.heap.size ≤ W.heap.size + 1 + 1; omega) _
  clear hKT
  (try rw [hW1])
  clear hW1
  refine (Ja HRow _).mono ?_
  rintro e w2 ⟨rfl, hb2⟩
  obtain ⟨⟨x0, x1, x2, x3, x4, x5⟩, y0, y1⟩ := Ja HF w2 hb2
  have HB2 := hide hb2
  have hz2 := hb2.size
  have n1 : W.heap.size < w2.heap.size := by omega
  have n2 : W.heap.size + 1 < w2.heap.size := by omega
  have n3 : W.heap.size + 1 + 1 < w2.heap.size := by omega
  clear hb2
  by_cases hrow : sn2 = 1
  · have hrow' : ((sn2 : Int) == 1) = true := by rw [hrow]; rfl
    have HROW := hide hrow
    clear hrow
    go_wp2_with fail
    refine (Ja HRank _).mono ?_
    rintro e w3 ⟨rfl, hb3⟩
    have hb3' := (Ja HB2).trans (hb3.mono (Ja HB2).size)
    obtain ⟨⟨s0, s1, s2, s3, s4, s5⟩, t0, t1⟩ := Ja HF w3 hb3'
    have HB3 := hide hb3'
    have hz3 := hb3'.size
    have m1 : W.heap.size < w3.heap.size := by omega
    have m2 : W.heap.size + 1 < w3.heap.size := by omega
    have m3 : W.heap.size + 1 + 1 < w3.heap.size := by omega
    have HBz : Hid (Below W.heap.size W w3) := hide ((Ja HBW).trans ((Ja HB3).mono (Ja HBW).size))
    clear x0 x1 x2 x3 x4 x5 y0 y1 hb3 hb3' n1 n2 n3
    by_cases hmany : 1 < sn
    · have hr' : r = (eArr, 5) := by
        rw [← Ja HR]
        unfold Vv
        rw [if_pos (Or.inr (by rw [← Ja HS]; exact hmany))]
      subst hr'
      have hm : (1 : Int) < (sn : Int) := by omega
      clear hmany
      go_wp2_with fail
      refine bodyPost_ret (v := .tuple #[.agg #[.slice none 0 0, .slice none 0 0], .int .i64 5]) (by simp [results, Tryz.results127, go_sem, s4, s5]) rfl ⟨_, _, _, _, _, _, rfl, Yb _ _, ?_⟩
      exact ((Ja HBz).setCell (p := ⟨W.heap.size + 1 + 1, 0, none⟩) (by show W.heap.size ≤ W.heap.size + 1 + 1; omega) _).setCell (p := ⟨W.heap.size + 1 + 1, 1, none⟩) (by show W.heap.size ≤ W.heap.size + 1 + 1; omega) _
    · have hm : ¬ (1 : Int) < (sn : Int) := by omega
      by_cases hone : sn = 1
      · have hone' : ((sn : Int) == 1) = true := by rw [hone]; rfl
        have hone0 : ((sn : Int) == 0) = false := by rw [hone]; rfl
        have HONE := hide hone
        have g1 : W.heap.size < w3.heap.size + 1 := by omega
        have g2 : W.heap.size < w3.heap.size + 1 + 1 := by omega
        have g3 : W.heap.size < w3.heap.size + 1 + 1 + 1 := by omega
        have g4 : W.heap.size + 1 < w3.heap.size + 1 := by omega
        have g5 : W.heap.size + 1 < w3.heap.size + 1 + 1 := by omega
        have g6 : W.heap.size + 1 < w3.heap.size + 1 + 1 + 1 := by omega
        clear hmany hone
        go_wp2_with fail
        go_region_with (first | (go_at_call 178; refine (Zs _ _ _ _ _ _ _).mono ?_; rintro e w' ⟨rfl, rfl⟩) | (go_at_call 76; refine (J2 _ _ _ _ _ _ _).mono ?_; rintro e w' ⟨rfl, rfl⟩))
        all_goals
          clear g1 g2 g3 g4 g5 g6
          obtain ⟨w4, hw4⟩ : ∃ w4, ((((w3.alloc (.cells #[.slice so sn sc, .slice co cn cc] 57)).alloc (.cells #[.slice so sn sc, .slice co cn cc] 57)).alloc (.cells #[.slice so sn sc, .slice co cn cc] 57)).alloc (.cells #[.slice so2 sn2 sc2, .slice co2 cn2 cc2] 57)).drew = w4 := ⟨_, rfl⟩
          have hb4 : Below w3.heap.size w3 w4 := by rw [← hw4]; exact (((((Below.refl w3.heap.size w3).alloc (Nat.le_refl _) _).alloc (by simp) _).alloc (by simp; omega) _).alloc (by simp; omega) _).drew
          rw [hw4]
          clear hw4
          have hb4' := (Ja HB3).trans (hb4.mono (Ja HB3).size)
          obtain ⟨⟨x0, x1, x2, x3, x4, x5⟩, y0, y1⟩ := Ja HF w4 hb4'
          have HB4 := hide hb4'
          have hz4 := hb4'.size
          have n1 : W.heap.size < w4.heap.size := by omega
          have n2 : W.heap.size + 1 < w4.heap.size := by omega
          have n3 : W.heap.size + 1 + 1 < w4.heap.size := by omega
          have HBz4 : Hid (Below W.heap.size W w4) := hide ((Ja HBW).trans ((Ja HB4).mono (Ja HBW).size))
          have HH := hide (Ja HHas w4 (Ja HBz4))
          clear hb4 hb4' s0 s1 s2 s3 s4 s5 t0 t1 m1 m2 m3
          by_cases hcc : cn = cn2
          · have hcc' : ((cn : Int) != (cn2 : Int)) = false := by rw [hcc]; simp
            have HCC := hide hcc
            clear hcc
            go_wp2_with fail
            refine (Ja HH).mono ?_
            rintro e w5 ⟨rfl, hb5⟩
            have hb5' := (Ja HB4).trans (hb5.mono (Ja HB4).size)
            obtain ⟨⟨s0, s1, s2, s3, s4, s5⟩, t0, t1⟩ := Ja HF w5 hb5'
            have HB5 := hide hb5'
            have hz5 := hb5'.size
            have m1 : W.heap.size < w5.heap.size := by omega
            have m2 : W.heap.size + 1 < w5.heap.size := by omega
            have m3 : W.heap.size + 1 + 1 < w5.heap.size := by omega
            have HBz5 : Hid (Below W.heap.size W w5) := hide ((Ja HBW).trans ((Ja HB5).mono (Ja HBW).size))
            clear hb5 hb5' x0 x1 x2 x3 x4 x5 y0 y1 n1 n2 n3 HH
            cases hany : a.cells.any negB
            · have hr' : r = Gk a.cells bs := by
                rw [← Ja HR]
                unfold Vv
                rw [if_neg (by rw [← Ja HS2, Ja HROW, ← Ja HS, Ja HONE]; omega), if_neg (by rw [← Ja HC, Ja HCC, Ja HC2, Ja HBS]; simp), if_neg (by rw [hany]; decide), if_neg (by rw [← Ja HS, Ja HONE]; decide), Ja HBS]
              have HR' := hide hr'
              have HANY := hide hany
              clear hany hr'
              go_wp2_with fail
              refine (Ja HScal _).mono ?_
              rintro e w6 ⟨rfl, hb6⟩
              have hb6' := (Ja HB5).trans (hb6.mono (Ja HB5).size)
              obtain ⟨⟨x0, x1, x2, x3, x4, x5⟩, y0, y1⟩ := Ja HF w6 hb6'
              have hz6 := hb6'.size
              have HBz6 : Hid (Below W.heap.size W w6) := hide ((Ja HBW).trans (hb6'.mono (Ja HBW).size))
              have HTF : Hid (TailF W w6 P co2 cn2 cc2 co cn cc a.cells bs) := hide ⟨Ja HBz6, by omega, x1, x3, x4, x5, y0, y1, ⟨_, Ja HA w6 (Ja HBz6)⟩, by rw [← Ja HC, Ja HCC, Ja HC2], negs (Ja HANY)⟩
              clear hb6 hb6' s0 s1 s2 s3 s4 s5 t0 t1 m1 m2 m3
              go_wp2_with fail
              exact TAIL co cn cc a.cells HTF HR'
            · have hr' : r = (eArr, 7) := by
                rw [← Ja HR]
                unfold Vv
                rw [if_neg (by rw [← Ja HS2, Ja HROW, ← Ja HS, Ja HONE]; omega), if_neg (by rw [← Ja HC, Ja HCC, Ja HC2, Ja HBS]; simp), if_pos hany]
              subst hr'
              clear hany
              go_wp2_with fail
              refine bodyPost_ret (v := .tuple #[.agg #[.slice none 0 0, .slice none 0 0], .int .i64 7]) (by simp [results, Tryz.results127, go_sem, s4, s5]) rfl ⟨_, _, _, _, _, _, rfl, Yb _ _, ?_⟩
              exact ((Ja HBz5).setCell (p := ⟨W.heap.size + 1 + 1, 0, none⟩) (by show W.heap.size ≤ W.heap.size + 1 + 1; omega) _).setCell (p := ⟨W.heap.size + 1 + 1, 1, none⟩) (by show W.heap.size ≤ W.heap.size + 1 + 1; omega) _
          · have hcc' : ((cn : Int) != (cn2 : Int)) = true := by simp; omega
            have hr' : r = (eArr, 6) := by
              rw [← Ja HR]
              unfold Vv
              rw [if_neg (by rw [← Ja HS2, Ja HROW, ← Ja HS, Ja HONE]; omega), if_pos ⟨by rw [← Ja HS, Ja HONE], by rw [← Ja HC, Ja HBS, ← Ja HC2]; exact hcc⟩]
            subst hr'
            clear hcc
            go_wp2_with fail
            refine bodyPost_ret (v := .tuple #[.agg #[.slice none 0 0, .slice none 0 0], .int .i64 6]) (by simp [results, Tryz.results127, go_sem, x4, x5]) rfl ⟨_, _, _, _, _, _, rfl, Yb _ _, ?_⟩
            exact ((Ja HBz4).setCell (p := ⟨W.heap.size + 1 + 1, 0, none⟩) (by show W.heap.size ≤ W.heap.size + 1 + 1; omega) _).setCell (p := ⟨W.heap.size + 1 + 1, 1, none⟩) (by show W.heap.size ≤ W.heap.size + 1 + 1; omega) _
      · have h0 : sn = 0 := by omega
        subst h0
        clear hmany hone
        have hscal : a.shape.length = 0 := (Ja HS).symm
        go_wp2_with fail
        go_region_with (first | (go_at_call 178; refine (Zs _ _ _ _ _ _ _).mono ?_; rintro e w' ⟨rfl, rfl⟩) | (go_at_call 76; refine (J2 _ _ _ _ _ _ _).mono ?_; rintro e w' ⟨rfl, rfl⟩))
        all_goals
          obtain ⟨w4, hw4⟩ : ∃ w4, ((w3.alloc (.cells #[.slice so 0 sc, .slice co cn cc] 57)).alloc (.cells #[.slice so 0 sc, .slice co cn cc] 57)).drew = w4 := ⟨_, rfl⟩
          have hb4 : Below w3.heap.size w3 w4 := by rw [← hw4]; exact (((Below.refl w3.heap.size w3).alloc (Nat.le_refl _) _).alloc (by simp) _).drew
          rw [hw4]
          clear hw4
          have hb4' := (Ja HB3).trans (hb4.mono (Ja HB3).size)
          obtain ⟨⟨x0, x1, x2, x3, x4, x5⟩, y0, y1⟩ := Ja HF w4 hb4'
          have HB4 := hide hb4'
          have hz4 := hb4'.size
          have n1 : W.heap.size < w4.heap.size := by omega
          have n2 : W.heap.size + 1 < w4.heap.size := by omega
          have n3 : W.heap.size + 1 + 1 < w4.heap.size := by omega
          have HH := hide (Ja HHas w4 ((Ja HBW).trans ((Ja HB4).mono (Ja HBW).size)))
          clear hb4 hb4' s0 s1 s2 s3 s4 s5 t0 t1 m1 m2 m3
          go_wp2_with fail
          refine (Ja HH).mono ?_
          rintro e w5 ⟨rfl, hb5⟩
          have hb5' := (Ja HB4).trans (hb5.mono (Ja HB4).size)
          obtain ⟨⟨s0, s1, s2, s3, s4, s5⟩, t0, t1⟩ := Ja HF w5 hb5'
          have HB5 := hide hb5'
          have hz5 := hb5'.size
          have m1 : W.heap.size < w5.heap.size := by omega
          have m2 : W.heap.size + 1 < w5.heap.size := by omega
          have m3 : W.heap.size + 1 + 1 < w5.heap.size := by omega
          have HBz5 : Hid (Below W.heap.size W w5) := hide ((Ja HBW).trans ((Ja HB5).mono (Ja HBW).size))
          clear hb5 hb5' x0 x1 x2 x3 x4 x5 y0 y1 n1 n2 n3 HH
          cases hany : a.cells.any negB
          · have HANY := hide hany
            clear hany
            go_wp2_with fail
            refine (Ja HScal _).mono ?_
            rintro e w6 ⟨rfl, hb6⟩
            have hb6' := (Ja HB5).trans (hb6.mono (Ja HB5).size)
            obtain ⟨⟨x0, x1, x2, x3, x4, x5⟩, y0, y1⟩ := Ja HF w6 hb6'
            obtain ⟨y2, y3⟩ := Ja HFr w6 hb6'
            have HB6 := hide hb6'
            have hz6 := hb6'.size
            have n1 : W.heap.size < w6.heap.size := by omega
            have n2 : W.heap.size + 1 < w6.heap.size := by omega
            have n3 : W.heap.size + 1 + 1 < w6.heap.size := by omega
            have HBz6 : Hid (Below W.heap.size W w6) := hide ((Ja HBW).trans ((Ja HB6).mono (Ja HBW).size))
            obtain ⟨x, xb, xo, hx, rfl, rfl, -, hxl, hxc, hcc1⟩ := Zo (Ja HA w6 (Ja HBz6)) (Ja HAok) (List.eq_nil_of_length_eq_zero hscal)
            have HX := hide hx
            have HFl := hide (Ja HFill w6.drew x (Ja HBz6).drew n3)
            have hcc0 : (0 : Int) < ((1 : Nat) : Int) := by decide
            clear hb6 hb6' s0 s1 s2 s3 s4 s5 t0 t1 m1 m2 m3 hx
            have hr' : r = Gk (List.replicate bs.length x) bs := by
              rw [← Ja HR]
              unfold Vv
              rw [if_neg (by rw [← Ja HS2, Ja HROW, hscal]; omega), if_neg (by rw [hscal]; omega), if_neg (by rw [Ja HANY]; decide), if_pos hscal, Ja HBS, Ja HX]
              rfl
            have HR' := hide hr'
            have hx0 : 0 ≤ x := negs (Ja HANY) x (by rw [Ja HX]; simp)
            rw [Ja HBS] at HFl
            clear hr'
            go_wp2_with fail
            have HF8 : Hid (∀ w7, Below w6.drew.heap.size w6.drew w7 → (w7.cell? ⟨W.heap.size, 0, none⟩ = some (.slice so 0 sc) ∧ w7.cell? ⟨W.heap.size, 1, none⟩ = some (.slice (some ⟨xb, xo, none⟩) 1 cc) ∧ w7.cell? ⟨W.heap.size + 1, 1, none⟩ = some (.slice co2 cn2 cc2) ∧ w7.cell? ⟨W.heap.size + 1 + 1, 0, none⟩ = some (.slice none 0 0) ∧ w7.cell? ⟨W.heap.size + 1 + 1, 1, none⟩ = some (.slice none 0 0)) ∧ (w7.frozen? ⟨W.heap.size, 0, none⟩ = false ∧ w7.frozen? ⟨W.heap.size, 1, none⟩ = false ∧ w7.frozen? ⟨W.heap.size + 1 + 1, 0, none⟩ = false ∧ w7.frozen? ⟨W.heap.size + 1 + 1, 1, none⟩ = false) ∧ Below W.heap.size W w7 ∧ W.heap.size < w7.heap.size ∧ W.heap.size + 1 + 1 < w7.heap.size) := hide (fun w7 hb => by
              have hd : Below w6.heap.size w6 w7 := (Below.refl w6.heap.size w6).drew.trans hb
              have := hd.size
              exact ⟨⟨(hd.cell (p := ⟨W.heap.size, 0, none⟩) n1).trans x0, (hd.cell (p := ⟨W.heap.size, 1, none⟩) n1).trans x1, (hd.cell (p := ⟨W.heap.size + 1, 1, none⟩) n2).trans x3, (hd.cell (p := ⟨W.heap.size + 1 + 1, 0, none⟩) n3).trans x4, (hd.cell (p := ⟨W.heap.size + 1 + 1, 1, none⟩) n3).trans x5⟩, ⟨(hd.frozen (p := ⟨W.heap.size, 0, none⟩) n1).trans y2, (hd.frozen (p := ⟨W.heap.size, 1, none⟩) n1).trans y3, (hd.frozen (p := ⟨W.heap.size + 1 + 1, 0, none⟩) n3).trans y0, (hd.frozen (p := ⟨W.heap.size + 1 + 1, 1, none⟩) n3).trans y1⟩, (Ja HBz6).trans (hd.mono (Ja HBz6).size), by omega, by omega⟩)
            go_region_with (go_at_call 186; (refine (Ja HFl).mono ?_; rintro e w7 ⟨c1', c2', c3', rfl, hA7, hb7⟩; have HA7 := hide hA7; obtain ⟨⟨e0, e1, e3, e4, e5⟩, ⟨g0, g1, g2, g3⟩, hbz7, p1, p2⟩ := Ja HF8 w7 hb7; have HBz7 := hide hbz7; clear hA7 hb7 hbz7))
            all_goals
              have HTF : Hid (TailF W ((w7.setCell ⟨W.heap.size, 0, none⟩ (.slice so2 sn2 sc2)).setCell ⟨W.heap.size, 1, none⟩ (.slice c1' c2' c3')) P co2 cn2 cc2 c1' c2' c3' (List.replicate bs.length x) bs) := hide (Jiy _ (Ja HBz7) p2 e1 e3 e4 e5 g2 g3 (Jq (Ja HA7)) (by simp) (by intro t ht; rw [(List.mem_replicate.1 ht).2]; exact hx0))
              exact TAIL c1' c2' c3' _ HTF HR'
          · have hr' : r = (eArr, 7) := by
              rw [← Ja HR]
              unfold Vv
              rw [if_neg (by rw [← Ja HS2, Ja HROW, hscal]; omega), if_neg (by rw [hscal]; omega), if_pos hany]
            subst hr'
            clear hany
            go_wp2_with fail
            refine bodyPost_ret (v := .tuple #[.agg #[.slice none 0 0, .slice none 0 0], .int .i64 7]) (by simp [results, Tryz.results127, go_sem, s4, s5]) rfl ⟨_, _, _, _, _, _, rfl, Yb _ _, ?_⟩
            exact ((Ja HBz5).setCell (p := ⟨W.heap.size + 1 + 1, 0, none⟩) (by show W.heap.size ≤ W.heap.size + 1 + 1; omega) _).setCell (p := ⟨W.heap.size + 1 + 1, 1, none⟩) (by show W.heap.size ≤ W.heap.size + 1 + 1; omega) _
  · have hrow' : ((sn2 : Int) == 1) = false := by
      rw [beq_eq_false_iff_ne]
      omega
    have hr' : r = (eArr, 5) := by
      rw [← Ja HR]
      unfold Vv
      rw [if_pos (Or.inl (by rw [← Ja HS2]; exact hrow))]
    subst hr'
    clear hrow
    have HBz : Hid (Below W.heap.size W w2) := hide ((Ja HBW).trans ((Ja HB2).mono (Ja HBW).size))
    go_wp2_with fail
    refine bodyPost_ret (v := .tuple #[.agg #[.slice none 0 0, .slice none 0 0], .int .i64 5]) (by simp [results, Tryz.results127, go_sem, x4, x5]) rfl ⟨_, _, _, _, _, _, rfl, Yb _ _, ?_⟩
    exact ((Ja HBz).setCell (p := ⟨W.heap.size + 1 + 1, 0, none⟩) (by show W.heap.size ≤ W.heap.size + 1 + 1; omega) _).setCell (p := ⟨W.heap.size + 1 + 1, 1, none⟩) (by show W.heap.size ≤ W.heap.size + 1 + 1; omega) _
theorem Jad : ∀ (ts bs acc cs : List Int), Qh ts bs acc = some cs → acc.length ≤ 64 → (∀ t ∈ ts, 0 ≤ t) → cs.length ≤ 64
  | [], _, acc, cs, h, ha, _ => by simp only [Qh] at h; injection h with h; rw [← h]; exact ha
  | _ :: _, [], acc, cs, h, ha, _ => by simp only [Qh] at h; injection h with h; rw [← h]; exact ha
  | t :: ts, b :: bs, acc, cs, h, ha, hp => by
    simp only [Qh] at h
    split at h
    · cases h
    · have := hp t (List.mem_cons_self ..)
      exact Jad ts bs _ cs h (by simp; omega) (fun t ht => hp t (List.mem_cons_of_mem _ ht))
theorem Jac : ∀ (ts bs acc cs : List Int), Qh ts bs acc = some cs → ∀ c ∈ cs, c ∈ acc ∨ c ∈ bs
  | [], _, acc, cs, h => by simp only [Qh] at h; injection h with h; rw [← h]; exact fun c hc => Or.inl hc
  | _ :: _, [], acc, cs, h => by simp only [Qh] at h; injection h with h; rw [← h]; exact fun c hc => Or.inl hc
  | t :: ts, b :: bs, acc, cs, h => by
    simp only [Qh] at h
    split at h
    · cases h
    · intro c hc
      rcases Jac ts bs _ cs h c hc with h1 | h1
      · rcases List.mem_append.1 h1 with h2 | h2
        · exact Or.inl h2
        · exact Or.inr (by rw [(List.mem_replicate.1 h2).2]; exact List.mem_cons_self ..)
      · exact Or.inr (List.mem_cons_of_mem _ h1)
theorem Jkh {ts bs : List Int} (hb : ∀ c ∈ bs, Jg c) (hp : ∀ t ∈ ts, 0 ≤ t) : (Gk ts bs).1.cells.length ≤ 200 ∧ ((Gk ts bs).2 = 0 → (Gk ts bs).1.ok) := by
  unfold Gk
  cases h : Qh ts bs [] with
  | none => exact ⟨by simp [eArr], fun h => absurd h (by decide)⟩
  | some cs =>
    have hl := Jad ts bs [] cs h (by simp) hp
    have hm := Jac ts bs [] cs h
    exact ⟨by simp; omega, fun _ => ⟨by simp, by simp; omega, by simp [Jj], by simp; omega, fun c hc => by
      rcases hm c hc with h1 | h1
      · cases h1
      · exact hb c h1⟩⟩
theorem Jkd : TwoC ⟨#[107, 101, 101, 112]⟩ Vv := ⟨fun w => (Z3 (t := ⟨#[107, 101, 101, 112]⟩) (k1 := .string [101, 101, 112]) (k2 := .string [107, 101, 101, 112]) (f := 127) (by decide) (by kernel_rfl) (by kernel_rfl) (by kernel_rfl) (by kernel_rfl) (by kernel_rfl) w).mono (by rintro e w' ⟨rfl, hb⟩; exact ⟨127, #[], rfl, Tryz.enters127, hb, Jmj w'⟩), fun a b ha hb => by
  unfold Vv
  split
  · exact ⟨by simp [eArr], fun h => absurd h (by decide)⟩
  · split
    · exact ⟨by simp [eArr], fun h => absurd h (by decide)⟩
    · split
      · exact ⟨by simp [eArr], fun h => absurd h (by decide)⟩
      · rename_i h1 h2 h3
        have h4 : a.cells.any negB = false := by simpa using h3
        have h5 := negs h4
        refine Jkh hb.fits ?_
        split
        · rename_i h6
          intro t ht
          rw [(List.mem_replicate.1 ht).2]
          have := ha.size
          rw [List.eq_nil_of_length_eq_zero h6] at this
          simp [Jj] at this
          obtain ⟨x, hx⟩ := List.length_eq_one_iff.1 this
          rw [hx]
          exact h5 x (by rw [hx]; simp)
        · exact h5⟩
end Go.Proofs.YtjobgpahajhbnabGreatDoor
