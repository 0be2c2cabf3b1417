import Derived.Test.YtjobgpahajhbnabGreatDoorJb
namespace Go.Proofs.YtjobgpahajhbnabGreatDoor
open Go.RowKit Go.Proofs Go.Maps
attribute [local go_sem ↓] Go.wp_at_zero Go.wp_at_succ
theorem Tryz.enters181 : Enters Tryz.prog 181 := Go.Proofs.enters_of Tryz.func181 (by decide) rfl
theorem Tryz.enters125 : Enters Tryz.prog 125 := Go.Proofs.enters_of Tryz.func125 (by decide) rfl
def N5 (xs : List Int) (x : Int) : Int := if x ∈ xs then 1 else 0
set_option maxHeartbeats 400000 in
theorem Jnd {P : Nat → Prop} {W0 : World} (pb : Nat) (hpb : pb < W0.heap.size) (co : Option Addr) (cn cc : Nat) (xs : List Int) (c1 : W0.cell? ⟨pb, 1, none⟩ = some (.slice co cn cc)) (h : Nums P W0 (.slice co cn cc) xs) (hl : xs.length ≤ 200) : CellB 181 pb W0 Jf (N5 xs) where
  enters := Tryz.enters181
  call := by
    intro x w hb _; have c1' := (hb.cell (p := ⟨pb, 1, none⟩) hpb).trans c1; have HC := hide (Jas P w co cn cc xs (h.below hb) hl x); obtain ⟨d, hd⟩ : ∃ d, decide (x ∈ xs) = d := ⟨_, rfl⟩; rw [hd] at HC; have hv : (if d = true then (1 : Int) else 0) = N5 xs x := by
      unfold N5; rw [← hd]; by_cases hx : x ∈ xs
      · simp [hx]
      · simp [hx]
    obtain ⟨u, hu⟩ : ∃ u, N5 xs x = u := ⟨_, rfl⟩; rw [hu] at hv; rw [hu]; have HO := hide (fun w' => Xz d u hv w'); clear hd hv hu h c1 hb; go_enter Tryz.func181, Tryz.ntmps181; go_wp2_with (first | (go_at_call 183; refine (Ja HC).mono ?_; rintro e w' ⟨rfl, rfl⟩) | (go_at_call 182; refine (Ja HO _).mono ?_; rintro e w' ⟨rfl, rfl⟩)); exact bodyPost_ret (v := .int .i64 u) (by simp [results, Tryz.results181, go_sem]) rfl ⟨rfl, rfl⟩
def inP (a b : Arr) : Arr × Int := (⟨a.shape, a.cells.map (N5 b.cells)⟩, 0)
set_option maxHeartbeats 1000000 in
set_option maxRecDepth 20000 in
theorem Jp2 (w : World) : FnTwo 125 #[] w inP := by
  intro W P u v a b _ hP ha hb hoa hob; obtain ⟨so, sn, sc, co, cn, cc, rfl, ha1, ha2⟩ := ha; obtain ⟨so2, sn2, sc2, co2, cn2, cc2, rfl, hb1, hb2⟩ := hb; have ha : IsArr P W (.agg #[.slice so sn sc, .slice co cn cc]) a := ⟨_, _, _, _, _, _, rfl, ha1, ha2⟩; obtain ⟨W1, hW1⟩ : ∃ W1, ((W.alloc (.cells #[.slice so sn sc, .slice co cn cc] 57)).alloc (.cells #[.slice so2 sn2 sc2, .slice co2 cn2 cc2] 57)).alloc (.cells #[.slice none 0 0, .slice none 0 0] 57) = W1 := ⟨_, rfl⟩; have hbW : Below W.heap.size W W1 := by rw [← hW1]; exact (((Below.refl _ _).alloc (Nat.le_refl _) _).alloc (by simp) _).alloc (by simp; omega) _
  have hs1 : W1.heap.size = W.heap.size + 1 + 1 + 1 := by rw [← hW1]; simp
  have k1 : W1.cell? ⟨W.heap.size + 1, 1, none⟩ = some (.slice co2 cn2 cc2) := by
    rw [← hW1, World.cell?_of_block (a := ⟨W.heap.size + 1, 1, none⟩) (RowKit.Below.heap_alloc _ _ _ (by simp))]; exact (World.cell?_alloc_at _ _ _ _ (by simp)).trans rfl
  have b0 : W1.cell? ⟨W.heap.size, 0, none⟩ = some (.slice so sn sc) := by
    rw [← hW1, World.cell?_of_block (a := ⟨W.heap.size, 0, none⟩) (RowKit.Below.heap_alloc _ _ _ (by simp; omega)), World.cell?_of_block (a := ⟨W.heap.size, 0, none⟩) (RowKit.Below.heap_alloc _ _ _ (by simp))]; exact (World.cell?_alloc_at _ _ _ _ rfl).trans rfl
  have b1 : W1.cell? ⟨W.heap.size, 1, none⟩ = some (.slice co cn cc) := by
    rw [← hW1, World.cell?_of_block (a := ⟨W.heap.size, 1, none⟩) (RowKit.Below.heap_alloc _ _ _ (by simp; omega)), World.cell?_of_block (a := ⟨W.heap.size, 1, none⟩) (RowKit.Below.heap_alloc _ _ _ (by simp))]; exact (World.cell?_alloc_at _ _ _ _ rfl).trans rfl
  have r0 : W1.cell? ⟨W.heap.size + 1 + 1, 0, none⟩ = some (.slice none 0 0) := by rw [← hW1]; exact (World.cell?_alloc_at _ _ _ _ (by simp)).trans rfl
  have r1 : W1.cell? ⟨W.heap.size + 1 + 1, 1, none⟩ = some (.slice none 0 0) := by rw [← hW1]; exact (World.cell?_alloc_at _ _ _ _ (by simp)).trans rfl
  have f0 : ∀ i, W1.frozen? ⟨W.heap.size + 1 + 1, i, none⟩ = false := fun i => by rw [← hW1]; exact World.frozen?_alloc_at _ _ _ _ (by simp)
  have HC := hide (Jde (N5 b.cells) 181 (W.heap.size + 1) (fun b => P b ∧ b ≠ W.heap.size + 1 + 1) W1 Jf (Jnd (W.heap.size + 1) (by omega) co2 cn2 cc2 b.cells k1 (hb2.below hbW) hob.few) (fun b h' => ⟨hP b (by omega), by omega⟩) so sn sc co cn cc a ((ha.imp (fun b hp hl => ⟨hp, by omega⟩)).below hbW) hoa hoa.fits); have HBW := hide hbW; obtain ⟨r, hr⟩ : ∃ r : Arr, (⟨a.shape, a.cells.map (N5 b.cells)⟩ : Arr) = r := ⟨_, rfl⟩; have hin : inP a b = (r, 0) := by unfold inP; rw [hr]
  simp only [hr] at HC; simp only [hin]; have q0 := f0 0; have q1 := f0 1; clear hP hoa hob ha ha1 ha2 hb1 hb2 hr hin k1 hbW f0; go_enter Tryz.func125, Tryz.ntmps125; go_wp2_with fail; try rw [hW1]
  refine (Ja HC).mono ?_; rintro e w1 ⟨c1, c2, c3, rfl, h1, hb1⟩; have HA := hide h1; have hsz := hb1.size; have d0 := (hb1.cell (p := ⟨W.heap.size + 1 + 1, 0, none⟩) (by show W.heap.size + 1 + 1 < W1.heap.size; omega)).trans r0; have d1 := (hb1.cell (p := ⟨W.heap.size + 1 + 1, 1, none⟩) (by show W.heap.size + 1 + 1 < W1.heap.size; omega)).trans r1; have g0 := (hb1.frozen (p := ⟨W.heap.size + 1 + 1, 0, none⟩) (by show W.heap.size + 1 + 1 < W1.heap.size; omega)).trans q0; have g1 := (hb1.frozen (p := ⟨W.heap.size + 1 + 1, 1, none⟩) (by show W.heap.size + 1 + 1 < W1.heap.size; omega)).trans q1; have HB : Hid (Below W.heap.size W w1) := hide ((Ja HBW).trans (hb1.mono (Ja HBW).size)); have hw1 : W.heap.size + 1 + 1 < w1.heap.size := by omega
  clear h1 hb1 r0 r1 q0 q1 HC hW1; go_wp2_with fail; refine bodyPost_ret (v := .tuple #[.agg #[.slice so sn sc, .slice c1 c2 c3], .int .i64 0]) (by simp [results, Tryz.results125, go_sem, d0, d1]) rfl ⟨_, _, _, _, _, _, rfl, ?_, ?_⟩
  · exact (((Ja HA).set (fun h => h.2 rfl) 0 _).set (fun h => h.2 rfl) 1 _).imp (fun b h _ => h.1)
  · exact ((Ja HB).setCell (p := ⟨W.heap.size + 1 + 1, 0, none⟩) (by show W.heap.size ≤ W.heap.size + 1 + 1; omega) _).setCell (p := ⟨W.heap.size + 1 + 1, 1, none⟩) (by show W.heap.size ≤ W.heap.size + 1 + 1; omega) _
theorem Jou : TwoC ⟨#[105, 110]⟩ inP := ⟨fun w => (Zz (t := ⟨#[105, 110]⟩) (k1 := .string [110]) (k2 := .string [105, 110]) (f := 125) (by decide) (by kernel_rfl) (by kernel_rfl) (by kernel_rfl) (by kernel_rfl) (by kernel_rfl) w).mono (by rintro e w' ⟨rfl, hb⟩; exact ⟨125, #[], rfl, Tryz.enters125, hb, Jp2 w'⟩), fun a b ha hb => ⟨by simpa [inP] using ha.few, fun _ => ⟨ha.rank, ha.lens, by simpa [inP] using ha.size, by simpa [inP] using ha.few, by intro c hc; obtain ⟨x, _, rfl⟩ := List.mem_map.1 hc; unfold N5 Jf; split <;> omega⟩⟩⟩
end Go.Proofs.YtjobgpahajhbnabGreatDoor
namespace Go.Proofs.YtjobgpahajhbnabGreatDoor
open Go.RowKit Go.Proofs Go.Maps
attribute [local go_sem ↓] Go.wp_at_zero Go.wp_at_succ
structure PredC (g : Nat) (lb : Array Value) (W0 : World) (p : Int → Bool) : Prop where
  enters : Enters Tryz.prog g
  call : ∀ (x : Int) (w : World), Below W0.heap.size W0 w → Calls Tryz.prog g (#[.int .i64 x] ++ lb) w fun e w' => e = .returned (.bool (p x)) ∧ w' = w
set_option maxHeartbeats 1000000 in
theorem Jeq (P : Nat → Prop) (w W0 : World) (hW : Below W0.heap.size W0 w) (g : Nat) (lb : Array Value) (p : Int → Bool) (hg : PredC g lb W0 p) (co : Option Addr) (cn cc : Nat) (xs : List Int) (h : Nums P w (.slice co cn cc) xs) (hl : xs.length ≤ 200) :
    Calls Tryz.prog 214 #[.slice co cn cc, .func (.func g) #[] lb] w fun e w' => ∃ r : Int, e = .returned (.int .i64 r) ∧ (decide (0 ≤ r) = xs.any p) ∧ w' = w := by
  have hcn := Jg h; have HX : Hid (0 < cn → ∃ b off, co = some ⟨b, off, none⟩ ∧ b < w.heap.size ∧ ∀ i, (hi : i < xs.length) → w.cell? ⟨b, off + i, none⟩ = some (.int .i64 xs[i])) := by
    intro h0; obtain ⟨ao, cap, hv, _, h1, _⟩ := h; injection hv with e1 e2 e3; obtain ⟨b, off, ha, _, hlt, hc⟩ := h1 (by omega); exact ⟨b, off, e1.trans ha, hlt, hc⟩
  have HN := hide hcn; have HG := hide (fun x => hg.call x w hW); have hen2 : ∀ args w, (callFunc g args).run Tryz.prog w = .ok (.enter g args) w := hg.enters; have hcl : cn ≤ 200 := by omega
  clear h hcn hl hg hW; go_enter Tryz.func214, Tryz.ntmps214; go_wp2_with fail; go_loop [8] (fun v => ∃ k : Nat, v = .int .i64 k ∧ k ≤ cn ∧ ∀ i, (hi : i < xs.length) → i < k → p xs[i] = false) (fun v => cn - (intOf v).toNat)
  case atStart => exact ⟨0, rfl, by omega, fun i _ h => absurd h (by omega)⟩
  case round =>
    obtain ⟨k, rfl, hk, hall⟩ := hrel; by_cases hkn : k < cn
    · obtain ⟨b, off, rfl, hlt, hc⟩ := Ja HX (by omega); have hkx : k < xs.length := by rw [← Ja HN]; exact hkn
      have c0 := hc k hkx; obtain ⟨y, hy⟩ : ∃ y, xs[k] = y := ⟨_, rfl⟩; rw [hy] at c0; have HY := hide hy; have HA := hide hall; have hk1 : (k : Int) < (cn : Int) := by omega
      have hk0 : (0 : Int) ≤ (k : Int) := by omega
      have HGy := hide (Ja HG y); clear hc hy hall; cases hp : p y
      · rw [hp] at HGy; have HP := hide hp; clear hp; go_wp2_with (go_at_fn g; refine (Ja HGy).mono ?_; rintro e w' ⟨rfl, rfl⟩); exact ⟨⟨k + 1, by simp, by omega, fun i hi hik => by
          by_cases e : i = k
          · subst e; rw [Ja HY]; exact Ja HP
          · exact Ja HA i hi (by omega)⟩, by simp [intOf]; omega⟩
      · rw [hp] at HGy; have HP := hide hp; clear hp; go_wp2_with (go_at_fn g; refine (Ja HGy).mono ?_; rintro e w' ⟨rfl, rfl⟩); refine bodyPost_ret (v := .int .i64 k) (by simp [results, Tryz.results214, go_sem]) rfl ⟨k, rfl, ?_, rfl⟩; have hm : xs.any p = true := List.any_eq_true.2 ⟨y, by rw [← Ja HY]; exact List.getElem_mem hkx, Ja HP⟩; rw [hm]; simp
    · have HA := hide hall; have hke : k = cn := by omega
      clear hall; go_wp2_with fail; refine bodyPost_ret (v := .int .i64 (-1)) (by simp [results, Tryz.results214, go_sem]) rfl ⟨-1, rfl, ?_, rfl⟩; have hm : xs.any p = false := by
        rw [List.any_eq_false]; intro x hx; obtain ⟨i, hi, e⟩ := List.getElem_of_mem hx; have := Ja HA i hi (by rw [hke, Ja HN]; exact hi); rw [e] at this; simp [this]
      rw [hm]; simp
set_option maxHeartbeats 400000 in
theorem F6 (P : Nat → Prop) (w W0 : World) (hW : Below W0.heap.size W0 w) (g : Nat) (lb : Array Value) (p : Int → Bool) (hg : PredC g lb W0 p) (co : Option Addr) (cn cc : Nat) (xs : List Int) (h : Nums P w (.slice co cn cc) xs) (hl : xs.length ≤ 200) :
    Calls Tryz.prog 203 #[.slice co cn cc, .func (.func g) #[] lb] w fun e w' => e = .returned (.bool (xs.any p)) ∧ w' = w := by
  have HI := hide (Jeq P w W0 hW g lb p hg co cn cc xs h hl); clear h hl hg hW; go_enter Tryz.func203, Tryz.ntmps203; go_wp2_with (go_at_call 214; refine (Ja HI).mono ?_; rintro e w' ⟨r, rfl, hr, rfl⟩; have HR := hide hr; clear hr); refine bodyPost_ret (v := .bool (xs.any p)) ?_ rfl ⟨rfl, rfl⟩; simp [results, Tryz.results203, go_sem, ← Ja HR]
set_option maxHeartbeats 400000 in
theorem Jbv (P : Nat → Prop) (w W0 : World) (hW : Below W0.heap.size W0 w) (g : Nat) (lb : Array Value) (p : Int → Bool) (hg : PredC g lb W0 p) (so : Option Addr) (sn sc : Nat) (co : Option Addr) (cn cc : Nat) (xs : List Int) (h : Nums P w (.slice co cn cc) xs) (hl : xs.length ≤ 200) :
    Calls Tryz.prog 174 #[.agg #[.slice so sn sc, .slice co cn cc], .func (.func g) #[] lb] w fun e w' => e = .returned (.bool (xs.any p)) ∧ w' = w.alloc (.cells #[.slice so sn sc, .slice co cn cc] 57) := by
  have hb0 : Below w.heap.size w (w.alloc (.cells #[.slice so sn sc, .slice co cn cc] 57)) := (Below.refl _ _).alloc (Nat.le_refl _) _; have HI := hide (F6 P (w.alloc (.cells #[.slice so sn sc, .slice co cn cc] 57)) W0 (hW.trans (hb0.mono hW.size)) g lb p hg co cn cc xs (h.below hb0) hl); obtain ⟨d, hd⟩ : ∃ d, xs.any p = d := ⟨_, rfl⟩; rw [hd] at HI ⊢; clear h hl hg hW hb0 hd; go_enter Tryz.func174, Tryz.ntmps174; go_wp2_with (go_at_call 203; refine (Ja HI).mono ?_; rintro e w' ⟨rfl, rfl⟩); exact bodyPost_ret (v := .bool d) (by simp [results, Tryz.results174, go_sem]) rfl ⟨rfl, rfl⟩
set_option maxHeartbeats 400000 in
theorem Zq (w : World) (so : Option Addr) (sn sc : Nat) (co : Option Addr) (cn cc : Nat) :
    Calls Tryz.prog 178 #[.agg #[.slice so sn sc, .slice co cn cc]] w fun e w' => e = .returned (.bool ((sn : Int) == 1)) ∧ w' = (w.alloc (.cells #[.slice so sn sc, .slice co cn cc] 57)).alloc (.cells #[.slice so sn sc, .slice co cn cc] 57) := by
  go_enter Tryz.func178, Tryz.ntmps178; go_wp2_with (go_at_call 144; refine (Yk _ so sn sc co cn cc).mono ?_; rintro e w' ⟨rfl, rfl⟩); exact bodyPost_ret (v := .bool ((sn : Int) == 1)) (by simp [results, Tryz.results178, go_sem]) rfl ⟨rfl, rfl⟩
end Go.Proofs.YtjobgpahajhbnabGreatDoor
namespace Go.Proofs.YtjobgpahajhbnabGreatDoor
open Go.RowKit Go.Proofs Go.Maps
attribute [local go_sem ↓] Go.wp_at_zero Go.wp_at_succ
theorem Tryz.enters184 : Enters Tryz.prog 184 := Go.Proofs.enters_of Tryz.func184 (by decide) rfl
theorem Tryz.enters185 : Enters Tryz.prog 185 := Go.Proofs.enters_of Tryz.func185 (by decide) rfl
theorem Tryz.enters126 : Enters Tryz.prog 126 := Go.Proofs.enters_of Tryz.func126 (by decide) rfl
def outB (n : Nat) (x : Int) : Bool := decide (x < 0) || decide ((n : Int) ≤ x)
set_option maxHeartbeats 400000 in
theorem Jkd {W0 : World} (pb n : Nat) (hpb : pb < W0.heap.size) (c0 : W0.cell? ⟨pb, 0, none⟩ = some (.int .i64 n)) : PredC 184 #[.pointer (some ⟨pb, 0, none⟩)] W0 (outB n) where
  enters := Tryz.enters184
  call := by
    intro x w hb; have c0' := (hb.cell (p := ⟨pb, 0, none⟩) hpb).trans c0; clear c0 hb; unfold outB; by_cases h : x < 0
    · go_enter Tryz.func184, Tryz.ntmps184; go_wp2
      exact bodyPost_ret (v := .bool true) (by simp [results, Tryz.results184, go_sem]) rfl ⟨by simp [h], rfl⟩
    · by_cases h2 : (n : Int) ≤ x
      · go_enter Tryz.func184, Tryz.ntmps184; go_wp2
        exact bodyPost_ret (v := .bool true) (by simp [results, Tryz.results184, go_sem]) rfl ⟨by simp, rfl⟩
      · go_enter Tryz.func184, Tryz.ntmps184; go_wp2
        exact bodyPost_ret (v := .bool false) (by simp [results, Tryz.results184, go_sem]) rfl ⟨by simp; omega, rfl⟩
def atF (xs : List Int) (x : Int) : Int := xs.getD x.toNat 0
set_option maxHeartbeats 400000 in
theorem Jn2 {P : Nat → Prop} {W0 : World} (pb : Nat) (hpb : pb < W0.heap.size) (co : Option Addr) (cn cc : Nat) (xs : List Int) (c1 : W0.cell? ⟨pb, 1, none⟩ = some (.slice co cn cc)) (h : Nums P W0 (.slice co cn cc) xs) : CellB 185 pb W0 (fun x => 0 ≤ x ∧ x < xs.length) (atF xs) where
  enters := Tryz.enters185
  call := by
    intro x w hb hx; obtain ⟨k, rfl⟩ : ∃ k : Nat, x = k := ⟨x.toNat, by omega⟩; have hk : k < xs.length := by omega
    have c1' := (hb.cell (p := ⟨pb, 1, none⟩) hpb).trans c1; have hcn := Jg h; obtain ⟨ao, cap, hv, _, h1, _⟩ := h.below hb; injection hv with e1 e2 e3; obtain ⟨b, off, ha, _, hlt, hc⟩ := h1 (by omega); subst e1; subst ha; have c2 := hc k hk; have hv : atF xs (k : Int) = xs[k] := by simp [atF, List.getD_eq_getElem?_getD, hk]
    rw [hv]; obtain ⟨y, hy⟩ : ∃ y, xs[k] = y := ⟨_, rfl⟩; rw [hy] at c2 ⊢; have hk0 : (0 : Int) ≤ (k : Int) := by omega
    have hk1 : (k : Int) < (cn : Int) := by omega
    clear h hc hv hy hx c1 hb h1 hcn e2 e3; go_enter Tryz.func185, Tryz.ntmps185; go_wp2
    exact bodyPost_ret (v := .int .i64 y) (by simp [results, Tryz.results185, go_sem]) rfl ⟨rfl, rfl⟩
def atP (a b : Arr) : Arr × Int := if b.shape.length ≠ 1 then (eArr, 5) else if a.cells.any (outB b.cells.length) = true then (eArr, 8) else (⟨a.shape, a.cells.map (atF b.cells)⟩, 0)
set_option maxHeartbeats 1000000 in
set_option maxRecDepth 20000 in
theorem Jp4 (w : World) : FnTwo 126 #[] w atP := by
  intro W P u v a b _ hP ha hb hoa hob; obtain ⟨so, sn, sc, co, cn, cc, rfl, ha1, ha2⟩ := ha; obtain ⟨so2, sn2, sc2, co2, cn2, cc2, rfl, hb1, hb2⟩ := hb; have ha : IsArr P W (.agg #[.slice so sn sc, .slice co cn cc]) a := ⟨_, _, _, _, _, _, rfl, ha1, ha2⟩; have hcn2 := Jg hb2; have hsn2 := Jg hb1; simp at hsn2; obtain ⟨W1, hW1⟩ : ∃ W1, ((W.alloc (.cells #[.slice so sn sc, .slice co cn cc] 57)).alloc (.cells #[.slice so2 sn2 sc2, .slice co2 cn2 cc2] 57)).alloc (.cells #[.slice none 0 0, .slice none 0 0] 57) = W1 := ⟨_, rfl⟩; have hbW : Below W.heap.size W W1 := by rw [← hW1]; exact (((Below.refl _ _).alloc (Nat.le_refl _) _).alloc (by simp) _).alloc (by simp; omega) _
  have hs1 : W1.heap.size = W.heap.size + 1 + 1 + 1 := by rw [← hW1]; simp
  have k0 : W1.cell? ⟨W.heap.size + 1, 0, none⟩ = some (.slice so2 sn2 sc2) := by
    rw [← hW1, World.cell?_of_block (a := ⟨W.heap.size + 1, 0, none⟩) (RowKit.Below.heap_alloc _ _ _ (by simp))]; exact (World.cell?_alloc_at _ _ _ _ (by simp)).trans rfl
  have k1 : W1.cell? ⟨W.heap.size + 1, 1, none⟩ = some (.slice co2 cn2 cc2) := by
    rw [← hW1, World.cell?_of_block (a := ⟨W.heap.size + 1, 1, none⟩) (RowKit.Below.heap_alloc _ _ _ (by simp))]; exact (World.cell?_alloc_at _ _ _ _ (by simp)).trans rfl
  have b0 : W1.cell? ⟨W.heap.size, 0, none⟩ = some (.slice so sn sc) := by
    rw [← hW1, World.cell?_of_block (a := ⟨W.heap.size, 0, none⟩) (RowKit.Below.heap_alloc _ _ _ (by simp; omega)), World.cell?_of_block (a := ⟨W.heap.size, 0, none⟩) (RowKit.Below.heap_alloc _ _ _ (by simp))]; exact (World.cell?_alloc_at _ _ _ _ rfl).trans rfl
  have b1 : W1.cell? ⟨W.heap.size, 1, none⟩ = some (.slice co cn cc) := by
    rw [← hW1, World.cell?_of_block (a := ⟨W.heap.size, 1, none⟩) (RowKit.Below.heap_alloc _ _ _ (by simp; omega)), World.cell?_of_block (a := ⟨W.heap.size, 1, none⟩) (RowKit.Below.heap_alloc _ _ _ (by simp))]; exact (World.cell?_alloc_at _ _ _ _ rfl).trans rfl
  have r0 : W1.cell? ⟨W.heap.size + 1 + 1, 0, none⟩ = some (.slice none 0 0) := by rw [← hW1]; exact (World.cell?_alloc_at _ _ _ _ (by simp)).trans rfl
  have r1 : W1.cell? ⟨W.heap.size + 1 + 1, 1, none⟩ = some (.slice none 0 0) := by rw [← hW1]; exact (World.cell?_alloc_at _ _ _ _ (by simp)).trans rfl
  have f0 : ∀ i, W1.frozen? ⟨W.heap.size + 1 + 1, i, none⟩ = false := fun i => by rw [← hW1]; exact World.frozen?_alloc_at _ _ _ _ (by simp)
  have HF : Hid (∀ w', Below W1.heap.size W1 w' → (w'.cell? ⟨W.heap.size, 0, none⟩ = some (.slice so sn sc) ∧ w'.cell? ⟨W.heap.size, 1, none⟩ = some (.slice co cn cc) ∧ w'.cell? ⟨W.heap.size + 1, 0, none⟩ = some (.slice so2 sn2 sc2) ∧ w'.cell? ⟨W.heap.size + 1, 1, none⟩ = some (.slice co2 cn2 cc2) ∧ w'.cell? ⟨W.heap.size + 1 + 1, 0, none⟩ = some (.slice none 0 0) ∧ w'.cell? ⟨W.heap.size + 1 + 1, 1, none⟩ = some (.slice none 0 0)) ∧ w'.frozen? ⟨W.heap.size + 1 + 1, 0, none⟩ = false ∧ w'.frozen? ⟨W.heap.size + 1 + 1, 1, none⟩ = false) := hide (fun w' hb => ⟨⟨(hb.cell (p := ⟨W.heap.size, 0, none⟩) (by show W.heap.size < W1.heap.size; omega)).trans b0, (hb.cell (p := ⟨W.heap.size, 1, none⟩) (by show W.heap.size < W1.heap.size; omega)).trans b1, (hb.cell (p := ⟨W.heap.size + 1, 0, none⟩) (by show W.heap.size + 1 < W1.heap.size; omega)).trans k0, (hb.cell (p := ⟨W.heap.size + 1, 1, none⟩) (by show W.heap.size + 1 < W1.heap.size; omega)).trans k1, (hb.cell (p := ⟨W.heap.size + 1 + 1, 0, none⟩) (by show W.heap.size + 1 + 1 < W1.heap.size; omega)).trans r0, (hb.cell (p := ⟨W.heap.size + 1 + 1, 1, none⟩) (by show W.heap.size + 1 + 1 < W1.heap.size; omega)).trans r1⟩, (hb.frozen (p := ⟨W.heap.size + 1 + 1, 0, none⟩) (by show W.heap.size + 1 + 1 < W1.heap.size; omega)).trans (f0 0), (hb.frozen (p := ⟨W.heap.size + 1 + 1, 1, none⟩) (by show W.heap.size + 1 + 1 < W1.heap.size; omega)).trans (f0 1)⟩); have HRow := hide (fun w' => (Zq w' so2 sn2 sc2 co2 cn2 cc2).mono (fun e w'' h => (⟨h.1, by rw [h.2]; exact ((Below.refl _ _).alloc (Nat.le_refl _) _).alloc (by simp) _⟩ : e = .returned (.bool ((sn2 : Int) == 1)) ∧ Below w'.heap.size w' w''))); have HSize := hide (fun w' => (J2 w' so2 sn2 sc2 co2 cn2 cc2).mono (fun e w'' h => (⟨h.1, by rw [h.2]; exact (Below.refl _ _).alloc (Nat.le_refl _) _⟩ : e = .returned (.int .i64 cn2) ∧ Below w'.heap.size w' w''))); have HHas : Hid (∀ w', Below W1.heap.size W1 w' → ∀ pb, pb < w'.heap.size → w'.cell? ⟨pb, 0, none⟩ = some (.int .i64 cn2) → Calls Tryz.prog 174 #[.agg #[.slice so sn sc, .slice co cn cc], .func (.func 184) #[] #[.pointer (some ⟨pb, 0, none⟩)]] w' fun e w'' => e = .returned (.bool (a.cells.any (outB cn2))) ∧ Below w'.heap.size w' w'') := hide (fun w' hb pb hpb hc => (Jbv P w' w' (Below.refl _ _) 184 _ (outB cn2) (Jkd pb cn2 hpb hc) so sn sc co cn cc a.cells ((ha2.below hbW).below hb) hoa.few).mono (fun e w'' h => ⟨h.1, by rw [h.2]; exact (Below.refl _ _).alloc (Nat.le_refl _) _⟩)); have HEach : Hid ((∀ c ∈ a.cells, 0 ≤ c ∧ c < b.cells.length) → ∀ w', Below W1.heap.size W1 w' → Calls Tryz.prog 150 #[.agg #[.slice so sn sc, .slice co cn cc], .func (.func 185) #[] #[.pointer (some ⟨W.heap.size + 1, 0, none⟩)]] w' fun e w'' => ∃ c1 c2 c3, e = .returned (.agg #[.slice so sn sc, .slice c1 c2 c3]) ∧ IsArr (fun b => P b ∧ b ≠ W.heap.size + 1 + 1) w'' (.agg #[.slice so sn sc, .slice c1 c2 c3]) ⟨a.shape, a.cells.map (atF b.cells)⟩ ∧ Below w'.heap.size w' w'') := hide (fun hall w' hb => Jde (atF b.cells) 185 (W.heap.size + 1) (fun b => P b ∧ b ≠ W.heap.size + 1 + 1) w' _ (Jn2 (W.heap.size + 1) (by have := hb.size; omega) co2 cn2 cc2 b.cells ((Ja HF w' hb).1.2.2.2.1) ((hb2.below hbW).below hb)) (fun b h' => ⟨hP b (by have := hb.size; omega), by have := hb.size; omega⟩) so sn sc co cn cc a (((ha.imp (fun b hp hl => ⟨hp, by omega⟩)).below hbW).below hb) hoa hall); have HBW := hide hbW; obtain ⟨r, hr⟩ : ∃ r, atP a b = r := ⟨_, rfl⟩; simp only [hr]; have HR := hide hr; have HC2 := hide hcn2; have HS2 := hide hsn2; obtain ⟨⟨b0', b1', k0', k1', r0', r1'⟩, q0, q1⟩ := Ja HF W1 (Below.refl _ _); clear hP hoa hob ha ha1 ha2 hb1 hb2 hr k0 k1 b0 b1 r0 r1 hbW f0 hcn2 hsn2; go_enter Tryz.func126, Tryz.ntmps126; go_wp2_with fail; try rw [hW1]
  clear hW1; clear b0' b1' k0' k1' r0' r1' q0 q1; refine (Ja HRow _).mono ?_; rintro e w2 ⟨rfl, hb2⟩; obtain ⟨⟨x0, x1, x2, x3, x4, x5⟩, y0, y1⟩ := Ja HF w2 hb2; have HB2 := hide hb2; have hz2 := hb2.size; have n1 : W.heap.size < w2.heap.size := by omega
  have n2 : W.heap.size + 1 < w2.heap.size := by omega
  have n3 : W.heap.size + 1 + 1 < w2.heap.size := by omega
  clear hb2; by_cases hrow : sn2 = 1
  · have hrow' : ((sn2 : Int) == 1) = true := by rw [hrow]; rfl
    have HROW := hide hrow; clear hrow; go_wp2_with fail; refine (Ja HSize _).mono ?_; rintro e w3 ⟨rfl, hb3⟩; have hb3' := (Ja HB2).trans (hb3.mono (Ja HB2).size); have hb4 := hb3'.alloc hb3'.size (.cells #[.int .i64 cn2] 2); obtain ⟨w4, hw4⟩ : ∃ w4, w3.alloc (.cells #[.int .i64 cn2] 2) = w4 := ⟨_, rfl⟩; rw [hw4] at hb4; have hz4 : w4.heap.size = w3.heap.size + 1 := by rw [← hw4]; simp
    have hpc : w4.cell? ⟨w3.heap.size, 0, none⟩ = some (.int .i64 cn2) := by rw [← hw4]; exact (World.cell?_alloc_at _ _ _ _ rfl).trans rfl
    obtain ⟨⟨s0, s1, s2, s3, s4, s5⟩, t0, t1⟩ := Ja HF w4 hb4; have HH := hide (Ja HHas w4 hb4 w3.heap.size (by omega) hpc); have HB4 := hide hb4; have hz5 := hb4.size; have m1 : W.heap.size < w4.heap.size := by omega
    have m2 : W.heap.size + 1 < w4.heap.size := by omega
    have m3 : W.heap.size + 1 + 1 < w4.heap.size := by omega
    clear x0 x1 x2 x3 x4 x5 y0 y1 hb3 hb3' hb4 hpc n1 n2 n3; go_wp2_with fail; try rw [hw4]
    clear hw4; refine (Ja HH).mono ?_; rintro e w5 ⟨rfl, hb5⟩; have hb5' := (Ja HB4).trans (hb5.mono (Ja HB4).size); obtain ⟨⟨x0, x1, x2, x3, x4, x5⟩, y0, y1⟩ := Ja HF w5 hb5'; have HB5 := hide hb5'; have hz6 := hb5.size; have n1 : W.heap.size < w5.heap.size := by omega
    have n2 : W.heap.size + 1 < w5.heap.size := by omega
    have n3 : W.heap.size + 1 + 1 < w5.heap.size := by omega
    have HBz : Hid (Below W.heap.size W w5) := hide ((Ja HBW).trans ((Ja HB5).mono (Ja HBW).size)); clear s0 s1 s2 s3 s4 s5 t0 t1 hb5 hb5' m1 m2 m3; cases hany : a.cells.any (outB cn2)
    · have hall : ∀ c ∈ a.cells, 0 ≤ c ∧ c < b.cells.length := by
        intro c hc; have := List.any_eq_false.1 hany c hc; rw [← Ja HC2]; simp [outB] at this; omega
      have hr' : r = (⟨a.shape, a.cells.map (atF b.cells)⟩, 0) := by
        rw [← Ja HR]; unfold atP; rw [if_neg (by rw [← Ja HS2, Ja HROW]; decide), if_neg (by rw [← Ja HC2, hany]; decide)]
      have HE := hide (Ja HEach hall w5 (Ja HB5)); obtain ⟨q, hq⟩ : ∃ q : Arr, (⟨a.shape, a.cells.map (atF b.cells)⟩ : Arr) = q := ⟨_, rfl⟩; rw [hq] at hr'; simp only [hq] at HE; subst hr'; clear hall hany hq; go_wp2_with fail; refine (Ja HE).mono ?_; rintro e w6 ⟨c1, c2, c3, rfl, hA, hb6⟩; have HA := hide hA; have d0 := (hb6.cell (p := ⟨W.heap.size + 1 + 1, 0, none⟩) n3).trans x4; have d1 := (hb6.cell (p := ⟨W.heap.size + 1 + 1, 1, none⟩) n3).trans x5; have g0 := (hb6.frozen (p := ⟨W.heap.size + 1 + 1, 0, none⟩) n3).trans y0; have g1 := (hb6.frozen (p := ⟨W.heap.size + 1 + 1, 1, none⟩) n3).trans y1; have hz7 := hb6.size; have n4 : W.heap.size + 1 + 1 < w6.heap.size := by omega
      have HB6 : Hid (Below W.heap.size W w6) := hide ((Ja HBz).trans (hb6.mono (Ja HBz).size)); clear x0 x1 x2 x3 x4 x5 y0 y1 hA hb6; go_wp2_with fail; refine bodyPost_ret (v := .tuple #[.agg #[.slice so sn sc, .slice c1 c2 c3], .int .i64 0]) (by simp [results, Tryz.results126, go_sem, d0, d1]) rfl ⟨_, _, _, _, _, _, rfl, ?_, ?_⟩
      · exact (((Ja HA).set (fun h => h.2 rfl) 0 _).set (fun h => h.2 rfl) 1 _).imp (fun b h _ => h.1)
      · exact ((Ja HB6).setCell (p := ⟨W.heap.size + 1 + 1, 0, none⟩) (by show W.heap.size ≤ W.heap.size + 1 + 1; omega) _).setCell (p := ⟨W.heap.size + 1 + 1, 1, none⟩) (by show W.heap.size ≤ W.heap.size + 1 + 1; omega) _
    · have hr' : r = (eArr, 8) := by
        rw [← Ja HR]; unfold atP; rw [if_neg (by rw [← Ja HS2, Ja HROW]; decide), if_pos (by rw [← Ja HC2, hany])]
      subst hr'; clear hany; go_wp2_with fail; refine bodyPost_ret (v := .tuple #[.agg #[.slice none 0 0, .slice none 0 0], .int .i64 8]) (by simp [results, Tryz.results126, go_sem, x4, x5]) rfl ⟨_, _, _, _, _, _, rfl, Yd _ _, ?_⟩; exact ((Ja HBz).setCell (p := ⟨W.heap.size + 1 + 1, 0, none⟩) (by show W.heap.size ≤ W.heap.size + 1 + 1; omega) _).setCell (p := ⟨W.heap.size + 1 + 1, 1, none⟩) (by show W.heap.size ≤ W.heap.size + 1 + 1; omega) _
  · have hrow' : ((sn2 : Int) == 1) = false := by
      rw [beq_eq_false_iff_ne]; omega
    have hr' : r = (eArr, 5) := by
      rw [← Ja HR]; unfold atP; rw [if_pos (by rw [← Ja HS2]; exact hrow)]
    subst hr'; clear hrow; have HBz : Hid (Below W.heap.size W w2) := hide ((Ja HBW).trans ((Ja HB2).mono (Ja HBW).size)); go_wp2_with fail; refine bodyPost_ret (v := .tuple #[.agg #[.slice none 0 0, .slice none 0 0], .int .i64 5]) (by simp [results, Tryz.results126, go_sem, x4, x5]) rfl ⟨_, _, _, _, _, _, rfl, Yd _ _, ?_⟩; exact ((Ja HBz).setCell (p := ⟨W.heap.size + 1 + 1, 0, none⟩) (by show W.heap.size ≤ W.heap.size + 1 + 1; omega) _).setCell (p := ⟨W.heap.size + 1 + 1, 1, none⟩) (by show W.heap.size ≤ W.heap.size + 1 + 1; omega) _
theorem Jpe : TwoC ⟨#[97, 116]⟩ atP := ⟨fun w => (Zz (t := ⟨#[97, 116]⟩) (k1 := .string [116]) (k2 := .string [97, 116]) (f := 126) (by decide) (by kernel_rfl) (by kernel_rfl) (by kernel_rfl) (by kernel_rfl) (by kernel_rfl) w).mono (by rintro e w' ⟨rfl, hb⟩; exact ⟨126, #[], rfl, Tryz.enters126, hb, Jp4 w'⟩), fun a b ha hb => by
  unfold atP; split
  · exact ⟨by simp [eArr], fun h => absurd h (by decide)⟩
  · split
    · exact ⟨by simp [eArr], fun h => absurd h (by decide)⟩
    · refine ⟨by simpa using ha.few, fun _ => ⟨ha.rank, ha.lens, by simpa using ha.size, by simpa using ha.few, ?_⟩⟩; intro c hc; obtain ⟨x, _, rfl⟩ := List.mem_map.1 hc; unfold atF; by_cases hx : x.toNat < b.cells.length
      · rw [List.getD_eq_getElem?_getD, List.getElem?_eq_getElem hx]; exact hb.fits _ (List.getElem_mem hx)
      · rw [List.getD_eq_getElem?_getD, List.getElem?_eq_none (by omega)]; simp [Jf]⟩
end Go.Proofs.YtjobgpahajhbnabGreatDoor
