import Derived.Test.YtjobgpahajhbnabGreatDoorTe
namespace Go.Proofs.YtjobgpahajhbnabGreatDoor
open Go.RowKit Go.Proofs Go.Maps
attribute [local go_sem ↓] Go.wp_at_zero Go.wp_at_succ
theorem Tryz.enters103 : Enters Tryz.prog 103 := Go.Proofs.enters_of Tryz.func103 (by decide) rfl
def Fz (a : Arr) : Arr × Int := if a.shape ≠ [] then (eArr, 5) else if a.cells.headD 0 < 0 then (eArr, 7) else if 64 < a.cells.headD 0 then (eArr, 9) else (⟨[(a.cells.headD 0).toNat], (List.range (a.cells.headD 0).toNat).map Int.ofNat⟩, 0)
theorem Yb (P : Nat → Prop) (w : World) : IsArr P w (.agg #[.slice none 0 0, .slice none 0 0]) eArr := ⟨none, 0, 0, none, 0, 0, rfl, Jn _ _, Jn _ _⟩
theorem Jf {P : Nat → Prop} {w : World} {so : Option Addr} {sn sc : Nat} {xs : List Int} (h : Nums P w (.slice so sn sc) xs) : sn = xs.length := by
  obtain ⟨ao, cap, hv, _⟩ := h
  injection hv
theorem Zo {P : Nat → Prop} {w : World} {co : Option Addr} {cn cc : Nat} {a : Arr} (h : Nums P w (.slice co cn cc) a.cells) (ho : a.ok) (hs : a.shape = []) : ∃ x b off, a.cells = [x] ∧ cn = 1 ∧ co = some ⟨b, off, none⟩ ∧ P b ∧ b < w.heap.size ∧ w.cell? ⟨b, off, none⟩ = some (.int .i64 x) ∧ 1 ≤ cc := by
  have h1 := ho.size
  rw [hs] at h1
  simp [Jj] at h1
  obtain ⟨x, hx⟩ := List.length_eq_one_iff.1 h1
  rw [hx] at h
  obtain ⟨ao, cap, hv, hcap, h2, _⟩ := h
  obtain ⟨b, off, ha, hp, hl, hc⟩ := h2 (by simp)
  injection hv with e1 e2 e3
  subst e1 e2 e3
  exact ⟨x, b, off, hx, rfl, ha, hp, hl, by simpa using hc 0 (by simp), hcap⟩
theorem V9 (W : World) (o1 o3 o4 : Obj) (A : Array Value) (i : Nat) : ((((W.alloc o1).alloc (.cells A 57)).alloc o3).alloc o4).cell? ⟨W.heap.size + 1, i, none⟩ = A[i]? := by
  rw [World.cell?_of_block (a := ⟨W.heap.size + 1, i, none⟩) (RowKit.Below.heap_alloc _ _ _ (by simp <;> omega)), World.cell?_of_block (a := ⟨W.heap.size + 1, i, none⟩) (RowKit.Below.heap_alloc _ _ _ (by simp))]
  exact World.cell?_alloc_at _ _ _ _ (by simp)
theorem Qc (W : World) (o1 o3 o4 : Obj) (A : Array Value) (i : Nat) : ((((W.alloc o1).alloc (.cells A 57)).alloc o3).alloc o4).frozen? ⟨W.heap.size + 1, i, none⟩ = false := by
  rw [World.frozen?_of_block (a := ⟨W.heap.size + 1, i, none⟩) (RowKit.Below.heap_alloc _ _ _ (by simp <;> omega)), World.frozen?_of_block (a := ⟨W.heap.size + 1, i, none⟩) (RowKit.Below.heap_alloc _ _ _ (by simp))]
  exact World.frozen?_alloc_at _ _ _ _ (by simp)
set_option maxHeartbeats 1000000 in
set_option maxRecDepth 20000 in
theorem Jlu (w : World) : FnOne 103 #[] w Fz := by
  intro W P v a _ hP ha hoa
  obtain ⟨so, sn, sc, co, cn, cc, rfl, ha1, ha2⟩ := ha
  have hsn := Jf ha1
  simp at hsn
  obtain ⟨r, hr⟩ : ∃ r, Fz a = r := ⟨_, rfl⟩
  simp only [hr]
  have HS := hide (fun W' => Ji W' so sn sc co cn cc)
  by_cases hsh : a.shape = []
  · obtain ⟨x, b, off, hx, rfl, rfl, hPb, hbl, hcell, hcc⟩ := Zo ha2 hoa hsh
    have h0 : sn = 0 := by rw [hsn, hsh]; rfl
    subst h0
    have hbl1 : b < W.heap.size + 1 := by omega
    have hbl2 : b < W.heap.size + 1 + 1 := by omega
    have hbl3 : b < W.heap.size + 1 + 1 + 1 := by omega
    by_cases hneg : x < 0
    · have hr' : r = (eArr, 7) := by rw [← hr]; unfold Fz; rw [if_neg (by simp [hsh]), hx]; simp [hneg]
      subst hr'
      clear hr ha1 ha2 hP hoa hx hsn hsh
      go_enter Tryz.func103, Tryz.ntmps103
      go_wp2_with (go_at_call 143; refine (Ja HS _).mono ?_; rintro e w' ⟨rfl, rfl⟩)
      refine bodyPost_ret (v := .tuple #[.agg #[.slice none 0 0, .slice none 0 0], .int .i64 7]) (by simp [results, Tryz.results103, go_sem]) rfl ⟨_, _, _, _, _, _, rfl, Yb _ _, ?_⟩
      first
      | exact (((((Below.refl W.heap.size W).alloc (Nat.le_refl _) _).alloc (by simp) _).alloc (by simp; omega) _).alloc (by simp; omega) _)
      | (trace_state; fail)
    · by_cases hbig : 64 < x
      · have hr' : r = (eArr, 9) := by rw [← hr]; unfold Fz; rw [if_neg (by simp [hsh]), hx]; simp [hneg, hbig]
        subst hr'
        clear hr ha1 ha2 hP hoa hx hsn hsh
        go_enter Tryz.func103, Tryz.ntmps103
        go_wp2_with (go_at_call 143; refine (Ja HS _).mono ?_; rintro e w' ⟨rfl, rfl⟩)
        refine bodyPost_ret (v := .tuple #[.agg #[.slice none 0 0, .slice none 0 0], .int .i64 9]) (by simp [results, Tryz.results103, go_sem]) rfl ⟨_, _, _, _, _, _, rfl, Yb _ _, ?_⟩
        exact (((((Below.refl W.heap.size W).alloc (Nat.le_refl _) _).alloc (by simp) _).alloc (by simp; omega) _).alloc (by simp; omega) _)
      · obtain ⟨n, rfl⟩ : ∃ n : Nat, x = n := ⟨x.toNat, by omega⟩
        have hn : n ≤ 200 := by omega
        have hr' : r = (⟨[n], (List.range n).map Int.ofNat⟩, 0) := by rw [← hr]; unfold Fz; rw [if_neg (by simp [hsh]), hx]; simp [hneg, hbig]
        subst hr'
        have HPl := hide (fun W' => Gv n hn W')
        have HR := hide (fun W' v' (hb : W.heap.size + 2 ≤ W'.heap.size) (h : Nums (fun b => P b ∧ b ≠ W.heap.size + 1) W' v' ((List.range n).map Int.ofNat)) => Zp (fun b => P b ∧ b ≠ W.heap.size + 1) W' (fun b h' => ⟨hP b (by omega), by omega⟩) v' _ h)
        have HP := hide hP
        clear hr ha1 ha2 hP hoa hx hsn hsh
        go_enter Tryz.func103, Tryz.ntmps103
        go_wp2_with (go_at_call 143; refine (Ja HS _).mono ?_; rintro e w' ⟨rfl, rfl⟩)
        go_at_call 155
        refine (Ja HPl _).mono ?_
        rintro e w1 ⟨rfl, ho1, hb1⟩
        obtain ⟨hc1, hf1⟩ := Jr hb1
        simp only [World.size_alloc] at ho1 hb1 hc1 hf1 ⊢
        have hs1 := hb1.size
        simp at hs1
        have hN := Js (P := fun b => P b ∧ b ≠ W.heap.size + 1) ho1 (fun b h => ⟨Ja HP b (by (try simp at h); omega), by (try simp at h); omega⟩)
        have HN := hide hN
        have HB1 := hide hb1
        have d0 : w1.cell? ⟨W.heap.size + 1, 0, none⟩ = some (.slice none 0 0) := (hc1 (W.heap.size + 1) 0 (by omega)).trans ((V9 W _ _ _ _ 0).trans rfl)
        have d1 : w1.cell? ⟨W.heap.size + 1, 1, none⟩ = some (.slice none 0 0) := (hc1 (W.heap.size + 1) 1 (by omega)).trans ((V9 W _ _ _ _ 1).trans rfl)
        have HBW : Hid (Below W.heap.size W w1) := hide ((((((Below.refl W.heap.size W).alloc (Nat.le_refl _) _).alloc (by simp) _).alloc (by simp; omega) _).alloc (by simp; omega) _).trans ((Ja HB1).mono (by omega)))
        clear ho1 hb1 hN
        go_wp2_with fail
        refine (Ja HR _ _ (by omega) (Ja HN)).mono ?_
        rintro e w2 ⟨s1, s2, s3, c1, c2, c3, rfl, hA2, hb2⟩
        have HA2 := hide hA2
        have hs2 := hb2.size
        have e0 := (hb2.cell (p := ⟨W.heap.size + 1, 0, none⟩) (by show W.heap.size + 1 < w1.heap.size; omega)).trans d0
        have e1 := (hb2.cell (p := ⟨W.heap.size + 1, 1, none⟩) (by show W.heap.size + 1 < w1.heap.size; omega)).trans d1
        have g0 := (hb2.frozen (p := ⟨W.heap.size + 1, 0, none⟩) (by show W.heap.size + 1 < w1.heap.size; omega)).trans ((hf1 (W.heap.size + 1) 0 (by omega)).trans (Qc W _ _ _ _ 0))
        have g1 := (hb2.frozen (p := ⟨W.heap.size + 1, 1, none⟩) (by show W.heap.size + 1 < w1.heap.size; omega)).trans ((hf1 (W.heap.size + 1) 1 (by omega)).trans (Qc W _ _ _ _ 1))
        have HB2 : Hid (Below W.heap.size W w2) := hide ((Ja HBW).trans (hb2.mono (Ja HBW).size))
        have hw2 : W.heap.size + 1 < w2.heap.size := by omega
        have hL : ((List.range n).map Int.ofNat).length = n := by simp
        rw [hL] at HA2
        clear hA2 hb2 d0 d1 hc1 hf1 HN HB1 HBW HR HPl HS
        go_wp2_with fail
        refine bodyPost_ret (v := .tuple #[.agg #[.slice s1 s2 s3, .slice c1 c2 c3], .int .i64 0]) (by simp [results, Tryz.results103, go_sem, e0, e1]) rfl ⟨_, _, _, _, _, _, rfl, ?_, ?_⟩
        · exact (((Ja HA2).set (fun h => h.2 rfl) 0 _).set (fun h => h.2 rfl) 1 _).imp (fun b h _ => h.1)
        · exact ((Ja HB2).setCell (p := ⟨W.heap.size + 1, 0, none⟩) (Nat.le_succ _) _).setCell (p := ⟨W.heap.size + 1, 1, none⟩) (Nat.le_succ _) _
  · have hr' : r = (eArr, 5) := by rw [← hr]; unfold Fz; rw [if_pos hsh]
    subst hr'
    have h0 : ((sn : Int) == 0) = false := by
      rw [hsn]
      simp [hsh]
    clear hr ha1 ha2 hP hoa hsn hsh
    go_enter Tryz.func103, Tryz.ntmps103
    go_wp2_with (go_at_call 143; refine (Ja HS _).mono ?_; rintro e w' ⟨rfl, rfl⟩)
    refine bodyPost_ret (v := .tuple #[.agg #[.slice none 0 0, .slice none 0 0], .int .i64 5]) (by simp [results, Tryz.results103, go_sem]) rfl ⟨_, _, _, _, _, _, rfl, Yb _ _, ?_⟩
    exact (((((Below.refl W.heap.size W).alloc (Nat.le_refl _) _).alloc (by simp) _).alloc (by simp; omega) _).alloc (by simp; omega) _)
theorem Jkn : OneC ⟨#[105, 111, 116, 97]⟩ Fz := ⟨fun w => (Za (t := ⟨#[105, 111, 116, 97]⟩) (k1 := .string [111, 116, 97]) (k2 := .string [105, 111, 116, 97]) (f := 103) (by decide) (by kernel_rfl) (by kernel_rfl) (by kernel_rfl) (by kernel_rfl) w).mono (by rintro e w' ⟨rfl, hb⟩; exact ⟨103, #[], rfl, Tryz.enters103, hb, Jlu w'⟩), fun a ha => by
  unfold Fz
  split
  · exact ⟨by simp [eArr], fun h => absurd h (by decide)⟩
  · split
    · exact ⟨by simp [eArr], fun h => absurd h (by decide)⟩
    · split
      · exact ⟨by simp [eArr], fun h => absurd h (by decide)⟩
      · rename_i h1 h2 h3
        have hn : (a.cells.headD 0).toNat ≤ 64 := by omega
        obtain ⟨m, hm⟩ : ∃ m, (a.cells.headD 0).toNat = m := ⟨_, rfl⟩
        rw [hm] at hn ⊢
        exact ⟨by simp; omega, fun _ => ⟨by simp, by simp; omega, by simp [Jj], by simp; omega, fun c hc => by simp at hc; obtain ⟨i, hi, rfl⟩ := hc; unfold Jg; omega⟩⟩⟩
end Go.Proofs.YtjobgpahajhbnabGreatDoor
namespace Go.Proofs.YtjobgpahajhbnabGreatDoor
open Go.RowKit Go.Proofs Go.Maps
attribute [local go_sem ↓] Go.wp_at_zero Go.wp_at_succ
set_option maxHeartbeats 1000000 in
theorem Jhq (P : Nat → Prop) (w : World) (co : Option Addr) (cn cc : Nat) (xs : List Int) (h : Nums P w (.slice co cn cc) xs) (hl : xs.length ≤ 200) (x : Int) :
    Calls Tryz.prog 205 #[.slice co cn cc, .int .i64 x] w fun e w' => ∃ r : Int, e = .returned (.int .i64 r) ∧ (0 ≤ r ↔ x ∈ xs) ∧ w' = w := by
  have hcn := Jf h
  have HX : Hid (0 < cn → ∃ b off, co = some ⟨b, off, none⟩ ∧ b < w.heap.size ∧ ∀ i, (hi : i < xs.length) → w.cell? ⟨b, off + i, none⟩ = some (.int .i64 xs[i])) := by
    intro h0
    obtain ⟨ao, cap, hv, _, h1, _⟩ := h
    injection hv with e1 e2 e3
    obtain ⟨b, off, ha, _, hlt, hc⟩ := h1 (by omega)
    exact ⟨b, off, e1.trans ha, hlt, hc⟩
  have HN := hide hcn
  have hcl : cn ≤ 200 := by omega
  clear h hcn hl
  go_enter Tryz.func205, Tryz.ntmps205
  go_wp2_with fail
  go_loop [8] (fun v => ∃ k : Nat, v = .int .i64 k ∧ k ≤ cn ∧ ∀ i, (hi : i < xs.length) → i < k → xs[i] ≠ x) (fun v => cn - (intOf v).toNat)
  case atStart => exact ⟨0, rfl, by omega, fun i _ h => absurd h (by omega)⟩
  case round =>
    obtain ⟨k, rfl, hk, hall⟩ := hrel
    by_cases hkn : k < cn
    · obtain ⟨b, off, rfl, hlt, hc⟩ := Ja HX (by omega)
      have hkx : k < xs.length := by rw [← Ja HN]; exact hkn
      have c0 := hc k hkx
      obtain ⟨y, hy⟩ : ∃ y, xs[k] = y := ⟨_, rfl⟩
      rw [hy] at c0
      have HY := hide hy
      have HA := hide hall
      have hk1 : (k : Int) < (cn : Int) := by omega
      have hk0 : (0 : Int) ≤ (k : Int) := by omega
      clear hc hy hall
      by_cases hxy : x = y
      · have hxy' : (x == y) = true := by simpa using hxy
        go_wp2_with fail
        exact bodyPost_ret (v := .int .i64 k) (by simp [results, Tryz.results205, go_sem]) rfl ⟨k, rfl, ⟨fun _ => by have hm := List.getElem_mem hkx; rw [Ja HY] at hm; first | exact hm | (rw [hxy]; exact hm), fun _ => by omega⟩, rfl⟩
      · have hxy' : (x == y) = false := by simpa using hxy
        go_wp2_with fail
        exact ⟨⟨k + 1, by simp, by omega, fun i hi hik => by
          by_cases e : i = k
          · subst e; rw [Ja HY]; exact fun h => hxy h.symm
          · exact Ja HA i hi (by omega)⟩, by simp [intOf]; omega⟩
    · have HA := hide hall
      have hke : k = cn := by omega
      clear hall
      go_wp2_with fail
      refine bodyPost_ret (v := .int .i64 (-1)) (by simp [results, Tryz.results205, go_sem]) rfl ⟨-1, rfl, ⟨fun h => absurd h (by decide), fun h => ?_⟩, rfl⟩
      obtain ⟨i, hi, e⟩ := List.getElem_of_mem h
      exact absurd e (Ja HA i hi (by rw [hke, Ja HN]; exact hi))
set_option maxHeartbeats 400000 in
theorem Jas (P : Nat → Prop) (w : World) (co : Option Addr) (cn cc : Nat) (xs : List Int) (h : Nums P w (.slice co cn cc) xs) (hl : xs.length ≤ 200) (x : Int) :
    Calls Tryz.prog 183 #[.slice co cn cc, .int .i64 x] w fun e w' => e = .returned (.bool (decide (x ∈ xs))) ∧ w' = w := by
  have HI := hide (Jhq P w co cn cc xs h hl x)
  clear h hl
  go_enter Tryz.func183, Tryz.ntmps183
  go_wp2_with (go_at_call 205; refine (Ja HI).mono ?_; rintro e w' ⟨r, rfl, hr, rfl⟩; have HR := hide hr; clear hr)
  refine bodyPost_ret (v := .bool (decide (x ∈ xs))) ?_ rfl ⟨rfl, rfl⟩
  have e : decide (0 ≤ r) = decide (x ∈ xs) := by rw [decide_eq_decide]; exact Ja HR
  simp [results, Tryz.results183, go_sem, ← e]
structure CellB (g pb : Nat) (W0 : World) (Dm : Int → Prop) (h : Int → Int) : Prop where
  enters : Enters Tryz.prog g
  call : ∀ (x : Int) (w : World), Below W0.heap.size W0 w → Dm x → Calls Tryz.prog g #[.int .i64 x, .pointer (some ⟨pb, 0, none⟩)] w fun e w' => e = .returned (.int .i64 (h x)) ∧ w' = w
set_option maxHeartbeats 1000000 in
set_option maxRecDepth 20000 in
theorem Jc8 (h : Int → Int) (g pb : Nat) (P : Nat → Prop) (w : World) (Dm : Int → Prop) (hg : CellB g pb w Dm h) (hP : ∀ b, w.heap.size ≤ b → P b) (so : Option Addr) (sn sc : Nat) (co : Option Addr) (cn cc : Nat) (a : Arr) (ha : IsArr P w (.agg #[.slice so sn sc, .slice co cn cc]) a) (hoa : a.ok) (hDm : ∀ c ∈ a.cells, Dm c) :
    Calls Tryz.prog 150 #[.agg #[.slice so sn sc, .slice co cn cc], .func (.func g) #[] #[.pointer (some ⟨pb, 0, none⟩)]] w fun e w' => ∃ c1 c2 c3, e = .returned (.agg #[.slice so sn sc, .slice c1 c2 c3]) ∧ IsArr P w' (.agg #[.slice so sn sc, .slice c1 c2 c3]) ⟨a.shape, a.cells.map h⟩ ∧ Below w.heap.size w w' := by
  obtain ⟨i0, hi, hz0, hz1, hz2⟩ := info_parts Tryz.info2
  have HI := hide hi
  have HZ0 := hide hz0
  have HZ1 := hide hz1
  have HZ2 := hide hz2
  have hen2 : ∀ args w, (callFunc g args).run Tryz.prog w = .ok (.enter g args) w := hg.enters
  have HP : Hid (∀ b, w.heap.size ≤ b → P b) := hP
  have HA := hide ha
  have HG := hide hg
  have hcl := (Jc ha).1
  have hN : cn ≤ 200 := by rw [hcl]; exact hoa.few
  have HX : Hid (0 < cn → ∃ b off, co = some ⟨b, off, none⟩ ∧ b < w.heap.size ∧ ∀ i, (hi : i < a.cells.length) → w.cell? ⟨b, off + i, none⟩ = some (.int .i64 a.cells[i])) := by
    intro h0
    obtain ⟨so', sn', sc', co', cn', cc', hv, _, ⟨ao, cap, h2, _, hc, _⟩⟩ := ha
    injection hv with hv
    simp at hv
    obtain ⟨_, rfl, rfl, rfl⟩ := hv
    obtain ⟨b, off, e, _, hlt, hcell⟩ := hc (by omega)
    injection h2 with h2
    exact ⟨b, off, h2.trans e, hlt, hcell⟩
  have HXF := hide hDm
  obtain ⟨xs, hxs⟩ : ∃ xs, a.cells = xs := ⟨_, rfl⟩
  rw [hxs] at hcl
  simp only [hxs] at HX HXF ⊢
  have HCL := hide hcl
  clear hi hz0 hz1 hz2 hP ha hoa hcl hg hDm
  go_enter Tryz.func150, Tryz.ntmps150
  go_wp2_with fail
  have hbW : Below w.heap.size w ((w.alloc (.cells #[.slice so sn sc, .slice co cn cc] 57)).alloc (.cells #[.slice none 0 0, .slice none 0 0] 57)) := ((Below.refl _ _).alloc (Nat.le_refl _) _).alloc (by simp) _
  have z0 : ((w.alloc (.cells #[.slice so sn sc, .slice co cn cc] 57)).alloc (.cells #[.slice none 0 0, .slice none 0 0] 57)).cell? ⟨w.heap.size, 0, none⟩ = some (.slice so sn sc) := by simp
  have r0 : ((w.alloc (.cells #[.slice so sn sc, .slice co cn cc] 57)).alloc (.cells #[.slice none 0 0, .slice none 0 0] 57)).cell? ⟨w.heap.size + 1, 0, none⟩ = some (.slice none 0 0) := (World.cell?_alloc_at _ _ _ _ (by simp)).trans rfl
  have r1 : ((w.alloc (.cells #[.slice so sn sc, .slice co cn cc] 57)).alloc (.cells #[.slice none 0 0, .slice none 0 0] 57)).cell? ⟨w.heap.size + 1, 1, none⟩ = some (.slice none 0 0) := (World.cell?_alloc_at _ _ _ _ (by simp)).trans rfl
  have q0 : ((w.alloc (.cells #[.slice so sn sc, .slice co cn cc] 57)).alloc (.cells #[.slice none 0 0, .slice none 0 0] 57)).frozen? ⟨w.heap.size + 1, 0, none⟩ = false := World.frozen?_alloc_at _ _ _ _ (by simp)
  have q1 : ((w.alloc (.cells #[.slice so sn sc, .slice co cn cc] 57)).alloc (.cells #[.slice none 0 0, .slice none 0 0] 57)).frozen? ⟨w.heap.size + 1, 1, none⟩ = false := World.frozen?_alloc_at _ _ _ _ (by simp)
  have hlt : w.heap.size + 1 < ((w.alloc (.cells #[.slice so sn sc, .slice co cn cc] 57)).alloc (.cells #[.slice none 0 0, .slice none 0 0] 57)).heap.size := by simp
  obtain ⟨wS, hwS⟩ : ∃ wS, (w.alloc (.cells #[.slice so sn sc, .slice co cn cc] 57)).alloc (.cells #[.slice none 0 0, .slice none 0 0] 57) = wS := ⟨_, rfl⟩
  rw [hwS] at hbW z0 r0 r1 q0 q1 hlt ⊢
  have HBS := hide hbW
  clear hwS hbW
  go_loopw [5, 11] (fun v5 v11 wr => ∃ (k : Nat) (L : List Int), v11 = .int .i64 k ∧ k ≤ cn ∧ (xs.take k).map h = L ∧ wr.ownsRow wS.heap.size 2 1 v5 k (L.map (Value.int .i64)) ∧ Below wS.heap.size wS wr) (fun _ v11 _ => cn - (intOf v11).toNat)
  case atStart => exact ⟨0, [], rfl, Nat.zero_le _, rfl, World.ownsRow_nil _ _ _ _, Below.refl _ _⟩
  case round =>
    obtain ⟨k, L, rfl, hk, hL, hown, hbel⟩ := hrel
    have HL := hide hL
    clear hL
    have z0' := (hbel.cell (p := ⟨w.heap.size, 0, none⟩) (show w.heap.size < wS.heap.size by omega)).trans z0
    have r0' := (hbel.cell (p := ⟨w.heap.size + 1, 0, none⟩) hlt).trans r0
    have r1' := (hbel.cell (p := ⟨w.heap.size + 1, 1, none⟩) hlt).trans r1
    have q0' := (hbel.frozen (p := ⟨w.heap.size + 1, 0, none⟩) hlt).trans q0
    have q1' := (hbel.frozen (p := ⟨w.heap.size + 1, 1, none⟩) hlt).trans q1
    have HOw := hide hown
    have HBe := hide hbel
    by_cases hkn : k < cn
    · obtain ⟨xb, xf, rfl, hxb, hxc⟩ := Ja HX (by omega)
      have hkx : k < xs.length := by rw [← Ja HCL]; exact hkn
      have cx := (hbel.cell (p := ⟨xb, xf + k, none⟩) (Nat.lt_of_lt_of_le hxb (Ja HBS).size)).trans (((Ja HBS).cell (p := ⟨xb, xf + k, none⟩) hxb).trans (hxc k hkx))
      have HTk : Hid ((xs.take (k + 1)).map h = (xs.take k).map h ++ [h xs[k]]) := hide (by rw [List.take_succ_eq_append_getElem hkx, List.map_append]; rfl)
      have hfx := Ja HXF _ (List.getElem_mem hkx)
      obtain ⟨x, hx⟩ : ∃ x, xs[k] = x := ⟨_, rfl⟩
      rw [hx] at cx hfx HTk
      have HRule := hide (fun w' hb' => (Ja HG).call x w' hb' hfx)
      have HBw : Hid (Below w.heap.size w wr) := hide ((Ja HBS).trans ((Ja HBe).mono (Ja HBS).size))
      obtain ⟨u, hu⟩ : ∃ u, h x = u := ⟨_, rfl⟩
      rw [hu] at HTk
      simp only [hu] at HRule
      have hk1 : (k : Int) < (cn : Int) := by omega
      clear hown hbel hxc hx hu hfx hxb
      go_wp2_with (first | (go_at_fn g; refine (Ja HRule _ (Ja HBw)).mono ?_; rintro e wr ⟨rfl, rfl⟩) | (at_builtin; refine wpList_append_own _ rfl _ _ 32 rfl wS.heap.size 2 i0 (.int .i64 0) 1 8 Tryz.underlying32 (Ja HI) (Ja HZ0) (Ja HZ1) (Ja HZ2) rfl (by decide) _ _ _ rfl ((Ja HOw).alloc _) ⟨wr.heap.size, 0, none⟩ 1 1 [.int .i64 u] rfl rfl ?c1 ?c2 ?c3 ?c4 ?c5 ?_))
      case c1 => intro j v hj; match j, hj with | 0, hj => simp at hj; subst hj; exact (World.cell?_alloc_at _ _ _ _ rfl).trans rfl
      case c2 => intro v hv; simp at hv; subst hv; rfl
      case c3 => unfold maxLen; omega
      case c4 => omega
      case c5 => have := (Ja HBe).size; simp; omega
      · intro v' w4 hown4 hgrow4 _
        have HB4 : Hid (Below wS.heap.size wS w4) := hide (((Ja HBe).alloc (Ja HBe).size _).grown hgrow4 (by have := (Ja HBe).size; simp; omega) (fun q hq => ((Ja HOw).lt q hq).1))
        have HO4 := hide hown4
        clear hown4 hgrow4
        go_wp2_with fail
        go_roundw
        case rel => exact ⟨k + 1, L ++ [u], by go_num, by omega, by rw [Ja HTk, Ja HL], by rw [List.map_append]; exact Ja HO4, Ja HB4⟩
        case measure => simp [intOf]; omega
    · have hkN : k = cn := by omega
      subst hkN
      obtain ⟨vo, vc, hv8, hvle, hcells⟩ := J9 (Ja HOw)
      subst hv8
      have hT : xs.take k = xs := List.take_of_length_le (by rw [← Ja HCL]; exact Nat.le_refl _)
      have hLL := Ja HL
      rw [hT] at hLL
      subst hLL
      have hbF := (Ja HBS).trans ((Ja HBe).mono (Ja HBS).size)
      have HBF := hide hbF
      have HN := hide (Js (P := fun b => P b ∧ b ≠ w.heap.size + 1) (Ja HOw) (fun b hb => ⟨Ja HP b (by omega), by omega⟩))
      clear hown hbel hcells hT hbF
      go_wp2_with fail
      refine bodyPost_ret (v := .agg #[.slice so sn sc, .slice vo k vc]) (by simp [results, Tryz.results150, go_sem, r0', r1']) rfl ⟨vo, k, vc, rfl, Vm (Ja HA) (Ja HBF) (Ja HN), ?_⟩
      exact ((Ja HBF).setCell (p := ⟨w.heap.size + 1, 0, none⟩) (Nat.le_succ _) _).setCell (p := ⟨w.heap.size + 1, 1, none⟩) (Nat.le_succ _) _
end Go.Proofs.YtjobgpahajhbnabGreatDoor
namespace Go.Proofs.YtjobgpahajhbnabGreatDoor
open Go.RowKit Go.Proofs Go.Maps
attribute [local go_sem ↓] Go.wp_at_zero Go.wp_at_succ
theorem Tryz.enters181 : Enters Tryz.prog 181 := Go.Proofs.enters_of Tryz.func181 (by decide) rfl
theorem Tryz.enters125 : Enters Tryz.prog 125 := Go.Proofs.enters_of Tryz.func125 (by decide) rfl
def N0 (xs : List Int) (x : Int) : Int := if x ∈ xs then 1 else 0
set_option maxHeartbeats 400000 in
theorem Jmm {P : Nat → Prop} {W0 : World} (pb : Nat) (hpb : pb < W0.heap.size) (co : Option Addr) (cn cc : Nat) (xs : List Int) (c1 : W0.cell? ⟨pb, 1, none⟩ = some (.slice co cn cc)) (h : Nums P W0 (.slice co cn cc) xs) (hl : xs.length ≤ 200) : CellB 181 pb W0 Jg (N0 xs) where
  enters := Tryz.enters181
  call := by
    intro x w hb _
    have c1' := (hb.cell (p := ⟨pb, 1, none⟩) hpb).trans c1
    have HC := hide (Jas P w co cn cc xs (h.below hb) hl x)
    obtain ⟨d, hd⟩ : ∃ d, decide (x ∈ xs) = d := ⟨_, rfl⟩
    rw [hd] at HC
    have hv : (if d = true then (1 : Int) else 0) = N0 xs x := by
      unfold N0
      rw [← hd]
      by_cases hx : x ∈ xs
      · simp [hx]
      · simp [hx]
    obtain ⟨u, hu⟩ : ∃ u, N0 xs x = u := ⟨_, rfl⟩
    rw [hu] at hv
    rw [hu]
    have HO := hide (fun w' => Xu d u hv w')
    clear hd hv hu h c1 hb
    go_enter Tryz.func181, Tryz.ntmps181
    go_wp2_with (first | (go_at_call 183; refine (Ja HC).mono ?_; rintro e w' ⟨rfl, rfl⟩) | (go_at_call 182; refine (Ja HO _).mono ?_; rintro e w' ⟨rfl, rfl⟩))
    exact bodyPost_ret (v := .int .i64 u) (by simp [results, Tryz.results181, go_sem]) rfl ⟨rfl, rfl⟩
def inP (a b : Arr) : Arr × Int := (⟨a.shape, a.cells.map (N0 b.cells)⟩, 0)
set_option maxHeartbeats 1000000 in
set_option maxRecDepth 20000 in
theorem Jov (w : World) : FnTwo 125 #[] w inP := by
  intro W P u v a b _ hP ha hb hoa hob
  obtain ⟨so, sn, sc, co, cn, cc, rfl, ha1, ha2⟩ := ha
  obtain ⟨so2, sn2, sc2, co2, cn2, cc2, rfl, hb1, hb2⟩ := hb
  have ha : IsArr P W (.agg #[.slice so sn sc, .slice co cn cc]) a := ⟨_, _, _, _, _, _, rfl, ha1, ha2⟩
  obtain ⟨W1, hW1⟩ : ∃ W1, ((W.alloc (.cells #[.slice so sn sc, .slice co cn cc] 57)).alloc (.cells #[.slice so2 sn2 sc2, .slice co2 cn2 cc2] 57)).alloc (.cells #[.slice none 0 0, .slice none 0 0] 57) = W1 := ⟨_, rfl⟩
  have hbW : Below W.heap.size W W1 := by rw [← hW1]; exact (((Below.refl _ _).alloc (Nat.le_refl _) _).alloc (by simp) _).alloc (by simp; omega) _
  have hs1 : W1.heap.size = W.heap.size + 1 + 1 + 1 := by rw [← hW1]; simp
  have k1 : W1.cell? ⟨W.heap.size + 1, 1, none⟩ = some (.slice co2 cn2 cc2) := by
    rw [← hW1, World.cell?_of_block (a := ⟨W.heap.size + 1, 1, none⟩) (RowKit.Below.heap_alloc _ _ _ (by simp))]
    exact (World.cell?_alloc_at _ _ _ _ (by simp)).trans rfl
  have b0 : W1.cell? ⟨W.heap.size, 0, none⟩ = some (.slice so sn sc) := by
    rw [← hW1, World.cell?_of_block (a := ⟨W.heap.size, 0, none⟩) (RowKit.Below.heap_alloc _ _ _ (by simp; omega)), World.cell?_of_block (a := ⟨W.heap.size, 0, none⟩) (RowKit.Below.heap_alloc _ _ _ (by simp))]
    exact (World.cell?_alloc_at _ _ _ _ rfl).trans rfl
  have b1 : W1.cell? ⟨W.heap.size, 1, none⟩ = some (.slice co cn cc) := by
    rw [← hW1, World.cell?_of_block (a := ⟨W.heap.size, 1, none⟩) (RowKit.Below.heap_alloc _ _ _ (by simp; omega)), World.cell?_of_block (a := ⟨W.heap.size, 1, none⟩) (RowKit.Below.heap_alloc _ _ _ (by simp))]
    exact (World.cell?_alloc_at _ _ _ _ rfl).trans rfl
  have r0 : W1.cell? ⟨W.heap.size + 1 + 1, 0, none⟩ = some (.slice none 0 0) := by rw [← hW1]; exact (World.cell?_alloc_at _ _ _ _ (by simp)).trans rfl
  have r1 : W1.cell? ⟨W.heap.size + 1 + 1, 1, none⟩ = some (.slice none 0 0) := by rw [← hW1]; exact (World.cell?_alloc_at _ _ _ _ (by simp)).trans rfl
  have f0 : ∀ i, W1.frozen? ⟨W.heap.size + 1 + 1, i, none⟩ = false := fun i => by rw [← hW1]; exact World.frozen?_alloc_at _ _ _ _ (by simp)
  have HC := hide (Jc8 (N0 b.cells) 181 (W.heap.size + 1) (fun b => P b ∧ b ≠ W.heap.size + 1 + 1) W1 Jg (Jmm (W.heap.size + 1) (by omega) co2 cn2 cc2 b.cells k1 (hb2.below hbW) hob.few) (fun b h' => ⟨hP b (by omega), by omega⟩) so sn sc co cn cc a ((ha.imp (fun b hp hl => ⟨hp, by omega⟩)).below hbW) hoa hoa.fits)
  have HBW := hide hbW
  obtain ⟨r, hr⟩ : ∃ r : Arr, (⟨a.shape, a.cells.map (N0 b.cells)⟩ : Arr) = r := ⟨_, rfl⟩
  have hin : inP a b = (r, 0) := by unfold inP; rw [hr]
  simp only [hr] at HC
  simp only [hin]
  have q0 := f0 0
  have q1 := f0 1
  clear hP hoa hob ha ha1 ha2 hb1 hb2 hr hin k1 hbW f0
  go_enter Tryz.func125, Tryz.ntmps125
  go_wp2_with fail
  try rw [hW1]
  refine (Ja HC).mono ?_
  rintro e w1 ⟨c1, c2, c3, rfl, h1, hb1⟩
  have HA := hide h1
  have hsz := hb1.size
  have d0 := (hb1.cell (p := ⟨W.heap.size + 1 + 1, 0, none⟩) (by show W.heap.size + 1 + 1 < W1.heap.size; omega)).trans r0
  have d1 := (hb1.cell (p := ⟨W.heap.size + 1 + 1, 1, none⟩) (by show W.heap.size + 1 + 1 < W1.heap.size; omega)).trans r1
  have g0 := (hb1.frozen (p := ⟨W.heap.size + 1 + 1, 0, none⟩) (by show W.heap.size + 1 + 1 < W1.heap.size; omega)).trans q0
  have g1 := (hb1.frozen (p := ⟨W.heap.size + 1 + 1, 1, none⟩) (by show W.heap.size + 1 + 1 < W1.heap.size; omega)).trans q1
  have HB : Hid (Below W.heap.size W w1) := hide ((Ja HBW).trans (hb1.mono (Ja HBW).size))
  have hw1 : W.heap.size + 1 + 1 < w1.heap.size := by omega
  clear h1 hb1 r0 r1 q0 q1 HC hW1
  go_wp2_with fail
  refine bodyPost_ret (v := .tuple #[.agg #[.slice so sn sc, .slice c1 c2 c3], .int .i64 0]) (by simp [results, Tryz.results125, go_sem, d0, d1]) rfl ⟨_, _, _, _, _, _, rfl, ?_, ?_⟩
  · exact (((Ja HA).set (fun h => h.2 rfl) 0 _).set (fun h => h.2 rfl) 1 _).imp (fun b h _ => h.1)
  · exact ((Ja HB).setCell (p := ⟨W.heap.size + 1 + 1, 0, none⟩) (by show W.heap.size ≤ W.heap.size + 1 + 1; omega) _).setCell (p := ⟨W.heap.size + 1 + 1, 1, none⟩) (by show W.heap.size ≤ W.heap.size + 1 + 1; omega) _
theorem Jny : TwoC ⟨#[105, 110]⟩ inP := ⟨fun w => (Z3 (t := ⟨#[105, 110]⟩) (k1 := .string [110]) (k2 := .string [105, 110]) (f := 125) (by decide) (by kernel_rfl) (by kernel_rfl) (by kernel_rfl) (by kernel_rfl) (by kernel_rfl) w).mono (by rintro e w' ⟨rfl, hb⟩; exact ⟨125, #[], rfl, Tryz.enters125, hb, Jov w'⟩), fun a b ha hb => ⟨by simpa [inP] using ha.few, fun _ => ⟨ha.rank, ha.lens, by simpa [inP] using ha.size, by simpa [inP] using ha.few, by intro c hc; obtain ⟨x, _, rfl⟩ := List.mem_map.1 hc; unfold N0 Jg; split <;> omega⟩⟩⟩
end Go.Proofs.YtjobgpahajhbnabGreatDoor
namespace Go.Proofs.YtjobgpahajhbnabGreatDoor
open Go.RowKit Go.Proofs Go.Maps
attribute [local go_sem ↓] Go.wp_at_zero Go.wp_at_succ
structure PredC (g : Nat) (lb : Array Value) (W0 : World) (p : Int → Bool) : Prop where
  enters : Enters Tryz.prog g
  call : ∀ (x : Int) (w : World), Below W0.heap.size W0 w → Calls Tryz.prog g (#[.int .i64 x] ++ lb) w fun e w' => e = .returned (.bool (p x)) ∧ w' = w
set_option maxHeartbeats 1000000 in
theorem Jei (P : Nat → Prop) (w W0 : World) (hW : Below W0.heap.size W0 w) (g : Nat) (lb : Array Value) (p : Int → Bool) (hg : PredC g lb W0 p) (co : Option Addr) (cn cc : Nat) (xs : List Int) (h : Nums P w (.slice co cn cc) xs) (hl : xs.length ≤ 200) :
    Calls Tryz.prog 214 #[.slice co cn cc, .func (.func g) #[] lb] w fun e w' => ∃ r : Int, e = .returned (.int .i64 r) ∧ (decide (0 ≤ r) = xs.any p) ∧ w' = w := by
  have hcn := Jf h
  have HX : Hid (0 < cn → ∃ b off, co = some ⟨b, off, none⟩ ∧ b < w.heap.size ∧ ∀ i, (hi : i < xs.length) → w.cell? ⟨b, off + i, none⟩ = some (.int .i64 xs[i])) := by
    intro h0
    obtain ⟨ao, cap, hv, _, h1, _⟩ := h
    injection hv with e1 e2 e3
    obtain ⟨b, off, ha, _, hlt, hc⟩ := h1 (by omega)
    exact ⟨b, off, e1.trans ha, hlt, hc⟩
  have HN := hide hcn
  have HG := hide (fun x => hg.call x w hW)
  have hen2 : ∀ args w, (callFunc g args).run Tryz.prog w = .ok (.enter g args) w := hg.enters
  have hcl : cn ≤ 200 := by omega
  clear h hcn hl hg hW
  go_enter Tryz.func214, Tryz.ntmps214
  go_wp2_with fail
  go_loop [8] (fun v => ∃ k : Nat, v = .int .i64 k ∧ k ≤ cn ∧ ∀ i, (hi : i < xs.length) → i < k → p xs[i] = false) (fun v => cn - (intOf v).toNat)
  case atStart => exact ⟨0, rfl, by omega, fun i _ h => absurd h (by omega)⟩
  case round =>
    obtain ⟨k, rfl, hk, hall⟩ := hrel
    by_cases hkn : k < cn
    · obtain ⟨b, off, rfl, hlt, hc⟩ := Ja HX (by omega)
      have hkx : k < xs.length := by rw [← Ja HN]; exact hkn
      have c0 := hc k hkx
      obtain ⟨y, hy⟩ : ∃ y, xs[k] = y := ⟨_, rfl⟩
      rw [hy] at c0
      have HY := hide hy
      have HA := hide hall
      have hk1 : (k : Int) < (cn : Int) := by omega
      have hk0 : (0 : Int) ≤ (k : Int) := by omega
      have HGy := hide (Ja HG y)
      clear hc hy hall
      cases hp : p y
      · rw [hp] at HGy
        have HP := hide hp
        clear hp
        go_wp2_with (go_at_fn g; refine (Ja HGy).mono ?_; rintro e w' ⟨rfl, rfl⟩)
        exact ⟨⟨k + 1, by simp, by omega, fun i hi hik => by
          by_cases e : i = k
          · subst e; rw [Ja HY]; exact Ja HP
          · exact Ja HA i hi (by omega)⟩, by simp [intOf]; omega⟩
      · rw [hp] at HGy
        have HP := hide hp
        clear hp
        go_wp2_with (go_at_fn g; refine (Ja HGy).mono ?_; rintro e w' ⟨rfl, rfl⟩)
        refine bodyPost_ret (v := .int .i64 k) (by simp [results, Tryz.results214, go_sem]) rfl ⟨k, rfl, ?_, rfl⟩
        have hm : xs.any p = true := List.any_eq_true.2 ⟨y, by rw [← Ja HY]; exact List.getElem_mem hkx, Ja HP⟩
        rw [hm]
        simp
    · have HA := hide hall
      have hke : k = cn := by omega
      clear hall
      go_wp2_with fail
      refine bodyPost_ret (v := .int .i64 (-1)) (by simp [results, Tryz.results214, go_sem]) rfl ⟨-1, rfl, ?_, rfl⟩
      have hm : xs.any p = false := by
        rw [List.any_eq_false]
        intro x hx
        obtain ⟨i, hi, e⟩ := List.getElem_of_mem hx
        have := Ja HA i hi (by rw [hke, Ja HN]; exact hi)
        rw [e] at this
        simp [this]
      rw [hm]
      simp
set_option maxHeartbeats 400000 in
theorem F8 (P : Nat → Prop) (w W0 : World) (hW : Below W0.heap.size W0 w) (g : Nat) (lb : Array Value) (p : Int → Bool) (hg : PredC g lb W0 p) (co : Option Addr) (cn cc : Nat) (xs : List Int) (h : Nums P w (.slice co cn cc) xs) (hl : xs.length ≤ 200) :
    Calls Tryz.prog 203 #[.slice co cn cc, .func (.func g) #[] lb] w fun e w' => e = .returned (.bool (xs.any p)) ∧ w' = w := by
  have HI := hide (Jei P w W0 hW g lb p hg co cn cc xs h hl)
  clear h hl hg hW
  go_enter Tryz.func203, Tryz.ntmps203
  go_wp2_with (go_at_call 214; refine (Ja HI).mono ?_; rintro e w' ⟨r, rfl, hr, rfl⟩; have HR := hide hr; clear hr)
  refine bodyPost_ret (v := .bool (xs.any p)) ?_ rfl ⟨rfl, rfl⟩
  simp [results, Tryz.results203, go_sem, ← Ja HR]
set_option maxHeartbeats 400000 in
theorem Jbw (P : Nat → Prop) (w W0 : World) (hW : Below W0.heap.size W0 w) (g : Nat) (lb : Array Value) (p : Int → Bool) (hg : PredC g lb W0 p) (so : Option Addr) (sn sc : Nat) (co : Option Addr) (cn cc : Nat) (xs : List Int) (h : Nums P w (.slice co cn cc) xs) (hl : xs.length ≤ 200) :
    Calls Tryz.prog 174 #[.agg #[.slice so sn sc, .slice co cn cc], .func (.func g) #[] lb] w fun e w' => e = .returned (.bool (xs.any p)) ∧ w' = w.alloc (.cells #[.slice so sn sc, .slice co cn cc] 57) := by
  have hb0 : Below w.heap.size w (w.alloc (.cells #[.slice so sn sc, .slice co cn cc] 57)) := (Below.refl _ _).alloc (Nat.le_refl _) _
  have HI := hide (F8 P (w.alloc (.cells #[.slice so sn sc, .slice co cn cc] 57)) W0 (hW.trans (hb0.mono hW.size)) g lb p hg co cn cc xs (h.below hb0) hl)
  obtain ⟨d, hd⟩ : ∃ d, xs.any p = d := ⟨_, rfl⟩
  rw [hd] at HI ⊢
  clear h hl hg hW hb0 hd
  go_enter Tryz.func174, Tryz.ntmps174
  go_wp2_with (go_at_call 203; refine (Ja HI).mono ?_; rintro e w' ⟨rfl, rfl⟩)
  exact bodyPost_ret (v := .bool d) (by simp [results, Tryz.results174, go_sem]) rfl ⟨rfl, rfl⟩
set_option maxHeartbeats 400000 in
theorem Zs (w : World) (so : Option Addr) (sn sc : Nat) (co : Option Addr) (cn cc : Nat) :
    Calls Tryz.prog 178 #[.agg #[.slice so sn sc, .slice co cn cc]] w fun e w' => e = .returned (.bool ((sn : Int) == 1)) ∧ w' = (w.alloc (.cells #[.slice so sn sc, .slice co cn cc] 57)).alloc (.cells #[.slice so sn sc, .slice co cn cc] 57) := by
  go_enter Tryz.func178, Tryz.ntmps178
  go_wp2_with (go_at_call 144; refine (Yi _ so sn sc co cn cc).mono ?_; rintro e w' ⟨rfl, rfl⟩)
  exact bodyPost_ret (v := .bool ((sn : Int) == 1)) (by simp [results, Tryz.results178, go_sem]) rfl ⟨rfl, rfl⟩
end Go.Proofs.YtjobgpahajhbnabGreatDoor
