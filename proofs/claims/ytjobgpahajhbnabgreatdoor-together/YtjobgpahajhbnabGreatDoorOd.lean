import Derived.Test.YtjobgpahajhbnabGreatDoorOa
namespace Go.Proofs.YtjobgpahajhbnabGreatDoor
open Go.RowKit Go.Proofs Go.Maps
attribute [local go_sem ↓] Go.wp_at_zero Go.wp_at_succ
def RepW (w : World) (er at_ : Int) (sh cs : List Int) (cost : Int) (e : Ending) (w' : World) : Prop :=
  ∃ so sn sc co cn cc, e = .returned (.agg #[.int .i64 er, .int .i64 at_, .slice so sn sc, .slice co cn cc, .int .i64 cost]) ∧ NumsW (fun b => w.heap.size ≤ b) w' (.slice so sn sc) sh ∧ NumsW (fun b => w.heap.size ≤ b) w' (.slice co cn cc) cs ∧ Below w.heap.size w w'
set_option maxHeartbeats 2000000 in
set_option maxRecDepth 20000 in
theorem Np (env : ByteArray → Option Arr) (fuel : Int) (f1 : ByteArray → Arr → Arr × Int) (f2 : ByteArray → Arr → Arr → Arr × Int) (db : Nat) (w : World) (mr : Option Nat) (s : ByteArray) (hs : s.size ≤ 9223372036854775807) (hD : Dsk db fuel mr w) (h0 : 0 ≤ fuel) (hfl : fuel ≤ 1000) (he : ∀ t a, env t = some a → a.ok) (hL : Look (fun _ => True) w (.map mr) env)
    (hp : (Jw s).1 = 0) (hp2 : (Jw s).2 = 0) (hn : Yl s = ⟨#[]⟩) (hg : ∀ x, Ye s x → Good f1 f2 x) (a : Arr) (c : Nat) (hev : ∀ x, Ye s x → Jt env fuel f1 f2 x 0 = .inr (a, c)) (hl1 : a.shape.length ≤ 200) (hl2 : a.cells.length ≤ 200) :
    Calls Tryz.prog 20 #[.pointer (some ⟨db, 0, none⟩), .string s] w (RepW w 0 0 (a.shape.map Int.ofNat) a.cells c) := by
  have hw1 : Below w.heap.size w (w.alloc (.cells #[.int .i64 0, .int .i64 0, .slice none 0 0, .slice none 0 0, .int .i64 0] 34)) := (Below.refl _ _).alloc (Nat.le_refl _) _
  have HRead := hide (Qz s _ (hD.keep hw1).evs hs)
  have HEx := hide (fun x (hx : Ye s x) B W q hi P hP hl => F1 env fuel f1 f2 B W (.map mr) ⟨_, rfl⟩ h0 hfl he x (hg x hx) q hi P hP hl)
  have HEv := hide hev
  obtain ⟨C, hC⟩ : ∃ C : Int, (c : Int) = C := ⟨_, rfl⟩
  rw [hC]
  have HC := hide hC
  have HDk := hide hD
  have HW1 := hide hw1
  have HL := hide hL
  have HP1 := hide hp
  have HP2 := hide hp2
  have HN := hide hn
  have hdb := hD.lt
  clear hp hp2 hn hC hD hw1 hL h0 hfl he hg hev hs
  go_enter Tryz.func20, Tryz.ntmps20
  go_wp2_with (go_at_call 24; refine (Ja HRead).mono ?_; rintro e w2 ⟨q, rfl, hb2, hx⟩; obtain ⟨x, ht, hx⟩ := hx (Ja HP1); rw [Ja HP1, Ja HP2, Ja HN]; have HB2 : Hid (Below w.heap.size w w2) := hide ((Ja HW1).trans (hb2.mono (Ja HW1).size)); have HT := hide ht; have HX := hide hx; have hb2' := hide hb2; clear hb2 ht hx)
  have HB3 : Hid (Below w2.heap.size w2 (w2.alloc (.cells #[.string ⟨#[]⟩, .pointer q] 63))) := hide ((Below.refl _ _).alloc (Nat.le_refl _) _)
  have z1 : (w2.alloc (.cells #[.string ⟨#[]⟩, .pointer q] 63)).cell? ⟨w2.heap.size, 1, none⟩ = some (.pointer q) := (World.cell?_alloc_at _ _ _ _ rfl).trans rfl
  have z0 : (w2.alloc (.cells #[.string ⟨#[]⟩, .pointer q] 63)).cell? ⟨w2.heap.size, 0, none⟩ = some (.string ⟨#[]⟩) := (World.cell?_alloc_at _ _ _ _ rfl).trans rfl
  have zs : w2.heap.size < (w2.alloc (.cells #[.string ⟨#[]⟩, .pointer q] 63)).heap.size := by simp
  obtain ⟨W3, hW3⟩ : ∃ W3, w2.alloc (.cells #[.string ⟨#[]⟩, .pointer q] 63) = W3 := ⟨_, rfl⟩
  rw [hW3] at HB3 z1 z0 zs ⊢
  have HBW3 : Hid (Below w.heap.size w W3) := hide ((Ja HB2).trans ((Ja HB3).mono (Ja HB2).size))
  have HDk3 := hide ((Ja HDk).keep (Ja HBW3))
  have HZ1 := hide z1
  have HZ0 := hide z0
  clear hW3 z1 z0
  have HEx3 : Hid (∀ w', Below W3.heap.size W3 w' → Calls Tryz.prog 25 #[.pointer q, .map mr, .int .i64 fuel] w' fun e w'' => Below w'.heap.size w' w'' ∧ Below W3.heap.size W3 w'' ∧ ∃ so sn sc co cn cc, e = .returned (.tuple #[.agg #[.slice so sn sc, .slice co cn cc], .int .i64 C, .agg #[.int .i64 0, .int .i64 0]]) ∧ IsArr (fun b => b < W3.heap.size ∨ w'.heap.size ≤ b) w'' (.agg #[.slice so sn sc, .slice co cn cc]) a) := hide (fun w' hb => by
    have hb3 := (Ja HB3).trans (hb.mono (Ja HB3).size)
    have hbw := (Ja HBW3).trans (hb.mono (Ja HBW3).size)
    refine (Ja HEx x (Ja HT) _ w' q ((Ja HX).keep (Behind.of_below hb3)) (fun b => b < W3.heap.size ∨ w'.heap.size ≤ b) (fun b h => .inr h) ((Ja HL).later hbw (fun b _ hl => .inl (Nat.lt_of_lt_of_le hl (Ja HBW3).size)))).mono ?_
    rintro e w'' ⟨h1, h2⟩
    rw [Ja HEv x (Ja HT)] at h2
    simp only [Ja HC] at h2
    exact ⟨h1, hb.trans (h1.mono hb.size), h2⟩)
  have HS : Hid (∀ w', Below W3.heap.size W3 w' → w'.cell? ⟨w2.heap.size, 1, none⟩ = some (.pointer q) ∧ w'.cell? ⟨db, 1, none⟩ = some (.map mr) ∧ w'.cell? ⟨db, 0, none⟩ = some (.int .i64 fuel)) := by
    intro w' hb
    have h := (Ja HDk3).keep hb
    exact ⟨(hb.cell (p := ⟨w2.heap.size, 1, none⟩) zs).trans (Ja HZ1), h.c1, h.c0⟩
  clear HEx HRead HL HEv
  go_upto_region 4 with fail
  go_cut [8, 9, 10] from 22 to 36 (fun v8 v9 v10 wx => v9 = .int .i64 C ∧ ∃ p q so sn sc co cn cc, v8 = .pointer (some ⟨p, 0, none⟩) ∧ v10 = .pointer (some ⟨q, 0, none⟩) ∧ AftX W3 wx p q (.slice so sn sc) (.slice co cn cc) 0 0 ∧ IsArr (Not2 p q) wx (.agg #[.slice so sn sc, .slice co cn cc]) a)
  case first =>
    go_region_held3 (fun w' => w'.cell? ⟨w2.heap.size, 1, none⟩ = some (.pointer q) ∧ w'.cell? ⟨db, 1, none⟩ = some (.map mr) ∧ w'.cell? ⟨db, 0, none⟩ = some (.int .i64 fuel))
      (exact Ja HS _ (by repeat' (first | exact Below.refl _ _ | refine Below.drew ?_ | refine Below.alloc ?_ ?_ _ | refine Below.setCell ?_ ?_ _ | (show _ ≤ _; first | omega | (simp; done) | (simp; omega)) | exact Ja HB5)
                         done))
      ((go_at_call 25; refine (Ja HEx3 _ ?_).mono ?_; (first | exact (Below.refl _ _).drew | exact ((Below.refl _ _).alloc (Nat.le_refl _) _).drew | exact (((Below.refl _ _).alloc (Nat.le_refl _) _).alloc (by simp) _).drew); rintro e w5 ⟨hb5, hb6, so, sn, sc, co, cn, cc, rfl, ha5⟩; have HB5 := hide hb6; have hs5 := hb6.size; have hs6 := hb5.size; (try simp at hs6); (try have hs7 : W3.heap.size < w5.heap.size := by omega); (try have hs8 : W3.heap.size + 1 < w5.heap.size := by omega); (try have hs9 : W3.heap.size ≠ w5.heap.size := by omega); (try have hs10 : W3.heap.size + 1 ≠ w5.heap.size := by omega); have HA5 := hide ha5; obtain ⟨hc5, hf5⟩ := Jr hb5; clear hb5 hb6 ha5))
    all_goals go_wp2_with fail
    all_goals go_meet
    case rel => exact ⟨rfl, _, _, so, sn, sc, co, cn, cc, rfl, rfl, Jo5 (Ja HB5) (Ja HA5)⟩
    case rel => exact ⟨rfl, _, _, so, sn, sc, co, cn, cc, rfl, rfl, Jo4 (Ja HB5) (Ja HA5)⟩
    case rel => exact ⟨rfl, _, _, so, sn, sc, co, cn, cc, rfl, rfl, Jo3 (u0 := .slice none 0 0) (u1 := .slice none 0 0) (Ja HB5) (Ja HA5) (by simp) hs7 ((hc5 _ 0 (by simp)).trans (by simp)) ((hc5 _ 1 (by simp)).trans (by simp))⟩
    case rel => exact ⟨rfl, _, _, so, sn, sc, co, cn, cc, rfl, rfl, Joj (u0 := .slice none 0 0) (u1 := .slice none 0 0) (u2 := .int .i64 0) (u3 := .int .i64 0) (Ja HB5) (Ja HA5) ⟨by omega, (by simp <;> omega), by omega⟩ ⟨by omega, (by simp <;> omega), by omega⟩ (by omega) ((hc5 _ 0 (by simp <;> omega)).trans (by simp)) ((hc5 _ 1 (by simp <;> omega)).trans (by simp)) ((hc5 _ 0 (by simp <;> omega)).trans (by simp)) ((hc5 _ 1 (by simp <;> omega)).trans (by simp))⟩
    case rel => exact ⟨rfl, _, _, so, sn, sc, co, cn, cc, rfl, rfl, Jo2 (u0 := .int .i64 0) (u1 := .int .i64 0) (Ja HB5) (Ja HA5) (by simp) hs7 ((hc5 _ 0 (by simp)).trans (by simp)) ((hc5 _ 1 (by simp)).trans (by simp))⟩
    case rel => exact ⟨rfl, _, _, so, sn, sc, co, cn, cc, rfl, rfl, Joj (u0 := .slice none 0 0) (u1 := .slice none 0 0) (u2 := .int .i64 0) (u3 := .int .i64 0) (Ja HB5) (Ja HA5) ⟨by omega, (by simp <;> omega), by omega⟩ ⟨by omega, (by simp <;> omega), by omega⟩ (by omega) ((hc5 _ 0 (by simp <;> omega)).trans (by simp)) ((hc5 _ 1 (by simp <;> omega)).trans (by simp)) ((hc5 _ 0 (by simp <;> omega)).trans (by simp)) ((hc5 _ 1 (by simp <;> omega)).trans (by simp))⟩
  case rest =>
    obtain ⟨rfl, p, qf, so, sn, sc, co, cn, cc, rfl, rfl, hX, hA⟩ := hcut
    have bel := hX.bel
    have yf := hX.f0
    have yn : wc.cell? ⟨w2.heap.size, 0, none⟩ = some (.string ⟨#[]⟩) := (bel.cell (p := ⟨w2.heap.size, 0, none⟩) zs).trans (Ja HZ0)
    have ya0 := hX.a0
    have ya1 := hX.a1
    have hpl := hX.hp
    have hql := hX.hq
    have hbc : Below (w.heap.size + 1) (w.alloc (.cells #[.int .i64 0, .int .i64 0, .slice none 0 0, .slice none 0 0, .int .i64 0] 34)) wc := by
      have h1 := Ja hb2'
      simp only [World.size_alloc] at h1
      have h2 := (Ja HB3).size
      have h3 := h1.size
      simp at h3
      exact (h1.trans ((Ja HB3).mono (by omega))).trans (bel.mono (by omega))
    have hwc : w.heap.size + 1 ≤ wc.heap.size := by have := hbc.size; simp at this; omega
    have hpr : p ≠ w.heap.size := by
      have h1 := (Ja HBW3).size
      have h2 := hX.lp
      have h3 := (Ja hb2').size
      have h4 := (Ja HB3).size
      simp at h3
      omega
    obtain ⟨n1, n2⟩ := G2 hA
    have HR : Hid (∀ w', Below wc.heap.size wc w' → (∀ i, w'.cell? ⟨w.heap.size, i, none⟩ = (w.alloc (.cells #[.int .i64 0, .int .i64 0, .slice none 0 0, .slice none 0 0, .int .i64 0] 34)).cell? ⟨w.heap.size, i, none⟩) ∧ (∀ i, w'.frozen? ⟨w.heap.size, i, none⟩ = false)) := hide (fun w' hb => by
      have h := hbc.trans (hb.mono hwc)
      refine ⟨fun i => h.cell (p := ⟨w.heap.size, i, none⟩) (by show w.heap.size < w.heap.size + 1; omega), fun i => ?_⟩
      rw [h.frozen (p := ⟨w.heap.size, i, none⟩) (by show w.heap.size < w.heap.size + 1; omega)]
      exact World.frozen?_alloc_at _ _ _ _ rfl)
    have HSh : Hid (∀ w', Below wc.heap.size wc w' → Calls Tryz.prog 27 #[.agg #[.slice so sn sc, .slice co cn cc]] w' fun e w'' => ∃ so sn sc, e = .returned (.slice so sn sc) ∧ NumsW (fun b => wc.heap.size ≤ b) w'' (.slice so sn sc) (a.shape.map Int.ofNat) ∧ Below w'.heap.size w' w'' ∧ Below wc.heap.size wc w'') := hide (fun w' hb => (Jfj (fun b => wc.heap.size ≤ b) w' (fun b h => Nat.le_trans hb.size h) so sn sc co cn cc _ (n1.below hb) (by simpa using hl1)).mono (fun e w'' ⟨x1, x2, x3, h1, h2, h3⟩ => ⟨x1, x2, x3, h1, h2, h3, hb.trans (h3.mono hb.size)⟩))
    have HCe : Hid (∀ w', Below wc.heap.size wc w' → Calls Tryz.prog 28 #[.agg #[.slice so sn sc, .slice co cn cc]] w' fun e w'' => ∃ so sn sc, e = .returned (.slice so sn sc) ∧ NumsW (fun b => wc.heap.size ≤ b) w'' (.slice so sn sc) a.cells ∧ Below w'.heap.size w' w'' ∧ Below wc.heap.size wc w'') := hide (fun w' hb => (Jii (fun b => wc.heap.size ≤ b) w' (fun b h => Nat.le_trans hb.size h) so sn sc co cn cc _ (n2.below hb) hl2).mono (fun e w'' ⟨x1, x2, x3, h1, h2, h3⟩ => ⟨x1, x2, x3, h1, h2, h3, hb.trans (h3.mono hb.size)⟩))
    have HS9 : Hid (∀ w', Below wc.heap.size wc w' → w'.cell? ⟨p, 0, none⟩ = some (.slice so sn sc) ∧ w'.cell? ⟨p, 1, none⟩ = some (.slice co cn cc)) := hide (fun w' hb => ⟨(hb.cell (p := ⟨p, 0, none⟩) hX.hp).trans hX.a0, (hb.cell (p := ⟨p, 1, none⟩) hX.hp).trans hX.a1⟩)
    have HBc : Hid (Below w.heap.size w wc) := hide ((Ja HBW3).trans (bel.mono (Ja HBW3).size))
    clear hX hA bel hbc n1 n2 hl1 hl2 HEx3 HS
    go_wp2_with fail
    go_region_held3 (fun w' => w'.cell? ⟨p, 0, none⟩ = some (.slice so sn sc) ∧ w'.cell? ⟨p, 1, none⟩ = some (.slice co cn cc))
      (first
        | exact Ja HS9 _ (Below.refl _ _).drew
        | exact Ja HS9 _ (Ja HB6)
        | exact Ja HS9 _ (Ja HB7)
        | (refine ⟨?_, ?_⟩ <;> rw [World.cell?_setCell_other _ _ _ _ (by intro e; injection e; omega), World.cell?_setCell_other _ _ _ _ (by intro e; injection e; omega), World.cell?_setCell_other _ _ _ _ (by intro e; injection e; omega), World.cell?_setCell_other _ _ _ _ (by intro e; injection e; omega), World.cell?_setCell_other _ _ _ _ (by intro e; injection e; omega)]; exact (Ja HS9 _ (Ja HB7)).1; exact (Ja HS9 _ (Ja HB7)).2)
        | (trace_state; fail))
      (first
        | (go_at_call 27; refine (Ja HSh _ ?_).mono ?_; (first | exact (Below.refl _ _).drew | exact Ja HB7 | exact Below.refl _ _); rintro e w6 ⟨so1, sn1, sc1, rfl, hn6, hb6, hc6⟩; have HN6 := hide hn6; have HB6 := hide hc6; have HL6 := hide hb6; obtain ⟨d6, f6⟩ := Ja HR _ hc6; clear hn6 hb6 hc6)
        | (go_at_call 28; refine (Ja HCe _ ?_).mono ?_; (first | exact (Below.refl _ _).drew | exact Ja HB6 | exact Below.refl _ _); rintro e w7 ⟨co1, cn1, cc1, rfl, hn7, hb7, hc7⟩; have HN7 := hide hn7; have HB7 := hide hc7; have HL7 := hide hb7; obtain ⟨d7, f7⟩ := Ja HR _ hc7; clear hn7 hb7 hc7))
    have e0 := (d7 0).trans ((World.cell?_alloc_at _ _ _ _ rfl).trans rfl)
    have e1 := (d7 1).trans ((World.cell?_alloc_at _ _ _ _ rfl).trans rfl)
    have e2 := (d7 2).trans ((World.cell?_alloc_at _ _ _ _ rfl).trans rfl)
    have e3 := (d7 3).trans ((World.cell?_alloc_at _ _ _ _ rfl).trans rfl)
    have e4 := (d7 4).trans ((World.cell?_alloc_at _ _ _ _ rfl).trans rfl)
    have hno : ¬ (fun b => wc.heap.size ≤ b) w.heap.size := by show ¬ wc.heap.size ≤ w.heap.size; omega
    have M1 := hide ((((((Ja HN6).below (Ja HL7)).set hno 0 (.int .i64 0)).set hno 1 (.int .i64 0)).set hno 2 (.slice so1 sn1 sc1)).set hno 3 (.slice co1 cn1 cc1) |>.set hno 4 (.int .i64 C))
    have M2 := hide ((((((Ja HN7)).set hno 0 (.int .i64 0)).set hno 1 (.int .i64 0)).set hno 2 (.slice so1 sn1 sc1)).set hno 3 (.slice co1 cn1 cc1) |>.set hno 4 (.int .i64 C))
    have M3 : Hid (Below w.heap.size w w7) := hide ((Ja HBc).trans ((Ja HB7).mono (Ja HBc).size))
    have hwl : w.heap.size ≤ wc.heap.size := by omega
    clear d6 d7 HR HSh HCe HS9 HDk HDk3
    go_wp2_with fail
    refine bodyPost_ret (v := .agg #[.int .i64 0, .int .i64 0, .slice so1 sn1 sc1, .slice co1 cn1 cc1, .int .i64 C]) (by simp [results, Tryz.results20, go_sem, e0, e1, e2, e3, e4]) rfl ⟨so1, sn1, sc1, co1, cn1, cc1, rfl, (Ja M1).imp (fun b h _ => Nat.le_trans hwl h), (Ja M2).imp (fun b h _ => Nat.le_trans hwl h), ?_⟩
    exact (((((Ja M3).setCell (p := ⟨w.heap.size, 0, none⟩) (Nat.le_refl _) _).setCell (p := ⟨w.heap.size, 1, none⟩) (Nat.le_refl _) _).setCell (p := ⟨w.heap.size, 2, none⟩) (Nat.le_refl _) _).setCell (p := ⟨w.heap.size, 3, none⟩) (Nat.le_refl _) _).setCell (p := ⟨w.heap.size, 4, none⟩) (Nat.le_refl _) _
def Jpb (X0 : Nat → Prop) (db : Nat) (fuel : Int) (env : ByteArray → Option Arr) (N : Nat) (mo : Option Nat) (w : World) (nm : ByteArray) (a : Arr) (cost : Int) (e : Ending) (w' : World) : Prop :=
  ∃ m so sn sc co cn cc, w.heap.size ≤ m ∧ e = .returned (.agg #[.int .i64 0, .int .i64 0, .slice so sn sc, .slice co cn cc, .int .i64 cost]) ∧ NumsW (fun b => m ≤ b) w' (.slice so sn sc) (a.shape.map Int.ofNat) ∧ NumsW (fun b => m ≤ b) w' (.slice co cn cc) a.cells ∧
    (∃ mo', DskN (fun b => X0 b ∨ (w.heap.size ≤ b ∧ b < m ∧ mo' ≠ some b)) db fuel (upd env nm a) (N + 1) mo' w' ∧ (∀ b, mo' = some b → b < m) ∧ ∀ b, b < w.heap.size → mo' = some b → mo = some b) ∧ Bs (Own db mo) w w'
set_option maxHeartbeats 2000000 in
set_option maxRecDepth 20000 in
theorem Nq (X0 : Nat → Prop) (env : ByteArray → Option Arr) (fuel : Int) (f1 : ByteArray → Arr → Arr × Int) (f2 : ByteArray → Arr → Arr → Arr × Int) (db : Nat) (w : World) (mr : Option Nat) (N : Nat) (hN : N < 1000) (s : ByteArray) (hs : s.size ≤ 9223372036854775807) (hD0 : DskN X0 db fuel env N mr w) (hx0 : ∀ b, X0 b → b < w.heap.size) (h0 : 0 ≤ fuel) (hfl : fuel ≤ 1000) (he : ∀ t a, env t = some a → a.ok)
    (hp : (Jw s).1 = 0) (hp2 : (Jw s).2 = 0) (nm : ByteArray) (hn : Yl s = nm) (hne : 0 < nm.size) (hnl : nm.size ≤ 200) (hg : ∀ x, Ye s x → Good f1 f2 x) (a : Arr) (c : Nat) (hev : ∀ x, Ye s x → Jt env fuel f1 f2 x 0 = .inr (a, c)) (hl1 : a.shape.length ≤ 200) (hl2 : a.cells.length ≤ 200) :
    Calls Tryz.prog 20 #[.pointer (some ⟨db, 0, none⟩), .string s] w (Jpb X0 db fuel env N mr w nm a c) := by
  have hmo := hD0.moLt
  have hX0d := hD0.out
  have hX0m : ∀ mb, mr = some mb → ¬ X0 mb := by
    intro mb e
    subst e
    exact hD0.map.2.2.1
  have hD : DskN (Xr X0 db mr w.heap.size) db fuel env N mr w := hD0.imp (fun b hb hl => ⟨Or.inl hb, fun e => hX0d (by rw [← e]; exact hb), fun e => hX0m b e hb, by omega⟩) (fun h => h.nd rfl) (fun mb e h => h.nm e)
  have hlow := hD0.low
  have hw1 : Below w.heap.size w (w.alloc (.cells #[.int .i64 0, .int .i64 0, .slice none 0 0, .slice none 0 0, .int .i64 0] 34)) := (Below.refl _ _).alloc (Nat.le_refl _) _
  have HRead := hide (Qz s _ (hD.below hw1).evs hs)
  have HEx := hide (fun x (hx : Ye s x) B W q hi P hP hl => F1 env fuel f1 f2 B W (.map mr) ⟨_, rfl⟩ h0 hfl he x (hg x hx) q hi P hP hl)
  have HEv := hide hev
  obtain ⟨C, hC⟩ : ∃ C : Int, (c : Int) = C := ⟨_, rfl⟩
  rw [hC]
  have HC := hide hC
  have HDk := hide hD
  have HL := hide hD.look
  have HW1 := hide hw1
  have HP1 := hide hp
  have HP2 := hide hp2
  have HN := hide hn
  have hdb := hD.lt
  clear hp hp2 hn hC hD hD0 hw1 h0 hfl he hg hev hs
  go_enter Tryz.func20, Tryz.ntmps20
  go_wp2_with (go_at_call 24; refine (Ja HRead).mono ?_; rintro e w2 ⟨q, rfl, hb2, hx⟩; obtain ⟨x, ht, hx⟩ := hx (Ja HP1); rw [Ja HP1, Ja HP2, Ja HN]; have HB2 : Hid (Below w.heap.size w w2) := hide ((Ja HW1).trans (hb2.mono (Ja HW1).size)); have HT := hide ht; have HX := hide hx; have hb2' := hide hb2; clear hb2 ht hx)
  have HB3 : Hid (Below w2.heap.size w2 (w2.alloc (.cells #[.string nm, .pointer q] 63))) := hide ((Below.refl _ _).alloc (Nat.le_refl _) _)
  have z1 : (w2.alloc (.cells #[.string nm, .pointer q] 63)).cell? ⟨w2.heap.size, 1, none⟩ = some (.pointer q) := (World.cell?_alloc_at _ _ _ _ rfl).trans rfl
  have z0 : (w2.alloc (.cells #[.string nm, .pointer q] 63)).cell? ⟨w2.heap.size, 0, none⟩ = some (.string nm) := (World.cell?_alloc_at _ _ _ _ rfl).trans rfl
  have zs : w2.heap.size < (w2.alloc (.cells #[.string nm, .pointer q] 63)).heap.size := by simp
  obtain ⟨W3, hW3⟩ : ∃ W3, w2.alloc (.cells #[.string nm, .pointer q] 63) = W3 := ⟨_, rfl⟩
  rw [hW3] at HB3 z1 z0 zs ⊢
  have HBW3 : Hid (Below w.heap.size w W3) := hide ((Ja HB2).trans ((Ja HB3).mono (Ja HB2).size))
  have HDk3 := hide ((Ja HDk).below (Ja HBW3))
  have HZ1 := hide z1
  have HZ0 := hide z0
  clear hW3 z1 z0
  have HEx3 : Hid (∀ w', Below W3.heap.size W3 w' → Calls Tryz.prog 25 #[.pointer q, .map mr, .int .i64 fuel] w' fun e w'' => Below w'.heap.size w' w'' ∧ Below W3.heap.size W3 w'' ∧ ∃ so sn sc co cn cc, e = .returned (.tuple #[.agg #[.slice so sn sc, .slice co cn cc], .int .i64 C, .agg #[.int .i64 0, .int .i64 0]]) ∧ IsArr (fun b => (b < W3.heap.size ∨ w'.heap.size ≤ b) ∧ Xr X0 db mr w.heap.size b) w'' (.agg #[.slice so sn sc, .slice co cn cc]) a) := hide (fun w' hb => by
    have hb3 := (Ja HB3).trans (hb.mono (Ja HB3).size)
    have hbw := (Ja HBW3).trans (hb.mono (Ja HBW3).size)
    refine (Ja HEx x (Ja HT) _ w' q ((Ja HX).keep (Behind.of_below hb3)) (fun b => (b < W3.heap.size ∨ w'.heap.size ≤ b) ∧ Xr X0 db mr w.heap.size b) (fun b h => ⟨.inr h, by have h1 := hb3.size; have h2 := hbw.size; have h3 := (Ja HW1).size; have h4 := (Ja hb2').size; simp at h4; have h5 := (Ja HB3).size; have h6 := hb.size; exact ⟨Or.inr (by omega), by omega, fun e => by have := hmo b e; omega, by omega⟩⟩) ((Ja HL).later hbw (fun b hb hl => ⟨.inl (Nat.lt_of_lt_of_le hl (Ja HBW3).size), hb⟩))).mono ?_
    rintro e w'' ⟨h1, h2⟩
    rw [Ja HEv x (Ja HT)] at h2
    simp only [Ja HC] at h2
    exact ⟨h1, hb.trans (h1.mono hb.size), h2⟩)
  have HS : Hid (∀ w', Below W3.heap.size W3 w' → w'.cell? ⟨w2.heap.size, 1, none⟩ = some (.pointer q) ∧ w'.cell? ⟨db, 1, none⟩ = some (.map mr) ∧ w'.cell? ⟨db, 0, none⟩ = some (.int .i64 fuel)) := by
    intro w' hb
    have h := (Ja HDk3).below hb
    exact ⟨(hb.cell (p := ⟨w2.heap.size, 1, none⟩) zs).trans (Ja HZ1), h.c1, h.c0⟩
  clear HEx HRead HL HEv
  go_upto_region 4 with fail
  go_cut [8, 9, 10] from 22 to 36 (fun v8 v9 v10 wx => v9 = .int .i64 C ∧ ∃ p q so sn sc co cn cc, v8 = .pointer (some ⟨p, 0, none⟩) ∧ v10 = .pointer (some ⟨q, 0, none⟩) ∧ AftX W3 wx p q (.slice so sn sc) (.slice co cn cc) 0 0 ∧ IsArr (fun b => Not2 p q b ∧ Xr X0 db mr w.heap.size b) wx (.agg #[.slice so sn sc, .slice co cn cc]) a)
  case first =>
    go_region_held3 (fun w' => w'.cell? ⟨w2.heap.size, 1, none⟩ = some (.pointer q) ∧ w'.cell? ⟨db, 1, none⟩ = some (.map mr) ∧ w'.cell? ⟨db, 0, none⟩ = some (.int .i64 fuel))
      (exact Ja HS _ (by repeat' (first | exact Below.refl _ _ | refine Below.drew ?_ | refine Below.alloc ?_ ?_ _ | refine Below.setCell ?_ ?_ _ | (show _ ≤ _; first | omega | (simp; done) | (simp; omega)) | exact Ja HB5)
                         done))
      ((go_at_call 25; refine (Ja HEx3 _ ?_).mono ?_; (first | exact (Below.refl _ _).drew | exact ((Below.refl _ _).alloc (Nat.le_refl _) _).drew | exact (((Below.refl _ _).alloc (Nat.le_refl _) _).alloc (by simp) _).drew); rintro e w5 ⟨hb5, hb6, so, sn, sc, co, cn, cc, rfl, ha5⟩; have HB5 := hide hb6; have hs5 := hb6.size; have hs6 := hb5.size; (try simp at hs6); (try have hs7 : W3.heap.size < w5.heap.size := by omega); (try have hs8 : W3.heap.size + 1 < w5.heap.size := by omega); (try have hs9 : W3.heap.size ≠ w5.heap.size := by omega); (try have hs10 : W3.heap.size + 1 ≠ w5.heap.size := by omega); have HA5 := hide ha5; obtain ⟨hc5, hf5⟩ := Jr hb5; clear hb5 hb6 ha5))
    all_goals go_wp2_with fail
    all_goals go_meet
    case rel => exact ⟨rfl, _, _, so, sn, sc, co, cn, cc, rfl, rfl, Jo1 (Ja HB5) ((Ja HA5).imp (fun b h _ => h.2))⟩
    case rel => exact ⟨rfl, _, _, so, sn, sc, co, cn, cc, rfl, rfl, Jo0 (Ja HB5) ((Ja HA5).imp (fun b h _ => h.2))⟩
    case rel => exact ⟨rfl, _, _, so, sn, sc, co, cn, cc, rfl, rfl, Joz (u0 := .slice none 0 0) (u1 := .slice none 0 0) (Ja HB5) (Ja HA5) (by simp) hs7 ((hc5 _ 0 (by simp)).trans (by simp)) ((hc5 _ 1 (by simp)).trans (by simp))⟩
    case rel => exact ⟨rfl, _, _, so, sn, sc, co, cn, cc, rfl, rfl, Joi (u0 := .slice none 0 0) (u1 := .slice none 0 0) (u2 := .int .i64 0) (u3 := .int .i64 0) (Ja HB5) (Ja HA5) ⟨by omega, (by simp <;> omega), by omega⟩ ⟨by omega, (by simp <;> omega), by omega⟩ (by omega) ((hc5 _ 0 (by simp <;> omega)).trans (by simp)) ((hc5 _ 1 (by simp <;> omega)).trans (by simp)) ((hc5 _ 0 (by simp <;> omega)).trans (by simp)) ((hc5 _ 1 (by simp <;> omega)).trans (by simp))⟩
    case rel => exact ⟨rfl, _, _, so, sn, sc, co, cn, cc, rfl, rfl, Joy (u0 := .int .i64 0) (u1 := .int .i64 0) (Ja HB5) (Ja HA5) (by simp) hs7 ((hc5 _ 0 (by simp)).trans (by simp)) ((hc5 _ 1 (by simp)).trans (by simp))⟩
    case rel => exact ⟨rfl, _, _, so, sn, sc, co, cn, cc, rfl, rfl, Joi (u0 := .slice none 0 0) (u1 := .slice none 0 0) (u2 := .int .i64 0) (u3 := .int .i64 0) (Ja HB5) (Ja HA5) ⟨by omega, (by simp <;> omega), by omega⟩ ⟨by omega, (by simp <;> omega), by omega⟩ (by omega) ((hc5 _ 0 (by simp <;> omega)).trans (by simp)) ((hc5 _ 1 (by simp <;> omega)).trans (by simp)) ((hc5 _ 0 (by simp <;> omega)).trans (by simp)) ((hc5 _ 1 (by simp <;> omega)).trans (by simp))⟩
  case rest =>
    obtain ⟨rfl, p, qf, so, sn, sc, co, cn, cc, rfl, rfl, hX, hA⟩ := hcut
    have bel := hX.bel
    have yf := hX.f0
    have yn : wc.cell? ⟨w2.heap.size, 0, none⟩ = some (.string nm) := (bel.cell (p := ⟨w2.heap.size, 0, none⟩) zs).trans (Ja HZ0)
    have ya0 := hX.a0
    have ya1 := hX.a1
    have hpl := hX.hp
    have hql := hX.hq
    have hbc : Below (w.heap.size + 1) (w.alloc (.cells #[.int .i64 0, .int .i64 0, .slice none 0 0, .slice none 0 0, .int .i64 0] 34)) wc := by
      have h1 := Ja hb2'
      simp only [World.size_alloc] at h1
      have h2 := (Ja HB3).size
      have h3 := h1.size
      simp at h3
      exact (h1.trans ((Ja HB3).mono (by omega))).trans (bel.mono (by omega))
    have hwc : w.heap.size + 1 ≤ wc.heap.size := by have := hbc.size; simp at this; omega
    have hpr : p ≠ w.heap.size ∧ w.heap.size < p := by
      have h2 := hX.lp
      have h3 := (Ja hb2').size
      have h4 := (Ja HB3).size
      simp at h3
      omega
    have hDc := (Ja HDk3).below bel
    have HDc := hide (hDc.imp (X' := fun b => Xr X0 db mr w.heap.size b ∧ b < wc.heap.size) (fun b h hl => ⟨h, hl⟩) (fun h => h.1.nd rfl) (fun mb e h => h.1.nm e))
    have HK := hide (Jkg (fun b => Xr X0 db mr w.heap.size b ∧ b < wc.heap.size) db fuel env N mr wc (Ja HDc) hN nm hnl so sn sc co cn cc a (hA.imp (fun b h hl => ⟨h.2, hl⟩)) (fun h => by have := h.2; omega))
    have HA := hide hA
    have hnb : nm.toList.isEmpty = false := ne1 nm hne
    have HBc : Hid (Below w.heap.size w wc) := hide ((Ja HBW3).trans (bel.mono (Ja HBW3).size))
    have HZ := hide hX
    have HBC := hide hbc
    clear hX hA bel hDc hbc HEx3 HS HN
    go_wp2_with fail
    refine (Ja HK).mono ?_
    rintro e wk ⟨rfl, ⟨mo', hDk, hmo'⟩, hbs⟩
    have hwk := hbs.size
    have hno1 : ¬ Own db mr p := Fx (by omega) (fun e => by have := hmo p e; omega)
    have hno2 : ¬ Own db mr w.heap.size := Fx (by omega) (fun e => by have := hmo _ e; omega)
    have hcp := fun i => hbs.cell (b := p) (o := i) (Ja HZ).hp hno1
    have xa0 := (hcp 0).trans (Ja HZ).a0
    have xa1 := (hcp 1).trans (Ja HZ).a1
    have hpk : p < wk.heap.size := by omega
    have hrk : w.heap.size < wk.heap.size := by omega
    obtain ⟨n1, n2⟩ := G2 (Ja HA)
    have m1 := n1.keep hwk (fun b hb hl => hbs.block b hl (Fx hb.2.nd hb.2.nm))
    have m2 := n2.keep hwk (fun b hb hl => hbs.block b hl (Fx hb.2.nd hb.2.nm))
    have HR : Hid (∀ w', Below wk.heap.size wk w' → (∀ i, w'.cell? ⟨w.heap.size, i, none⟩ = (w.alloc (.cells #[.int .i64 0, .int .i64 0, .slice none 0 0, .slice none 0 0, .int .i64 0] 34)).cell? ⟨w.heap.size, i, none⟩) ∧ (∀ i, w'.frozen? ⟨w.heap.size, i, none⟩ = false)) := hide (fun w' hb => by
      refine ⟨fun i => ?_, fun i => ?_⟩
      · rw [hb.cell (p := ⟨w.heap.size, i, none⟩) hrk, hbs.cell (b := w.heap.size) (o := i) (by omega) hno2]
        exact (Ja HBC).cell (p := ⟨w.heap.size, i, none⟩) (by show w.heap.size < w.heap.size + 1; omega)
      · rw [hb.frozen (p := ⟨w.heap.size, i, none⟩) hrk, hbs.frozen (b := w.heap.size) (o := i) (by omega) hno2, (Ja HBC).frozen (p := ⟨w.heap.size, i, none⟩) (by show w.heap.size < w.heap.size + 1; omega)]
        exact World.frozen?_alloc_at _ _ _ _ rfl)
    have HSh : Hid (∀ w', Below wk.heap.size wk w' → Calls Tryz.prog 27 #[.agg #[.slice so sn sc, .slice co cn cc]] w' fun e w'' => ∃ so sn sc, e = .returned (.slice so sn sc) ∧ NumsW (fun b => wk.heap.size ≤ b) w'' (.slice so sn sc) (a.shape.map Int.ofNat) ∧ Below w'.heap.size w' w'' ∧ Below wk.heap.size wk w'') := hide (fun w' hb => (Jfj (fun b => wk.heap.size ≤ b) w' (fun b h => Nat.le_trans hb.size h) so sn sc co cn cc _ (m1.below hb) (by simpa using hl1)).mono (fun e w'' ⟨x1, x2, x3, h1, h2, h3⟩ => ⟨x1, x2, x3, h1, h2, h3, hb.trans (h3.mono hb.size)⟩))
    have HCe : Hid (∀ w', Below wk.heap.size wk w' → Calls Tryz.prog 28 #[.agg #[.slice so sn sc, .slice co cn cc]] w' fun e w'' => ∃ so sn sc, e = .returned (.slice so sn sc) ∧ NumsW (fun b => wk.heap.size ≤ b) w'' (.slice so sn sc) a.cells ∧ Below w'.heap.size w' w'' ∧ Below wk.heap.size wk w'') := hide (fun w' hb => (Jii (fun b => wk.heap.size ≤ b) w' (fun b h => Nat.le_trans hb.size h) so sn sc co cn cc _ (m2.below hb) hl2).mono (fun e w'' ⟨x1, x2, x3, h1, h2, h3⟩ => ⟨x1, x2, x3, h1, h2, h3, hb.trans (h3.mono hb.size)⟩))
    have HS9 : Hid (∀ w', Below wk.heap.size wk w' → w'.cell? ⟨p, 0, none⟩ = some (.slice so sn sc) ∧ w'.cell? ⟨p, 1, none⟩ = some (.slice co cn cc)) := hide (fun w' hb => ⟨(hb.cell (p := ⟨p, 0, none⟩) hpk).trans xa0, (hb.cell (p := ⟨p, 1, none⟩) hpk).trans xa1⟩)
    have HDK := hide hDk
    have HBS := hide hbs
    have HMO := hide hmo'
    have hpr1 := hpr.1
    clear n1 n2 m1 m2 hl1 hl2 hcp hDk hbs hmo' yf yn ya0 ya1 hmo hpr HK
    go_wp2_with fail
    go_region_held3 (fun w' => w'.cell? ⟨p, 0, none⟩ = some (.slice so sn sc) ∧ w'.cell? ⟨p, 1, none⟩ = some (.slice co cn cc))
      (first
        | exact Ja HS9 _ (Below.refl _ _).drew
        | exact Ja HS9 _ (Ja HB6)
        | exact Ja HS9 _ (Ja HB7)
        | (refine ⟨?_, ?_⟩ <;> rw [World.cell?_setCell_other _ _ _ _ (by intro e; injection e; omega), World.cell?_setCell_other _ _ _ _ (by intro e; injection e; omega), World.cell?_setCell_other _ _ _ _ (by intro e; injection e; omega), World.cell?_setCell_other _ _ _ _ (by intro e; injection e; omega), World.cell?_setCell_other _ _ _ _ (by intro e; injection e; omega)]; exact (Ja HS9 _ (Ja HB7)).1; exact (Ja HS9 _ (Ja HB7)).2)
        | (trace_state; fail))
      (first
        | (go_at_call 27; refine (Ja HSh _ ?_).mono ?_; (first | exact (Below.refl _ _).drew | exact Ja HB7 | exact Below.refl _ _); rintro e w6 ⟨so1, sn1, sc1, rfl, hn6, hb6, hc6⟩; have HN6 := hide hn6; have HB6 := hide hc6; have HL6 := hide hb6; obtain ⟨d6, f6⟩ := Ja HR _ hc6; clear hn6 hb6 hc6)
        | (go_at_call 28; refine (Ja HCe _ ?_).mono ?_; (first | exact (Below.refl _ _).drew | exact Ja HB6 | exact Below.refl _ _); rintro e w7 ⟨co1, cn1, cc1, rfl, hn7, hb7, hc7⟩; have HN7 := hide hn7; have HB7 := hide hc7; have HL7 := hide hb7; obtain ⟨d7, f7⟩ := Ja HR _ hc7; clear hn7 hb7 hc7))
    have e0 := (d7 0).trans ((World.cell?_alloc_at _ _ _ _ rfl).trans rfl)
    have e1 := (d7 1).trans ((World.cell?_alloc_at _ _ _ _ rfl).trans rfl)
    have e2 := (d7 2).trans ((World.cell?_alloc_at _ _ _ _ rfl).trans rfl)
    have e3 := (d7 3).trans ((World.cell?_alloc_at _ _ _ _ rfl).trans rfl)
    have e4 := (d7 4).trans ((World.cell?_alloc_at _ _ _ _ rfl).trans rfl)
    have hno : ¬ (fun b => wk.heap.size ≤ b) w.heap.size := by show ¬ wk.heap.size ≤ w.heap.size; omega
    have M1 := hide ((((((Ja HN6).below (Ja HL7)).set hno 0 (.int .i64 0)).set hno 1 (.int .i64 0)).set hno 2 (.slice so1 sn1 sc1)).set hno 3 (.slice co1 cn1 cc1) |>.set hno 4 (.int .i64 C))
    have M2 := hide ((((((Ja HN7)).set hno 0 (.int .i64 0)).set hno 1 (.int .i64 0)).set hno 2 (.slice so1 sn1 sc1)).set hno 3 (.slice co1 cn1 cc1) |>.set hno 4 (.int .i64 C))
    have hwl : w.heap.size ≤ wk.heap.size := by omega
    have hx9 : ¬ (fun b => Xr X0 db mr w.heap.size b ∧ b < wc.heap.size) w.heap.size := fun h => h.1.nr rfl
    have hmr : mo' ≠ some w.heap.size := fun e => hno2 (Or.inr (Ja HMO _ (by omega) e))
    have h6 : 6 ≤ w.heap.size := by omega
    have hdr : w.heap.size ≠ db := by omega
    have M4 := hide (((((((Ja HDK).below (Ja HB7)).set hx9 h6 hdr hmr 0 (.int .i64 0)).set hx9 h6 hdr hmr 1 (.int .i64 0)).set hx9 h6 hdr hmr 2 (.slice so1 sn1 sc1)).set hx9 h6 hdr hmr 3 (.slice co1 cn1 cc1)).set hx9 h6 hdr hmr 4 (.int .i64 C))
    have M5 : Hid (Bs (Own db mr) w w7) := hide (((Bs.of (S := Own db mr) (Ja HBc)).trans (Ja HBS) (fun _ _ h => h)).trans (Bs.of (S := fun _ => False) (Ja HB7)) (fun _ _ h => absurd h id))
    have HX9 : Hid (∀ b, (Xr X0 db mr w.heap.size b ∧ b < wc.heap.size) → (X0 b ∨ (w.heap.size ≤ b ∧ b < wk.heap.size ∧ mo' ≠ some b))) := hide (fun b h => h.1.old.elim Or.inl (fun hle => Or.inr ⟨hle, by omega, fun e => h.1.nm (Ja HMO b h.2 e)⟩))
    have HML := hide (Ja HDK).moLt
    have HXD : Hid (¬ (X0 db ∨ (w.heap.size ≤ db ∧ db < wk.heap.size ∧ mo' ≠ some db))) := hide (by rintro (h | h); exact hX0d h; omega)
    have HXM : Hid (∀ mb, mo' = some mb → ¬ (X0 mb ∨ (w.heap.size ≤ mb ∧ mb < wk.heap.size ∧ mo' ≠ some mb))) := hide (by rintro mb e (h | h); exact hX0m mb (Ja HMO mb (by have := hx0 mb h; omega) e) h; exact h.2.2 e)
    clear d6 d7 HR HSh HCe HS9 HDk HDk3
    go_wp2_with fail
    refine bodyPost_ret (v := .agg #[.int .i64 0, .int .i64 0, .slice so1 sn1 sc1, .slice co1 cn1 cc1, .int .i64 C]) (by simp [results, Tryz.results20, go_sem, e0, e1, e2, e3, e4]) rfl ⟨wk.heap.size, so1, sn1, sc1, co1, cn1, cc1, hwl, rfl, Ja M1, Ja M2, ⟨mo', (Ja M4).imp (fun b h _ => Ja HX9 b h) (Ja HXD) (Ja HXM), Ja HML, fun b hb e => Ja HMO b (by omega) e⟩, ?_⟩
    have h5 := Ja M5
    refine ⟨h5.os, h5.tape, h5.output, by simpa using h5.size, fun k hk hn => ?_⟩
    rw [RowKit.Below.heap_setCell _ _ _ _ (by simp; omega), RowKit.Below.heap_setCell _ _ _ _ (by simp; omega), RowKit.Below.heap_setCell _ _ _ _ (by simp; omega), RowKit.Below.heap_setCell _ _ _ _ (by simp; omega), RowKit.Below.heap_setCell _ _ _ _ (by simp; omega)]
    exact h5.block k hk hn
end Go.Proofs.YtjobgpahajhbnabGreatDoor
