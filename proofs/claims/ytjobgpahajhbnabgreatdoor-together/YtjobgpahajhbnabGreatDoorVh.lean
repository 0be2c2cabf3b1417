import Derived.Test.YtjobgpahajhbnabGreatDoorVg
import Derived.Maps.Views
import Derived.StringKeys
import Derived.Deep.RegionHeld3
namespace Go.Proofs.YtjobgpahajhbnabGreatDoor
open Go.RowKit Go.Proofs
attribute [local go_sem ↓] Go.wp_at_zero Go.wp_at_succ
structure RunV (w : World) (er at_ : Int) (sh cs : List Int) (cost : Int) (rb : Nat) (w' : World) (so : Option Addr) (sn sc : Nat) (co : Option Addr) (cn cc : Nat) : Prop where
  q0 : w'.cell? ⟨rb, 0, none⟩ = some (.int .i64 er)
  q1 : w'.cell? ⟨rb, 1, none⟩ = some (.int .i64 at_)
  q2 : w'.cell? ⟨rb, 2, none⟩ = some (.slice so sn sc)
  q3 : w'.cell? ⟨rb, 3, none⟩ = some (.slice co cn cc)
  q4 : w'.cell? ⟨rb, 4, none⟩ = some (.int .i64 cost)
  sh : Nums (fun b => w.heap.size ≤ b) w' (.slice so sn sc) sh
  cs : Nums (fun b => w.heap.size ≤ b) w' (.slice co cn cc) cs
  lo : w.heap.size ≤ rb
  hi : rb < w'.heap.size
  bel : Below w.heap.size w w'
def RunL (w : World) (er at_ : Int) (sh cs : List Int) (cost : Int) (e : Ending) (w' : World) : Prop :=
  ∃ rb rc so sn sc co cn cc, e = .returned (.slice (some ⟨rb, 0, none⟩) 1 rc) ∧ RunV w er at_ sh cs cost rb w' so sn sc co cn cc
theorem Jl4 {w w1 : World} {er at_ cost : Int} {sh cs : List Int} {so : Option Addr} {sn sc : Nat} {co : Option Addr} {cn cc : Nat} (o : Obj) (Z : Array Value)
    (hb : Below w.heap.size w w1) (hsh : Nums (fun b => w.heap.size ≤ b) w1 (.slice so sn sc) sh) (hcs : Nums (fun b => w.heap.size ≤ b) w1 (.slice co cn cc) cs) :
    RunV w er at_ sh cs cost (w1.heap.size + 1) ((w1.alloc o).alloc (.cells (#[.int .i64 er, .int .i64 at_, .slice so sn sc, .slice co cn cc, .int .i64 cost] ++ Z) 34)).drew so sn sc co cn cc := by
  have hbw : Below w1.heap.size w1 ((w1.alloc o).alloc (.cells (#[.int .i64 er, .int .i64 at_, .slice so sn sc, .slice co cn cc, .int .i64 cost] ++ Z) 34)).drew := (((Below.refl _ _).alloc (Nat.le_refl _) _).alloc (by simp) _).drew
  have hc : ∀ i, i < 5 → ((w1.alloc o).alloc (.cells (#[.int .i64 er, .int .i64 at_, .slice so sn sc, .slice co cn cc, .int .i64 cost] ++ Z) 34)).drew.cell? ⟨w1.heap.size + 1, i, none⟩ = #[Value.int .i64 er, .int .i64 at_, .slice so sn sc, .slice co cn cc, .int .i64 cost][i]? := by
    intro i hi
    show ((w1.alloc o).alloc (.cells (#[.int .i64 er, .int .i64 at_, .slice so sn sc, .slice co cn cc, .int .i64 cost] ++ Z) 34)).cell? ⟨w1.heap.size + 1, i, none⟩ = _
    rw [World.cell?_alloc_at _ _ _ _ (by simp), Array.getElem?_append_left (by simpa using hi)]
  have h1 := hb.size
  exact ⟨(hc 0 (by omega)).trans rfl, (hc 1 (by omega)).trans rfl, (hc 2 (by omega)).trans rfl, (hc 3 (by omega)).trans rfl, (hc 4 (by omega)).trans rfl, hsh.below hbw, hcs.below hbw, by omega, by simp, hb.trans (hbw.mono h1)⟩
set_option maxHeartbeats 1000000 in
set_option maxRecDepth 20000 in
theorem Jl3 (w : World) (db lb cap : Nat) (s : ByteArray) (er at_ : Int) (sh cs : List Int) (cost : Int) (hc : w.cell? ⟨lb, 0, none⟩ = some (.string s)) (hl : lb < w.heap.size)
    (hrep : Calls Tryz.prog 20 #[.pointer (some ⟨db, 0, none⟩), .string s] w (RepL w er at_ sh cs cost)) :
    Calls Tryz.prog 9 #[.pointer (some ⟨db, 0, none⟩), .slice (some ⟨lb, 0, none⟩) 1 cap] w (RunL w er at_ sh cs cost) := by
  have HR := hide hrep
  clear hrep
  go_enter Tryz.func9, Tryz.ntmps9
  go_wp2_with fail
  go_loopw [5, 17] (fun v i wr => (i = .int .i64 0 ∧ v = .slice none 0 0 ∧ wr = w) ∨ (i = .int .i64 1 ∧ ∃ rb rc so sn sc co cn cc, v = .slice (some ⟨rb, 0, none⟩) 1 rc ∧ RunV w er at_ sh cs cost rb wr so sn sc co cn cc)) (fun _ i _ => 1 - (intOf i).toNat)
  case atStart => exact Or.inl ⟨rfl, rfl, rfl⟩
  case round =>
    rcases hrel with ⟨rfl, rfl, rfl⟩ | ⟨rfl, rb, rc, so, sn, sc, co, cn, cc, rfl, hv⟩
    · go_wp2_with (go_at_call 20; refine (Ja HR).mono ?_; rintro e w1 ⟨so, sn, sc, co, cn, cc, rfl, hsh, hcs, hb⟩; have HSH := hide hsh; have HCS := hide hcs; have HB := hide hb; clear hsh hcs hb)
      exact ⟨Or.inr ⟨rfl, _, _, so, sn, sc, co, cn, cc, rfl, Jl4 _ _ (Ja HB) (Ja HSH) (Ja HCS)⟩, by simp [intOf]⟩
    · have HV := hide hv
      clear hv
      go_wp2_with fail
      exact bodyPost_ret (v := .slice (some ⟨rb, 0, none⟩) 1 rc) (by simp [results, Tryz.results9, go_sem]) rfl ⟨rb, rc, so, sn, sc, co, cn, cc, rfl, Ja HV⟩
end Go.Proofs.YtjobgpahajhbnabGreatDoor
namespace Go.Proofs.YtjobgpahajhbnabGreatDoor
open Go.RowKit Go.Proofs Go.Maps
attribute [local go_sem ↓] Go.wp_at_zero Go.wp_at_succ
theorem Vj (P : Nat → Prop) (w : World) : IsArr P w (.agg #[.slice none 0 0, .slice none 0 0]) ⟨[], []⟩ := ⟨none, 0, 0, none, 0, 0, rfl, Jn _ _, Jn _ _⟩
section
variable {W3 w5 : World} {s0 s1 : Value} {a : Arr} {P : Nat → Prop} {e0 e1 : Int}
theorem Jo9 (hb : Below W3.heap.size W3 w5) (hA : IsArr P w5 (.agg #[s0, s1]) a) :
    AftX W3 ((w5.alloc (.cells #[s0, s1] 57)).alloc (.cells #[.int .i64 e0, .int .i64 e1] 67)) w5.heap.size (w5.heap.size + 1) s0 s1 e0 e1 ∧ IsArr (Not2 w5.heap.size (w5.heap.size + 1)) ((w5.alloc (.cells #[s0, s1] 57)).alloc (.cells #[.int .i64 e0, .int .i64 e1] 67)) (.agg #[s0, s1]) a := by
  have h := hb.size
  exact ⟨⟨(hb.alloc hb.size _).alloc (by simp; omega) _, h, by omega, by simp; omega, by simp, by simp, by simp, by simp, by simp⟩, (hA.imp (fun b _ hl => ⟨by omega, by omega⟩)).below (((Below.refl _ _).alloc (Nat.le_refl _) _).alloc (by simp) _)⟩
theorem Jo8 (hb : Below W3.heap.size W3 w5) (hA : IsArr P w5 (.agg #[s0, s1]) a) :
    AftX W3 ((w5.alloc (.cells #[.int .i64 e0, .int .i64 e1] 67)).alloc (.cells #[s0, s1] 57)) (w5.heap.size + 1) w5.heap.size s0 s1 e0 e1 ∧ IsArr (Not2 (w5.heap.size + 1) w5.heap.size) ((w5.alloc (.cells #[.int .i64 e0, .int .i64 e1] 67)).alloc (.cells #[s0, s1] 57)) (.agg #[s0, s1]) a := by
  have h := hb.size
  exact ⟨⟨(hb.alloc hb.size _).alloc (by simp; omega) _, by omega, h, by simp, by simp; omega, by simp, by simp, by simp, by simp⟩, (hA.imp (fun b _ hl => ⟨by omega, by omega⟩)).below (((Below.refl _ _).alloc (Nat.le_refl _) _).alloc (by simp) _)⟩
theorem Jo7 {k : Nat} {u0 u1 : Value} (hb : Below W3.heap.size W3 w5) (hA : IsArr (fun b => b < W3.heap.size ∨ k ≤ b) w5 (.agg #[s0, s1]) a) (hk : W3.heap.size < k) (hl : W3.heap.size < w5.heap.size) (c0 : w5.cell? ⟨W3.heap.size, 0, none⟩ = some u0) (c1 : w5.cell? ⟨W3.heap.size, 1, none⟩ = some u1) :
    AftX W3 (((w5.setCell ⟨W3.heap.size, 0, none⟩ s0).setCell ⟨W3.heap.size, 1, none⟩ s1).alloc (.cells #[.int .i64 e0, .int .i64 e1] 67)) W3.heap.size w5.heap.size s0 s1 e0 e1 ∧ IsArr (Not2 W3.heap.size w5.heap.size) (((w5.setCell ⟨W3.heap.size, 0, none⟩ s0).setCell ⟨W3.heap.size, 1, none⟩ s1).alloc (.cells #[.int .i64 e0, .int .i64 e1] 67)) (.agg #[s0, s1]) a := by
  have h := hb.size
  have hno : ¬ (fun b => b < W3.heap.size ∨ k ≤ b) W3.heap.size := by intro h; rcases h with h | h <;> omega
  have hn : ((w5.setCell ⟨W3.heap.size, 0, none⟩ s0).setCell ⟨W3.heap.size, 1, none⟩ s1).heap.size = w5.heap.size := by simp
  refine ⟨⟨((hb.setCell (Nat.le_refl _) _).setCell (Nat.le_refl _) _).alloc (by rw [hn]; exact h) _, Nat.le_refl _, h, by simp; omega, by simp, ?_, ?_, ?_, ?_⟩, ?_⟩
  · rw [World.cell?_alloc_past _ _ _ (by simp; omega)]; exact J7 c0
  · rw [World.cell?_alloc_past _ _ _ (by simp; omega)]; exact J6 c1
  · exact (World.cell?_alloc_at _ _ _ _ hn.symm).trans rfl
  · exact (World.cell?_alloc_at _ _ _ _ hn.symm).trans rfl
  · refine IsArr.below ?_ ((Below.refl _ _).alloc (Nat.le_refl _) _)
    refine IsArr.imp ((hA.set hno 0 _).set hno 1 _) (fun b hb hl => ?_)
    rw [hn] at hl
    exact ⟨by rcases hb with h | h <;> omega, by omega⟩
theorem Jo6 {k : Nat} {u0 u1 : Value} (hb : Below W3.heap.size W3 w5) (hA : IsArr (fun b => b < W3.heap.size ∨ k ≤ b) w5 (.agg #[s0, s1]) a) (hk : W3.heap.size < k) (hl : W3.heap.size < w5.heap.size) (c0 : w5.cell? ⟨W3.heap.size, 0, none⟩ = some u0) (c1 : w5.cell? ⟨W3.heap.size, 1, none⟩ = some u1) :
    AftX W3 (((w5.setCell ⟨W3.heap.size, 0, none⟩ (.int .i64 e0)).setCell ⟨W3.heap.size, 1, none⟩ (.int .i64 e1)).alloc (.cells #[s0, s1] 57)) w5.heap.size W3.heap.size s0 s1 e0 e1 ∧ IsArr (Not2 w5.heap.size W3.heap.size) (((w5.setCell ⟨W3.heap.size, 0, none⟩ (.int .i64 e0)).setCell ⟨W3.heap.size, 1, none⟩ (.int .i64 e1)).alloc (.cells #[s0, s1] 57)) (.agg #[s0, s1]) a := by
  have h := hb.size
  have hno : ¬ (fun b => b < W3.heap.size ∨ k ≤ b) W3.heap.size := by intro h; rcases h with h | h <;> omega
  have hn : ((w5.setCell ⟨W3.heap.size, 0, none⟩ (.int .i64 e0)).setCell ⟨W3.heap.size, 1, none⟩ (.int .i64 e1)).heap.size = w5.heap.size := by simp
  refine ⟨⟨((hb.setCell (Nat.le_refl _) _).setCell (Nat.le_refl _) _).alloc (by rw [hn]; exact h) _, h, Nat.le_refl _, by simp, by simp; omega, ?_, ?_, ?_, ?_⟩, ?_⟩
  · exact (World.cell?_alloc_at _ _ _ _ hn.symm).trans rfl
  · exact (World.cell?_alloc_at _ _ _ _ hn.symm).trans rfl
  · rw [World.cell?_alloc_past _ _ _ (by simp; omega)]; exact J7 c0
  · rw [World.cell?_alloc_past _ _ _ (by simp; omega)]; exact J6 c1
  · refine IsArr.below ?_ ((Below.refl _ _).alloc (Nat.le_refl _) _)
    refine IsArr.imp ((hA.set hno 0 _).set hno 1 _) (fun b hb hl => ?_)
    rw [hn] at hl
    exact ⟨by omega, by rcases hb with h | h <;> omega⟩
theorem Jok {k p q : Nat} {u0 u1 u2 u3 : Value} (hb : Below W3.heap.size W3 w5) (hA : IsArr (fun b => b < W3.heap.size ∨ k ≤ b) w5 (.agg #[s0, s1]) a) (hp : W3.heap.size ≤ p ∧ p < k ∧ p < w5.heap.size) (hq : W3.heap.size ≤ q ∧ q < k ∧ q < w5.heap.size) (hpq : p ≠ q) (c0 : w5.cell? ⟨p, 0, none⟩ = some u0) (c1 : w5.cell? ⟨p, 1, none⟩ = some u1) (c2 : w5.cell? ⟨q, 0, none⟩ = some u2) (c3 : w5.cell? ⟨q, 1, none⟩ = some u3) :
    AftX W3 ((((w5.setCell ⟨p, 0, none⟩ s0).setCell ⟨p, 1, none⟩ s1).setCell ⟨q, 0, none⟩ (.int .i64 e0)).setCell ⟨q, 1, none⟩ (.int .i64 e1)) p q s0 s1 e0 e1 ∧ IsArr (Not2 p q) ((((w5.setCell ⟨p, 0, none⟩ s0).setCell ⟨p, 1, none⟩ s1).setCell ⟨q, 0, none⟩ (.int .i64 e0)).setCell ⟨q, 1, none⟩ (.int .i64 e1)) (.agg #[s0, s1]) a := by
  have np : ¬ (fun b => b < W3.heap.size ∨ k ≤ b) p := by intro h; rcases h with h | h <;> omega
  have nq : ¬ (fun b => b < W3.heap.size ∨ k ≤ b) q := by intro h; rcases h with h | h <;> omega
  refine ⟨⟨(((hb.setCell hp.1 _).setCell hp.1 _).setCell hq.1 _).setCell hq.1 _, hp.1, hq.1, by simp; omega, by simp; omega, ?_, ?_, ?_, ?_⟩, ?_⟩
  · rw [Jz hpq]; exact J7 c0
  · rw [Jz hpq]; exact J6 c1
  · exact J7 (u := u2) (by rw [Jz (Ne.symm hpq)]; exact c2)
  · exact J6 (u := u3) (by rw [Jz (Ne.symm hpq)]; exact c3)
  · exact IsArr.imp ((((hA.set np 0 _).set np 1 _).set nq 0 _).set nq 1 _) (fun b hb hl => ⟨by rcases hb with h | h <;> omega, by rcases hb with h | h <;> omega⟩)
end
set_option maxHeartbeats 2000000 in
set_option maxRecDepth 20000 in
theorem Jf9 (env : ByteArray → Option Arr) (fuel : Int) (f1 : ByteArray → Arr → Arr × Int) (f2 : ByteArray → Arr → Arr → Arr × Int) (db : Nat) (w : World) (mr : Option Nat) (s : ByteArray) (hs : s.size ≤ 9223372036854775807) (hD : Dsk db fuel mr w) (h0 : 0 ≤ fuel) (hfl : fuel ≤ 1000) (he : ∀ t a, env t = some a → a.ok) (hL : Look (fun _ => True) w (.map mr) env)
    (hp : (Jw s).1 = 0) (hp2 : (Jw s).2 = 0) (hg : ∀ x, Ye s x → Good f1 f2 x) (er : Int) (pl : Nat) (hev : ∀ x, Ye s x → Jt env fuel f1 f2 x 0 = .inl (er, pl)) (hne : er ≠ 0) :
    Calls Tryz.prog 20 #[.pointer (some ⟨db, 0, none⟩), .string s] w (RepL w er pl [] [] 0) := by
  have hw1 : Below w.heap.size w (w.alloc (.cells #[.int .i64 0, .int .i64 0, .slice none 0 0, .slice none 0 0, .int .i64 0] 34)) := (Below.refl _ _).alloc (Nat.le_refl _) _
  have HRead := hide (Qz s _ (hD.keep hw1).evs hs)
  have HEx := hide (fun x (hx : Ye s x) B W q hi P hP hl => F1 env fuel f1 f2 B W (.map mr) ⟨_, rfl⟩ h0 hfl he x (hg x hx) q hi P hP hl)
  have HEv := hide hev
  obtain ⟨C, hC⟩ : ∃ C : Int, (pl : Int) = C := ⟨_, rfl⟩
  rw [hC]
  have HC := hide hC
  obtain ⟨nm, hn⟩ : ∃ nm, Yl s = nm := ⟨_, rfl⟩
  have HDk := hide hD
  have HW1 := hide hw1
  have HL := hide hL
  have HP1 := hide hp
  have HP2 := hide hp2
  have HN := hide hn
  have hdb := hD.lt
  clear hp hp2 hn hC hD hw1 hL h0 hfl he hg hev hs
  go_enter Tryz.func20, Tryz.ntmps20
  go_wp2_with (go_at_call 24; refine (Ja HRead).mono ?_; rintro e w2 ⟨q, rfl, hb2, hx⟩; obtain ⟨x, ht, hx⟩ := hx (Ja HP1); rw [Ja HP1, Ja HP2, Ja HN]; have HB2 : Hid (Below w.heap.size w w2) := hide ((Ja HW1).trans (hb2.mono (Ja HW1).size)); have HT := hide ht; have HX := hide hx; have hb2' := hide hb2; clear hb2 ht hx)
  have HB3 : Hid (Below w2.heap.size w2 (w2.alloc (.cells #[.string nm, .pointer q] 63))) := hide ((Below.refl _ _).alloc (Nat.le_refl _) _)
  have z1 : (w2.alloc (.cells #[.string nm, .pointer q] 63)).cell? ⟨w2.heap.size, 1, none⟩ = some (.pointer q) := (World.cell?_alloc_at _ _ _ _ rfl).trans rfl
  have z0 : (w2.alloc (.cells #[.string nm, .pointer q] 63)).cell? ⟨w2.heap.size, 0, none⟩ = some (.string nm) := (World.cell?_alloc_at _ _ _ _ rfl).trans rfl
  have zs : w2.heap.size < (w2.alloc (.cells #[.string nm, .pointer q] 63)).heap.size := by simp
  obtain ⟨W3, hW3⟩ : ∃ W3, w2.alloc (.cells #[.string nm, .pointer q] 63) = W3 := ⟨_, rfl⟩
  rw [hW3] at HB3 z1 z0 zs ⊢
  have HBW3 : Hid (Below w.heap.size w W3) := hide ((Ja HB2).trans ((Ja HB3).mono (Ja HB2).size))
  have HDk3 := hide ((Ja HDk).keep (Ja HBW3))
  have HZ1 := hide z1
  have HZ0 := hide z0
  clear hW3 z1 z0
  have HEx3 : Hid (∀ w', Below W3.heap.size W3 w' → Calls Tryz.prog 25 #[.pointer q, .map mr, .int .i64 fuel] w' fun e w'' => Below w'.heap.size w' w'' ∧ Below W3.heap.size W3 w'' ∧ e = .returned (.tuple #[.agg #[.slice none 0 0, .slice none 0 0], .int .i64 0, .agg #[.int .i64 er, .int .i64 C]])) := hide (fun w' hb => by
    have hb3 := (Ja HB3).trans (hb.mono (Ja HB3).size)
    have hbw := (Ja HBW3).trans (hb.mono (Ja HBW3).size)
    refine (Ja HEx x (Ja HT) _ w' q ((Ja HX).keep (Behind.of_below hb3)) (fun b => b < W3.heap.size ∨ w'.heap.size ≤ b) (fun b h => .inr h) ((Ja HL).later hbw (fun b _ hl => .inl (Nat.lt_of_lt_of_le hl (Ja HBW3).size)))).mono ?_
    rintro e w'' ⟨h1, h2⟩
    rw [Ja HEv x (Ja HT)] at h2
    simp only [Ja HC] at h2
    exact ⟨h1, hb.trans (h1.mono hb.size), h2.1⟩)
  have HS : Hid (∀ w', Below W3.heap.size W3 w' → w'.cell? ⟨w2.heap.size, 1, none⟩ = some (.pointer q) ∧ w'.cell? ⟨db, 1, none⟩ = some (.map mr) ∧ w'.cell? ⟨db, 0, none⟩ = some (.int .i64 fuel)) := by
    intro w' hb
    have h := (Ja HDk3).keep hb
    exact ⟨(hb.cell (p := ⟨w2.heap.size, 1, none⟩) zs).trans (Ja HZ1), h.c1, h.c0⟩
  clear HEx HRead HL HEv
  go_upto_region 4 with fail
  go_cut [8, 9, 10] from 22 to 36 (fun v8 v9 v10 wx => v9 = .int .i64 0 ∧ ∃ p q, v8 = .pointer (some ⟨p, 0, none⟩) ∧ v10 = .pointer (some ⟨q, 0, none⟩) ∧ AftX W3 wx p q (.slice none 0 0) (.slice none 0 0) er C)
  case first =>
    go_region_held3 (fun w' => w'.cell? ⟨w2.heap.size, 1, none⟩ = some (.pointer q) ∧ w'.cell? ⟨db, 1, none⟩ = some (.map mr) ∧ w'.cell? ⟨db, 0, none⟩ = some (.int .i64 fuel))
      (exact Ja HS _ (by repeat' (first | exact Below.refl _ _ | refine Below.drew ?_ | refine Below.alloc ?_ ?_ _ | refine Below.setCell ?_ ?_ _ | (show _ ≤ _; first | omega | (simp; done) | (simp; omega)) | exact Ja HB5)
                         done))
      ((go_at_call 25; refine (Ja HEx3 _ ?_).mono ?_; (first | exact (Below.refl _ _).drew | exact ((Below.refl _ _).alloc (Nat.le_refl _) _).drew | exact (((Below.refl _ _).alloc (Nat.le_refl _) _).alloc (by simp) _).drew); rintro e w5 ⟨hb5, hb6, rfl⟩;  have HB5 := hide hb6; have hs5 := hb6.size; have hs6 := hb5.size; (try simp at hs6); (try have hs7 : W3.heap.size < w5.heap.size := by omega); (try have hs8 : W3.heap.size + 1 < w5.heap.size := by omega); (try have hs9 : W3.heap.size ≠ w5.heap.size := by omega); (try have hs10 : W3.heap.size + 1 ≠ w5.heap.size := by omega); obtain ⟨hc5, hf5⟩ := Jr hb5; clear hb5 hb6))
    all_goals go_wp2_with fail
    all_goals go_meet
    case rel => exact ⟨rfl, _, _, rfl, rfl, (Jo9 (P := fun _ => True) (Ja HB5) (Vj _ _)).1⟩
    case rel => exact ⟨rfl, _, _, rfl, rfl, (Jo8 (P := fun _ => True) (Ja HB5) (Vj _ _)).1⟩
    case rel => exact ⟨rfl, _, _, rfl, rfl, (Jo7 (k := W3.heap.size + 1) (u0 := .slice none 0 0) (u1 := .slice none 0 0) (Ja HB5) (Vj _ _) (by simp) hs7 ((hc5 _ 0 (by simp)).trans (by simp)) ((hc5 _ 1 (by simp)).trans (by simp))).1⟩
    case rel => exact ⟨rfl, _, _, rfl, rfl, (Jok (k := W3.heap.size + 2) (u0 := .slice none 0 0) (u1 := .slice none 0 0) (u2 := .int .i64 0) (u3 := .int .i64 0) (Ja HB5) (Vj _ _) ⟨by omega, (by simp <;> omega), by omega⟩ ⟨by omega, (by simp <;> omega), by omega⟩ (by omega) ((hc5 _ 0 (by simp <;> omega)).trans (by simp)) ((hc5 _ 1 (by simp <;> omega)).trans (by simp)) ((hc5 _ 0 (by simp <;> omega)).trans (by simp)) ((hc5 _ 1 (by simp <;> omega)).trans (by simp))).1⟩
    case rel => exact ⟨rfl, _, _, rfl, rfl, (Jo6 (k := W3.heap.size + 1) (u0 := .int .i64 0) (u1 := .int .i64 0) (Ja HB5) (Vj _ _) (by simp) hs7 ((hc5 _ 0 (by simp)).trans (by simp)) ((hc5 _ 1 (by simp)).trans (by simp))).1⟩
    case rel => exact ⟨rfl, _, _, rfl, rfl, (Jok (k := W3.heap.size + 2) (u0 := .slice none 0 0) (u1 := .slice none 0 0) (u2 := .int .i64 0) (u3 := .int .i64 0) (Ja HB5) (Vj _ _) ⟨by omega, (by simp <;> omega), by omega⟩ ⟨by omega, (by simp <;> omega), by omega⟩ (by omega) ((hc5 _ 0 (by simp <;> omega)).trans (by simp)) ((hc5 _ 1 (by simp <;> omega)).trans (by simp)) ((hc5 _ 0 (by simp <;> omega)).trans (by simp)) ((hc5 _ 1 (by simp <;> omega)).trans (by simp))).1⟩
  case rest =>
    obtain ⟨rfl, p, qf, rfl, rfl, hX⟩ := hcut
    have bel := hX.bel
    have yf := hX.f0
    have yg := hX.f1
    have hql := hX.hq
    have hbc : Below (w.heap.size + 1) (w.alloc (.cells #[.int .i64 0, .int .i64 0, .slice none 0 0, .slice none 0 0, .int .i64 0] 34)) wc := by
      have h1 := Ja hb2'
      simp only [World.size_alloc] at h1
      have h2 := (Ja HB3).size
      have h3 := h1.size
      simp at h3
      exact (h1.trans ((Ja HB3).mono (by omega))).trans (bel.mono (by omega))
    have d := fun i => hbc.cell (p := ⟨w.heap.size, i, none⟩) (by show w.heap.size < w.heap.size + 1; omega)
    have f := fun i => (hbc.frozen (p := ⟨w.heap.size, i, none⟩) (by show w.heap.size < w.heap.size + 1; omega)).trans (World.frozen?_alloc_at _ _ _ _ rfl)
    have e0 := (d 0).trans ((World.cell?_alloc_at _ _ _ _ rfl).trans rfl)
    have e1 := (d 1).trans ((World.cell?_alloc_at _ _ _ _ rfl).trans rfl)
    have e2 := (d 2).trans ((World.cell?_alloc_at _ _ _ _ rfl).trans rfl)
    have e3 := (d 3).trans ((World.cell?_alloc_at _ _ _ _ rfl).trans rfl)
    have e4 := (d 4).trans ((World.cell?_alloc_at _ _ _ _ rfl).trans rfl)
    have g0 := f 0
    have g1 := f 1
    have g2 := f 2
    have g3 := f 3
    have g4 := f 4
    have hwc : w.heap.size < wc.heap.size := by have := hbc.size; simp at this; omega
    have hne' : (er != 0) = true := by simpa using hne
    have HBc : Hid (Below w.heap.size w wc) := hide ((Ja HBW3).trans (bel.mono (Ja HBW3).size))
    clear hX bel hbc d f HEx3 HS HDk HDk3 hne
    go_wp2_with fail
    all_goals first
      | (refine bodyPost_ret (v := .agg #[.int .i64 er, .int .i64 C, .slice none 0 0, .slice none 0 0, .int .i64 0]) (by simp [results, Tryz.results20, go_sem, e0, e1, e2, e3, e4]) rfl ⟨none, 0, 0, none, 0, 0, rfl, Jn _ _, Jn _ _, ?_⟩
         exact (((((Ja HBc).setCell (p := ⟨w.heap.size, 0, none⟩) (Nat.le_refl _) _).setCell (p := ⟨w.heap.size, 1, none⟩) (Nat.le_refl _) _).setCell (p := ⟨w.heap.size, 2, none⟩) (Nat.le_refl _) _).setCell (p := ⟨w.heap.size, 3, none⟩) (Nat.le_refl _) _).setCell (p := ⟨w.heap.size, 4, none⟩) (Nat.le_refl _) _)
      | (trace_state; fail)
end Go.Proofs.YtjobgpahajhbnabGreatDoor
namespace Go.Proofs.YtjobgpahajhbnabGreatDoor
open Go.RowKit Go.Proofs
attribute [local go_sem ↓] Go.wp_at_zero Go.wp_at_succ
def Says (D : World → Prop) (db : Nat) (s : ByteArray) (er at_ : Int) (sh cs : List Int) (cost : Int) : Prop :=
  ∀ w, D w → Calls Tryz.prog 20 #[.pointer (some ⟨db, 0, none⟩), .string s] w (RepL w er at_ sh cs cost)
def Jlb (D : World → Prop) : Prop := ∀ w w', D w → Below w.heap.size w w' → D w'
theorem J1 {P : Nat → Prop} {w : World} {so : Option Addr} {sn sc : Nat} {xs : List Int} (h : Nums P w (.slice so sn sc) xs) : sn = xs.length ∧ xs.length ≤ sc ∧ (0 < xs.length → ∃ b off, so = some ⟨b, off, none⟩ ∧ b < w.heap.size ∧ ∀ i, (h : i < xs.length) → w.cell? ⟨b, off + i, none⟩ = some (.int .i64 xs[i])) := by
  obtain ⟨ao, cap, hv, hc, h1, _⟩ := h
  injection hv with e1 e2 e3
  subst e1 e2 e3
  exact ⟨rfl, hc, fun h0 => by obtain ⟨b, off, ha, _, hl, hc⟩ := h1 h0; exact ⟨b, off, ha, hl, hc⟩⟩
set_option maxHeartbeats 1000000 in
set_option maxRecDepth 20000 in
theorem Jbo (D : World → Prop) (hkeep : Jlb D) (db : Nat) (s : ByteArray) (sh cs : List Int) (cost : Int) (hs : Says D db s 0 0 sh cs cost) (w : World) (hD : D w) :
    Calls Tryz.prog 12 #[.pointer (some ⟨db, 0, none⟩), .string s] w fun e w' => ∃ so sn sc co cn cc, e = .returned (.tuple #[.agg #[.int .i64 0, .int .i64 0, .slice so sn sc, .slice co cn cc, .int .i64 cost], .bool true]) ∧ Nums (fun b => w.heap.size < b) w' (.slice so sn sc) sh ∧ Nums (fun b => w.heap.size < b) w' (.slice co cn cc) cs ∧ Below w.heap.size w w' := by
  have hw0 : Below w.heap.size w ((w.alloc (.cells #[.int .i64 0, .int .i64 0, .slice none 0 0, .slice none 0 0, .int .i64 0] 34)).alloc (.cells #[.string s] 9)) := ((Below.refl _ _).alloc (Nat.le_refl _) _).alloc (by simp) _
  have HC := hide (Jl3 _ db (w.heap.size + 1) 1 s 0 0 sh cs cost (by simp) (by simp) (hs _ (hkeep w _ hD hw0)))
  clear hs hD hkeep
  go_enter Tryz.func12, Tryz.ntmps12
  go_wp2_with fail
  refine (Ja HC).mono ?_
  rintro e w1 ⟨rb, rc, so, sn, sc, co, cn, cc, rfl, hv⟩
  have q0 := hv.q0
  have q1 := hv.q1
  have q2 := hv.q2
  have q3 := hv.q3
  have q4 := hv.q4
  have h1 := hv.lo
  have h2 := hv.hi
  simp at h1
  obtain ⟨hc, hfz⟩ := Jr hv.bel
  have d : ∀ i, w1.cell? ⟨w.heap.size, i, none⟩ = (w.alloc (.cells #[.int .i64 0, .int .i64 0, .slice none 0 0, .slice none 0 0, .int .i64 0] 34)).cell? ⟨w.heap.size, i, none⟩ := fun i => by rw [hc w.heap.size i (by simp; omega), World.cell?_alloc_past _ _ _ (by simp)]
  have d0 := (d 0).trans ((World.cell?_alloc_at _ _ _ _ rfl).trans rfl)
  have d1 := (d 1).trans ((World.cell?_alloc_at _ _ _ _ rfl).trans rfl)
  have d2 := (d 2).trans ((World.cell?_alloc_at _ _ _ _ rfl).trans rfl)
  have d3 := (d 3).trans ((World.cell?_alloc_at _ _ _ _ rfl).trans rfl)
  have d4 := (d 4).trans ((World.cell?_alloc_at _ _ _ _ rfl).trans rfl)
  have f : ∀ i, w1.frozen? ⟨w.heap.size, i, none⟩ = false := fun i => by
    rw [hfz w.heap.size i (by simp; omega), World.frozen?_of_block (a := ⟨w.heap.size, i, none⟩) (RowKit.Below.heap_alloc _ _ _ (by simp))]
    exact World.frozen?_alloc_at _ _ _ _ rfl
  have g0 := f 0
  have g1 := f 1
  have g2 := f 2
  have g3 := f 3
  have g4 := f 4
  have HBe : Hid (Below w.heap.size w w1) := hide (hw0.trans (hv.bel.mono (by simp; omega)))
  have n1 : rb ≠ w.heap.size := by omega
  have hno : ¬ (fun b => w.heap.size < b) w.heap.size := by show ¬ w.heap.size < w.heap.size; omega
  have NS := hide (hv.sh.imp (Q := fun b => w.heap.size < b) (fun b h _ => by simp at h; omega))
  have NC := hide (hv.cs.imp (Q := fun b => w.heap.size < b) (fun b h _ => by simp at h; omega))
  clear d f hc hfz hw0 hv HC
  go_wp2_with fail
  go_region
  go_wp2_with fail
  refine bodyPost_ret (v := .tuple #[.agg #[.int .i64 0, .int .i64 0, .slice so sn sc, .slice co cn cc, .int .i64 cost], .bool true]) (by simp [results, Tryz.results12, go_sem, d0, d1, d2, d3, d4]) rfl ⟨so, sn, sc, co, cn, cc, rfl, ?_, ?_, ?_⟩
  · exact (((((((Ja NS).set hno 0 _).set hno 1 _).set hno 2 _).set hno 3 _).set hno 4 _)).below (Below.refl _ _).drew
  · exact (((((((Ja NC).set hno 0 _).set hno 1 _).set hno 2 _).set hno 3 _).set hno 4 _)).below (Below.refl _ _).drew
  · exact ((((((Ja HBe).setCell (p := ⟨w.heap.size, 0, none⟩) (Nat.le_refl _) _).setCell (p := ⟨w.heap.size, 1, none⟩) (Nat.le_refl _) _).setCell (p := ⟨w.heap.size, 2, none⟩) (Nat.le_refl _) _).setCell (p := ⟨w.heap.size, 3, none⟩) (Nat.le_refl _) _).setCell (p := ⟨w.heap.size, 4, none⟩) (Nat.le_refl _) _).drew
set_option maxHeartbeats 1000000 in
set_option maxRecDepth 20000 in
theorem Jlh (D : World → Prop) (hkeep : Jlb D) (db : Nat) (s : ByteArray) (sh cs : List Int) (cost : Int) (hs : Says D db s 0 0 sh cs cost) (w : World) (hD : D w) {Q : Nat → Prop} (vo : Option Addr) (vn vc : Nat) (ko : Option Addr) (kn kc : Nat) (hsh : Nums Q w (.slice vo vn vc) sh) (hcs : Nums Q w (.slice ko kn kc) cs) (hl1 : sh.length ≤ 200) (hl2 : cs.length ≤ 200) :
    Calls Tryz.prog 13 #[.pointer (some ⟨db, 0, none⟩), .string s, .slice vo vn vc, .slice ko kn kc] w fun e w' => e = .returned (.bool true) ∧ Below w.heap.size w w' := by
  have HC := hide (Jbo D hkeep db s sh cs cost hs w hD)
  have HV := hide hsh
  have HK := hide hcs
  obtain ⟨rfl, hvc, _⟩ := J1 hsh
  obtain ⟨rfl, hkc, _⟩ := J1 hcs
  clear hs hD hkeep hsh hcs
  go_enter Tryz.func13, Tryz.ntmps13
  go_wp2_with fail
  refine (Ja HC).mono ?_
  rintro e w1 ⟨so, sn, sc, co, cn, cc, rfl, n1, n2, hb1⟩
  obtain ⟨rfl, hsc, _⟩ := J1 n1
  obtain ⟨rfl, hcc, _⟩ := J1 n2
  obtain ⟨W2, hW2⟩ : ∃ W2, w1.alloc (.cells #[.int .i64 0, .int .i64 0, .slice so sh.length sc, .slice co cs.length cc, .int .i64 cost] 34) = W2 := ⟨_, rfl⟩
  have hbW : Below w1.heap.size w1 W2 := by rw [← hW2]; exact (Below.refl _ _).alloc (Nat.le_refl _) _
  have z2 : W2.cell? ⟨w1.heap.size, 2, none⟩ = some (.slice so sh.length sc) := by rw [← hW2]; exact (World.cell?_alloc_at _ _ _ _ rfl).trans rfl
  have z3 : W2.cell? ⟨w1.heap.size, 3, none⟩ = some (.slice co cs.length cc) := by rw [← hW2]; exact (World.cell?_alloc_at _ _ _ _ rfl).trans rfl
  have zs : w1.heap.size < W2.heap.size := by rw [← hW2]; simp
  have HBW : Hid (Below w.heap.size w W2) := hide (hb1.trans (hbW.mono hb1.size))
  have N1 := hide (n1.below hbW)
  have N2 := hide (n2.below hbW)
  have M1 := hide (((Ja HV).below hb1).below hbW)
  have M2 := hide (((Ja HK).below hb1).below hbW)
  clear n1 n2 hb1 hbW HC HV HK
  go_wp2_with fail
  try rw [hW2]
  clear hW2
  go_loopw [11] (fun v wr => ∃ k : Nat, v = .int .i64 k ∧ k ≤ sh.length ∧ Below W2.heap.size W2 wr) (fun v _ => sh.length - (intOf v).toNat)
  case atStart => exact ⟨0, rfl, by omega, Below.refl _ _⟩
  case round =>
    obtain ⟨k, rfl, hk, hbe⟩ := hrel
    by_cases hkl : k < sh.length
    · obtain ⟨_, _, hA⟩ := J1 (Ja N1)
      obtain ⟨_, _, hB⟩ := J1 (Ja M1)
      obtain ⟨b1, o1, rfl, l1, c1⟩ := hA (by omega)
      obtain ⟨b2, o2, rfl, l2, c2⟩ := hB (by omega)
      have y1 := (hbe.cell (p := ⟨b1, o1 + k, none⟩) l1).trans (c1 k hkl)
      have y2 := (hbe.cell (p := ⟨b2, o2 + k, none⟩) l2).trans (c2 k hkl)
      have y0 := (hbe.cell (p := ⟨w1.heap.size, 2, none⟩) zs).trans z2
      obtain ⟨x, hx⟩ : ∃ x, sh[k] = x := ⟨_, rfl⟩
      rw [hx] at y1 y2
      have HBe := hide hbe
      have hk0 : (0 : Int) ≤ (k : Int) := by omega
      have hk1 : (k : Int) < (sh.length : Int) := by omega
      clear hA hB c1 c2 hbe hx
      go_wp2_with fail
      go_region
      go_wp2_with fail
      go_roundw
      case rel => exact ⟨k + 1, by go_num, by omega, (Ja HBe).drew⟩
      case measure => simp [intOf]; omega
    · have hke : k = sh.length := by omega
      subst hke
      have HBe := hide hbe
      clear hbe
      go_wp2_with fail
      go_loopw [12] (fun v wx => ∃ k : Nat, v = .int .i64 k ∧ k ≤ cs.length ∧ Below W2.heap.size W2 wx) (fun v _ => cs.length - (intOf v).toNat)
      case atStart => exact ⟨0, rfl, by omega, Ja HBe⟩
      case round =>
        obtain ⟨k, rfl, hk, hbe⟩ := hrel
        by_cases hkl : k < cs.length
        · obtain ⟨_, _, hA⟩ := J1 (Ja N2)
          obtain ⟨_, _, hB⟩ := J1 (Ja M2)
          obtain ⟨b1, o1, rfl, l1, c1⟩ := hA (by omega)
          obtain ⟨b2, o2, rfl, l2, c2⟩ := hB (by omega)
          have y1 := (hbe.cell (p := ⟨b1, o1 + k, none⟩) l1).trans (c1 k hkl)
          have y2 := (hbe.cell (p := ⟨b2, o2 + k, none⟩) l2).trans (c2 k hkl)
          have y0 := (hbe.cell (p := ⟨w1.heap.size, 3, none⟩) zs).trans z3
          obtain ⟨x, hx⟩ : ∃ x, cs[k] = x := ⟨_, rfl⟩
          rw [hx] at y1 y2
          have HBe2 := hide hbe
          have hk0 : (0 : Int) ≤ (k : Int) := by omega
          have hk1 : (k : Int) < (cs.length : Int) := by omega
          clear hA hB c1 c2 hbe hx
          go_wp2_with fail
          go_region
          go_wp2_with fail
          go_roundw
          case rel => exact ⟨k + 1, by go_num, by omega, (Ja HBe2).drew⟩
          case measure => simp [intOf]; omega
        · have hke : k = cs.length := by omega
          subst hke
          have HBe2 := hide hbe
          clear hbe
          go_wp2_with fail
          exact bodyPost_ret (v := .bool true) (by simp [results, Tryz.results13, go_sem]) rfl ⟨rfl, (Ja HBW).trans ((Ja HBe2).mono (Ja HBW).size)⟩
end Go.Proofs.YtjobgpahajhbnabGreatDoor
namespace Go.Proofs.YtjobgpahajhbnabGreatDoor
open Go.RowKit Go.Proofs Go.Maps
attribute [local go_sem ↓] Go.wp_at_zero Go.wp_at_succ
structure Bs (S : Nat → Prop) (w w' : World) : Prop where
  os : w'.os = w.os
  tape : w'.tape = w.tape
  output : w'.output = w.output
  size : w.heap.size ≤ w'.heap.size
  block : ∀ k, k < w.heap.size → ¬ S k → w'.heap[k]? = w.heap[k]?
theorem Bs.of {S : Nat → Prop} {w w' : World} (h : Below w.heap.size w w') : Bs S w w' := ⟨h.os, h.tape, h.output, h.size, fun k hk _ => h.block k hk⟩
theorem Bs.trans {S S' : Nat → Prop} {w w1 w2 : World} (h : Bs S w w1) (h' : Bs S' w1 w2) (hs : ∀ k, k < w.heap.size → S' k → S k) : Bs S w w2 :=
  ⟨h'.os.trans h.os, h'.tape.trans h.tape, h'.output.trans h.output, Nat.le_trans h.size h'.size, fun k hk hn => (h'.block k (Nat.lt_of_lt_of_le hk h.size) (fun hs' => hn (hs k hk hs'))).trans (h.block k hk hn)⟩
theorem Bs.cell {S : Nat → Prop} {w w' : World} (h : Bs S w w') {b o : Nat} (hb : b < w.heap.size) (hn : ¬ S b) : w'.cell? ⟨b, o, none⟩ = w.cell? ⟨b, o, none⟩ := World.cell?_of_block (h.block b hb hn)
theorem Bs.frozen {S : Nat → Prop} {w w' : World} (h : Bs S w w') {b o : Nat} (hb : b < w.heap.size) (hn : ¬ S b) : w'.frozen? ⟨b, o, none⟩ = w.frozen? ⟨b, o, none⟩ := World.frozen?_of_block (a := ⟨b, o, none⟩) (h.block b hb hn)
def keyT (t : ByteArray) : Lit := .string t.data.toList
theorem Jc0 {t : ByteArray} (ht : t.size ≤ 200) : keyOf Tryz.prog 9 (.string t) = some (keyT t) := Go.WideMaps.keyOf_string_mk Tryz.underlying9 (by unfold maxLen; omega)
theorem Jkc {t u : ByteArray} (h : keyT t = keyT u) : t = u := by
  unfold keyT at h
  injection h with h
  exact Jdb h
def Holds (D : DataW Value) (P : Nat → Prop) (W : World) (env : ByteArray → Option Arr) : Prop :=
  IsMap D ∧ ∀ t : ByteArray, match env t with
    | none => Maps.has D (keyT t) = false
    | some a => ∃ v, Maps.has D (keyT t) = true ∧ (∀ z, D.atKey (keyT t) z = .held v) ∧ IsArr P W v a
theorem Kc {W w : World} {mb n : Nat} {D : DataW Value} (h : W.ownsMap Tryz.prog 9 Jm mb n D) (hb : Below W.heap.size W w) : w.ownsMap Tryz.prog 9 Jm mb n D := by
  obtain ⟨es, clock, h1, r⟩ := h
  refine ⟨es, clock, (hb.block mb ?_).trans h1, r⟩
  exact (Array.getElem?_eq_some_iff.1 h1).1
theorem Jmg {P : Nat → Prop} {W : World} {mb n : Nat} {D : DataW Value} {env : ByteArray → Option Arr} (hO : W.ownsMap Tryz.prog 9 Jm mb n D) (hH : Holds D P W env) : Look P W (.map (some mb)) env := by
  intro t ht
  have h := hH.2 t
  cases he : env t with
  | none =>
    rw [he] at h
    refine ⟨zArr, fun w hw => ?_, rfl⟩
    exact Kw Tryz.underlying55 (Tryz.zero57 w) (Kc hO hw) (Jc0 ht) h (atKey_of_not_has h _)
  | some a =>
    rw [he] at h
    obtain ⟨v, h1, h2, h3⟩ := h
    exact ⟨v, fun w hw => Kw Tryz.underlying55 (Tryz.zero57 w) (Kc hO hw) (Jc0 ht) h1 (h2 _), h3⟩
def upd (env : ByteArray → Option Arr) (nm : ByteArray) (a : Arr) : ByteArray → Option Arr := fun t => if t = nm then some a else env t
theorem Holds.put {D : DataW Value} {P P' : Nat → Prop} {W W' : World} {env : ByteArray → Option Arr} (h : Holds D P W env) (nm : ByteArray) (hk : WideAt.IsKeyLit (keyT nm)) {v : Value} {a : Arr} (hv : IsArr P' W' v a) (hold : ∀ u b, IsArr P W u b → IsArr P' W' u b) : Holds (D.put (keyT nm) (.held v)) P' W' (upd env nm a) := by
  refine ⟨h.1.put _ _, fun t => ?_⟩
  unfold upd
  by_cases e : t = nm
  · subst e
    rw [if_pos rfl]
    exact ⟨v, has_put_same h.1 hk _, fun z => atKey_put_same h.1 hk _ _, hv⟩
  · rw [if_neg e]
    have hne : keyT t ≠ keyT nm := fun h => e (Jkc h)
    have ho := h.2 t
    cases he : env t with
    | none => rw [he] at ho; exact (has_put_other hne _).trans ho
    | some b =>
      rw [he] at ho
      obtain ⟨u, h1, h2, h3⟩ := ho
      exact ⟨u, (has_put_other hne _).trans h1, fun z => (atKey_put_other hne _ _).trans (h2 z), hold _ _ h3⟩
set_option maxHeartbeats 400000 in
theorem Jau (s : ByteArray) (w : World) (hlim : s.size ≤ 200) : Calls Tryz.prog 36 #[.string s] w fun e w' => e = .returned (.string s) ∧ Below w.heap.size w w' := by
  have HC := hide (Tryz.stringslite_Clone s w (by omega))
  clear hlim
  go_enter Tryz.func36, Tryz.ntmps36
  go_wp2_with (go_at_call 50; refine (Ja HC).mono ?_; rintro e w' ⟨rfl, hb⟩; have HB := hide hb; clear hb)
  exact bodyPost_ret (v := .string s) (by simp [results, Tryz.results36, go_sem]) rfl ⟨rfl, Ja HB⟩
end Go.Proofs.YtjobgpahajhbnabGreatDoor
