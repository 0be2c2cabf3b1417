import Derived.Test.YtjobgpahajhbnaaGreatDoorVg
import Derived.Maps.Views
import Derived.StringKeys
import Derived.Deep.RegionHeld3
namespace Go.Proofs.YtjobgpahajhbnaaGreatDoor
open Go.RowKit Go.Proofs
attribute [local go_sem ↓] Go.wp_at_zero Go.wp_at_succ

/-- what Run of one line leaves -/
structure RunV (w : World) (er at_ : Int) (sh cs : List Int) (cost : Int) (rb : Nat) (w' : World) (so : Option Addr) (sn sc : Nat) (co : Option Addr) (cn cc : Nat) : Prop where
  q0 : w'.cell? ⟨rb, 0, none⟩ = some (.int .i64 er)
  q1 : w'.cell? ⟨rb, 1, none⟩ = some (.int .i64 at_)
  q2 : w'.cell? ⟨rb, 2, none⟩ = some (.slice so sn sc)
  q3 : w'.cell? ⟨rb, 3, none⟩ = some (.slice co cn cc)
  q4 : w'.cell? ⟨rb, 4, none⟩ = some (.int .i64 cost)
  sh : Nums (fun b => w.heap.size ≤ b) w' (.slice so sn sc) sh
  cs : Nums (fun b => w.heap.size ≤ b) w' (.slice co cn cc) cs
  lo : w.heap.size ≤ rb
  hi : rb < w'.heap.size
  bel : Below w.heap.size w w'
def RunL (w : World) (er at_ : Int) (sh cs : List Int) (cost : Int) (e : Ending) (w' : World) : Prop :=
  ∃ rb rc so sn sc co cn cc, e = .returned (.slice (some ⟨rb, 0, none⟩) 1 rc) ∧ RunV w er at_ sh cs cost rb w' so sn sc co cn cc

theorem runV_mk {w w1 : World} {er at_ cost : Int} {sh cs : List Int} {so : Option Addr} {sn sc : Nat} {co : Option Addr} {cn cc : Nat} (o : Obj) (Z : Array Value)
    (hb : Below w.heap.size w w1) (hsh : Nums (fun b => w.heap.size ≤ b) w1 (.slice so sn sc) sh) (hcs : Nums (fun b => w.heap.size ≤ b) w1 (.slice co cn cc) cs) :
    RunV w er at_ sh cs cost (w1.heap.size + 1) ((w1.alloc o).alloc (.cells (#[.int .i64 er, .int .i64 at_, .slice so sn sc, .slice co cn cc, .int .i64 cost] ++ Z) 47)).drew so sn sc co cn cc := by
  have hbw : Below w1.heap.size w1 ((w1.alloc o).alloc (.cells (#[.int .i64 er, .int .i64 at_, .slice so sn sc, .slice co cn cc, .int .i64 cost] ++ Z) 47)).drew := (((Below.refl _ _).alloc (Nat.le_refl _) _).alloc (by simp) _).drew
  have hc : ∀ i, i < 5 → ((w1.alloc o).alloc (.cells (#[.int .i64 er, .int .i64 at_, .slice so sn sc, .slice co cn cc, .int .i64 cost] ++ Z) 47)).drew.cell? ⟨w1.heap.size + 1, i, none⟩ = #[Value.int .i64 er, .int .i64 at_, .slice so sn sc, .slice co cn cc, .int .i64 cost][i]? := by
    intro i hi
    show ((w1.alloc o).alloc (.cells (#[.int .i64 er, .int .i64 at_, .slice so sn sc, .slice co cn cc, .int .i64 cost] ++ Z) 47)).cell? ⟨w1.heap.size + 1, i, none⟩ = _
    rw [World.cell?_alloc_at _ _ _ _ (by simp), Array.getElem?_append_left (by simpa using hi)]
  have h1 := hb.size
  exact ⟨(hc 0 (by omega)).trans rfl, (hc 1 (by omega)).trans rfl, (hc 2 (by omega)).trans rfl, (hc 3 (by omega)).trans rfl, (hc 4 (by omega)).trans rfl, hsh.below hbw, hcs.below hbw, by omega, by simp, hb.trans (hbw.mono h1)⟩

set_option maxHeartbeats 1000000 in
set_option maxRecDepth 20000 in
theorem run_one (w : World) (db lb cap : Nat) (s : ByteArray) (er at_ : Int) (sh cs : List Int) (cost : Int) (hc : w.cell? ⟨lb, 0, none⟩ = some (.string s)) (hl : lb < w.heap.size)
    (hrep : Calls Tryz.prog 42 #[.pointer (some ⟨db, 0, none⟩), .string s] w (RepL w er at_ sh cs cost)) :
    Calls Tryz.prog 33 #[.pointer (some ⟨db, 0, none⟩), .slice (some ⟨lb, 0, none⟩) 1 cap] w (RunL w er at_ sh cs cost) := by
  have HR := hide hrep
  clear hrep
  go_enter Tryz.func33, Tryz.ntmps33
  go_wp2_with fail
  go_loopw [5, 17] (fun v i wr => (i = .int .i64 0 ∧ v = .slice none 0 0 ∧ wr = w) ∨ (i = .int .i64 1 ∧ ∃ rb rc so sn sc co cn cc, v = .slice (some ⟨rb, 0, none⟩) 1 rc ∧ RunV w er at_ sh cs cost rb wr so sn sc co cn cc)) (fun _ i _ => 1 - (intOf i).toNat)
  case atStart => exact Or.inl ⟨rfl, rfl, rfl⟩
  case round =>
    rcases hrel with ⟨rfl, rfl, rfl⟩ | ⟨rfl, rb, rc, so, sn, sc, co, cn, cc, rfl, hv⟩
    · go_wp2_with (go_at_call 42; refine (unhide HR).mono ?_; rintro e w1 ⟨so, sn, sc, co, cn, cc, rfl, hsh, hcs, hb⟩; have HSH := hide hsh; have HCS := hide hcs; have HB := hide hb; clear hsh hcs hb)
      exact ⟨Or.inr ⟨rfl, _, _, so, sn, sc, co, cn, cc, rfl, runV_mk _ _ (unhide HB) (unhide HSH) (unhide HCS)⟩, by simp [intOf]⟩
    · have HV := hide hv
      clear hv
      go_wp2_with fail
      exact bodyPost_ret (v := .slice (some ⟨rb, 0, none⟩) 1 rc) (by simp [results, Tryz.results33, go_sem]) rfl ⟨rb, rc, so, sn, sc, co, cn, cc, rfl, unhide HV⟩
end Go.Proofs.YtjobgpahajhbnaaGreatDoor
namespace Go.Proofs.YtjobgpahajhbnaaGreatDoor
open Go.RowKit Go.Proofs Go.Maps
attribute [local go_sem ↓] Go.wp_at_zero Go.wp_at_succ

theorem nil_arr (P : Nat → Prop) (w : World) : IsArr P w (.agg #[.slice none 0 0, .slice none 0 0]) ⟨[], []⟩ := ⟨none, 0, 0, none, 0, 0, rfl, nums_nil _ _, nums_nil _ _⟩
section
variable {W3 w5 : World} {s0 s1 : Value} {a : Arr} {P : Nat → Prop} {e0 e1 : Int}
theorem afe_1 (hb : Below W3.heap.size W3 w5) (hA : IsArr P w5 (.agg #[s0, s1]) a) :
    AftX W3 ((w5.alloc (.cells #[s0, s1] 89)).alloc (.cells #[.int .i64 e0, .int .i64 e1] 117)) w5.heap.size (w5.heap.size + 1) s0 s1 e0 e1 ∧ IsArr (Not2 w5.heap.size (w5.heap.size + 1)) ((w5.alloc (.cells #[s0, s1] 89)).alloc (.cells #[.int .i64 e0, .int .i64 e1] 117)) (.agg #[s0, s1]) a := by
  have h := hb.size
  exact ⟨⟨(hb.alloc hb.size _).alloc (by simp; omega) _, h, by omega, by simp; omega, by simp, by simp, by simp, by simp, by simp⟩, (hA.imp (fun b _ hl => ⟨by omega, by omega⟩)).below (((Below.refl _ _).alloc (Nat.le_refl _) _).alloc (by simp) _)⟩
theorem afe_2 (hb : Below W3.heap.size W3 w5) (hA : IsArr P w5 (.agg #[s0, s1]) a) :
    AftX W3 ((w5.alloc (.cells #[.int .i64 e0, .int .i64 e1] 117)).alloc (.cells #[s0, s1] 89)) (w5.heap.size + 1) w5.heap.size s0 s1 e0 e1 ∧ IsArr (Not2 (w5.heap.size + 1) w5.heap.size) ((w5.alloc (.cells #[.int .i64 e0, .int .i64 e1] 117)).alloc (.cells #[s0, s1] 89)) (.agg #[s0, s1]) a := by
  have h := hb.size
  exact ⟨⟨(hb.alloc hb.size _).alloc (by simp; omega) _, by omega, h, by simp, by simp; omega, by simp, by simp, by simp, by simp⟩, (hA.imp (fun b _ hl => ⟨by omega, by omega⟩)).below (((Below.refl _ _).alloc (Nat.le_refl _) _).alloc (by simp) _)⟩
theorem afe_3 {k : Nat} {u0 u1 : Value} (hb : Below W3.heap.size W3 w5) (hA : IsArr (fun b => b < W3.heap.size ∨ k ≤ b) w5 (.agg #[s0, s1]) a) (hk : W3.heap.size < k) (hl : W3.heap.size < w5.heap.size) (c0 : w5.cell? ⟨W3.heap.size, 0, none⟩ = some u0) (c1 : w5.cell? ⟨W3.heap.size, 1, none⟩ = some u1) :
    AftX W3 (((w5.setCell ⟨W3.heap.size, 0, none⟩ s0).setCell ⟨W3.heap.size, 1, none⟩ s1).alloc (.cells #[.int .i64 e0, .int .i64 e1] 117)) W3.heap.size w5.heap.size s0 s1 e0 e1 ∧ IsArr (Not2 W3.heap.size w5.heap.size) (((w5.setCell ⟨W3.heap.size, 0, none⟩ s0).setCell ⟨W3.heap.size, 1, none⟩ s1).alloc (.cells #[.int .i64 e0, .int .i64 e1] 117)) (.agg #[s0, s1]) a := by
  have h := hb.size
  have hno : ¬ (fun b => b < W3.heap.size ∨ k ≤ b) W3.heap.size := by intro h; rcases h with h | h <;> omega
  have hn : ((w5.setCell ⟨W3.heap.size, 0, none⟩ s0).setCell ⟨W3.heap.size, 1, none⟩ s1).heap.size = w5.heap.size := by simp
  refine ⟨⟨((hb.setCell (Nat.le_refl _) _).setCell (Nat.le_refl _) _).alloc (by rw [hn]; exact h) _, Nat.le_refl _, h, by simp; omega, by simp, ?_, ?_, ?_, ?_⟩, ?_⟩
  · rw [World.cell?_alloc_past _ _ _ (by simp; omega)]; exact set2_same0 c0
  · rw [World.cell?_alloc_past _ _ _ (by simp; omega)]; exact set2_same1 c1
  · exact (World.cell?_alloc_at _ _ _ _ hn.symm).trans rfl
  · exact (World.cell?_alloc_at _ _ _ _ hn.symm).trans rfl
  · refine IsArr.below ?_ ((Below.refl _ _).alloc (Nat.le_refl _) _)
    refine IsArr.imp ((hA.set hno 0 _).set hno 1 _) (fun b hb hl => ?_)
    rw [hn] at hl
    exact ⟨by rcases hb with h | h <;> omega, by omega⟩
theorem afe_5 {k : Nat} {u0 u1 : Value} (hb : Below W3.heap.size W3 w5) (hA : IsArr (fun b => b < W3.heap.size ∨ k ≤ b) w5 (.agg #[s0, s1]) a) (hk : W3.heap.size < k) (hl : W3.heap.size < w5.heap.size) (c0 : w5.cell? ⟨W3.heap.size, 0, none⟩ = some u0) (c1 : w5.cell? ⟨W3.heap.size, 1, none⟩ = some u1) :
    AftX W3 (((w5.setCell ⟨W3.heap.size, 0, none⟩ (.int .i64 e0)).setCell ⟨W3.heap.size, 1, none⟩ (.int .i64 e1)).alloc (.cells #[s0, s1] 89)) w5.heap.size W3.heap.size s0 s1 e0 e1 ∧ IsArr (Not2 w5.heap.size W3.heap.size) (((w5.setCell ⟨W3.heap.size, 0, none⟩ (.int .i64 e0)).setCell ⟨W3.heap.size, 1, none⟩ (.int .i64 e1)).alloc (.cells #[s0, s1] 89)) (.agg #[s0, s1]) a := by
  have h := hb.size
  have hno : ¬ (fun b => b < W3.heap.size ∨ k ≤ b) W3.heap.size := by intro h; rcases h with h | h <;> omega
  have hn : ((w5.setCell ⟨W3.heap.size, 0, none⟩ (.int .i64 e0)).setCell ⟨W3.heap.size, 1, none⟩ (.int .i64 e1)).heap.size = w5.heap.size := by simp
  refine ⟨⟨((hb.setCell (Nat.le_refl _) _).setCell (Nat.le_refl _) _).alloc (by rw [hn]; exact h) _, h, Nat.le_refl _, by simp, by simp; omega, ?_, ?_, ?_, ?_⟩, ?_⟩
  · exact (World.cell?_alloc_at _ _ _ _ hn.symm).trans rfl
  · exact (World.cell?_alloc_at _ _ _ _ hn.symm).trans rfl
  · rw [World.cell?_alloc_past _ _ _ (by simp; omega)]; exact set2_same0 c0
  · rw [World.cell?_alloc_past _ _ _ (by simp; omega)]; exact set2_same1 c1
  · refine IsArr.below ?_ ((Below.refl _ _).alloc (Nat.le_refl _) _)
    refine IsArr.imp ((hA.set hno 0 _).set hno 1 _) (fun b hb hl => ?_)
    rw [hn] at hl
    exact ⟨by omega, by rcases hb with h | h <;> omega⟩
theorem afe_4 {k p q : Nat} {u0 u1 u2 u3 : Value} (hb : Below W3.heap.size W3 w5) (hA : IsArr (fun b => b < W3.heap.size ∨ k ≤ b) w5 (.agg #[s0, s1]) a) (hp : W3.heap.size ≤ p ∧ p < k ∧ p < w5.heap.size) (hq : W3.heap.size ≤ q ∧ q < k ∧ q < w5.heap.size) (hpq : p ≠ q) (c0 : w5.cell? ⟨p, 0, none⟩ = some u0) (c1 : w5.cell? ⟨p, 1, none⟩ = some u1) (c2 : w5.cell? ⟨q, 0, none⟩ = some u2) (c3 : w5.cell? ⟨q, 1, none⟩ = some u3) :
    AftX W3 ((((w5.setCell ⟨p, 0, none⟩ s0).setCell ⟨p, 1, none⟩ s1).setCell ⟨q, 0, none⟩ (.int .i64 e0)).setCell ⟨q, 1, none⟩ (.int .i64 e1)) p q s0 s1 e0 e1 ∧ IsArr (Not2 p q) ((((w5.setCell ⟨p, 0, none⟩ s0).setCell ⟨p, 1, none⟩ s1).setCell ⟨q, 0, none⟩ (.int .i64 e0)).setCell ⟨q, 1, none⟩ (.int .i64 e1)) (.agg #[s0, s1]) a := by
  have np : ¬ (fun b => b < W3.heap.size ∨ k ≤ b) p := by intro h; rcases h with h | h <;> omega
  have nq : ¬ (fun b => b < W3.heap.size ∨ k ≤ b) q := by intro h; rcases h with h | h <;> omega
  refine ⟨⟨(((hb.setCell hp.1 _).setCell hp.1 _).setCell hq.1 _).setCell hq.1 _, hp.1, hq.1, by simp; omega, by simp; omega, ?_, ?_, ?_, ?_⟩, ?_⟩
  · rw [set2_other hpq]; exact set2_same0 c0
  · rw [set2_other hpq]; exact set2_same1 c1
  · exact set2_same0 (u := u2) (by rw [set2_other (Ne.symm hpq)]; exact c2)
  · exact set2_same1 (u := u3) (by rw [set2_other (Ne.symm hpq)]; exact c3)
  · exact IsArr.imp ((((hA.set np 0 _).set np 1 _).set nq 0 _).set nq 1 _) (fun b hb hl => ⟨by rcases hb with h | h <;> omega, by rcases hb with h | h <;> omega⟩)
end
set_option maxHeartbeats 2000000 in
set_option maxRecDepth 20000 in
theorem reply_err (env : ByteArray → Option Arr) (fuel : Int) (f1 : ByteArray → Arr → Arr × Int) (f2 : ByteArray → Arr → Arr → Arr × Int) (db : Nat) (w : World) (mr : Option Nat) (s : ByteArray) (hs : s.size ≤ 9223372036854775807) (hD : Dsk db fuel mr w) (h0 : 0 ≤ fuel) (hfl : fuel ≤ 1000) (he : ∀ t a, env t = some a → a.ok) (hL : Look (fun _ => True) w (.map mr) env)
    (hp : (parseP s).1 = 0) (hp2 : (parseP s).2 = 0) (hg : ∀ x, TreeOf s x → Good f1 f2 x) (er : Int) (pl : Nat) (hev : ∀ x, TreeOf s x → evalE env fuel f1 f2 x 0 = .inl (er, pl)) (hne : er ≠ 0) :
    Calls Tryz.prog 42 #[.pointer (some ⟨db, 0, none⟩), .string s] w (RepL w er pl [] [] 0) := by
  have hw1 : Below w.heap.size w (w.alloc (.cells #[.int .i64 0, .int .i64 0, .slice none 0 0, .slice none 0 0, .int .i64 0] 47)) := (Below.refl _ _).alloc (Nat.le_refl _) _
  have HRead := hide (gread_any s _ (hD.keep hw1).evs hs)
  have HEx := hide (fun x (hx : TreeOf s x) B W q hi P hP hl => expr_top env fuel f1 f2 B W (.map mr) ⟨_, rfl⟩ h0 hfl he x (hg x hx) q hi P hP hl)
  have HEv := hide hev
  obtain ⟨C, hC⟩ : ∃ C : Int, (pl : Int) = C := ⟨_, rfl⟩
  rw [hC]
  have HC := hide hC
  obtain ⟨nm, hn⟩ : ∃ nm, nameP s = nm := ⟨_, rfl⟩
  have HDk := hide hD
  have HW1 := hide hw1
  have HL := hide hL
  have HP1 := hide hp
  have HP2 := hide hp2
  have HN := hide hn
  have hdb := hD.lt
  clear hp hp2 hn hC hD hw1 hL h0 hfl he hg hev hs
  go_enter Tryz.func42, Tryz.ntmps42
  go_wp2_with (go_at_call 59; refine (unhide HRead).mono ?_; rintro e w2 ⟨q, rfl, hb2, hx⟩; obtain ⟨x, ht, hx⟩ := hx (unhide HP1); rw [unhide HP1, unhide HP2, unhide HN]; have HB2 : Hid (Below w.heap.size w w2) := hide ((unhide HW1).trans (hb2.mono (unhide HW1).size)); have HT := hide ht; have HX := hide hx; have hb2' := hide hb2; clear hb2 ht hx)
  have HB3 : Hid (Below w2.heap.size w2 (w2.alloc (.cells #[.string nm, .pointer q] 113))) := hide ((Below.refl _ _).alloc (Nat.le_refl _) _)
  have z1 : (w2.alloc (.cells #[.string nm, .pointer q] 113)).cell? ⟨w2.heap.size, 1, none⟩ = some (.pointer q) := (World.cell?_alloc_at _ _ _ _ rfl).trans rfl
  have z0 : (w2.alloc (.cells #[.string nm, .pointer q] 113)).cell? ⟨w2.heap.size, 0, none⟩ = some (.string nm) := (World.cell?_alloc_at _ _ _ _ rfl).trans rfl
  have zs : w2.heap.size < (w2.alloc (.cells #[.string nm, .pointer q] 113)).heap.size := by simp
  obtain ⟨W3, hW3⟩ : ∃ W3, w2.alloc (.cells #[.string nm, .pointer q] 113) = W3 := ⟨_, rfl⟩
  rw [hW3] at HB3 z1 z0 zs ⊢
  have HBW3 : Hid (Below w.heap.size w W3) := hide ((unhide HB2).trans ((unhide HB3).mono (unhide HB2).size))
  have HDk3 := hide ((unhide HDk).keep (unhide HBW3))
  have HZ1 := hide z1
  have HZ0 := hide z0
  clear hW3 z1 z0
  have HEx3 : Hid (∀ w', Below W3.heap.size W3 w' → Calls Tryz.prog 60 #[.pointer q, .map mr, .int .i64 fuel] w' fun e w'' => Below w'.heap.size w' w'' ∧ Below W3.heap.size W3 w'' ∧ e = .returned (.tuple #[.agg #[.slice none 0 0, .slice none 0 0], .int .i64 0, .agg #[.int .i64 er, .int .i64 C]])) := hide (fun w' hb => by
    have hb3 := (unhide HB3).trans (hb.mono (unhide HB3).size)
    have hbw := (unhide HBW3).trans (hb.mono (unhide HBW3).size)
    refine (unhide HEx x (unhide HT) _ w' q ((unhide HX).keep (Behind.of_below hb3)) (fun b => b < W3.heap.size ∨ w'.heap.size ≤ b) (fun b h => .inr h) ((unhide HL).later hbw (fun b _ hl => .inl (Nat.lt_of_lt_of_le hl (unhide HBW3).size)))).mono ?_
    rintro e w'' ⟨h1, h2⟩
    rw [unhide HEv x (unhide HT)] at h2
    simp only [unhide HC] at h2
    exact ⟨h1, hb.trans (h1.mono hb.size), h2.1⟩)
  have HS : Hid (∀ w', Below W3.heap.size W3 w' → w'.cell? ⟨w2.heap.size, 1, none⟩ = some (.pointer q) ∧ w'.cell? ⟨db, 1, none⟩ = some (.map mr) ∧ w'.cell? ⟨db, 0, none⟩ = some (.int .i64 fuel)) := by
    intro w' hb
    have h := (unhide HDk3).keep hb
    exact ⟨(hb.cell (p := ⟨w2.heap.size, 1, none⟩) zs).trans (unhide HZ1), h.c1, h.c0⟩
  clear HEx HRead HL HEv
  go_upto_region 4 with fail
  go_cut [8, 9, 10] from 22 to 36 (fun v8 v9 v10 wx => v9 = .int .i64 0 ∧ ∃ p q, v8 = .pointer (some ⟨p, 0, none⟩) ∧ v10 = .pointer (some ⟨q, 0, none⟩) ∧ AftX W3 wx p q (.slice none 0 0) (.slice none 0 0) er C)
  case first =>
    go_region_held3 (fun w' => w'.cell? ⟨w2.heap.size, 1, none⟩ = some (.pointer q) ∧ w'.cell? ⟨db, 1, none⟩ = some (.map mr) ∧ w'.cell? ⟨db, 0, none⟩ = some (.int .i64 fuel))
      (exact unhide HS _ (by repeat' (first | exact Below.refl _ _ | refine Below.drew ?_ | refine Below.alloc ?_ ?_ _ | refine Below.setCell ?_ ?_ _ | (show _ ≤ _; first | omega | (simp; done) | (simp; omega)) | exact unhide HB5)
                             done))
      ((go_at_call 60; refine (unhide HEx3 _ ?_).mono ?_; (first | exact (Below.refl _ _).drew | exact ((Below.refl _ _).alloc (Nat.le_refl _) _).drew | exact (((Below.refl _ _).alloc (Nat.le_refl _) _).alloc (by simp) _).drew); rintro e w5 ⟨hb5, hb6, rfl⟩;  have HB5 := hide hb6; have hs5 := hb6.size; have hs6 := hb5.size; (try simp at hs6); (try have hs7 : W3.heap.size < w5.heap.size := by omega); (try have hs8 : W3.heap.size + 1 < w5.heap.size := by omega); (try have hs9 : W3.heap.size ≠ w5.heap.size := by omega); (try have hs10 : W3.heap.size + 1 ≠ w5.heap.size := by omega); obtain ⟨hc5, hf5⟩ := bcell hb5; clear hb5 hb6))
    all_goals go_wp2_with fail
    all_goals go_meet
    case rel => exact ⟨rfl, _, _, rfl, rfl, (afe_1 (P := fun _ => True) (unhide HB5) (nil_arr _ _)).1⟩
    case rel => exact ⟨rfl, _, _, rfl, rfl, (afe_2 (P := fun _ => True) (unhide HB5) (nil_arr _ _)).1⟩
    case rel => exact ⟨rfl, _, _, rfl, rfl, (afe_3 (k := W3.heap.size + 1) (u0 := .slice none 0 0) (u1 := .slice none 0 0) (unhide HB5) (nil_arr _ _) (by simp) hs7 ((hc5 _ 0 (by simp)).trans (by simp)) ((hc5 _ 1 (by simp)).trans (by simp))).1⟩
    case rel => exact ⟨rfl, _, _, rfl, rfl, (afe_4 (k := W3.heap.size + 2) (u0 := .slice none 0 0) (u1 := .slice none 0 0) (u2 := .int .i64 0) (u3 := .int .i64 0) (unhide HB5) (nil_arr _ _) ⟨by omega, (by simp <;> omega), by omega⟩ ⟨by omega, (by simp <;> omega), by omega⟩ (by omega) ((hc5 _ 0 (by simp <;> omega)).trans (by simp)) ((hc5 _ 1 (by simp <;> omega)).trans (by simp)) ((hc5 _ 0 (by simp <;> omega)).trans (by simp)) ((hc5 _ 1 (by simp <;> omega)).trans (by simp))).1⟩
    case rel => exact ⟨rfl, _, _, rfl, rfl, (afe_5 (k := W3.heap.size + 1) (u0 := .int .i64 0) (u1 := .int .i64 0) (unhide HB5) (nil_arr _ _) (by simp) hs7 ((hc5 _ 0 (by simp)).trans (by simp)) ((hc5 _ 1 (by simp)).trans (by simp))).1⟩
    case rel => exact ⟨rfl, _, _, rfl, rfl, (afe_4 (k := W3.heap.size + 2) (u0 := .slice none 0 0) (u1 := .slice none 0 0) (u2 := .int .i64 0) (u3 := .int .i64 0) (unhide HB5) (nil_arr _ _) ⟨by omega, (by simp <;> omega), by omega⟩ ⟨by omega, (by simp <;> omega), by omega⟩ (by omega) ((hc5 _ 0 (by simp <;> omega)).trans (by simp)) ((hc5 _ 1 (by simp <;> omega)).trans (by simp)) ((hc5 _ 0 (by simp <;> omega)).trans (by simp)) ((hc5 _ 1 (by simp <;> omega)).trans (by simp))).1⟩
  case rest =>
    obtain ⟨rfl, p, qf, rfl, rfl, hX⟩ := hcut
    have bel := hX.bel
    have yf := hX.f0
    have yg := hX.f1
    have hql := hX.hq
    have hbc : Below (w.heap.size + 1) (w.alloc (.cells #[.int .i64 0, .int .i64 0, .slice none 0 0, .slice none 0 0, .int .i64 0] 47)) wc := by
      have h1 := unhide hb2'
      simp only [World.size_alloc] at h1
      have h2 := (unhide HB3).size
      have h3 := h1.size
      simp at h3
      exact (h1.trans ((unhide HB3).mono (by omega))).trans (bel.mono (by omega))
    have d := fun i => hbc.cell (p := ⟨w.heap.size, i, none⟩) (by show w.heap.size < w.heap.size + 1; omega)
    have f := fun i => (hbc.frozen (p := ⟨w.heap.size, i, none⟩) (by show w.heap.size < w.heap.size + 1; omega)).trans (World.frozen?_alloc_at _ _ _ _ rfl)
    have e0 := (d 0).trans ((World.cell?_alloc_at _ _ _ _ rfl).trans rfl)
    have e1 := (d 1).trans ((World.cell?_alloc_at _ _ _ _ rfl).trans rfl)
    have e2 := (d 2).trans ((World.cell?_alloc_at _ _ _ _ rfl).trans rfl)
    have e3 := (d 3).trans ((World.cell?_alloc_at _ _ _ _ rfl).trans rfl)
    have e4 := (d 4).trans ((World.cell?_alloc_at _ _ _ _ rfl).trans rfl)
    have g0 := f 0
    have g1 := f 1
    have g2 := f 2
    have g3 := f 3
    have g4 := f 4
    have hwc : w.heap.size < wc.heap.size := by have := hbc.size; simp at this; omega
    have hne' : (er != 0) = true := by simpa using hne
    have HBc : Hid (Below w.heap.size w wc) := hide ((unhide HBW3).trans (bel.mono (unhide HBW3).size))
    clear hX bel hbc d f HEx3 HS HDk HDk3 hne
    go_wp2_with fail
    all_goals first
      | (refine bodyPost_ret (v := .agg #[.int .i64 er, .int .i64 C, .slice none 0 0, .slice none 0 0, .int .i64 0]) (by simp [results, Tryz.results42, go_sem, e0, e1, e2, e3, e4]) rfl ⟨none, 0, 0, none, 0, 0, rfl, nums_nil _ _, nums_nil _ _, ?_⟩
         exact (((((unhide HBc).setCell (p := ⟨w.heap.size, 0, none⟩) (Nat.le_refl _) _).setCell (p := ⟨w.heap.size, 1, none⟩) (Nat.le_refl _) _).setCell (p := ⟨w.heap.size, 2, none⟩) (Nat.le_refl _) _).setCell (p := ⟨w.heap.size, 3, none⟩) (Nat.le_refl _) _).setCell (p := ⟨w.heap.size, 4, none⟩) (Nat.le_refl _) _)
      | (trace_state; fail)
end Go.Proofs.YtjobgpahajhbnaaGreatDoor
namespace Go.Proofs.YtjobgpahajhbnaaGreatDoor
open Go.RowKit Go.Proofs
attribute [local go_sem ↓] Go.wp_at_zero Go.wp_at_succ

/-- what a line is answered on a desk -/
def Says (D : World → Prop) (db : Nat) (s : ByteArray) (er at_ : Int) (sh cs : List Int) (cost : Int) : Prop :=
  ∀ w, D w → Calls Tryz.prog 42 #[.pointer (some ⟨db, 0, none⟩), .string s] w (RepL w er at_ sh cs cost)
/-- what is held of a desk outlives what is new -/
def Lasts (D : World → Prop) : Prop := ∀ w w', D w → Below w.heap.size w w' → D w'
theorem nums_at {P : Nat → Prop} {w : World} {so : Option Addr} {sn sc : Nat} {xs : List Int} (h : Nums P w (.slice so sn sc) xs) : sn = xs.length ∧ xs.length ≤ sc ∧ (0 < xs.length → ∃ b off, so = some ⟨b, off, none⟩ ∧ b < w.heap.size ∧ ∀ i, (h : i < xs.length) → w.cell? ⟨b, off + i, none⟩ = some (.int .i64 xs[i])) := by
  obtain ⟨ao, cap, hv, hc, h1, _⟩ := h
  injection hv with e1 e2 e3
  subst e1 e2 e3
  exact ⟨rfl, hc, fun h0 => by obtain ⟨b, off, ha, _, hl, hc⟩ := h1 h0; exact ⟨b, off, ha, hl, hc⟩⟩

end Go.Proofs.YtjobgpahajhbnaaGreatDoor
namespace Go.Proofs.YtjobgpahajhbnaaGreatDoor
open Go.RowKit Go.Proofs Go.Maps
attribute [local go_sem ↓] Go.wp_at_zero Go.wp_at_succ

/-- all is kept but blocks of which S holds -/
structure Bs (S : Nat → Prop) (w w' : World) : Prop where
  os : w'.os = w.os
  tape : w'.tape = w.tape
  output : w'.output = w.output
  size : w.heap.size ≤ w'.heap.size
  block : ∀ k, k < w.heap.size → ¬ S k → w'.heap[k]? = w.heap[k]?
theorem Bs.of {S : Nat → Prop} {w w' : World} (h : Below w.heap.size w w') : Bs S w w' := ⟨h.os, h.tape, h.output, h.size, fun k hk _ => h.block k hk⟩
theorem Bs.trans {S S' : Nat → Prop} {w w1 w2 : World} (h : Bs S w w1) (h' : Bs S' w1 w2) (hs : ∀ k, k < w.heap.size → S' k → S k) : Bs S w w2 :=
  ⟨h'.os.trans h.os, h'.tape.trans h.tape, h'.output.trans h.output, Nat.le_trans h.size h'.size, fun k hk hn => (h'.block k (Nat.lt_of_lt_of_le hk h.size) (fun hs' => hn (hs k hk hs'))).trans (h.block k hk hn)⟩
theorem Bs.cell {S : Nat → Prop} {w w' : World} (h : Bs S w w') {b o : Nat} (hb : b < w.heap.size) (hn : ¬ S b) : w'.cell? ⟨b, o, none⟩ = w.cell? ⟨b, o, none⟩ := World.cell?_of_block (h.block b hb hn)
theorem Bs.frozen {S : Nat → Prop} {w w' : World} (h : Bs S w w') {b o : Nat} (hb : b < w.heap.size) (hn : ¬ S b) : w'.frozen? ⟨b, o, none⟩ = w.frozen? ⟨b, o, none⟩ := World.frozen?_of_block (a := ⟨b, o, none⟩) (h.block b hb hn)
def keyT (t : ByteArray) : Lit := .string t.data.toList
theorem key_of {t : ByteArray} (ht : t.size ≤ 200) : keyOf Tryz.prog 9 (.string t) = some (keyT t) := Go.WideMaps.keyOf_string_mk Tryz.underlying9 (by unfold maxLen; omega)
theorem keyT_inj {t u : ByteArray} (h : keyT t = keyT u) : t = u := by
  unfold keyT at h
  injection h with h
  exact ba_ext h
/-- what is held of a map of names -/
def Holds (D : DataW Value) (P : Nat → Prop) (W : World) (env : ByteArray → Option Arr) : Prop :=
  IsMap D ∧ ∀ t : ByteArray, match env t with
    | none => Maps.has D (keyT t) = false
    | some a => ∃ v, Maps.has D (keyT t) = true ∧ (∀ z, D.atKey (keyT t) z = .held v) ∧ IsArr P W v a
theorem owns_later {W w : World} {mb n : Nat} {D : DataW Value} (h : W.ownsMap Tryz.prog 9 selfE mb n D) (hb : Below W.heap.size W w) : w.ownsMap Tryz.prog 9 selfE mb n D := by
  obtain ⟨es, clock, h1, r⟩ := h
  refine ⟨es, clock, (hb.block mb ?_).trans h1, r⟩
  exact (Array.getElem?_eq_some_iff.1 h1).1
theorem look_of {P : Nat → Prop} {W : World} {mb n : Nat} {D : DataW Value} {env : ByteArray → Option Arr} (hO : W.ownsMap Tryz.prog 9 selfE mb n D) (hH : Holds D P W env) : Look P W (.map (some mb)) env := by
  intro t ht
  have h := hH.2 t
  cases he : env t with
  | none =>
    rw [he] at h
    refine ⟨zArr, fun w hw => ?_, rfl⟩
    exact look_self Tryz.underlying87 (Tryz.zero89 w) (owns_later hO hw) (key_of ht) h (atKey_of_not_has h _)
  | some a =>
    rw [he] at h
    obtain ⟨v, h1, h2, h3⟩ := h
    exact ⟨v, fun w hw => look_self Tryz.underlying87 (Tryz.zero89 w) (owns_later hO hw) (key_of ht) h1 (h2 _), h3⟩
/-- a name more, or made anew -/
def upd (env : ByteArray → Option Arr) (nm : ByteArray) (a : Arr) : ByteArray → Option Arr := fun t => if t = nm then some a else env t
theorem Holds.put {D : DataW Value} {P P' : Nat → Prop} {W W' : World} {env : ByteArray → Option Arr} (h : Holds D P W env) (nm : ByteArray) (hk : WideAt.IsKeyLit (keyT nm)) {v : Value} {a : Arr} (hv : IsArr P' W' v a) (hold : ∀ u b, IsArr P W u b → IsArr P' W' u b) : Holds (D.put (keyT nm) (.held v)) P' W' (upd env nm a) := by
  refine ⟨h.1.put _ _, fun t => ?_⟩
  unfold upd
  by_cases e : t = nm
  · subst e
    rw [if_pos rfl]
    exact ⟨v, has_put_same h.1 hk _, fun z => atKey_put_same h.1 hk _ _, hv⟩
  · rw [if_neg e]
    have hne : keyT t ≠ keyT nm := fun h => e (keyT_inj h)
    have ho := h.2 t
    cases he : env t with
    | none => rw [he] at ho; exact (has_put_other hne _).trans ho
    | some b =>
      rw [he] at ho
      obtain ⟨u, h1, h2, h3⟩ := ho
      exact ⟨u, (has_put_other hne _).trans h1, fun z => (atKey_put_other hne _ _).trans (h2 z), hold _ _ h3⟩
set_option maxHeartbeats 400000 in
theorem clone_any (s : ByteArray) (w : World) (hlim : s.size ≤ 200) : Calls Tryz.prog 78 #[.string s] w fun e w' => e = .returned (.string s) ∧ Below w.heap.size w w' := by
  have HC := hide (Tryz.stringslite_Clone s w (by omega))
  clear hlim
  go_enter Tryz.func78, Tryz.ntmps78
  go_wp2_with (go_at_call 112; refine (unhide HC).mono ?_; rintro e w' ⟨rfl, hb⟩; have HB := hide hb; clear hb)
  exact bodyPost_ret (v := .string s) (by simp [results, Tryz.results78, go_sem]) rfl ⟨rfl, unhide HB⟩
end Go.Proofs.YtjobgpahajhbnaaGreatDoor
namespace Go.Proofs.YtjobgpahajhbnaaGreatDoor
open Go.RowKit Go.Proofs Go.Maps
attribute [local go_sem ↓] Go.wp_at_zero Go.wp_at_succ

theorem Tryz.map_some (b : Nat) (w : World) : (binOp .eql 87 (.map (some b)) (.map none)).run Tryz.prog w = .ok (.bool false) w := by kernel_rfl
theorem Tryz.map_none (w : World) : (binOp .eql 87 (.map none) (.map none)).run Tryz.prog w = .ok (.bool true) w := by kernel_rfl
set_option maxHeartbeats 2000000 in
set_option maxRecDepth 20000 in
theorem keep_old (db : Nat) (w : World) (mb n : Nat) (D : DataW Value) (nm : ByteArray) (hnm : nm.size ≤ 200) (so : Option Addr) (sn sc : Nat) (co : Option Addr) (cn cc : Nat) (hdb : db < w.heap.size) (c1 : w.cell? ⟨db, 1, none⟩ = some (.map (some mb))) (hO : w.ownsMap Tryz.prog 9 selfE mb n D) (hn : n < 1000000) (hdm : db ≠ mb) :
    Calls Tryz.prog 61 #[.pointer (some ⟨db, 0, none⟩), .string nm, .agg #[.slice so sn sc, .slice co cn cc]] w fun e w' => e = .returned (.tuple #[]) ∧ w'.ownsMap Tryz.prog 9 selfE mb (n + 1) (D.put (keyT nm) (.held (.agg #[.slice so sn sc, .slice co cn cc]))) ∧ Bs (fun b => b = mb) w w' := by
  have hmb : mb < w.heap.size := by
    obtain ⟨es, clock, h1, _⟩ := hO
    exact (Array.getElem?_eq_some_iff.1 h1).1
  have hb0 : Below w.heap.size w (w.alloc (.cells #[.slice so sn sc, .slice co cn cc] 89)) := (Below.refl _ _).alloc (Nat.le_refl _) _
  obtain ⟨W0, hW0⟩ : ∃ W0, w.alloc (.cells #[.slice so sn sc, .slice co cn cc] 89) = W0 := ⟨_, rfl⟩
  have z0 : W0.cell? ⟨w.heap.size, 0, none⟩ = some (.slice so sn sc) := by rw [← hW0]; exact (World.cell?_alloc_at _ _ _ _ rfl).trans rfl
  have z1 : W0.cell? ⟨w.heap.size, 1, none⟩ = some (.slice co cn cc) := by rw [← hW0]; exact (World.cell?_alloc_at _ _ _ _ rfl).trans rfl
  have zs : w.heap.size < W0.heap.size := by rw [← hW0]; simp
  rw [hW0] at hb0
  have HS : Hid (∀ w', Below W0.heap.size W0 w' → w'.cell? ⟨db, 1, none⟩ = some (.map (some mb)) ∧ w'.cell? ⟨w.heap.size, 0, none⟩ = some (.slice so sn sc) ∧ w'.cell? ⟨w.heap.size, 1, none⟩ = some (.slice co cn cc)) := hide (fun w' hb => ⟨((hb0.trans (hb.mono hb0.size)).cell (p := ⟨db, 1, none⟩) hdb).trans c1, (hb.cell (p := ⟨w.heap.size, 0, none⟩) zs).trans z0, (hb.cell (p := ⟨w.heap.size, 1, none⟩) zs).trans z1⟩)
  have HU : Hid (∀ w', Below W0.heap.size W0 w' → ∃ w'', (Instr.mapUpdate 87 (.map (some mb)) (.string nm) (.agg #[.slice so sn sc, .slice co cn cc])).run Tryz.prog w' = .ok () w'' ∧ w''.ownsMap Tryz.prog 9 selfE mb (n + 1) (D.put (keyT nm) (.held (.agg #[.slice so sn sc, .slice co cn cc]))) ∧ w'.grownBy w'' (some mb)) := hide (fun w' hb => (owns_later hO (hb0.trans (hb.mono hb0.size))).update Tryz.law9 Tryz.underlying87 (by unfold maxLen; omega) (key_of hnm) (show selfE (.agg #[.slice so sn sc, .slice co cn cc]) = some (.held (.agg #[.slice so sn sc, .slice co cn cc]), []) from rfl))
  have HC := hide (fun w' => clone_any nm w' hnm)
  have HB0 := hide hb0
  have hdb1 : db < W0.heap.size := by omega
  have c1' := (unhide HS W0 (Below.refl _ _)).1
  have hwm : w.heap.size ≠ mb := by omega
  clear hO c1 hn hnm z0 z1 hb0
  have hms := Tryz.map_some mb
  go_enter Tryz.func61, Tryz.ntmps61
  go_wp2_with fail
  try rw [hW0]
  clear hW0
  go_region_held3 (fun w' => w'.cell? ⟨db, 1, none⟩ = some (.map (some mb)) ∧ w'.cell? ⟨w.heap.size, 0, none⟩ = some (.slice so sn sc) ∧ w'.cell? ⟨w.heap.size, 1, none⟩ = some (.slice co cn cc))
    (first
      | exact unhide HS _ (Below.refl _ _).drew
      | exact unhide HS _ (unhide HB1)
      | exact unhide HS2
      | (trace_state; fail))
    ((go_at_call 78; refine (unhide HC _).mono ?_; rintro e w1 ⟨rfl, hb1⟩; have HB1 : Hid (Below W0.heap.size W0 w1) := hide ((Below.refl _ _).drew.trans hb1); obtain ⟨w2, hrun, ho2, hg2⟩ := unhide HU w1 (unhide HB1); have HO2 := hide ho2; have HG2 := hide hg2; have HS2 : Hid (w2.cell? ⟨db, 1, none⟩ = some (.map (some mb)) ∧ w2.cell? ⟨w.heap.size, 0, none⟩ = some (.slice so sn sc) ∧ w2.cell? ⟨w.heap.size, 1, none⟩ = some (.slice co cn cc)) := hide (by have h := unhide HS w1 (unhide HB1); have hsz := (unhide HB1).size; rw [World.cell?_of_block (a := ⟨db, 1, none⟩) (hg2.block db (by omega) (fun e => hdm (Option.some.inj e))), World.cell?_of_block (a := ⟨w.heap.size, 0, none⟩) (hg2.block w.heap.size (by omega) (fun e => hwm (Option.some.inj e))), World.cell?_of_block (a := ⟨w.heap.size, 1, none⟩) (hg2.block w.heap.size (by omega) (fun e => hwm (Option.some.inj e)))]; exact h); clear hb1 ho2 hg2))
  have hfin : Bs (fun b => b = mb) w w2 := by
    have h1 := (unhide HB0).trans ((unhide HB1).mono (unhide HB0).size)
    have h2 := unhide HG2
    exact (Bs.of h1).trans ⟨h2.os, h2.tape, h2.output, h2.size, fun k hk hn => h2.block k hk (fun e => hn (Option.some.inj e))⟩ (fun k _ h => h)
  have HFin := hide hfin
  clear hfin
  go_wp2_with fail
  exact bodyPost_end (v := .tuple #[]) (by simp [results, Tryz.results61, go_sem]) rfl ⟨rfl, unhide HO2, unhide HFin⟩
set_option maxHeartbeats 2000000 in
set_option maxRecDepth 20000 in
theorem keep_new (db : Nat) (w : World) (nm : ByteArray) (hnm : nm.size ≤ 200) (so : Option Addr) (sn sc : Nat) (co : Option Addr) (cn cc : Nat) (hdb : db < w.heap.size) (c1 : w.cell? ⟨db, 1, none⟩ = some (.map none)) (f1 : w.frozen? ⟨db, 1, none⟩ = false) :
    Calls Tryz.prog 61 #[.pointer (some ⟨db, 0, none⟩), .string nm, .agg #[.slice so sn sc, .slice co cn cc]] w fun e w' => e = .returned (.tuple #[]) ∧ w'.cell? ⟨db, 1, none⟩ = some (.map (some (w.heap.size + 1))) ∧ w'.cell? ⟨db, 0, none⟩ = w.cell? ⟨db, 0, none⟩ ∧ w'.frozen? ⟨db, 1, none⟩ = false ∧ w'.ownsMap Tryz.prog 9 selfE (w.heap.size + 1) 1 ((DataW.map []).put (keyT nm) (.held (.agg #[.slice so sn sc, .slice co cn cc]))) ∧ Bs (fun b => b = db) w w' := by
  obtain ⟨W0, hW0⟩ : ∃ W0, ((w.alloc (.cells #[.slice so sn sc, .slice co cn cc] 89)).alloc (.map #[] 0)).setCell ⟨db, 1, none⟩ (.map (some (w.heap.size + 1))) = W0 := ⟨_, rfl⟩
  have hsz : W0.heap.size = w.heap.size + 1 + 1 := by rw [← hW0]; simp
  have hbl : ∀ k, k < w.heap.size → k ≠ db → W0.heap[k]? = w.heap[k]? := fun k hk hn => by
    rw [← hW0, RowKit.Below.heap_setCell _ _ _ _ (fun e => hn e), RowKit.Below.heap_alloc _ _ _ (by simp; omega), RowKit.Below.heap_alloc _ _ _ (by simpa using hk)]
  have z0 : W0.cell? ⟨w.heap.size, 0, none⟩ = some (.slice so sn sc) := by
    rw [← hW0, World.cell?_setCell_other _ _ _ _ (by intro e; injection e; omega), World.cell?_alloc_past _ _ _ (by simp)]
    exact (World.cell?_alloc_at _ _ _ _ rfl).trans rfl
  have z1 : W0.cell? ⟨w.heap.size, 1, none⟩ = some (.slice co cn cc) := by
    rw [← hW0, World.cell?_setCell_other _ _ _ _ (by intro e; injection e; omega), World.cell?_alloc_past _ _ _ (by simp)]
    exact (World.cell?_alloc_at _ _ _ _ rfl).trans rfl
  have z2 : W0.cell? ⟨db, 1, none⟩ = some (.map (some (w.heap.size + 1))) := by
    rw [← hW0]
    exact World.cell?_setCell_same _ _ _ (u := .map none) (by rw [World.cell?_alloc_past _ _ _ (by simp; omega), World.cell?_alloc_past _ _ _ (by simpa using hdb)]; exact c1)
  have z3 : W0.cell? ⟨db, 0, none⟩ = w.cell? ⟨db, 0, none⟩ := by
    rw [← hW0, World.cell?_setCell_other _ _ _ _ (by simp), World.cell?_alloc_past _ _ _ (by simp; omega), World.cell?_alloc_past _ _ _ (by simpa using hdb)]
  have z4 : W0.frozen? ⟨db, 1, none⟩ = false := by
    rw [← hW0, World.frozen?_setCell, World.frozen?_of_block (a := ⟨db, 1, none⟩) (RowKit.Below.heap_alloc _ _ _ (by simp; omega)), World.frozen?_of_block (a := ⟨db, 1, none⟩) (RowKit.Below.heap_alloc _ _ _ (by simpa using hdb))]
    exact f1
  have hO : W0.ownsMap Tryz.prog 9 selfE (w.heap.size + 1) 0 (.map []) := by
    have h := World.ownsMap_made (w.alloc (.cells #[.slice so sn sc, .slice co cn cc] 89)) Tryz.prog 9 selfE
    obtain ⟨es, clock, h1, r⟩ := h
    refine ⟨es, clock, ?_, r⟩
    rw [← hW0, RowKit.Below.heap_setCell _ _ _ _ (by simp; omega)]
    simpa using h1
  have hbs0 : Bs (fun b => b = db) w W0 := by
    refine ⟨?_, ?_, ?_, by omega, fun k hk hn => hbl k hk hn⟩ <;> (rw [← hW0]; rfl)
  have HS : Hid (∀ w', Below W0.heap.size W0 w' → w'.cell? ⟨db, 1, none⟩ = some (.map (some (w.heap.size + 1))) ∧ w'.cell? ⟨w.heap.size, 0, none⟩ = some (.slice so sn sc) ∧ w'.cell? ⟨w.heap.size, 1, none⟩ = some (.slice co cn cc)) := hide (fun w' hb => ⟨(hb.cell (p := ⟨db, 1, none⟩) (by show db < W0.heap.size; omega)).trans z2, (hb.cell (p := ⟨w.heap.size, 0, none⟩) (by show w.heap.size < W0.heap.size; omega)).trans z0, (hb.cell (p := ⟨w.heap.size, 1, none⟩) (by show w.heap.size < W0.heap.size; omega)).trans z1⟩)
  have HU : Hid (∀ w', Below W0.heap.size W0 w' → ∃ w'', (Instr.mapUpdate 87 (.map (some (w.heap.size + 1))) (.string nm) (.agg #[.slice so sn sc, .slice co cn cc])).run Tryz.prog w' = .ok () w'' ∧ w''.ownsMap Tryz.prog 9 selfE (w.heap.size + 1) (0 + 1) ((DataW.map []).put (keyT nm) (.held (.agg #[.slice so sn sc, .slice co cn cc]))) ∧ w'.grownBy w'' (some (w.heap.size + 1))) := hide (fun w' hb => (owns_later hO hb).update Tryz.law9 Tryz.underlying87 (by unfold maxLen; omega) (key_of hnm) (show selfE (.agg #[.slice so sn sc, .slice co cn cc]) = some (.held (.agg #[.slice so sn sc, .slice co cn cc]), []) from rfl))
  have HC := hide (fun w' => clone_any nm w' hnm)
  have HBs0 := hide hbs0
  have HZ3 := hide z3
  have HZ5 := hide z4
  have hms := Tryz.map_none
  have hmm := @run_makeMap Tryz.prog
  have hdm : db ≠ w.heap.size + 1 := by omega
  have hdb1 : db < w.heap.size + 1 := by omega
  have hdb2 : db < w.heap.size + 1 + 1 := by omega
  clear hO hnm z0 z1 z2 z3 z4 hbs0 hbl
  go_enter Tryz.func61, Tryz.ntmps61
  go_wp2_with fail
  try rw [hW0]
  clear hW0
  go_region_held3 (fun w' => w'.cell? ⟨db, 1, none⟩ = some (.map (some (w.heap.size + 1))) ∧ w'.cell? ⟨w.heap.size, 0, none⟩ = some (.slice so sn sc) ∧ w'.cell? ⟨w.heap.size, 1, none⟩ = some (.slice co cn cc))
    (first
      | exact unhide HS _ (Below.refl _ _).drew
      | exact unhide HS _ (unhide HB1)
      | exact unhide HS2
      | (trace_state; fail))
    ((go_at_call 78; refine (unhide HC _).mono ?_; rintro e w1 ⟨rfl, hb1⟩; have HB1 : Hid (Below W0.heap.size W0 w1) := hide ((Below.refl _ _).drew.trans hb1); obtain ⟨w2, hrun, ho2, hg2⟩ := unhide HU w1 (unhide HB1); have HO2 := hide ho2; have HG2 := hide hg2; have HS2 : Hid (w2.cell? ⟨db, 1, none⟩ = some (.map (some (w.heap.size + 1))) ∧ w2.cell? ⟨w.heap.size, 0, none⟩ = some (.slice so sn sc) ∧ w2.cell? ⟨w.heap.size, 1, none⟩ = some (.slice co cn cc)) := hide (by have h := unhide HS w1 (unhide HB1); have hsz1 := (unhide HB1).size; rw [World.cell?_of_block (a := ⟨db, 1, none⟩) (hg2.block db (by omega) (fun e => hdm (Option.some.inj e))), World.cell?_of_block (a := ⟨w.heap.size, 0, none⟩) (hg2.block w.heap.size (by omega) (fun e => absurd (Option.some.inj e) (by omega))), World.cell?_of_block (a := ⟨w.heap.size, 1, none⟩) (hg2.block w.heap.size (by omega) (fun e => absurd (Option.some.inj e) (by omega)))]; exact h); have HZ4 : Hid (w2.cell? ⟨db, 0, none⟩ = w.cell? ⟨db, 0, none⟩) := hide (by have hsz1 := (unhide HB1).size; rw [World.cell?_of_block (a := ⟨db, 0, none⟩) (hg2.block db (by omega) (fun e => hdm (Option.some.inj e))), (unhide HB1).cell (p := ⟨db, 0, none⟩) (by show db < W0.heap.size; omega)]; exact unhide HZ3); have HZ6 : Hid (w2.frozen? ⟨db, 1, none⟩ = false) := hide (by have hsz1 := (unhide HB1).size; rw [World.frozen?_of_block (a := ⟨db, 1, none⟩) (hg2.block db (by omega) (fun e => hdm (Option.some.inj e))), (unhide HB1).frozen (p := ⟨db, 1, none⟩) (by show db < W0.heap.size; omega)]; exact unhide HZ5); clear hb1 ho2 hg2))
  have hfin : Bs (fun b => b = db) w w2 := by
    have h1 := (unhide HBs0).trans (Bs.of (S := fun _ => False) (unhide HB1)) (fun _ _ h => absurd h id)
    have h2 := unhide HG2
    exact h1.trans (S' := fun b => b = w.heap.size + 1) ⟨h2.os, h2.tape, h2.output, h2.size, fun k hk hn => h2.block k hk (fun e => hn (Option.some.inj e))⟩ (fun k hk h => absurd h (by omega))
  have HFin := hide hfin
  clear hfin
  go_wp2_with fail
  exact bodyPost_end (v := .tuple #[]) (by simp [results, Tryz.results61, go_sem]) rfl ⟨rfl, (unhide HS2).1, unhide HZ4, unhide HZ6, unhide HO2, unhide HFin⟩
end Go.Proofs.YtjobgpahajhbnaaGreatDoor
