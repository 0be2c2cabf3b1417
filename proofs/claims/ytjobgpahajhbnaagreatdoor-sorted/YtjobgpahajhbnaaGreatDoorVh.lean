import Derived.Test.YtjobgpahajhbnaaGreatDoorVg
import Derived.Maps.Views
import Derived.StringKeys
import Derived.Deep.RegionHeld3
namespace Go.Proofs.YtjobgpahajhbnaaGreatDoor
open Go.RowKit Go.Proofs
attribute [local go_sem ↓] Go.wp_at_zero Go.wp_at_succ

/-- what Run of one line leaves -/
structure RunV (w : World) (er at_ : Int) (sh cs : List Int) (cost : Int) (rb : Nat) (w' : World) (so : Option Addr) (sn sc : Nat) (co : Option Addr) (cn cc : Nat) : Prop where
  q0 : w'.cell? ⟨rb, 0, none⟩ = some (.int .i64 er)
  q1 : w'.cell? ⟨rb, 1, none⟩ = some (.int .i64 at_)
  q2 : w'.cell? ⟨rb, 2, none⟩ = some (.slice so sn sc)
  q3 : w'.cell? ⟨rb, 3, none⟩ = some (.slice co cn cc)
  q4 : w'.cell? ⟨rb, 4, none⟩ = some (.int .i64 cost)
  sh : Nums (fun b => w.heap.size ≤ b) w' (.slice so sn sc) sh
  cs : Nums (fun b => w.heap.size ≤ b) w' (.slice co cn cc) cs
  lo : w.heap.size ≤ rb
  hi : rb < w'.heap.size
  bel : Below w.heap.size w w'
def RunL (w : World) (er at_ : Int) (sh cs : List Int) (cost : Int) (e : Ending) (w' : World) : Prop :=
  ∃ rb rc so sn sc co cn cc, e = .returned (.slice (some ⟨rb, 0, none⟩) 1 rc) ∧ RunV w er at_ sh cs cost rb w' so sn sc co cn cc

theorem runV_mk {w w1 : World} {er at_ cost : Int} {sh cs : List Int} {so : Option Addr} {sn sc : Nat} {co : Option Addr} {cn cc : Nat} (o : Obj) (Z : Array Value)
    (hb : Below w.heap.size w w1) (hsh : Nums (fun b => w.heap.size ≤ b) w1 (.slice so sn sc) sh) (hcs : Nums (fun b => w.heap.size ≤ b) w1 (.slice co cn cc) cs) :
    RunV w er at_ sh cs cost (w1.heap.size + 1) ((w1.alloc o).alloc (.cells (#[.int .i64 er, .int .i64 at_, .slice so sn sc, .slice co cn cc, .int .i64 cost] ++ Z) 47)).drew so sn sc co cn cc := by
  have hbw : Below w1.heap.size w1 ((w1.alloc o).alloc (.cells (#[.int .i64 er, .int .i64 at_, .slice so sn sc, .slice co cn cc, .int .i64 cost] ++ Z) 47)).drew := (((Below.refl _ _).alloc (Nat.le_refl _) _).alloc (by simp) _).drew
  have hc : ∀ i, i < 5 → ((w1.alloc o).alloc (.cells (#[.int .i64 er, .int .i64 at_, .slice so sn sc, .slice co cn cc, .int .i64 cost] ++ Z) 47)).drew.cell? ⟨w1.heap.size + 1, i, none⟩ = #[Value.int .i64 er, .int .i64 at_, .slice so sn sc, .slice co cn cc, .int .i64 cost][i]? := by
    intro i hi
    show ((w1.alloc o).alloc (.cells (#[.int .i64 er, .int .i64 at_, .slice so sn sc, .slice co cn cc, .int .i64 cost] ++ Z) 47)).cell? ⟨w1.heap.size + 1, i, none⟩ = _
    rw [World.cell?_alloc_at _ _ _ _ (by simp), Array.getElem?_append_left (by simpa using hi)]
  have h1 := hb.size
  exact ⟨(hc 0 (by omega)).trans rfl, (hc 1 (by omega)).trans rfl, (hc 2 (by omega)).trans rfl, (hc 3 (by omega)).trans rfl, (hc 4 (by omega)).trans rfl, hsh.below hbw, hcs.below hbw, by omega, by simp, hb.trans (hbw.mono h1)⟩

set_option maxHeartbeats 1000000 in
set_option maxRecDepth 20000 in
theorem run_one (w : World) (db lb cap : Nat) (s : ByteArray) (er at_ : Int) (sh cs : List Int) (cost : Int) (hc : w.cell? ⟨lb, 0, none⟩ = some (.string s)) (hl : lb < w.heap.size)
    (hrep : Calls Tryz.prog 42 #[.pointer (some ⟨db, 0, none⟩), .string s] w (RepL w er at_ sh cs cost)) :
    Calls Tryz.prog 33 #[.pointer (some ⟨db, 0, none⟩), .slice (some ⟨lb, 0, none⟩) 1 cap] w (RunL w er at_ sh cs cost) := by
  have HR := hide hrep
  clear hrep
  go_enter Tryz.func33, Tryz.ntmps33
  go_wp2_with fail
  go_loopw [5, 17] (fun v i wr => (i = .int .i64 0 ∧ v = .slice none 0 0 ∧ wr = w) ∨ (i = .int .i64 1 ∧ ∃ rb rc so sn sc co cn cc, v = .slice (some ⟨rb, 0, none⟩) 1 rc ∧ RunV w er at_ sh cs cost rb wr so sn sc co cn cc)) (fun _ i _ => 1 - (intOf i).toNat)
  case atStart => exact Or.inl ⟨rfl, rfl, rfl⟩
  case round =>
    rcases hrel with ⟨rfl, rfl, rfl⟩ | ⟨rfl, rb, rc, so, sn, sc, co, cn, cc, rfl, hv⟩
    · go_wp2_with (go_at_call 42; refine (unhide HR).mono ?_; rintro e w1 ⟨so, sn, sc, co, cn, cc, rfl, hsh, hcs, hb⟩; have HSH := hide hsh; have HCS := hide hcs; have HB := hide hb; clear hsh hcs hb)
      exact ⟨Or.inr ⟨rfl, _, _, so, sn, sc, co, cn, cc, rfl, runV_mk _ _ (unhide HB) (unhide HSH) (unhide HCS)⟩, by simp [intOf]⟩
    · have HV := hide hv
      clear hv
      go_wp2_with fail
      exact bodyPost_ret (v := .slice (some ⟨rb, 0, none⟩) 1 rc) (by simp [results, Tryz.results33, go_sem]) rfl ⟨rb, rc, so, sn, sc, co, cn, cc, rfl, unhide HV⟩
end Go.Proofs.YtjobgpahajhbnaaGreatDoor
namespace Go.Proofs.YtjobgpahajhbnaaGreatDoor
open Go.RowKit Go.Proofs
attribute [local go_sem ↓] Go.wp_at_zero Go.wp_at_succ

/-- what a line is answered on a desk -/
def Says (D : World → Prop) (db : Nat) (s : ByteArray) (er at_ : Int) (sh cs : List Int) (cost : Int) : Prop :=
  ∀ w, D w → Calls Tryz.prog 42 #[.pointer (some ⟨db, 0, none⟩), .string s] w (RepL w er at_ sh cs cost)
/-- what is held of a desk outlives what is new -/
def Lasts (D : World → Prop) : Prop := ∀ w w', D w → Below w.heap.size w w' → D w'
theorem nums_at {P : Nat → Prop} {w : World} {so : Option Addr} {sn sc : Nat} {xs : List Int} (h : Nums P w (.slice so sn sc) xs) : sn = xs.length ∧ xs.length ≤ sc ∧ (0 < xs.length → ∃ b off, so = some ⟨b, off, none⟩ ∧ b < w.heap.size ∧ ∀ i, (h : i < xs.length) → w.cell? ⟨b, off + i, none⟩ = some (.int .i64 xs[i])) := by
  obtain ⟨ao, cap, hv, hc, h1, _⟩ := h
  injection hv with e1 e2 e3
  subst e1 e2 e3
  exact ⟨rfl, hc, fun h0 => by obtain ⟨b, off, ha, _, hl, hc⟩ := h1 h0; exact ⟨b, off, ha, hl, hc⟩⟩

set_option maxHeartbeats 1000000 in
set_option maxRecDepth 20000 in
theorem one_gen (D : World → Prop) (hkeep : Lasts D) (db : Nat) (s : ByteArray) (sh cs : List Int) (cost : Int) (hs : Says D db s 0 0 sh cs cost) (w : World) (hD : D w) :
    Calls Tryz.prog 29 #[.pointer (some ⟨db, 0, none⟩), .string s] w fun e w' => ∃ so sn sc co cn cc, e = .returned (.tuple #[.agg #[.int .i64 0, .int .i64 0, .slice so sn sc, .slice co cn cc, .int .i64 cost], .bool true]) ∧ Nums (fun b => w.heap.size < b) w' (.slice so sn sc) sh ∧ Nums (fun b => w.heap.size < b) w' (.slice co cn cc) cs ∧ Below w.heap.size w w' := by
  have hw0 : Below w.heap.size w ((w.alloc (.cells #[.int .i64 0, .int .i64 0, .slice none 0 0, .slice none 0 0, .int .i64 0] 47)).alloc (.cells #[.string s] 9)) := ((Below.refl _ _).alloc (Nat.le_refl _) _).alloc (by simp) _
  have HC := hide (run_one _ db (w.heap.size + 1) 1 s 0 0 sh cs cost (by simp) (by simp) (hs _ (hkeep w _ hD hw0)))
  clear hs hD hkeep
  go_enter Tryz.func29, Tryz.ntmps29
  go_wp2_with fail
  refine (unhide HC).mono ?_
  rintro e w1 ⟨rb, rc, so, sn, sc, co, cn, cc, rfl, hv⟩
  have q0 := hv.q0
  have q1 := hv.q1
  have q2 := hv.q2
  have q3 := hv.q3
  have q4 := hv.q4
  have h1 := hv.lo
  have h2 := hv.hi
  simp at h1
  obtain ⟨hc, hfz⟩ := bcell hv.bel
  have d : ∀ i, w1.cell? ⟨w.heap.size, i, none⟩ = (w.alloc (.cells #[.int .i64 0, .int .i64 0, .slice none 0 0, .slice none 0 0, .int .i64 0] 47)).cell? ⟨w.heap.size, i, none⟩ := fun i => by rw [hc w.heap.size i (by simp; omega), World.cell?_alloc_past _ _ _ (by simp)]
  have d0 := (d 0).trans ((World.cell?_alloc_at _ _ _ _ rfl).trans rfl)
  have d1 := (d 1).trans ((World.cell?_alloc_at _ _ _ _ rfl).trans rfl)
  have d2 := (d 2).trans ((World.cell?_alloc_at _ _ _ _ rfl).trans rfl)
  have d3 := (d 3).trans ((World.cell?_alloc_at _ _ _ _ rfl).trans rfl)
  have d4 := (d 4).trans ((World.cell?_alloc_at _ _ _ _ rfl).trans rfl)
  have f : ∀ i, w1.frozen? ⟨w.heap.size, i, none⟩ = false := fun i => by
    rw [hfz w.heap.size i (by simp; omega), World.frozen?_of_block (a := ⟨w.heap.size, i, none⟩) (RowKit.Below.heap_alloc _ _ _ (by simp))]
    exact World.frozen?_alloc_at _ _ _ _ rfl
  have g0 := f 0
  have g1 := f 1
  have g2 := f 2
  have g3 := f 3
  have g4 := f 4
  have HBe : Hid (Below w.heap.size w w1) := hide (hw0.trans (hv.bel.mono (by simp; omega)))
  have n1 : rb ≠ w.heap.size := by omega
  have hno : ¬ (fun b => w.heap.size < b) w.heap.size := by show ¬ w.heap.size < w.heap.size; omega
  have NS := hide (hv.sh.imp (Q := fun b => w.heap.size < b) (fun b h _ => by simp at h; omega))
  have NC := hide (hv.cs.imp (Q := fun b => w.heap.size < b) (fun b h _ => by simp at h; omega))
  clear d f hc hfz hw0 hv HC
  go_wp2_with fail
  go_region
  go_wp2_with fail
  refine bodyPost_ret (v := .tuple #[.agg #[.int .i64 0, .int .i64 0, .slice so sn sc, .slice co cn cc, .int .i64 cost], .bool true]) (by simp [results, Tryz.results29, go_sem, d0, d1, d2, d3, d4]) rfl ⟨so, sn, sc, co, cn, cc, rfl, ?_, ?_, ?_⟩
  · exact (((((((unhide NS).set hno 0 _).set hno 1 _).set hno 2 _).set hno 3 _).set hno 4 _)).below (Below.refl _ _).drew
  · exact (((((((unhide NC).set hno 0 _).set hno 1 _).set hno 2 _).set hno 3 _).set hno 4 _)).below (Below.refl _ _).drew
  · exact ((((((unhide HBe).setCell (p := ⟨w.heap.size, 0, none⟩) (Nat.le_refl _) _).setCell (p := ⟨w.heap.size, 1, none⟩) (Nat.le_refl _) _).setCell (p := ⟨w.heap.size, 2, none⟩) (Nat.le_refl _) _).setCell (p := ⟨w.heap.size, 3, none⟩) (Nat.le_refl _) _).setCell (p := ⟨w.heap.size, 4, none⟩) (Nat.le_refl _) _).drew

set_option maxHeartbeats 1000000 in
set_option maxRecDepth 20000 in
theorem is_gen (D : World → Prop) (hkeep : Lasts D) (db : Nat) (s : ByteArray) (sh cs : List Int) (cost : Int) (hs : Says D db s 0 0 sh cs cost) (w : World) (hD : D w) {Q : Nat → Prop} (vo : Option Addr) (vn vc : Nat) (ko : Option Addr) (kn kc : Nat) (hsh : Nums Q w (.slice vo vn vc) sh) (hcs : Nums Q w (.slice ko kn kc) cs) (hl1 : sh.length ≤ 200) (hl2 : cs.length ≤ 200) :
    Calls Tryz.prog 28 #[.pointer (some ⟨db, 0, none⟩), .string s, .slice vo vn vc, .slice ko kn kc] w fun e w' => e = .returned (.bool true) ∧ Below w.heap.size w w' := by
  have HC := hide (one_gen D hkeep db s sh cs cost hs w hD)
  have HV := hide hsh
  have HK := hide hcs
  obtain ⟨rfl, hvc, _⟩ := nums_at hsh
  obtain ⟨rfl, hkc, _⟩ := nums_at hcs
  clear hs hD hkeep hsh hcs
  go_enter Tryz.func28, Tryz.ntmps28
  go_wp2_with fail
  refine (unhide HC).mono ?_
  rintro e w1 ⟨so, sn, sc, co, cn, cc, rfl, n1, n2, hb1⟩
  obtain ⟨rfl, hsc, _⟩ := nums_at n1
  obtain ⟨rfl, hcc, _⟩ := nums_at n2
  obtain ⟨W2, hW2⟩ : ∃ W2, w1.alloc (.cells #[.int .i64 0, .int .i64 0, .slice so sh.length sc, .slice co cs.length cc, .int .i64 cost] 47) = W2 := ⟨_, rfl⟩
  have hbW : Below w1.heap.size w1 W2 := by rw [← hW2]; exact (Below.refl _ _).alloc (Nat.le_refl _) _
  have z2 : W2.cell? ⟨w1.heap.size, 2, none⟩ = some (.slice so sh.length sc) := by rw [← hW2]; exact (World.cell?_alloc_at _ _ _ _ rfl).trans rfl
  have z3 : W2.cell? ⟨w1.heap.size, 3, none⟩ = some (.slice co cs.length cc) := by rw [← hW2]; exact (World.cell?_alloc_at _ _ _ _ rfl).trans rfl
  have zs : w1.heap.size < W2.heap.size := by rw [← hW2]; simp
  have HBW : Hid (Below w.heap.size w W2) := hide (hb1.trans (hbW.mono hb1.size))
  have N1 := hide (n1.below hbW)
  have N2 := hide (n2.below hbW)
  have M1 := hide (((unhide HV).below hb1).below hbW)
  have M2 := hide (((unhide HK).below hb1).below hbW)
  clear n1 n2 hb1 hbW HC HV HK
  go_wp2_with fail
  try rw [hW2]
  clear hW2
  go_loopw [11] (fun v wr => ∃ k : Nat, v = .int .i64 k ∧ k ≤ sh.length ∧ Below W2.heap.size W2 wr) (fun v _ => sh.length - (intOf v).toNat)
  case atStart => exact ⟨0, rfl, by omega, Below.refl _ _⟩
  case round =>
    obtain ⟨k, rfl, hk, hbe⟩ := hrel
    by_cases hkl : k < sh.length
    · obtain ⟨_, _, hA⟩ := nums_at (unhide N1)
      obtain ⟨_, _, hB⟩ := nums_at (unhide M1)
      obtain ⟨b1, o1, rfl, l1, c1⟩ := hA (by omega)
      obtain ⟨b2, o2, rfl, l2, c2⟩ := hB (by omega)
      have y1 := (hbe.cell (p := ⟨b1, o1 + k, none⟩) l1).trans (c1 k hkl)
      have y2 := (hbe.cell (p := ⟨b2, o2 + k, none⟩) l2).trans (c2 k hkl)
      have y0 := (hbe.cell (p := ⟨w1.heap.size, 2, none⟩) zs).trans z2
      obtain ⟨x, hx⟩ : ∃ x, sh[k] = x := ⟨_, rfl⟩
      rw [hx] at y1 y2
      have HBe := hide hbe
      have hk0 : (0 : Int) ≤ (k : Int) := by omega
      have hk1 : (k : Int) < (sh.length : Int) := by omega
      clear hA hB c1 c2 hbe hx
      go_wp2_with fail
      go_region
      go_wp2_with fail
      go_roundw
      case rel => exact ⟨k + 1, by go_num, by omega, (unhide HBe).drew⟩
      case measure => simp [intOf]; omega
    · have hke : k = sh.length := by omega
      subst hke
      have HBe := hide hbe
      clear hbe
      go_wp2_with fail
      go_loopw [12] (fun v wx => ∃ k : Nat, v = .int .i64 k ∧ k ≤ cs.length ∧ Below W2.heap.size W2 wx) (fun v _ => cs.length - (intOf v).toNat)
      case atStart => exact ⟨0, rfl, by omega, unhide HBe⟩
      case round =>
        obtain ⟨k, rfl, hk, hbe⟩ := hrel
        by_cases hkl : k < cs.length
        · obtain ⟨_, _, hA⟩ := nums_at (unhide N2)
          obtain ⟨_, _, hB⟩ := nums_at (unhide M2)
          obtain ⟨b1, o1, rfl, l1, c1⟩ := hA (by omega)
          obtain ⟨b2, o2, rfl, l2, c2⟩ := hB (by omega)
          have y1 := (hbe.cell (p := ⟨b1, o1 + k, none⟩) l1).trans (c1 k hkl)
          have y2 := (hbe.cell (p := ⟨b2, o2 + k, none⟩) l2).trans (c2 k hkl)
          have y0 := (hbe.cell (p := ⟨w1.heap.size, 3, none⟩) zs).trans z3
          obtain ⟨x, hx⟩ : ∃ x, cs[k] = x := ⟨_, rfl⟩
          rw [hx] at y1 y2
          have HBe2 := hide hbe
          have hk0 : (0 : Int) ≤ (k : Int) := by omega
          have hk1 : (k : Int) < (cs.length : Int) := by omega
          clear hA hB c1 c2 hbe hx
          go_wp2_with fail
          go_region
          go_wp2_with fail
          go_roundw
          case rel => exact ⟨k + 1, by go_num, by omega, (unhide HBe2).drew⟩
          case measure => simp [intOf]; omega
        · have hke : k = cs.length := by omega
          subst hke
          have HBe2 := hide hbe
          clear hbe
          go_wp2_with fail
          exact bodyPost_ret (v := .bool true) (by simp [results, Tryz.results28, go_sem]) rfl ⟨rfl, (unhide HBW).trans ((unhide HBe2).mono (unhide HBW).size)⟩
end Go.Proofs.YtjobgpahajhbnaaGreatDoor
namespace Go.Proofs.YtjobgpahajhbnaaGreatDoor
open Go.RowKit Go.Proofs Go.Maps
attribute [local go_sem ↓] Go.wp_at_zero Go.wp_at_succ

/-- all is kept but blocks of which S holds -/
structure Bs (S : Nat → Prop) (w w' : World) : Prop where
  os : w'.os = w.os
  tape : w'.tape = w.tape
  output : w'.output = w.output
  size : w.heap.size ≤ w'.heap.size
  block : ∀ k, k < w.heap.size → ¬ S k → w'.heap[k]? = w.heap[k]?
theorem Bs.of {S : Nat → Prop} {w w' : World} (h : Below w.heap.size w w') : Bs S w w' := ⟨h.os, h.tape, h.output, h.size, fun k hk _ => h.block k hk⟩
theorem Bs.trans {S S' : Nat → Prop} {w w1 w2 : World} (h : Bs S w w1) (h' : Bs S' w1 w2) (hs : ∀ k, k < w.heap.size → S' k → S k) : Bs S w w2 :=
  ⟨h'.os.trans h.os, h'.tape.trans h.tape, h'.output.trans h.output, Nat.le_trans h.size h'.size, fun k hk hn => (h'.block k (Nat.lt_of_lt_of_le hk h.size) (fun hs' => hn (hs k hk hs'))).trans (h.block k hk hn)⟩
theorem Bs.cell {S : Nat → Prop} {w w' : World} (h : Bs S w w') {b o : Nat} (hb : b < w.heap.size) (hn : ¬ S b) : w'.cell? ⟨b, o, none⟩ = w.cell? ⟨b, o, none⟩ := World.cell?_of_block (h.block b hb hn)
theorem Bs.frozen {S : Nat → Prop} {w w' : World} (h : Bs S w w') {b o : Nat} (hb : b < w.heap.size) (hn : ¬ S b) : w'.frozen? ⟨b, o, none⟩ = w.frozen? ⟨b, o, none⟩ := World.frozen?_of_block (a := ⟨b, o, none⟩) (h.block b hb hn)
def keyT (t : ByteArray) : Lit := .string t.data.toList
theorem key_of {t : ByteArray} (ht : t.size ≤ 200) : keyOf Tryz.prog 9 (.string t) = some (keyT t) := Go.WideMaps.keyOf_string_mk Tryz.underlying9 (by unfold maxLen; omega)
theorem keyT_inj {t u : ByteArray} (h : keyT t = keyT u) : t = u := by
  unfold keyT at h
  injection h with h
  exact ba_ext h
/-- what is held of a map of names -/
def Holds (D : DataW Value) (P : Nat → Prop) (W : World) (env : ByteArray → Option Arr) : Prop :=
  IsMap D ∧ ∀ t : ByteArray, match env t with
    | none => Maps.has D (keyT t) = false
    | some a => ∃ v, Maps.has D (keyT t) = true ∧ (∀ z, D.atKey (keyT t) z = .held v) ∧ IsArr P W v a
theorem owns_later {W w : World} {mb n : Nat} {D : DataW Value} (h : W.ownsMap Tryz.prog 9 selfE mb n D) (hb : Below W.heap.size W w) : w.ownsMap Tryz.prog 9 selfE mb n D := by
  obtain ⟨es, clock, h1, r⟩ := h
  refine ⟨es, clock, (hb.block mb ?_).trans h1, r⟩
  exact (Array.getElem?_eq_some_iff.1 h1).1
theorem look_of {P : Nat → Prop} {W : World} {mb n : Nat} {D : DataW Value} {env : ByteArray → Option Arr} (hO : W.ownsMap Tryz.prog 9 selfE mb n D) (hH : Holds D P W env) : Look P W (.map (some mb)) env := by
  intro t ht
  have h := hH.2 t
  cases he : env t with
  | none =>
    rw [he] at h
    refine ⟨zArr, fun w hw => ?_, rfl⟩
    exact look_self Tryz.underlying87 (Tryz.zero89 w) (owns_later hO hw) (key_of ht) h (atKey_of_not_has h _)
  | some a =>
    rw [he] at h
    obtain ⟨v, h1, h2, h3⟩ := h
    exact ⟨v, fun w hw => look_self Tryz.underlying87 (Tryz.zero89 w) (owns_later hO hw) (key_of ht) h1 (h2 _), h3⟩
/-- a name more, or made anew -/
def upd (env : ByteArray → Option Arr) (nm : ByteArray) (a : Arr) : ByteArray → Option Arr := fun t => if t = nm then some a else env t
theorem Holds.put {D : DataW Value} {P P' : Nat → Prop} {W W' : World} {env : ByteArray → Option Arr} (h : Holds D P W env) (nm : ByteArray) (hk : WideAt.IsKeyLit (keyT nm)) {v : Value} {a : Arr} (hv : IsArr P' W' v a) (hold : ∀ u b, IsArr P W u b → IsArr P' W' u b) : Holds (D.put (keyT nm) (.held v)) P' W' (upd env nm a) := by
  refine ⟨h.1.put _ _, fun t => ?_⟩
  unfold upd
  by_cases e : t = nm
  · subst e
    rw [if_pos rfl]
    exact ⟨v, has_put_same h.1 hk _, fun z => atKey_put_same h.1 hk _ _, hv⟩
  · rw [if_neg e]
    have hne : keyT t ≠ keyT nm := fun h => e (keyT_inj h)
    have ho := h.2 t
    cases he : env t with
    | none => rw [he] at ho; exact (has_put_other hne _).trans ho
    | some b =>
      rw [he] at ho
      obtain ⟨u, h1, h2, h3⟩ := ho
      exact ⟨u, (has_put_other hne _).trans h1, fun z => (atKey_put_other hne _ _).trans (h2 z), hold _ _ h3⟩
set_option maxHeartbeats 400000 in
theorem clone_any (s : ByteArray) (w : World) (hlim : s.size ≤ 200) : Calls Tryz.prog 78 #[.string s] w fun e w' => e = .returned (.string s) ∧ Below w.heap.size w w' := by
  have HC := hide (Tryz.stringslite_Clone s w (by omega))
  clear hlim
  go_enter Tryz.func78, Tryz.ntmps78
  go_wp2_with (go_at_call 112; refine (unhide HC).mono ?_; rintro e w' ⟨rfl, hb⟩; have HB := hide hb; clear hb)
  exact bodyPost_ret (v := .string s) (by simp [results, Tryz.results78, go_sem]) rfl ⟨rfl, unhide HB⟩
end Go.Proofs.YtjobgpahajhbnaaGreatDoor
namespace Go.Proofs.YtjobgpahajhbnaaGreatDoor
open Go.RowKit Go.Proofs Go.Maps
attribute [local go_sem ↓] Go.wp_at_zero Go.wp_at_succ

theorem Tryz.map_some (b : Nat) (w : World) : (binOp .eql 87 (.map (some b)) (.map none)).run Tryz.prog w = .ok (.bool false) w := by kernel_rfl
theorem Tryz.map_none (w : World) : (binOp .eql 87 (.map none) (.map none)).run Tryz.prog w = .ok (.bool true) w := by kernel_rfl
set_option maxHeartbeats 2000000 in
set_option maxRecDepth 20000 in
theorem keep_old (db : Nat) (w : World) (mb n : Nat) (D : DataW Value) (nm : ByteArray) (hnm : nm.size ≤ 200) (so : Option Addr) (sn sc : Nat) (co : Option Addr) (cn cc : Nat) (hdb : db < w.heap.size) (c1 : w.cell? ⟨db, 1, none⟩ = some (.map (some mb))) (hO : w.ownsMap Tryz.prog 9 selfE mb n D) (hn : n < 1000000) (hdm : db ≠ mb) :
    Calls Tryz.prog 61 #[.pointer (some ⟨db, 0, none⟩), .string nm, .agg #[.slice so sn sc, .slice co cn cc]] w fun e w' => e = .returned (.tuple #[]) ∧ w'.ownsMap Tryz.prog 9 selfE mb (n + 1) (D.put (keyT nm) (.held (.agg #[.slice so sn sc, .slice co cn cc]))) ∧ Bs (fun b => b = mb) w w' := by
  have hmb : mb < w.heap.size := by
    obtain ⟨es, clock, h1, _⟩ := hO
    exact (Array.getElem?_eq_some_iff.1 h1).1
  have hb0 : Below w.heap.size w (w.alloc (.cells #[.slice so sn sc, .slice co cn cc] 89)) := (Below.refl _ _).alloc (Nat.le_refl _) _
  obtain ⟨W0, hW0⟩ : ∃ W0, w.alloc (.cells #[.slice so sn sc, .slice co cn cc] 89) = W0 := ⟨_, rfl⟩
  have z0 : W0.cell? ⟨w.heap.size, 0, none⟩ = some (.slice so sn sc) := by rw [← hW0]; exact (World.cell?_alloc_at _ _ _ _ rfl).trans rfl
  have z1 : W0.cell? ⟨w.heap.size, 1, none⟩ = some (.slice co cn cc) := by rw [← hW0]; exact (World.cell?_alloc_at _ _ _ _ rfl).trans rfl
  have zs : w.heap.size < W0.heap.size := by rw [← hW0]; simp
  rw [hW0] at hb0
  have HS : Hid (∀ w', Below W0.heap.size W0 w' → w'.cell? ⟨db, 1, none⟩ = some (.map (some mb)) ∧ w'.cell? ⟨w.heap.size, 0, none⟩ = some (.slice so sn sc) ∧ w'.cell? ⟨w.heap.size, 1, none⟩ = some (.slice co cn cc)) := hide (fun w' hb => ⟨((hb0.trans (hb.mono hb0.size)).cell (p := ⟨db, 1, none⟩) hdb).trans c1, (hb.cell (p := ⟨w.heap.size, 0, none⟩) zs).trans z0, (hb.cell (p := ⟨w.heap.size, 1, none⟩) zs).trans z1⟩)
  have HU : Hid (∀ w', Below W0.heap.size W0 w' → ∃ w'', (Instr.mapUpdate 87 (.map (some mb)) (.string nm) (.agg #[.slice so sn sc, .slice co cn cc])).run Tryz.prog w' = .ok () w'' ∧ w''.ownsMap Tryz.prog 9 selfE mb (n + 1) (D.put (keyT nm) (.held (.agg #[.slice so sn sc, .slice co cn cc]))) ∧ w'.grownBy w'' (some mb)) := hide (fun w' hb => (owns_later hO (hb0.trans (hb.mono hb0.size))).update Tryz.law9 Tryz.underlying87 (by unfold maxLen; omega) (key_of hnm) (show selfE (.agg #[.slice so sn sc, .slice co cn cc]) = some (.held (.agg #[.slice so sn sc, .slice co cn cc]), []) from rfl))
  have HC := hide (fun w' => clone_any nm w' hnm)
  have HB0 := hide hb0
  have hdb1 : db < W0.heap.size := by omega
  have c1' := (unhide HS W0 (Below.refl _ _)).1
  have hwm : w.heap.size ≠ mb := by omega
  clear hO c1 hn hnm z0 z1 hb0
  have hms := Tryz.map_some mb
  go_enter Tryz.func61, Tryz.ntmps61
  go_wp2_with fail
  try rw [hW0]
  clear hW0
  go_region_held3 (fun w' => w'.cell? ⟨db, 1, none⟩ = some (.map (some mb)) ∧ w'.cell? ⟨w.heap.size, 0, none⟩ = some (.slice so sn sc) ∧ w'.cell? ⟨w.heap.size, 1, none⟩ = some (.slice co cn cc))
    (first
      | exact unhide HS _ (Below.refl _ _).drew
      | exact unhide HS _ (unhide HB1)
      | exact unhide HS2
      | (trace_state; fail))
    ((go_at_call 78; refine (unhide HC _).mono ?_; rintro e w1 ⟨rfl, hb1⟩; have HB1 : Hid (Below W0.heap.size W0 w1) := hide ((Below.refl _ _).drew.trans hb1); obtain ⟨w2, hrun, ho2, hg2⟩ := unhide HU w1 (unhide HB1); have HO2 := hide ho2; have HG2 := hide hg2; have HS2 : Hid (w2.cell? ⟨db, 1, none⟩ = some (.map (some mb)) ∧ w2.cell? ⟨w.heap.size, 0, none⟩ = some (.slice so sn sc) ∧ w2.cell? ⟨w.heap.size, 1, none⟩ = some (.slice co cn cc)) := hide (by have h := unhide HS w1 (unhide HB1); have hsz := (unhide HB1).size; rw [World.cell?_of_block (a := ⟨db, 1, none⟩) (hg2.block db (by omega) (fun e => hdm (Option.some.inj e))), World.cell?_of_block (a := ⟨w.heap.size, 0, none⟩) (hg2.block w.heap.size (by omega) (fun e => hwm (Option.some.inj e))), World.cell?_of_block (a := ⟨w.heap.size, 1, none⟩) (hg2.block w.heap.size (by omega) (fun e => hwm (Option.some.inj e)))]; exact h); clear hb1 ho2 hg2))
  have hfin : Bs (fun b => b = mb) w w2 := by
    have h1 := (unhide HB0).trans ((unhide HB1).mono (unhide HB0).size)
    have h2 := unhide HG2
    exact (Bs.of h1).trans ⟨h2.os, h2.tape, h2.output, h2.size, fun k hk hn => h2.block k hk (fun e => hn (Option.some.inj e))⟩ (fun k _ h => h)
  have HFin := hide hfin
  clear hfin
  go_wp2_with fail
  exact bodyPost_end (v := .tuple #[]) (by simp [results, Tryz.results61, go_sem]) rfl ⟨rfl, unhide HO2, unhide HFin⟩
set_option maxHeartbeats 2000000 in
set_option maxRecDepth 20000 in
theorem keep_new (db : Nat) (w : World) (nm : ByteArray) (hnm : nm.size ≤ 200) (so : Option Addr) (sn sc : Nat) (co : Option Addr) (cn cc : Nat) (hdb : db < w.heap.size) (c1 : w.cell? ⟨db, 1, none⟩ = some (.map none)) (f1 : w.frozen? ⟨db, 1, none⟩ = false) :
    Calls Tryz.prog 61 #[.pointer (some ⟨db, 0, none⟩), .string nm, .agg #[.slice so sn sc, .slice co cn cc]] w fun e w' => e = .returned (.tuple #[]) ∧ w'.cell? ⟨db, 1, none⟩ = some (.map (some (w.heap.size + 1))) ∧ w'.cell? ⟨db, 0, none⟩ = w.cell? ⟨db, 0, none⟩ ∧ w'.frozen? ⟨db, 1, none⟩ = false ∧ w'.ownsMap Tryz.prog 9 selfE (w.heap.size + 1) 1 ((DataW.map []).put (keyT nm) (.held (.agg #[.slice so sn sc, .slice co cn cc]))) ∧ Bs (fun b => b = db) w w' := by
  obtain ⟨W0, hW0⟩ : ∃ W0, ((w.alloc (.cells #[.slice so sn sc, .slice co cn cc] 89)).alloc (.map #[] 0)).setCell ⟨db, 1, none⟩ (.map (some (w.heap.size + 1))) = W0 := ⟨_, rfl⟩
  have hsz : W0.heap.size = w.heap.size + 1 + 1 := by rw [← hW0]; simp
  have hbl : ∀ k, k < w.heap.size → k ≠ db → W0.heap[k]? = w.heap[k]? := fun k hk hn => by
    rw [← hW0, RowKit.Below.heap_setCell _ _ _ _ (fun e => hn e), RowKit.Below.heap_alloc _ _ _ (by simp; omega), RowKit.Below.heap_alloc _ _ _ (by simpa using hk)]
  have z0 : W0.cell? ⟨w.heap.size, 0, none⟩ = some (.slice so sn sc) := by
    rw [← hW0, World.cell?_setCell_other _ _ _ _ (by intro e; injection e; omega), World.cell?_alloc_past _ _ _ (by simp)]
    exact (World.cell?_alloc_at _ _ _ _ rfl).trans rfl
  have z1 : W0.cell? ⟨w.heap.size, 1, none⟩ = some (.slice co cn cc) := by
    rw [← hW0, World.cell?_setCell_other _ _ _ _ (by intro e; injection e; omega), World.cell?_alloc_past _ _ _ (by simp)]
    exact (World.cell?_alloc_at _ _ _ _ rfl).trans rfl
  have z2 : W0.cell? ⟨db, 1, none⟩ = some (.map (some (w.heap.size + 1))) := by
    rw [← hW0]
    exact World.cell?_setCell_same _ _ _ (u := .map none) (by rw [World.cell?_alloc_past _ _ _ (by simp; omega), World.cell?_alloc_past _ _ _ (by simpa using hdb)]; exact c1)
  have z3 : W0.cell? ⟨db, 0, none⟩ = w.cell? ⟨db, 0, none⟩ := by
    rw [← hW0, World.cell?_setCell_other _ _ _ _ (by simp), World.cell?_alloc_past _ _ _ (by simp; omega), World.cell?_alloc_past _ _ _ (by simpa using hdb)]
  have z4 : W0.frozen? ⟨db, 1, none⟩ = false := by
    rw [← hW0, World.frozen?_setCell, World.frozen?_of_block (a := ⟨db, 1, none⟩) (RowKit.Below.heap_alloc _ _ _ (by simp; omega)), World.frozen?_of_block (a := ⟨db, 1, none⟩) (RowKit.Below.heap_alloc _ _ _ (by simpa using hdb))]
    exact f1
  have hO : W0.ownsMap Tryz.prog 9 selfE (w.heap.size + 1) 0 (.map []) := by
    have h := World.ownsMap_made (w.alloc (.cells #[.slice so sn sc, .slice co cn cc] 89)) Tryz.prog 9 selfE
    obtain ⟨es, clock, h1, r⟩ := h
    refine ⟨es, clock, ?_, r⟩
    rw [← hW0, RowKit.Below.heap_setCell _ _ _ _ (by simp; omega)]
    simpa using h1
  have hbs0 : Bs (fun b => b = db) w W0 := by
    refine ⟨?_, ?_, ?_, by omega, fun k hk hn => hbl k hk hn⟩ <;> (rw [← hW0]; rfl)
  have HS : Hid (∀ w', Below W0.heap.size W0 w' → w'.cell? ⟨db, 1, none⟩ = some (.map (some (w.heap.size + 1))) ∧ w'.cell? ⟨w.heap.size, 0, none⟩ = some (.slice so sn sc) ∧ w'.cell? ⟨w.heap.size, 1, none⟩ = some (.slice co cn cc)) := hide (fun w' hb => ⟨(hb.cell (p := ⟨db, 1, none⟩) (by show db < W0.heap.size; omega)).trans z2, (hb.cell (p := ⟨w.heap.size, 0, none⟩) (by show w.heap.size < W0.heap.size; omega)).trans z0, (hb.cell (p := ⟨w.heap.size, 1, none⟩) (by show w.heap.size < W0.heap.size; omega)).trans z1⟩)
  have HU : Hid (∀ w', Below W0.heap.size W0 w' → ∃ w'', (Instr.mapUpdate 87 (.map (some (w.heap.size + 1))) (.string nm) (.agg #[.slice so sn sc, .slice co cn cc])).run Tryz.prog w' = .ok () w'' ∧ w''.ownsMap Tryz.prog 9 selfE (w.heap.size + 1) (0 + 1) ((DataW.map []).put (keyT nm) (.held (.agg #[.slice so sn sc, .slice co cn cc]))) ∧ w'.grownBy w'' (some (w.heap.size + 1))) := hide (fun w' hb => (owns_later hO hb).update Tryz.law9 Tryz.underlying87 (by unfold maxLen; omega) (key_of hnm) (show selfE (.agg #[.slice so sn sc, .slice co cn cc]) = some (.held (.agg #[.slice so sn sc, .slice co cn cc]), []) from rfl))
  have HC := hide (fun w' => clone_any nm w' hnm)
  have HBs0 := hide hbs0
  have HZ3 := hide z3
  have HZ5 := hide z4
  have hms := Tryz.map_none
  have hmm := @run_makeMap Tryz.prog
  have hdm : db ≠ w.heap.size + 1 := by omega
  have hdb1 : db < w.heap.size + 1 := by omega
  have hdb2 : db < w.heap.size + 1 + 1 := by omega
  clear hO hnm z0 z1 z2 z3 z4 hbs0 hbl
  go_enter Tryz.func61, Tryz.ntmps61
  go_wp2_with fail
  try rw [hW0]
  clear hW0
  go_region_held3 (fun w' => w'.cell? ⟨db, 1, none⟩ = some (.map (some (w.heap.size + 1))) ∧ w'.cell? ⟨w.heap.size, 0, none⟩ = some (.slice so sn sc) ∧ w'.cell? ⟨w.heap.size, 1, none⟩ = some (.slice co cn cc))
    (first
      | exact unhide HS _ (Below.refl _ _).drew
      | exact unhide HS _ (unhide HB1)
      | exact unhide HS2
      | (trace_state; fail))
    ((go_at_call 78; refine (unhide HC _).mono ?_; rintro e w1 ⟨rfl, hb1⟩; have HB1 : Hid (Below W0.heap.size W0 w1) := hide ((Below.refl _ _).drew.trans hb1); obtain ⟨w2, hrun, ho2, hg2⟩ := unhide HU w1 (unhide HB1); have HO2 := hide ho2; have HG2 := hide hg2; have HS2 : Hid (w2.cell? ⟨db, 1, none⟩ = some (.map (some (w.heap.size + 1))) ∧ w2.cell? ⟨w.heap.size, 0, none⟩ = some (.slice so sn sc) ∧ w2.cell? ⟨w.heap.size, 1, none⟩ = some (.slice co cn cc)) := hide (by have h := unhide HS w1 (unhide HB1); have hsz1 := (unhide HB1).size; rw [World.cell?_of_block (a := ⟨db, 1, none⟩) (hg2.block db (by omega) (fun e => hdm (Option.some.inj e))), World.cell?_of_block (a := ⟨w.heap.size, 0, none⟩) (hg2.block w.heap.size (by omega) (fun e => absurd (Option.some.inj e) (by omega))), World.cell?_of_block (a := ⟨w.heap.size, 1, none⟩) (hg2.block w.heap.size (by omega) (fun e => absurd (Option.some.inj e) (by omega)))]; exact h); have HZ4 : Hid (w2.cell? ⟨db, 0, none⟩ = w.cell? ⟨db, 0, none⟩) := hide (by have hsz1 := (unhide HB1).size; rw [World.cell?_of_block (a := ⟨db, 0, none⟩) (hg2.block db (by omega) (fun e => hdm (Option.some.inj e))), (unhide HB1).cell (p := ⟨db, 0, none⟩) (by show db < W0.heap.size; omega)]; exact unhide HZ3); have HZ6 : Hid (w2.frozen? ⟨db, 1, none⟩ = false) := hide (by have hsz1 := (unhide HB1).size; rw [World.frozen?_of_block (a := ⟨db, 1, none⟩) (hg2.block db (by omega) (fun e => hdm (Option.some.inj e))), (unhide HB1).frozen (p := ⟨db, 1, none⟩) (by show db < W0.heap.size; omega)]; exact unhide HZ5); clear hb1 ho2 hg2))
  have hfin : Bs (fun b => b = db) w w2 := by
    have h1 := (unhide HBs0).trans (Bs.of (S := fun _ => False) (unhide HB1)) (fun _ _ h => absurd h id)
    have h2 := unhide HG2
    exact h1.trans (S' := fun b => b = w.heap.size + 1) ⟨h2.os, h2.tape, h2.output, h2.size, fun k hk hn => h2.block k hk (fun e => hn (Option.some.inj e))⟩ (fun k hk h => absurd h (by omega))
  have HFin := hide hfin
  clear hfin
  go_wp2_with fail
  exact bodyPost_end (v := .tuple #[]) (by simp [results, Tryz.results61, go_sem]) rfl ⟨rfl, (unhide HS2).1, unhide HZ4, unhide HZ6, unhide HO2, unhide HFin⟩
end Go.Proofs.YtjobgpahajhbnaaGreatDoor
