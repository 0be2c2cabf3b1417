import Derived.Test.YtjobgpahajhbnaaGreatDoorEg
import Derived.Test.YtjobgpahajhbnaaGreatDoorJc
import Derived.Test.YtjobgpahajhbnaaGreatDoorCq
import Derived.Test.YtjobgpahajhbnaaGreatDoorTe
import Derived.Shelf.SlIter.Nil
import Derived.Shelf.SortM.Plain
import Derived.Shelf.SortM.SortNone
import Derived.Ground.GgzProg
import Derived.Ground.SlgmProg
import Derived.Test.YtjobgpahajhbnaaGreatDoorKg
namespace Go.Proofs.YtjobgpahajhbnaaGreatDoor
open Go.RowKit Go.Proofs

section
variable {env : ByteArray → Option Arr} {f1 : ByteArray → Arr → Arr × Int} {f2 : ByteArray → Arr → Arr → Arr × Int}
theorem pay_inr {F : Int} {r : Arr × Int} {p c c' : Nat} {a : Arr} (h : payP F r p c = .inr (a, c')) : r.2 = 0 ∧ a = r.1 ∧ c' = c + (1 + r.1.cells.length) ∧ (c' : Int) ≤ F := by
  unfold payP at h
  split at h
  · cases h
  · split at h
    · cases h
    · rename_i h1 h2
      injection h with h
      injection h with h3 h4
      subst h3
      subst h4
      exact ⟨by omega, rfl, rfl, by omega⟩
theorem pay_enough {F F' : Int} {r : Arr × Int} {p c c' : Nat} {a : Arr} (h : payP F r p c = .inr (a, c')) (hF : (c' : Int) ≤ F') : payP F' r p c = .inr (a, c') := by
  obtain ⟨h1, rfl, rfl, h4⟩ := pay_inr h
  unfold payP
  rw [if_neg (by omega), if_neg (by omega)]
theorem pay_short {F F' : Int} {r : Arr × Int} {p c c' : Nat} {a : Arr} (h : payP F r p c = .inr (a, c')) (hF : F' < (c' : Int)) : payP F' r p c = .inl (10, p) := by
  obtain ⟨h1, rfl, rfl, h4⟩ := pay_inr h
  unfold payP
  rw [if_neg (by omega), if_pos (by omega)]
/-- with as much as it costs a text is done, with less it fails by fuel -/
theorem eval_fuel {F : Int} : ∀ (x : Ex) (c c' : Nat) (a : Arr), evalE env F f1 f2 x c = .inr (a, c') → c ≤ c' ∧ (∀ F' : Int, (c' : Int) ≤ F' → evalE env F' f1 f2 x c = .inr (a, c')) ∧ (∀ F' : Int, (c : Int) ≤ F' → F' < (c' : Int) → ∃ p, evalE env F' f1 f2 x c = .inl (10, p))
  | .num ws, c, c', a, h => by
    simp only [evalE] at h
    injection h with h
    injection h with h1 h2
    subst h1
    subst h2
    exact ⟨Nat.le_refl _, fun _ _ => rfl, fun F' h1 h2 => by omega⟩
  | .name t p, c, c', a, h => by
    simp only [evalE] at h
    cases he : env t with
    | none => rw [he] at h; cases h
    | some b =>
      rw [he] at h
      injection h with h
      injection h with h1 h2
      subst h1
      subst h2
      exact ⟨Nat.le_refl _, fun _ _ => by simp only [evalE, he], fun F' h1 h2 => by omega⟩
  | .one t p r, c, c', a, h => by
    simp only [evalE] at h
    cases hr : evalE env F f1 f2 r c with
    | inl e => rw [hr] at h; cases h
    | inr x =>
      obtain ⟨b, c1⟩ := x
      rw [hr] at h
      obtain ⟨i1, i2, i3⟩ := eval_fuel r c c1 b hr
      have hp : payP F (f1 t b) p c1 = .inr (a, c') := h
      obtain ⟨_, _, q1, q2⟩ := pay_inr hp
      refine ⟨by omega, fun F' hF => ?_, fun F' h1 h2 => ?_⟩
      · simp only [evalE, i2 F' (by omega)]
        exact pay_enough hp hF
      · by_cases hc : (c1 : Int) ≤ F'
        · refine ⟨p, ?_⟩
          simp only [evalE, i2 F' hc]
          exact pay_short hp h2
        · obtain ⟨pl, e⟩ := i3 F' h1 (by omega)
          exact ⟨pl, by simp only [evalE, e]⟩
  | .two t p l r, c, c', a, h => by
    simp only [evalE] at h
    cases hr : evalE env F f1 f2 r c with
    | inl e => rw [hr] at h; cases h
    | inr x =>
      obtain ⟨b, c1⟩ := x
      rw [hr] at h
      cases hl : evalE env F f1 f2 l c1 with
      | inl e => simp only [hl] at h; cases h
      | inr y =>
        obtain ⟨d, c2⟩ := y
        simp only [hl] at h
        obtain ⟨i1, i2, i3⟩ := eval_fuel r c c1 b hr
        obtain ⟨j1, j2, j3⟩ := eval_fuel l c1 c2 d hl
        have hp : payP F (f2 t d b) p c2 = .inr (a, c') := h
        obtain ⟨_, _, q1, q2⟩ := pay_inr hp
        refine ⟨by omega, fun F' hF => ?_, fun F' h1 h2 => ?_⟩
        · simp only [evalE, i2 F' (by omega), j2 F' (by omega)]
          exact pay_enough hp hF
        · by_cases hc : (c1 : Int) ≤ F'
          · by_cases hc2 : (c2 : Int) ≤ F'
            · refine ⟨p, ?_⟩
              simp only [evalE, i2 F' hc, j2 F' hc2]
              exact pay_short hp h2
            · obtain ⟨pl, e⟩ := j3 F' hc (by omega)
              exact ⟨pl, by simp only [evalE, i2 F' hc, e]⟩
          · obtain ⟨pl, e⟩ := i3 F' h1 (by omega)
            exact ⟨pl, by simp only [evalE, e]⟩
end
end Go.Proofs.YtjobgpahajhbnaaGreatDoor
namespace Go.Proofs.YtjobgpahajhbnaaGreatDoor
open Go.RowKit Go.Proofs Go.Maps
attribute [local go_sem ↓] Go.wp_at_zero Go.wp_at_succ

set_option maxHeartbeats 1000000 in
set_option maxRecDepth 20000 in
/-- a text that is no line -/
theorem reply_syn (s : ByteArray) (hs : s.size ≤ 9223372036854775807) (w : World) (hE : Evs w) (db : Nat) (er at_ : Int) (hp : parseP s = (er, at_)) (hne : er ≠ 0) :
    Calls Tryz.prog 42 #[.pointer (some ⟨db, 0, none⟩), .string s] w (RepL w er at_ [] [] 0) := by
  have hw1 : Below w.heap.size w (w.alloc (.cells #[.int .i64 0, .int .i64 0, .slice none 0 0, .slice none 0 0, .int .i64 0] 47)) := (Below.refl _ _).alloc (Nat.le_refl _) _
  have hE1 : Evs (w.alloc (.cells #[.int .i64 0, .int .i64 0, .slice none 0 0, .slice none 0 0, .int .i64 0] 47)) := hE.alloc _
  have HRead := hide (gread_any s _ hE1 hs)
  obtain ⟨nm, hn⟩ : ∃ nm, nameP s = nm := ⟨_, rfl⟩
  have HP1 : Hid ((parseP s).1 = er) := hide (by rw [hp])
  have HP2 : Hid ((parseP s).2 = at_) := hide (by rw [hp])
  have HN := hide hn
  have HW1 := hide hw1
  have hne' : (er != 0) = true := by simpa using hne
  clear hw1 hE1 hE hs hp hn hne
  go_enter Tryz.func42, Tryz.ntmps42
  go_wp2_with fail
  refine (unhide HRead).mono ?_
  rintro e w2 ⟨q, rfl, hb2, -⟩
  rw [unhide HP1, unhide HP2, unhide HN]
  obtain ⟨hc, hf⟩ := bcell hb2
  have d0 := (hc w.heap.size 0 (by simp)).trans ((World.cell?_alloc_at _ _ _ _ rfl).trans rfl)
  have d1 := (hc w.heap.size 1 (by simp)).trans ((World.cell?_alloc_at _ _ _ _ rfl).trans rfl)
  have d2 := (hc w.heap.size 2 (by simp)).trans ((World.cell?_alloc_at _ _ _ _ rfl).trans rfl)
  have d3 := (hc w.heap.size 3 (by simp)).trans ((World.cell?_alloc_at _ _ _ _ rfl).trans rfl)
  have d4 := (hc w.heap.size 4 (by simp)).trans ((World.cell?_alloc_at _ _ _ _ rfl).trans rfl)
  have fz : ∀ i, w2.frozen? ⟨w.heap.size, i, none⟩ = false := fun i => (hf w.heap.size i (by simp)).trans (World.frozen?_alloc_at _ _ _ _ rfl)
  have g0 := fz 0
  have g1 := fz 1
  have g2 := fz 2
  have g3 := fz 3
  have g4 := fz 4
  have hlt : w.heap.size < w2.heap.size := by have := hb2.size; simp at this; omega
  have HB2 : Hid (Below w.heap.size w w2) := hide ((unhide HW1).trans (hb2.mono (unhide HW1).size))
  clear hc hf fz hb2 HRead HP1 HP2 HN HW1
  go_wp2_with fail
  refine bodyPost_ret (v := .agg #[.int .i64 er, .int .i64 at_, .slice none 0 0, .slice none 0 0, .int .i64 0]) (by simp [results, Tryz.results42, go_sem, d0, d1, d2, d3, d4, hlt]) rfl ⟨none, 0, 0, none, 0, 0, rfl, nums_nil _ _, nums_nil _ _, ?_⟩
  exact ((((((unhide HB2).setCell (p := ⟨w.heap.size, 0, none⟩) (Nat.le_refl _) _).setCell (p := ⟨w.heap.size, 1, none⟩) (Nat.le_refl _) _).setCell (p := ⟨w.heap.size, 2, none⟩) (Nat.le_refl _) _).setCell (p := ⟨w.heap.size, 3, none⟩) (Nat.le_refl _) _).setCell (p := ⟨w.heap.size, 4, none⟩) (Nat.le_refl _) _).alloc (by simp; omega) _
open Classical in
/-- the tree of a line -/
noncomputable def treeP (s : ByteArray) : Ex := if h : ∃ x, TreeOf s x then Classical.choose h else .num [0]
theorem treeP_eq {s : ByteArray} {x : Ex} (h : TreeOf s x) : x = treeP s := by
  have he : ∃ x, TreeOf s x := ⟨x, h⟩
  unfold treeP
  rw [dif_pos he]
  exact tree_uniq h (Classical.choose_spec he)
theorem treeP_good {s : ByteArray} (hs : s.size ≤ 200) : Good f1A f2A (treeP s) := by
  unfold treeP
  by_cases h : ∃ x, TreeOf s x
  · rw [dif_pos h]
    exact tree_good hs (Classical.choose_spec h)
  · rw [dif_neg h]
    exact ⟨by simp, by simp, by intro c hc; simp at hc; subst hc; unfold fit64; omega⟩
/-- what a line comes to on a desk of these names and so much fuel: error and place, or array and cost -/
noncomputable def ans (env : ByteArray → Option Arr) (F : Int) (s : ByteArray) : Sum (Int × Int) (Arr × Nat) :=
  if (parseP s).1 = 0 then match evalE env F f1A f2A (treeP s) 0 with
    | .inl e => .inl (e.1, (e.2 : Int))
    | .inr x => .inr x
  else .inl (parseP s)
theorem parse_zero {s : ByteArray} (h : (parseP s).1 = 0) : (parseP s).2 = 0 ∧ s.size ≤ 200 := by
  unfold parseP at h ⊢
  by_cases h1 : 200 < s.size
  · rw [if_pos h1] at h; exact absurd h (by decide)
  · rw [if_neg h1] at h ⊢
    by_cases h2 : (lexR s).2 = -1
    · rw [if_pos h2] at h ⊢
      unfold pFin at h ⊢
      split at h
      · rename_i h3
        rw [if_pos h3]
        exact ⟨rfl, by omega⟩
      · exact absurd h (show ¬ (3 : Int) = 0 by decide)
    · rw [if_neg h2] at h; exact absurd h (show ¬ (2 : Int) = 0 by decide)
theorem eval_err {env : ByteArray → Option Arr} {F : Int} {f1 : ByteArray → Arr → Arr × Int} {f2 : ByteArray → Arr → Arr → Arr × Int} : ∀ (x : Ex) (c : Nat) (e : Int × Nat), evalE env F f1 f2 x c = .inl e → e.1 ≠ 0 := by
  have pay : ∀ (r : Arr × Int) (p c : Nat) (e : Int × Nat), payP F r p c = .inl e → e.1 ≠ 0 := by
    intro r p c e h
    unfold payP at h
    split at h
    · rename_i h1
      injection h with h
      subst h
      exact h1
    · split at h
      · injection h with h
        subst h
        exact (show (10 : Int) ≠ 0 by decide)
      · cases h
  intro x
  induction x with
  | num ws => intro c e h; simp only [evalE] at h; cases h
  | name t p =>
    intro c e h
    simp only [evalE] at h
    cases he : env t with
    | none => rw [he] at h; injection h with h; subst h; exact (show (4 : Int) ≠ 0 by decide)
    | some a => rw [he] at h; cases h
  | one t p r ih =>
    intro c e h
    simp only [evalE] at h
    cases hr : evalE env F f1 f2 r c with
    | inl e' => rw [hr] at h; injection h with h; subst h; exact ih c _ hr
    | inr y => rw [hr] at h; exact pay _ _ _ _ h
  | two t p l r ih1 ih2 =>
    intro c e h
    simp only [evalE] at h
    cases hr : evalE env F f1 f2 r c with
    | inl e' => rw [hr] at h; injection h with h; subst h; exact ih2 c _ hr
    | inr y =>
      rw [hr] at h
      cases hl : evalE env F f1 f2 l y.2 with
      | inl e' => simp only [hl] at h; injection h with h; subst h; exact ih1 _ _ hl
      | inr z => simp only [hl] at h; exact pay _ _ _ _ h
section
variable {F : Int} {env : ByteArray → Option Arr} {s : ByteArray}
theorem ans_inr {x : Arr × Nat} (h : ans env F s = .inr x) : (parseP s).1 = 0 ∧ evalE env F f1A f2A (treeP s) 0 = .inr x := by
  unfold ans at h
  split at h
  · rename_i hp
    cases he : evalE env F f1A f2A (treeP s) 0 with
    | inl e => rw [he] at h; cases h
    | inr y => rw [he] at h; injection h with h; subst h; exact ⟨hp, rfl⟩
  · cases h
theorem ans_ok {x : Arr × Nat} (h0 : 0 ≤ F) (he : EnvOk env) (h : ans env F s = .inr x) : x.1.ok ∧ (x.2 : Int) ≤ F := by
  obtain ⟨hp, hv⟩ := ans_inr h
  exact eval_ok he (treeP s) 0 x (treeP_good (parse_zero hp).2) (by simpa using h0) hv
/-- a line that comes to an array -/
theorem line_ok {db N : Nat} (h0 : 0 ≤ F) (hF : F ≤ 1000) (he : EnvOk env) (hN : N < 1000) {a : Arr} {c : Nat} (h : ans env F s = .inr (a, c)) : ∃ env' N', SaysF F db env N s env' N' (a.shape.map Int.ofNat) a.cells c := by
  obtain ⟨hp, hv⟩ := ans_inr h
  obtain ⟨hp2, hs⟩ := parse_zero hp
  have hok : a.ok := (ans_ok h0 he h).1
  have hl1 : a.shape.length ≤ 200 := by have := hok.rank; omega
  have hl2 : a.cells.length ≤ 200 := hok.few
  have hg : ∀ x, TreeOf s x → Good f1A f2A x := fun x hx => by rw [treeP_eq hx]; exact treeP_good hs
  have hev : ∀ x, TreeOf s x → evalE env F f1A f2A x 0 = .inr (a, c) := fun x hx => by rw [treeP_eq hx]; exact hv
  by_cases hn : (nameP s).size = 0
  · have hn' : nameP s = ⟨#[]⟩ := ByteArray.size_eq_zero_iff.1 hn
    refine ⟨env, N, fun S w hD => ?_⟩
    have hD' := hD
    obtain ⟨X, mo, h1, h2, h3⟩ := hD
    refine (reply_ok env F f1A f2A db w mo s (by omega) ⟨h1.lt, h1.evs, h1.c0, h1.c1⟩ h0 hF he (h1.look.imp (fun _ _ _ => trivial)) hp hp2 hn' hg a c hev hl1 hl2).mono ?_
    rintro e w' ⟨so, sn, sc, co, cn, cc, rfl, n1, n2, hb⟩
    exact ⟨so, sn, sc, co, cn, cc, rfl, n1, n2, hD'.below hb, KeepS.of hb⟩
  · refine ⟨upd env (nameP s) a, N + 1, fun S w hD => ?_⟩
    obtain ⟨X, mo, h1, h2, h3⟩ := hD
    have hnl : (nameP s).size ≤ 200 := by
      unfold nameP
      rw [if_pos hp]
      unfold nameS
      cases hb : (kB (kr (toks s (lexR s).1)) 0 1 && kB (kr (toks s (lexR s).1)) 1 2)
      · exact Nat.zero_le _
      · rw [cond_true]
        by_cases hi : 0 < (toks s (lexR s).1).length
        · rw [tokAt_lt hi]
          exact (toks_ok hs _ (List.getElem_mem hi)).2.1
        · have : tokAt (toks s (lexR s).1) 0 = ⟨0, 0, 0, ⟨#[]⟩, 0⟩ := by
            rw [List.eq_nil_of_length_eq_zero (Nat.eq_zero_of_not_pos hi)]
            rfl
          rw [this]
          exact Nat.zero_le _
    refine (reply_named X env F f1A f2A db w mo N hN s (by omega) h1 h2 h0 hF he hp hp2 (nameP s) rfl (by omega) hnl hg a c hev hl1 hl2).mono ?_
    rintro e w' ⟨so, sn, sc, co, cn, cc, rfl, n1, n2, ⟨mo', hd', hm'⟩, hb⟩
    have hsz := hb.size
    refine ⟨so, sn, sc, co, cn, cc, rfl, n1, n2, ⟨fun b => (X b ∨ (w.heap.size ≤ b ∧ mo' ≠ some b)) ∧ b < w'.heap.size, mo', hd'.imp (fun b hb hl => ⟨hb, hl⟩) (fun hx => hd'.out hx.1) (fun mb e hx => ?_), fun b hb => hb.2, fun b hb => ?_⟩, ?_⟩
    · subst e
      exact hd'.map.2.2.1 hx.1
    · obtain ⟨a1, a2, a3, a4, a5⟩ := h3 b hb
      exact ⟨a1, by omega, fun hx => by rcases hx.1 with hx | hx; exact a3 hx; omega, a4, fun e => a5 (hm' b a2 e)⟩
    · refine ⟨hb.os, hb.tape, hb.output, hb.size, fun k hk hn => hb.block k hk ?_⟩
      rintro (rfl | e)
      · exact hn ⟨fun hs => (h3 _ hs).2.2.2.1 rfl, h1.low⟩
      · subst e
        exact hn ⟨fun hs => (h3 _ hs).2.2.2.2 rfl, h1.map.2.1⟩
/-- a line that fails -/
theorem line_err {S : Nat → Prop} {db N : Nat} (h0 : 0 ≤ F) (hF : F ≤ 1000) (he : EnvOk env) (hm : s.size ≤ 9223372036854775807) {er at_ : Int} (h : ans env F s = .inl (er, at_)) : er ≠ 0 ∧ Says (DkF F S db env N) db s er at_ [] [] 0 := by
  unfold ans at h
  split at h
  · rename_i hp
    obtain ⟨hp2, hs⟩ := parse_zero hp
    cases hv : evalE env F f1A f2A (treeP s) 0 with
    | inr y => rw [hv] at h; cases h
    | inl e =>
      rw [hv] at h
      injection h with h
      injection h with h1 h2
      subst h1
      subst h2
      have hne := eval_err _ _ _ hv
      refine ⟨hne, fun w hD => ?_⟩
      obtain ⟨X, mo, h1, h2, h3⟩ := hD
      exact reply_err env F f1A f2A db w mo s hm ⟨h1.lt, h1.evs, h1.c0, h1.c1⟩ h0 hF he (h1.look.imp (fun _ _ _ => trivial)) hp hp2 (fun x hx => by rw [treeP_eq hx]; exact treeP_good hs) e.1 e.2 (fun x hx => by rw [treeP_eq hx]; exact hv) hne
  · rename_i hp
    injection h with h
    have hne : er ≠ 0 := by rw [h] at hp; exact hp
    refine ⟨hne, fun w hD => ?_⟩
    obtain ⟨X, mo, h1, h2, h3⟩ := hD
    exact reply_syn s hm w h1.evs db er at_ h hne
/-- with as much as it costs a line is done; with less it fails by fuel -/
theorem ans_fuel {G : Int} {a : Arr} {c : Nat} (h : ans env F s = .inr (a, c)) : ((c : Int) ≤ G → ans env G s = .inr (a, c)) ∧ (0 ≤ G → G < (c : Int) → ∃ p, ans env G s = .inl (10, p)) := by
  obtain ⟨hp, hv⟩ := ans_inr h
  obtain ⟨_, h2, h3⟩ := eval_fuel (treeP s) 0 c a hv
  refine ⟨fun hG => ?_, fun hG hc => ?_⟩
  · unfold ans
    rw [if_pos hp, h2 G hG]
  · obtain ⟨p, e⟩ := h3 G (by simpa using hG) hc
    refine ⟨(p : Int), ?_⟩
    unfold ans
    rw [if_pos hp, e]
end
end Go.Proofs.YtjobgpahajhbnaaGreatDoor
namespace Go.Proofs
open Go.Shelf
def Tryz.keys41_ren : Go.Shelf.Ren := ⟨fun | 7 => 41 | 10 => 58 | n => n, fun | 23 => 87 | 26 => 9 | 3 => 89 | 28 => 85 | 0 => 0 | 27 => 84 | 33 => 93 | 4 => 4 | n => n, fun | n => n⟩
theorem Tryz.keys41 : Go.Proofs.SlLaysZ.n7 Tryz.prog Tryz.keys41_ren := {
  mixed := by kernel_rfl
  f7 := ⟨Tryz.f41.name, by decide, Tryz.func41.trans (congrArg some (by kernel_rfl))⟩
  f10 := ⟨Tryz.f58.name, by decide, Tryz.func58.trans (congrArg some (by kernel_rfl))⟩
  t0 := Tryz.underlying0
  a0 := Tryz.isAgg0
  z0 := Tryz.sizeOf0
  v0 := Tryz.zeroValue0
  t4 := Tryz.underlying4
  a4 := Tryz.isAgg4
  z4 := Tryz.sizeOf4
  v4 := Tryz.zeroValue4
  t23 := Tryz.underlying87
  a23 := Tryz.isAgg87
  z23 := Tryz.sizeOf87
  v23 := Tryz.zeroValue87
  t26 := Tryz.underlying9
  a26 := Tryz.isAgg9
  z26 := Tryz.sizeOf9
  v26 := Tryz.zeroValue9
  t27 := Tryz.underlying84
  a27 := Tryz.isAgg84
  z27 := Tryz.sizeOf84
  v27 := Tryz.zeroValue84
  t28 := Tryz.underlying85
  a28 := Tryz.isAgg85
  z28 := Tryz.sizeOf85
  v28 := Tryz.zeroValue85
  t33 := Tryz.underlying93
  a33 := Tryz.isAgg93
  z33 := Tryz.sizeOf93
  v33 := Tryz.zeroValue93 }
def Tryz.sorted40_ren : Go.Shelf.Ren := ⟨fun | 6 => 40 | 8 => 56 | 9 => 57 | 11 => 72 | 13 => 74 | 12 => 73 | 23 => 104 | 24 => 91 | 14 => 95 | 15 => 96 | 16 => 97 | 17 => 98 | 18 => 99 | 19 => 100 | 20 => 101 | 21 => 102 | 22 => 103 | 25 => 137 | 26 => 138 | 27 => 139 | 28 => 140 | 29 => 141 | 30 => 142 | 31 => 169 | n => n, fun | 26 => 9 | 28 => 85 | 24 => 54 | 0 => 0 | 3 => 3 | 37 => 146 | 48 => 177 | 50 => 138 | 4 => 4 | 40 => 181 | 39 => 180 | 45 => 167 | 5 => 5 | 9 => 9 | 51 => 222 | 55 => 226 | 57 => 260 | 58 => 261 | 33 => 93 | n => n, fun | n => n⟩
theorem Tryz.sorted40 : Go.Proofs.SlLaysZ.n6 Tryz.prog Tryz.sorted40_ren := {
  mixed := by kernel_rfl
  f6 := ⟨Tryz.f40.name, by decide, Tryz.func40.trans (congrArg some (by kernel_rfl))⟩
  f8 := ⟨Tryz.f56.name, by decide, Tryz.func56.trans (congrArg some (by kernel_rfl))⟩
  f11 := ⟨Tryz.f72.name, by decide, Tryz.func72.trans (congrArg some (by kernel_rfl))⟩
  t0 := Tryz.underlying0
  a0 := Tryz.isAgg0
  z0 := Tryz.sizeOf0
  v0 := Tryz.zeroValue0
  t24 := Tryz.underlying54
  a24 := Tryz.isAgg54
  z24 := Tryz.sizeOf54
  v24 := Tryz.zeroValue54
  t26 := Tryz.underlying9
  a26 := Tryz.isAgg9
  z26 := Tryz.sizeOf9
  v26 := Tryz.zeroValue9
  t28 := Tryz.underlying85
  a28 := Tryz.isAgg85
  z28 := Tryz.sizeOf85
  v28 := Tryz.zeroValue85
  i26 := by kernel_rfl }
def Tryz.sort57_ren : Go.Shelf.Ren := ⟨fun | 6 => 57 | 8 => 74 | 9 => 73 | 19 => 104 | 20 => 91 | 21 => 95 | 22 => 96 | 23 => 97 | 24 => 98 | 25 => 99 | 26 => 100 | 27 => 101 | 28 => 102 | 29 => 103 | 36 => 137 | 31 => 138 | 32 => 139 | 37 => 140 | 38 => 141 | 39 => 142 | 41 => 169 | n => n, fun | 27 => 54 | 29 => 9 | 3 => 3 | 32 => 146 | 26 => 54 | 0 => 0 | 44 => 177 | 46 => 138 | 4 => 4 | 36 => 181 | 35 => 180 | 41 => 167 | 5 => 5 | 9 => 9 | 53 => 222 | 57 => 226 | 63 => 260 | 64 => 261 | n => n, fun | n => n⟩
theorem Tryz.sort57 : Go.Proofs.SlLaysM.n6 Tryz.prog Tryz.sort57_ren := {
  mixed := by kernel_rfl
  f6 := ⟨Tryz.f57.name, by decide, Tryz.func57.trans (congrArg some (by kernel_rfl))⟩
  f8 := Tryz.func74.trans (congrArg some (by kernel_rfl))
  f9 := ⟨Tryz.f73.name, by decide, Tryz.func73.trans (congrArg some (by kernel_rfl))⟩
  f19 := Tryz.func104.trans (congrArg some (by kernel_rfl))
  f20 := Tryz.func91.trans (congrArg some (by kernel_rfl))
  f21 := ⟨Tryz.f95.name, by decide, Tryz.func95.trans (congrArg some (by kernel_rfl))⟩
  f22 := ⟨Tryz.f96.name, by decide, Tryz.func96.trans (congrArg some (by kernel_rfl))⟩
  f23 := ⟨Tryz.f97.name, by decide, Tryz.func97.trans (congrArg some (by kernel_rfl))⟩
  f24 := ⟨Tryz.f98.name, by decide, Tryz.func98.trans (congrArg some (by kernel_rfl))⟩
  f25 := ⟨Tryz.f99.name, by decide, Tryz.func99.trans (congrArg some (by kernel_rfl))⟩
  f26 := ⟨Tryz.f100.name, by decide, Tryz.func100.trans (congrArg some (by kernel_rfl))⟩
  f27 := ⟨Tryz.f101.name, by decide, Tryz.func101.trans (congrArg some (by kernel_rfl))⟩
  f28 := ⟨Tryz.f102.name, by decide, Tryz.func102.trans (congrArg some (by kernel_rfl))⟩
  f29 := ⟨Tryz.f103.name, by decide, Tryz.func103.trans (congrArg some (by kernel_rfl))⟩
  f31 := Tryz.func138.trans (congrArg some (by kernel_rfl))
  f32 := Tryz.func139.trans (congrArg some (by kernel_rfl))
  f36 := ⟨Tryz.f137.name, by decide, Tryz.func137.trans (congrArg some (by kernel_rfl))⟩
  f37 := ⟨Tryz.f140.name, by decide, Tryz.func140.trans (congrArg some (by kernel_rfl))⟩
  f38 := ⟨Tryz.f141.name, by decide, Tryz.func141.trans (congrArg some (by kernel_rfl))⟩
  f39 := ⟨Tryz.f142.name, by decide, Tryz.func142.trans (congrArg some (by kernel_rfl))⟩
  f41 := ⟨Tryz.f169.name, by decide, Tryz.func169.trans (congrArg some (by kernel_rfl))⟩
  t0 := Tryz.underlying0
  a0 := Tryz.isAgg0
  z0 := Tryz.sizeOf0
  v0 := Tryz.zeroValue0
  t3 := Tryz.underlying3
  a3 := Tryz.isAgg3
  z3 := Tryz.sizeOf3
  v3 := Tryz.zeroValue3
  t4 := Tryz.underlying4
  a4 := Tryz.isAgg4
  z4 := Tryz.sizeOf4
  v4 := Tryz.zeroValue4
  t5 := Tryz.underlying5
  a5 := Tryz.isAgg5
  z5 := Tryz.sizeOf5
  v5 := Tryz.zeroValue5
  t9 := Tryz.underlying9
  a9 := Tryz.isAgg9
  z9 := Tryz.sizeOf9
  v9 := Tryz.zeroValue9
  t26 := Tryz.underlying54
  a26 := Tryz.isAgg54
  z26 := Tryz.sizeOf54
  v26 := Tryz.zeroValue54
  t27 := Tryz.underlying54
  a27 := Tryz.isAgg54
  z27 := Tryz.sizeOf54
  v27 := Tryz.zeroValue54
  t29 := Tryz.underlying9
  a29 := Tryz.isAgg9
  z29 := Tryz.sizeOf9
  v29 := Tryz.zeroValue9
  t32 := Tryz.underlying146
  a32 := Tryz.isAgg146
  z32 := Tryz.sizeOf146
  v32 := Tryz.zeroValue146
  t35 := Tryz.underlying180
  a35 := Tryz.isAgg180
  z35 := Tryz.sizeOf180
  v35 := Tryz.zeroValue180
  t36 := Tryz.underlying181
  a36 := Tryz.isAgg181
  z36 := Tryz.sizeOf181
  v36 := Tryz.zeroValue181
  t41 := Tryz.underlying167
  a41 := Tryz.isAgg167
  z41 := Tryz.sizeOf167
  v41 := Tryz.zeroValue167
  t44 := Tryz.underlying177
  a44 := Tryz.isAgg177
  z44 := Tryz.sizeOf177
  v44 := Tryz.zeroValue177
  t46 := Tryz.underlying138
  a46 := Tryz.isAgg138
  z46 := Tryz.sizeOf138
  v46 := Tryz.zeroValue138
  t53 := Tryz.underlying222
  a53 := Tryz.isAgg222
  z53 := Tryz.sizeOf222
  v53 := Tryz.zeroValue222
  t57 := Tryz.underlying226
  a57 := Tryz.isAgg226
  z57 := Tryz.sizeOf226
  v57 := Tryz.zeroValue226
  t63 := Tryz.underlying260
  a63 := Tryz.isAgg260
  z63 := Tryz.sizeOf260
  v63 := Tryz.zeroValue260
  t64 := Tryz.underlying261
  a64 := Tryz.isAgg261
  z64 := Tryz.sizeOf261
  v64 := Tryz.zeroValue261 }
end Go.Proofs
namespace Go.Proofs
open Go.RowKit Go.Maps Go.Sort Go.Shelf

theorem Tryz.sorts40 (m : Nat) : AnyZ.SortsIn Tryz.prog Tryz.sorted40_ren Fence.wide m :=
  ⟨fun blk off cap ss W hH hblk hsz => callsIn_wide.2 (AnyM.slices_Sort_string Tryz.sort57 blk off cap ss W hH hblk hsz),
   fun p cap W => callsIn_wide.2 (AnyM.slices_Sort_string_none Tryz.sort57 p cap W)⟩
theorem Tryz.maps_Keys_41 (mb : Option Nat) (W : World) : CallsIn Fence.wide 5 Tryz.prog 41 #[.map mb] W fun e w' => e = .returned (.func (.func 58) #[] #[.pointer (some ⟨W.heap.size, 0, none⟩)]) ∧ w' = W.alloc (.cells #[.map mb] 87) :=
  AnyZ.keys_in Tryz.keys41 Fence.wide 5 trivial rfl mb W
end Go.Proofs
namespace Go.Proofs.YtjobgpahajhbnaaGreatDoor
open Go.RowKit Go.Proofs Go.Maps
attribute [local go_sem ↓] Go.wp_at_zero Go.wp_at_succ

end Go.Proofs.YtjobgpahajhbnaaGreatDoor
namespace Go.Proofs.YtjobgpahajhbnaaGreatDoor
open Go.RowKit Go.Proofs Go.Maps
attribute [local go_sem ↓] Go.wp_at_zero Go.wp_at_succ

theorem fn2_plus : Fn2 [43] := ⟨⟨43, [], rfl, by decide⟩, fun _ => rfl, by decide +kernel, by decide +kernel⟩
end Go.Proofs.YtjobgpahajhbnaaGreatDoor
namespace Go.Proofs
open Go.RowKit Go.Maps Go.Sort Go.Shelf

set_option maxHeartbeats 1000000 in
theorem Tryz.slices_Sorted_none (w : World) :
    CallsIn Fence.wide 5 Tryz.prog 40 #[.func (.func 58) #[] #[.pointer (some ⟨w.heap.size, 0, none⟩)]] (w.alloc (.cells #[.map none] 87)) fun e w' => ∃ (v : Value) (ss : List (List UInt8)), e = .returned v ∧ ss = [] ∧
      w'.ownsRow (w.alloc (.cells #[.map none] 87)).heap.size 9 1 v ss.length ((ss.mergeSort (fun x y => decide (x ≤ y))).map encStr) ∧ (v = .slice none 0 0 ↔ ss = []) ∧ Below (w.alloc (.cells #[.map none] 87)).heap.size (w.alloc (.cells #[.map none] 87)) w' := by
  have hseq : SeqGives Fence.wide 2 Tryz.prog 58 #[.pointer (some ⟨w.heap.size, 0, none⟩)] encStr (fun ss : List (List UInt8) => ss = []) 0 (w.alloc (.cells #[.map none] 87)) :=
    AnyZ.keys_gives_nil (ρ := Tryz.keys41_ren) { Tryz.keys41 with } Fence.wide _ trivial rfl w.heap.size _ (by simp) (by simp)
  exact AnyZ.sorted_in Tryz.sorted40 Fence.wide 5 trivial trivial trivial trivial rfl (by omega) (Tryz.sorts40 _) (enters_of Tryz.func57 (by kernel_rfl) rfl) 58 #[.pointer (some ⟨w.heap.size, 0, none⟩)] trivial (enters_of Tryz.func58 (by kernel_rfl) rfl) _ _ (by unfold maxLen; omega) (by omega) _ hseq
end Go.Proofs
namespace Go.Proofs.YtjobgpahajhbnaaGreatDoor
open Go.RowKit Go.Proofs Go.Maps
attribute [local go_sem ↓] Go.wp_at_zero Go.wp_at_succ

set_option maxHeartbeats 1000000 in
theorem names_none (db : Nat) (w : World) (c1 : w.cell? ⟨db, 1, none⟩ = some (.map none)) :
    Calls Tryz.prog 31 #[.pointer (some ⟨db, 0, none⟩)] w fun e w' => e = .returned (.slice none 0 0) ∧ Below w.heap.size w w' := by
  have HO := hide (callsIn_wide.1 (Tryz.slices_Sorted_none w))
  go_enter Tryz.func31, Tryz.ntmps31
  go_wp2_with (first | (go_at_call 41; refine (callsIn_wide.1 (Tryz.maps_Keys_41 _ _)).mono ?_; rintro e w' ⟨rfl, rfl⟩) | (go_at_call 40; refine (unhide HO).mono ?_; rintro e w' ⟨v, ss, rfl, hS, hrow, hnil, hb⟩))
  have hv := hnil.2 hS
  subst hv
  exact bodyPost_ret (v := .slice none 0 0) (by simp [results, Tryz.results31, go_sem]) rfl ⟨rfl, ((Below.refl _ _).alloc (Nat.le_refl _) _).trans (hb.mono (by simp))⟩
theorem new_any (F : Int) (h0 : 0 ≤ F) (h1 : F ≤ 1000) (w : World) : Calls Tryz.prog 32 #[.int .i64 F] w fun e w' => e = .returned (.tuple #[.pointer (some ⟨w.heap.size, 0, none⟩), .int .i64 0]) ∧ w' = w.alloc (.cells #[.int .i64 F, .map none] 91) := by
  go_enter Tryz.func32, Tryz.ntmps32
  go_wp2_with fail
  exact bodyPost_ret (v := .tuple #[.pointer (some ⟨w.heap.size, 0, none⟩), .int .i64 0]) (by simp [results, Tryz.results32, go_sem]) rfl ⟨rfl, rfl⟩
theorem deskF_new {F : Int} {w : World} (hE : Evs w) : DkF F (fun b => 6 ≤ b ∧ b < w.heap.size) w.heap.size env0 0 (w.alloc (.cells #[.int .i64 F, .map none] 91)) := by
  have h6 : 6 ≤ w.heap.size := hE.1
  refine ⟨fun _ => False, none, ⟨by simp, h6, hE.alloc _, by simp, by simp, World.frozen?_alloc_at _ _ _ _ rfl, fun h => h, rfl⟩, fun b h => absurd h id, fun b h => ⟨h.1, by simp; omega, fun h => h, by omega, fun h => by cases h⟩⟩
set_option maxHeartbeats 1000000 in
set_option maxRecDepth 20000 in
theorem one_err (D : World → Prop) (hkeep : Lasts D) (db : Nat) (s : ByteArray) (er at_ : Int) (hne : er ≠ 0) (hs : Says D db s er at_ [] [] 0) (w : World) (hD : D w) :
    Calls Tryz.prog 29 #[.pointer (some ⟨db, 0, none⟩), .string s] w fun e w' => ∃ so sn sc co cn cc, e = .returned (.tuple #[.agg #[.int .i64 er, .int .i64 at_, .slice so sn sc, .slice co cn cc, .int .i64 0], .bool false]) ∧ Below w.heap.size w w' := by
  have hw0 : Below w.heap.size w ((w.alloc (.cells #[.int .i64 0, .int .i64 0, .slice none 0 0, .slice none 0 0, .int .i64 0] 47)).alloc (.cells #[.string s] 9)) := ((Below.refl _ _).alloc (Nat.le_refl _) _).alloc (by simp) _
  have HC := hide (run_one _ db (w.heap.size + 1) 1 s er at_ [] [] 0 (by simp) (by simp) (hs _ (hkeep w _ hD hw0)))
  have hne' : (er == 0) = false := by simpa using hne
  clear hs hD hkeep hne
  go_enter Tryz.func29, Tryz.ntmps29
  go_wp2_with fail
  refine (unhide HC).mono ?_
  rintro e w1 ⟨rb, rc, so, sn, sc, co, cn, cc, rfl, hv⟩
  have q0 := hv.q0
  have q1 := hv.q1
  have q2 := hv.q2
  have q3 := hv.q3
  have q4 := hv.q4
  have h1 := hv.lo
  have h2 := hv.hi
  simp at h1
  obtain ⟨hc, hfz⟩ := bcell hv.bel
  have d : ∀ i, w1.cell? ⟨w.heap.size, i, none⟩ = (w.alloc (.cells #[.int .i64 0, .int .i64 0, .slice none 0 0, .slice none 0 0, .int .i64 0] 47)).cell? ⟨w.heap.size, i, none⟩ := fun i => by rw [hc w.heap.size i (by simp; omega), World.cell?_alloc_past _ _ _ (by simp)]
  have d0 := (d 0).trans ((World.cell?_alloc_at _ _ _ _ rfl).trans rfl)
  have d1 := (d 1).trans ((World.cell?_alloc_at _ _ _ _ rfl).trans rfl)
  have d2 := (d 2).trans ((World.cell?_alloc_at _ _ _ _ rfl).trans rfl)
  have d3 := (d 3).trans ((World.cell?_alloc_at _ _ _ _ rfl).trans rfl)
  have d4 := (d 4).trans ((World.cell?_alloc_at _ _ _ _ rfl).trans rfl)
  have f : ∀ i, w1.frozen? ⟨w.heap.size, i, none⟩ = false := fun i => by
    rw [hfz w.heap.size i (by simp; omega), World.frozen?_of_block (a := ⟨w.heap.size, i, none⟩) (RowKit.Below.heap_alloc _ _ _ (by simp))]
    exact World.frozen?_alloc_at _ _ _ _ rfl
  have g0 := f 0
  have g1 := f 1
  have g2 := f 2
  have g3 := f 3
  have g4 := f 4
  have HBe : Hid (Below w.heap.size w w1) := hide (hw0.trans (hv.bel.mono (by simp; omega)))
  have n1 : rb ≠ w.heap.size := by omega
  clear d f hc hfz hw0 hv HC
  go_wp2_with fail
  go_region
  go_wp2_with fail
  refine bodyPost_ret (v := .tuple #[.agg #[.int .i64 er, .int .i64 at_, .slice so sn sc, .slice co cn cc, .int .i64 0], .bool false]) (by simp [results, Tryz.results29, go_sem, d0, d1, d2, d3, d4]) rfl ⟨so, sn, sc, co, cn, cc, rfl, ?_⟩
  exact ((((((unhide HBe).setCell (p := ⟨w.heap.size, 0, none⟩) (Nat.le_refl _) _).setCell (p := ⟨w.heap.size, 1, none⟩) (Nat.le_refl _) _).setCell (p := ⟨w.heap.size, 2, none⟩) (Nat.le_refl _) _).setCell (p := ⟨w.heap.size, 3, none⟩) (Nat.le_refl _) _).setCell (p := ⟨w.heap.size, 4, none⟩) (Nat.le_refl _) _).drew
/-- the line '+/ 1 + iota 5' -/
def sumT : List UInt8 := [43, 47, 32, 49, 32, 43, 32, 105, 111, 116, 97, 32, 53]
def sumX : Ex := .one ⟨#[43, 47]⟩ 0 (.two ⟨#[43]⟩ 5 (.num [1]) (.one ⟨#[105, 111, 116, 97]⟩ 7 (.num [5])))
theorem sum_tw : Tw 0 false 0 sumX sumT :=
  Tw.one 0 0 [43, 47] _ [49, 32, 43, 32, 105, 111, 116, 97, 32, 53] fn1_sum
    (Tw.two 0 3 [43] _ _ [49] [105, 111, 116, 97, 32, 53] fn2_plus (Tw.row 0 3 [1] [49] (NmRow.one 1 [49] nm_one))
      (Tw.one 0 7 [105, 111, 116, 97] _ [53] fn1_iota (Tw.only _ _ _ _ (Tw.row 0 12 [5] [53] (NmRow.one 5 [53] (Nm.pos [53] (by decide) (by decide) (by decide) (by decide)))))))
theorem sum_ev : evalE env0 1000 f1A f2A sumX 0 = .inr (⟨[], [15]⟩, 14) := by kernel_rfl
theorem sum_ans : ans env0 1000 ⟨sumT.toArray⟩ = .inr (⟨[], [15]⟩, 14) := by
  obtain ⟨e1, e2, e3⟩ := tw_tree sum_tw (by decide) (by decide)
  unfold ans
  rw [if_pos (by rw [e1]), ← treeP_eq e3, sum_ev]
end Go.Proofs.YtjobgpahajhbnaaGreatDoor
