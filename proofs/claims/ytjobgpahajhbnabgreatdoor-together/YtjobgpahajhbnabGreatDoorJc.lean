import Derived.Test.YtjobgpahajhbnabGreatDoorTe
import Derived.Test.YtjobgpahajhbnabGreatDoorTr
import Derived.Maps.AppendAt
import Derived.Deep.RegionLaw
import Derived.Test.YtjobgpahajhbnabGreatDoorRb
import Derived.Test.YtjobgpahajhbnabGreatDoorTl
import Derived.Shelf.Spec.SlicesGrow
namespace Go.Proofs.YtjobgpahajhbnabGreatDoor
open Go.RowKit Go.Proofs
attribute [local go_sem ↓] Go.wp_at_zero Go.wp_at_succ
def OwnL (B : Nat) (w : World) (v : Value) (xs : List Int) : Prop := w.ownsRow B 2 1 v xs.length (xs.map (Value.int .i64))
def Aprt (u v : Value) : Prop := ∀ g, u.ownBlock = some g → v.ownBlock ≠ some g
theorem Aprt.or {u v : Value} (h : Aprt u v) : u.ownBlock = none ∨ u.ownBlock ≠ v.ownBlock := by
  cases hu : u.ownBlock with
  | none => exact Or.inl rfl
  | some g => exact Or.inr (fun e => h g hu e.symm)
theorem OwnL.below {B : Nat} {w w' : World} {v : Value} {xs : List Int} (h : OwnL B w v xs) (hb : Below w.heap.size w w') : OwnL B w' v xs := K8 h hb
theorem OwnL.nil (B : Nat) (w : World) : OwnL B w (.slice none 0 0) [] := World.ownsRow_nil _ _ _ _
theorem OwnL.nums {B : Nat} {w : World} {v : Value} {xs : List Int} (h : OwnL B w v xs) : Nums (fun b => B ≤ b ∧ b < w.heap.size) w v xs := (Js (P := fun b => B ≤ b) h (fun _ h => h)).imp (fun _ h hl => ⟨h, hl⟩)
theorem OwnL.shape {B : Nat} {w : World} {v : Value} {xs : List Int} (h : OwnL B w v xs) : ∃ vo vc, v = .slice vo xs.length vc := by
  obtain ⟨vo, vc, h1, _⟩ := J9 h
  exact ⟨vo, vc, h1⟩
structure Grew (B : Nat) (w : World) (v v' : Value) (w' : World) : Prop where
  bel : Below B w w'
  own : ∀ u ys, OwnL B w u ys → Aprt u v → OwnL B w' u ys
  apart : ∀ u ys, OwnL B w u ys → Aprt u v → Aprt u v'
theorem Jhs {B : Nat} {w w' : World} {v v' : Value} {o : Obj} {n : Nat} {xs : List Value} (hown : w.ownsRow B 2 1 v n xs) (hB : B ≤ w.heap.size) (hg : (w.alloc o).grownBy w' v.ownBlock) (hat : v'.ownBlock = v.ownBlock ∨ v'.ownBlock = some (w.alloc o).heap.size) : Grew B w v v' w' := by
  refine ⟨((Below.refl _ _).alloc hB o).grown hg (by simp; omega) (fun q hq => (hown.lt q hq).1), fun u ys hu ha => ((World.ownsRow.alloc hu o).kept hg ha.or), fun u ys hu ha g hgu => ?_⟩
  rcases hat with e | e
  · rw [e]; exact ha g hgu
  · rw [e]
    have := (World.ownsRow.lt hu g hgu).2
    simp
    omega
theorem app1 {B : Nat} {w : World} {v : Value} {xs : List Int} (h : OwnL B w v xs) (hx : xs.length ≤ 1000) (hB : B ≤ w.heap.size) (x : Int) :
    ∃ v' w', (Builtin.append_ #[32, 32] 32 #[v, .slice (some ⟨w.heap.size, 0, none⟩) 1 1]).run Tryz.prog (w.alloc (.cells #[.int .i64 x] 2)) = .ok v' w' ∧ OwnL B w' v' (xs ++ [x]) ∧ Grew B w v v' w' := by
  obtain ⟨i0, hi, hz0, hz1, hz2⟩ := info_parts Tryz.info2
  obtain ⟨v', w', h1, h2, h3, _, h4⟩ := run_append_own_at (P := Tryz.prog) (w.alloc (.cells #[.int .i64 x] 2)) B 32 32 2 i0 (.int .i64 0) 1 8 Tryz.underlying32 hi hz0 hz1 hz2 rfl (by decide) v _ _ (World.ownsRow.alloc h _) ⟨w.heap.size, 0, none⟩ 1 1 [.int .i64 x] rfl (by intro j u hj; match j, hj with | 0, hj => simp at hj; subst hj; exact (World.cell?_alloc_at _ _ _ _ rfl).trans rfl) (by intro u hu; simp at hu; subst hu; rfl) (by unfold maxLen; omega) (by omega) (by simp; omega)
  exact ⟨v', w', h1, by unfold OwnL; rw [List.map_append, List.length_append]; exact h2, Jhs h hB h3 h4⟩
theorem Ja4 {ops : Array Oper} {rest : List Oper} {o : Oper} {a : Act} {Q : Exit → Act → World → Prop} (hgd : o.guard = none) (s x : Operand) (ho : o.op = .call { callee := .builtin .append, args := #[s, x], argTypes := #[32, 32] })
    {B : Nat} {w : World} {v : Value} {xs : List Int} (h : OwnL B w v xs) (hx : xs.length ≤ 1000) (hB : B ≤ w.heap.size) (y : Int) (hs : a.eval s = v) (hv : a.eval x = .slice (some ⟨w.heap.size, 0, none⟩) 1 1)
    (hk : ∀ v' w', OwnL B w' v' (xs ++ [y]) → Grew B w v v' w' → wpList Tryz.prog ops Q rest (a.put o.dst v') w') : wpList Tryz.prog ops Q (o :: rest) a (w.alloc (.cells #[.int .i64 y] 2)) := by
  obtain ⟨i0, hi, hz0, hz1, hz2⟩ := info_parts Tryz.info2
  refine wpList_append_own_at _ hgd s x 32 ho B 2 i0 (.int .i64 0) 1 8 Tryz.underlying32 hi hz0 hz1 hz2 rfl (by decide) v _ _ hs (World.ownsRow.alloc h _) ⟨w.heap.size, 0, none⟩ 1 1 [.int .i64 y] hv rfl (by intro j u hj; match j, hj with | 0, hj => simp at hj; subst hj; exact (World.cell?_alloc_at _ _ _ _ rfl).trans rfl) (by intro u hu; simp at hu; subst hu; rfl) (by unfold maxLen; omega) (by omega) (by simp; omega) ?_
  intro v' w' h2 h3 _ h4
  exact hk v' w' (by unfold OwnL; rw [List.map_append, List.length_append]; exact h2) (Jhs h hB h3 h4)
end Go.Proofs.YtjobgpahajhbnabGreatDoor
namespace Go.Proofs.YtjobgpahajhbnabGreatDoor
open Go.RowKit Go.Proofs
attribute [local go_sem ↓] Go.wp_at_zero Go.wp_at_succ
def EnvOk (env : ByteArray → Option Arr) : Prop := ∀ t a, env t = some a → a.ok
theorem EnvOk.upd {env : ByteArray → Option Arr} (h : EnvOk env) (nm : ByteArray) {a : Arr} (ha : a.ok) : EnvOk (upd env nm a) := by
  intro t b hb
  unfold YtjobgpahajhbnabGreatDoor.upd at hb
  split at hb
  · cases hb; exact ha
  · exact h t b hb
end Go.Proofs.YtjobgpahajhbnabGreatDoor
namespace Go.Proofs.YtjobgpahajhbnabGreatDoor
open Go.RowKit Go.Proofs
attribute [local go_sem ↓] Go.wp_at_zero Go.wp_at_succ
theorem KeepS.whole {S : Nat → Prop} {w w' : World} (h : KeepS S w w') {n : Nat} (hn : n ≤ w.heap.size) (hs : ∀ b, 6 ≤ b → b < n → S b) : Below n w w' :=
  ⟨h.os, h.tape, h.output, h.size, fun k hk => Bs.block h k (by omega) (fun hh => hh.1 (hs k hh.2 hk))⟩
end Go.Proofs.YtjobgpahajhbnabGreatDoor
namespace Go.Proofs.YtjobgpahajhbnabGreatDoor
open Go.RowKit Go.Proofs
attribute [local go_sem ↓] Go.wp_at_zero Go.wp_at_succ
def env0 : ByteArray → Option Arr := fun _ => none
theorem Jby : EnvOk env0 := fun _ _ h => by cases h
end Go.Proofs.YtjobgpahajhbnabGreatDoor
namespace Go.Proofs.YtjobgpahajhbnabGreatDoor
open Go.RowKit Go.Proofs Go.Maps
attribute [local go_sem ↓] Go.wp_at_zero Go.wp_at_succ
variable {F : Int}
structure DkSF (F : Int) (S X : Nat → Prop) (db : Nat) (env : ByteArray → Option Arr) (N : Nat) (mo : Option Nat) (w : World) : Prop where
  dsk : DskN X db F env N mo w
  xlt : ∀ b, X b → b < w.heap.size
  s : ∀ b, S b → 6 ≤ b ∧ b < w.heap.size ∧ ¬ X b ∧ b ≠ db ∧ mo ≠ some b
def DkF (F : Int) (S : Nat → Prop) (db : Nat) (env : ByteArray → Option Arr) (N : Nat) (w : World) : Prop := ∃ X mo, DkSF F S X db env N mo w
theorem DkF.below {S : Nat → Prop} {db : Nat} {env : ByteArray → Option Arr} {N : Nat} {w w' : World} (h : DkF F S db env N w) (hb : Below w.heap.size w w') : DkF F S db env N w' := by
  obtain ⟨X, mo, h1, h2, h3⟩ := h
  have := hb.size
  exact ⟨X, mo, h1.below hb, fun b h => Nat.lt_of_lt_of_le (h2 b h) this, fun b h => by obtain ⟨a1, a2, a3⟩ := h3 b h; exact ⟨a1, by omega, a3⟩⟩
theorem DkF.low {S : Nat → Prop} {db : Nat} {env : ByteArray → Option Arr} {N : Nat} {w : World} (h : DkF F S db env N w) : 6 ≤ db ∧ db < w.heap.size := by
  obtain ⟨X, mo, h1, h2, h3⟩ := h
  exact ⟨h1.low, h1.lt⟩
theorem DkF.lt {S : Nat → Prop} {db : Nat} {env : ByteArray → Option Arr} {N : Nat} {w : World} (h : DkF F S db env N w) {b : Nat} (hb : S b) : 6 ≤ b ∧ b < w.heap.size ∧ b ≠ db := by
  obtain ⟨X, mo, h1, h2, h3⟩ := h
  obtain ⟨a1, a2, _, a4, _⟩ := h3 b hb
  exact ⟨a1, a2, a4⟩
theorem DkF.more {S : Nat → Prop} {db : Nat} {env : ByteArray → Option Arr} {N : Nat} {w w' : World} (h : DkF F S db env N w) (hb : Below w.heap.size w w') : DkF F (fun b => S b ∨ (w.heap.size ≤ b ∧ b < w'.heap.size)) db env N w' := by
  obtain ⟨X, mo, h1, h2, h3⟩ := h
  have hs := hb.size
  refine ⟨X, mo, h1.below hb, fun b h => Nat.lt_of_lt_of_le (h2 b h) hs, fun b h => ?_⟩
  rcases h with h | ⟨k1, k2⟩
  · obtain ⟨a1, a2, a3⟩ := h3 b h
    exact ⟨a1, by omega, a3⟩
  · have l1 := h1.low
    have l2 := h1.lt
    exact ⟨by omega, k2, fun hx => by have := h2 b hx; omega, by omega, fun e => by have := h1.moLt b e; omega⟩
theorem DkF.less {S S' : Nat → Prop} {db : Nat} {env : ByteArray → Option Arr} {N : Nat} {w : World} (h : DkF F S db env N w) (hs : ∀ b, S' b → S b) : DkF F S' db env N w := by
  obtain ⟨X, mo, h1, h2, h3⟩ := h
  exact ⟨X, mo, h1, h2, fun b hb => h3 b (hs b hb)⟩
theorem DkF.set {S : Nat → Prop} {db : Nat} {env : ByteArray → Option Arr} {N : Nat} {w : World} (h : DkF F S db env N w) {r : Nat} (hr : S r) (i : Nat) (u : Value) : DkF F S db env N (w.setCell ⟨r, i, none⟩ u) := by
  obtain ⟨X, mo, h1, h2, h3⟩ := h
  obtain ⟨a1, a2, a3, a4, a5⟩ := h3 r hr
  exact ⟨X, mo, h1.set a3 a1 a4 a5 i u, fun b h => by simpa using h2 b h, fun b h => by simpa using h3 b h⟩
theorem DkF.lasts (S : Nat → Prop) (db : Nat) (env : ByteArray → Option Arr) (N : Nat) : Jlb (DkF F S db env N) := fun _ _ h hb => h.below hb
def RepF (F : Int) (S : Nat → Prop) (db : Nat) (env : ByteArray → Option Arr) (N : Nat) (w : World) (sh cs : List Int) (cost : Int) (e : Ending) (w' : World) : Prop :=
  ∃ so sn sc co cn cc, e = .returned (.agg #[.int .i64 0, .int .i64 0, .slice so sn sc, .slice co cn cc, .int .i64 cost]) ∧ Nums (fun b => w.heap.size ≤ b) w' (.slice so sn sc) sh ∧ Nums (fun b => w.heap.size ≤ b) w' (.slice co cn cc) cs ∧ DkF F S db env N w' ∧ KeepS S w w'
def Jla (F : Int) (db : Nat) (env : ByteArray → Option Arr) (N : Nat) (s : ByteArray) (env' : ByteArray → Option Arr) (N' : Nat) (sh cs : List Int) (cost : Int) : Prop :=
  ∀ S w, DkF F S db env N w → Calls Tryz.prog 20 #[.pointer (some ⟨db, 0, none⟩), .string s] w (RepF F S db env' N' w sh cs cost)
structure RunF (F : Int) (S : Nat → Prop) (db : Nat) (env : ByteArray → Option Arr) (N : Nat) (w : World) (sh cs : List Int) (cost : Int) (rb : Nat) (w' : World) (so : Option Addr) (sn sc : Nat) (co : Option Addr) (cn cc : Nat) : Prop where
  q0 : w'.cell? ⟨rb, 0, none⟩ = some (.int .i64 0)
  q1 : w'.cell? ⟨rb, 1, none⟩ = some (.int .i64 0)
  q2 : w'.cell? ⟨rb, 2, none⟩ = some (.slice so sn sc)
  q3 : w'.cell? ⟨rb, 3, none⟩ = some (.slice co cn cc)
  q4 : w'.cell? ⟨rb, 4, none⟩ = some (.int .i64 cost)
  sh : Nums (fun b => w.heap.size ≤ b) w' (.slice so sn sc) sh
  cs : Nums (fun b => w.heap.size ≤ b) w' (.slice co cn cc) cs
  lo : w.heap.size ≤ rb
  hi : rb < w'.heap.size
  dk : DkF F S db env N w'
  bs : KeepS S w w'
theorem Jl5 {S : Nat → Prop} {db : Nat} {env : ByteArray → Option Arr} {N : Nat} {w w1 : World} {cost : Int} {sh cs : List Int} {so : Option Addr} {sn sc : Nat} {co : Option Addr} {cn cc : Nat} (o : Obj) (Z : Array Value)
    (hb : KeepS S w w1) (hd : DkF F S db env N w1) (hsh : Nums (fun b => w.heap.size ≤ b) w1 (.slice so sn sc) sh) (hcs : Nums (fun b => w.heap.size ≤ b) w1 (.slice co cn cc) cs) :
    RunF F S db env N w sh cs cost (w1.heap.size + 1) ((w1.alloc o).alloc (.cells (#[.int .i64 0, .int .i64 0, .slice so sn sc, .slice co cn cc, .int .i64 cost] ++ Z) 34)).drew so sn sc co cn cc := by
  have hbw : Below w1.heap.size w1 ((w1.alloc o).alloc (.cells (#[.int .i64 0, .int .i64 0, .slice so sn sc, .slice co cn cc, .int .i64 cost] ++ Z) 34)).drew := (((Below.refl _ _).alloc (Nat.le_refl _) _).alloc (by simp) _).drew
  have hc : ∀ i, i < 5 → ((w1.alloc o).alloc (.cells (#[.int .i64 0, .int .i64 0, .slice so sn sc, .slice co cn cc, .int .i64 cost] ++ Z) 34)).drew.cell? ⟨w1.heap.size + 1, i, none⟩ = #[Value.int .i64 0, .int .i64 0, .slice so sn sc, .slice co cn cc, .int .i64 cost][i]? := by
    intro i hi
    show ((w1.alloc o).alloc (.cells (#[.int .i64 0, .int .i64 0, .slice so sn sc, .slice co cn cc, .int .i64 cost] ++ Z) 34)).cell? ⟨w1.heap.size + 1, i, none⟩ = _
    rw [World.cell?_alloc_at _ _ _ _ (by simp), Array.getElem?_append_left (by simpa using hi)]
  have h1 := Bs.size hb
  exact ⟨(hc 0 (by omega)).trans rfl, (hc 1 (by omega)).trans rfl, (hc 2 (by omega)).trans rfl, (hc 3 (by omega)).trans rfl, (hc 4 (by omega)).trans rfl, hsh.below hbw, hcs.below hbw, by omega, by simp, hd.below hbw, hb.trans (KeepS.of (S := S) hbw) (fun _ _ h => h)⟩
set_option maxHeartbeats 1000000 in
set_option maxRecDepth 20000 in
theorem Jor (S : Nat → Prop) (env' : ByteArray → Option Arr) (N' : Nat) (w : World) (db lb cap : Nat) (s : ByteArray) (sh cs : List Int) (cost : Int) (hc : w.cell? ⟨lb, 0, none⟩ = some (.string s)) (hl : lb < w.heap.size)
    (hrep : Calls Tryz.prog 20 #[.pointer (some ⟨db, 0, none⟩), .string s] w (RepF F S db env' N' w sh cs cost)) :
    Calls Tryz.prog 9 #[.pointer (some ⟨db, 0, none⟩), .slice (some ⟨lb, 0, none⟩) 1 cap] w fun e w' => ∃ rb rc so sn sc co cn cc, e = .returned (.slice (some ⟨rb, 0, none⟩) 1 rc) ∧ RunF F S db env' N' w sh cs cost rb w' so sn sc co cn cc := by
  have HR := hide hrep
  clear hrep
  go_enter Tryz.func9, Tryz.ntmps9
  go_wp2_with fail
  go_loopw [5, 17] (fun v i wr => (i = .int .i64 0 ∧ v = .slice none 0 0 ∧ wr = w) ∨ (i = .int .i64 1 ∧ ∃ rb rc so sn sc co cn cc, v = .slice (some ⟨rb, 0, none⟩) 1 rc ∧ RunF F S db env' N' w sh cs cost rb wr so sn sc co cn cc)) (fun _ i _ => 1 - (intOf i).toNat)
  case atStart => exact Or.inl ⟨rfl, rfl, rfl⟩
  case round =>
    rcases hrel with ⟨rfl, rfl, rfl⟩ | ⟨rfl, rb, rc, so, sn, sc, co, cn, cc, rfl, hv⟩
    · go_wp2_with (go_at_call 20; refine (Ja HR).mono ?_; rintro e w1 ⟨so, sn, sc, co, cn, cc, rfl, hsh, hcs, hd, hb⟩; have HSH := hide hsh; have HCS := hide hcs; have HB := hide hb; have HD := hide hd; clear hsh hcs hb hd)
      exact ⟨Or.inr ⟨rfl, _, _, so, sn, sc, co, cn, cc, rfl, Jl5 _ _ (Ja HB) (Ja HD) (Ja HSH) (Ja HCS)⟩, by simp [intOf]⟩
    · have HV := hide hv
      clear hv
      go_wp2_with fail
      exact bodyPost_ret (v := .slice (some ⟨rb, 0, none⟩) 1 rc) (by simp [results, Tryz.results9, go_sem]) rfl ⟨rb, rc, so, sn, sc, co, cn, cc, rfl, Ja HV⟩
set_option maxHeartbeats 1000000 in
set_option maxRecDepth 20000 in
theorem Jot (S : Nat → Prop) (db : Nat) (env env' : ByteArray → Option Arr) (N N' : Nat) (s : ByteArray) (sh cs : List Int) (cost : Int) (hs : Jla F db env N s env' N' sh cs cost) (w : World) (hD : DkF F S db env N w) :
    Calls Tryz.prog 12 #[.pointer (some ⟨db, 0, none⟩), .string s] w fun e w' => ∃ so sn sc co cn cc, e = .returned (.tuple #[.agg #[.int .i64 0, .int .i64 0, .slice so sn sc, .slice co cn cc, .int .i64 cost], .bool true]) ∧ Nums (fun b => w.heap.size < b) w' (.slice so sn sc) sh ∧ Nums (fun b => w.heap.size < b) w' (.slice co cn cc) cs ∧ DkF F S db env' N' w' ∧ KeepS S w w' := by
  obtain ⟨w0, hw0⟩ : ∃ w0, (w.alloc (.cells #[.int .i64 0, .int .i64 0, .slice none 0 0, .slice none 0 0, .int .i64 0] 34)).alloc (.cells #[.string s] 9) = w0 := ⟨_, rfl⟩
  have hb0 : Below w.heap.size w w0 := by rw [← hw0]; exact ((Below.refl _ _).alloc (Nat.le_refl _) _).alloc (by simp) _
  have hs0 : w0.heap.size = w.heap.size + 1 + 1 := by rw [← hw0]; simp
  have hM := hD.more hb0
  have hc0 : w0.cell? ⟨w.heap.size + 1, 0, none⟩ = some (.string s) := by rw [← hw0]; simp
  have hS : (fun b => S b ∨ (w.heap.size ≤ b ∧ b < w0.heap.size)) w.heap.size := Or.inr ⟨Nat.le_refl _, by omega⟩
  have hnS : ¬ S w.heap.size := fun h => by have := (hD.lt h).2.1; omega
  have h6 : 6 ≤ w.heap.size := by have := hD.low; omega
  have HC := hide (Jor (fun b => S b ∨ (w.heap.size ≤ b ∧ b < w0.heap.size)) env' N' w0 db (w.heap.size + 1) 1 s sh cs cost hc0 (by omega) (hs _ _ hM))
  have e0 : ∀ i, w0.cell? ⟨w.heap.size, i, none⟩ = (w.alloc (.cells #[.int .i64 0, .int .i64 0, .slice none 0 0, .slice none 0 0, .int .i64 0] 34)).cell? ⟨w.heap.size, i, none⟩ := fun i => by rw [← hw0, World.cell?_alloc_past _ _ _ (by simp)]
  have e9 : ∀ i, w0.frozen? ⟨w.heap.size, i, none⟩ = false := fun i => by
    rw [← hw0, World.frozen?_of_block (a := ⟨w.heap.size, i, none⟩) (RowKit.Below.heap_alloc _ _ _ (by simp))]
    exact World.frozen?_alloc_at _ _ _ _ rfl
  have HB0 := hide hb0
  have HS := hide hS
  have HE0 := hide e0
  have HE9 := hide e9
  have HLT : Hid (∀ b, S b → b < w.heap.size) := hide (fun b h => (hD.lt h).2.1)
  clear hs hD hb0 hM hc0 hS e0 e9
  go_enter Tryz.func12, Tryz.ntmps12
  go_wp2_with fail
  try rw [hw0]
  clear hw0
  refine (Ja HC).mono ?_
  rintro e w1 ⟨rb, rc, so, sn, sc, co, cn, cc, rfl, hv⟩
  have q0 := hv.q0
  have q1 := hv.q1
  have q2 := hv.q2
  have q3 := hv.q3
  have q4 := hv.q4
  have h1 := hv.lo
  have h2 := hv.hi
  have hz1 := Bs.size hv.bs
  have d : ∀ i, w1.cell? ⟨w.heap.size, i, none⟩ = (w.alloc (.cells #[.int .i64 0, .int .i64 0, .slice none 0 0, .slice none 0 0, .int .i64 0] 34)).cell? ⟨w.heap.size, i, none⟩ := fun i => (hv.bs.cell (b := w.heap.size) (o := i) (by omega) (Ja HS)).trans (Ja HE0 i)
  have d0 := (d 0).trans ((World.cell?_alloc_at _ _ _ _ rfl).trans rfl)
  have d1 := (d 1).trans ((World.cell?_alloc_at _ _ _ _ rfl).trans rfl)
  have d2 := (d 2).trans ((World.cell?_alloc_at _ _ _ _ rfl).trans rfl)
  have d3 := (d 3).trans ((World.cell?_alloc_at _ _ _ _ rfl).trans rfl)
  have d4 := (d 4).trans ((World.cell?_alloc_at _ _ _ _ rfl).trans rfl)
  have f : ∀ i, w1.frozen? ⟨w.heap.size, i, none⟩ = false := fun i => (hv.bs.frozen (b := w.heap.size) (o := i) (by omega) (Ja HS)).trans (Ja HE9 i)
  have g0 := f 0
  have g1 := f 1
  have g2 := f 2
  have g3 := f 3
  have g4 := f 4
  have n1 : rb ≠ w.heap.size := by omega
  have n2 : w.heap.size < w1.heap.size := by omega
  have hno : ¬ (fun b => w.heap.size < b) w.heap.size := by show ¬ w.heap.size < w.heap.size; omega
  have NS := hide (hv.sh.imp (Q := fun b => w.heap.size < b) (fun b h _ => by show w.heap.size < b; have h : w0.heap.size ≤ b := h; omega))
  have NC := hide (hv.cs.imp (Q := fun b => w.heap.size < b) (fun b h _ => by show w.heap.size < b; have h : w0.heap.size ≤ b := h; omega))
  have HDk := hide hv.dk
  have HKp : Hid (KeepS S w w1) := hide ((KeepS.of (S := S) (Ja HB0)).trans hv.bs (fun b hb h => Or.inl h))
  clear d f hv HC
  go_wp2_with fail
  go_region
  go_wp2_with fail
  refine bodyPost_ret (v := .tuple #[.agg #[.int .i64 0, .int .i64 0, .slice so sn sc, .slice co cn cc, .int .i64 cost], .bool true]) (by simp [results, Tryz.results12, go_sem, d0, d1, d2, d3, d4]) rfl ⟨so, sn, sc, co, cn, cc, rfl, ?_, ?_, ?_, ?_⟩
  · exact (((((((Ja NS).set hno 0 _).set hno 1 _).set hno 2 _).set hno 3 _).set hno 4 _)).below (Below.refl _ _).drew
  · exact (((((((Ja NC).set hno 0 _).set hno 1 _).set hno 2 _).set hno 3 _).set hno 4 _)).below (Below.refl _ _).drew
  · exact (((((((Ja HDk).set (Ja HS) 0 _).set (Ja HS) 1 _).set (Ja HS) 2 _).set (Ja HS) 3 _).set (Ja HS) 4 _).below (Below.refl _ _).drew).less (fun b h => Or.inl h)
  · exact KeepS.trans (S' := fun _ => True) ((((((Ja HKp).set hnS h6 0 _).set hnS h6 1 _).set hnS h6 2 _).set hnS h6 3 _).set hnS h6 4 _) (KeepS.of (Below.refl _ _).drew) (fun _ _ _ => trivial)
set_option maxHeartbeats 1000000 in
set_option maxRecDepth 20000 in
theorem is_f (S : Nat → Prop) (db : Nat) (env env' : ByteArray → Option Arr) (N N' : Nat) (s : ByteArray) (sh cs : List Int) (cost : Int) (hs : Jla F db env N s env' N' sh cs cost) (w : World) (hD : DkF F S db env N w) (vo : Option Addr) (vn vc : Nat) (ko : Option Addr) (kn kc : Nat) (hsh : Nums S w (.slice vo vn vc) sh) (hcs : Nums S w (.slice ko kn kc) cs) (hl1 : sh.length ≤ 200) (hl2 : cs.length ≤ 200) :
    Calls Tryz.prog 13 #[.pointer (some ⟨db, 0, none⟩), .string s, .slice vo vn vc, .slice ko kn kc] w fun e w' => e = .returned (.bool true) ∧ DkF F S db env' N' w' ∧ KeepS S w w' := by
  have HC := hide (Jot S db env env' N N' s sh cs cost hs w hD)
  have HV := hide hsh
  have HK := hide hcs
  obtain ⟨rfl, hvc, _⟩ := J1 hsh
  obtain ⟨rfl, hkc, _⟩ := J1 hcs
  clear hs hD hsh hcs
  go_enter Tryz.func13, Tryz.ntmps13
  go_wp2_with fail
  refine (Ja HC).mono ?_
  rintro e w1 ⟨so, sn, sc, co, cn, cc, rfl, n1, n2, hd1, hb1⟩
  obtain ⟨rfl, hsc, _⟩ := J1 n1
  obtain ⟨rfl, hcc, _⟩ := J1 n2
  obtain ⟨W2, hW2⟩ : ∃ W2, w1.alloc (.cells #[.int .i64 0, .int .i64 0, .slice so sh.length sc, .slice co cs.length cc, .int .i64 cost] 34) = W2 := ⟨_, rfl⟩
  have hbW : Below w1.heap.size w1 W2 := by rw [← hW2]; exact (Below.refl _ _).alloc (Nat.le_refl _) _
  have z2 : W2.cell? ⟨w1.heap.size, 2, none⟩ = some (.slice so sh.length sc) := by rw [← hW2]; exact (World.cell?_alloc_at _ _ _ _ rfl).trans rfl
  have z3 : W2.cell? ⟨w1.heap.size, 3, none⟩ = some (.slice co cs.length cc) := by rw [← hW2]; exact (World.cell?_alloc_at _ _ _ _ rfl).trans rfl
  have zs : w1.heap.size < W2.heap.size := by rw [← hW2]; simp
  have HKW : Hid (KeepS S w W2) := hide (hb1.trans (KeepS.of (S := S) hbW) (fun _ _ h => h))
  have HDW := hide (hd1.below hbW)
  have N1 := hide (n1.below hbW)
  have N2 := hide (n2.below hbW)
  have M1 := hide ((hb1.nums (Ja HV) (fun _ h => h)).below hbW)
  have M2 := hide ((hb1.nums (Ja HK) (fun _ h => h)).below hbW)
  clear n1 n2 hb1 hbW HC HV HK hd1
  go_wp2_with fail
  try rw [hW2]
  clear hW2
  go_loopw [11] (fun v wr => ∃ k : Nat, v = .int .i64 k ∧ k ≤ sh.length ∧ Below W2.heap.size W2 wr) (fun v _ => sh.length - (intOf v).toNat)
  case atStart => exact ⟨0, rfl, by omega, Below.refl _ _⟩
  case round =>
    obtain ⟨k, rfl, hk, hbe⟩ := hrel
    by_cases hkl : k < sh.length
    · obtain ⟨_, _, hA⟩ := J1 (Ja N1)
      obtain ⟨_, _, hB⟩ := J1 (Ja M1)
      obtain ⟨b1, o1, rfl, l1, c1⟩ := hA (by omega)
      obtain ⟨b2, o2, rfl, l2, c2⟩ := hB (by omega)
      have y1 := (hbe.cell (p := ⟨b1, o1 + k, none⟩) l1).trans (c1 k hkl)
      have y2 := (hbe.cell (p := ⟨b2, o2 + k, none⟩) l2).trans (c2 k hkl)
      have y0 := (hbe.cell (p := ⟨w1.heap.size, 2, none⟩) zs).trans z2
      obtain ⟨x, hx⟩ : ∃ x, sh[k] = x := ⟨_, rfl⟩
      rw [hx] at y1 y2
      have HBe := hide hbe
      have hk0 : (0 : Int) ≤ (k : Int) := by omega
      have hk1 : (k : Int) < (sh.length : Int) := by omega
      clear hA hB c1 c2 hbe hx
      go_wp2_with fail
      go_region
      go_wp2_with fail
      go_roundw
      case rel => exact ⟨k + 1, by go_num, by omega, (Ja HBe).drew⟩
      case measure => simp [intOf]; omega
    · have hke : k = sh.length := by omega
      subst hke
      have HBe := hide hbe
      clear hbe
      go_wp2_with fail
      go_loopw [12] (fun v wx => ∃ k : Nat, v = .int .i64 k ∧ k ≤ cs.length ∧ Below W2.heap.size W2 wx) (fun v _ => cs.length - (intOf v).toNat)
      case atStart => exact ⟨0, rfl, by omega, Ja HBe⟩
      case round =>
        obtain ⟨k, rfl, hk, hbe⟩ := hrel
        by_cases hkl : k < cs.length
        · obtain ⟨_, _, hA⟩ := J1 (Ja N2)
          obtain ⟨_, _, hB⟩ := J1 (Ja M2)
          obtain ⟨b1, o1, rfl, l1, c1⟩ := hA (by omega)
          obtain ⟨b2, o2, rfl, l2, c2⟩ := hB (by omega)
          have y1 := (hbe.cell (p := ⟨b1, o1 + k, none⟩) l1).trans (c1 k hkl)
          have y2 := (hbe.cell (p := ⟨b2, o2 + k, none⟩) l2).trans (c2 k hkl)
          have y0 := (hbe.cell (p := ⟨w1.heap.size, 3, none⟩) zs).trans z3
          obtain ⟨x, hx⟩ : ∃ x, cs[k] = x := ⟨_, rfl⟩
          rw [hx] at y1 y2
          have HBe2 := hide hbe
          have hk0 : (0 : Int) ≤ (k : Int) := by omega
          have hk1 : (k : Int) < (cs.length : Int) := by omega
          clear hA hB c1 c2 hbe hx
          go_wp2_with fail
          go_region
          go_wp2_with fail
          go_roundw
          case rel => exact ⟨k + 1, by go_num, by omega, (Ja HBe2).drew⟩
          case measure => simp [intOf]; omega
        · have hke : k = cs.length := by omega
          subst hke
          have HBe2 := hide hbe
          clear hbe
          go_wp2_with fail
          exact bodyPost_ret (v := .bool true) (by simp [results, Tryz.results13, go_sem]) rfl ⟨rfl, (Ja HDW).below (Ja HBe2), (Ja HKW).trans (KeepS.of (S := S) (Ja HBe2)) (fun _ _ h => h)⟩
end Go.Proofs.YtjobgpahajhbnabGreatDoor
namespace Go.Proofs
open Go.Shelf
def Tryz.grow279_ren : Go.Shelf.Ren := ⟨fun | 4 => 204 | n => n, fun | 22 => 32 | 25 => 2 | 3 => 3 | 4 => 4 | 9 => 9 | 20 => 20 | 0 => 0 | n => n, fun | n => n⟩
theorem Tryz.grow279 : Go.Proofs.Lays8.n4 Tryz.prog Tryz.grow279_ren := {
  mixed := by kernel_rfl
  f4 := ⟨Tryz.f204.name, by decide, Tryz.func204.trans (congrArg some (by kernel_rfl))⟩
  t0 := Tryz.underlying0
  a0 := Tryz.isAgg0
  z0 := Tryz.sizeOf0
  v0 := Tryz.zeroValue0
  t3 := Tryz.underlying3
  a3 := Tryz.isAgg3
  z3 := Tryz.sizeOf3
  v3 := Tryz.zeroValue3
  t4 := Tryz.underlying4
  a4 := Tryz.isAgg4
  z4 := Tryz.sizeOf4
  v4 := Tryz.zeroValue4
  t9 := Tryz.underlying9
  a9 := Tryz.isAgg9
  z9 := Tryz.sizeOf9
  v9 := Tryz.zeroValue9
  t20 := Tryz.underlying20
  a20 := Tryz.isAgg20
  z20 := Tryz.sizeOf20
  v20 := Tryz.zeroValue20
  t22 := Tryz.underlying32
  a22 := Tryz.isAgg32
  z22 := Tryz.sizeOf32
  v22 := Tryz.zeroValue32 }
end Go.Proofs
namespace Go.Proofs.YtjobgpahajhbnabGreatDoor
open Go.RowKit Go.Proofs Go.Maps
attribute [local go_sem ↓] Go.wp_at_zero Go.wp_at_succ
theorem Gl (k : Nat) : (Builtin.zeroCells (Value.int .i64 0).cells k).size = k := by
  simp [Builtin.zeroCells, Value.cells]
theorem Jkp (n : Nat) (hn : n ≤ 1000000) (w : World) : Calls Tryz.prog 204 #[.slice none 0 0, .int .i64 n] w fun e w' => ∃ v, e = .returned v ∧ w'.ownsRow w.heap.size 2 1 v 0 [] ∧ Below w.heap.size w w' := by
  obtain ⟨i0, hi, hz0, hz1, hz2⟩ := info_parts Tryz.info2
  by_cases h0 : n = 0
  · subst h0
    refine (Any8.slices_Grow_room Tryz.grow279 none 0 0 0 w (by omega) (by omega) (by omega) (by omega)).mono ?_
    rintro e w' ⟨rfl, rfl⟩
    exact ⟨_, rfl, World.ownsRow_nil _ _ _ _, Below.refl _ _⟩
  · refine (Any8.slices_Grow_grow Tryz.grow279 i0 (.int .i64 0) hi hz0 (by omega) none 0 0 n [] w (by omega) (by omega) (by rw [hz2]; omega) (by omega) (by simp) (by simp) (by simp)).mono ?_
    rintro e w' ⟨rfl, rfl⟩
    have hh : ∀ o, (w.drew.alloc o).heap[w.heap.size]? = some o := fun o => by show (w.heap.push o)[w.heap.size]? = _; simp
    have hge := grownCap_ge w (0 + n) 0 2
    have hle := grownCap_le_maxLen w (0 + n) 0 2 (by unfold maxLen; omega)
    refine ⟨_, rfl, ⟨by simp, .inr ⟨_, _, _, rfl, Nat.le_refl _, hh _, by omega, hle, ?_, by simp⟩⟩, ?_⟩
    · simp only [Array.size_append, List.size_toArray, List.length_nil, Gl]
      show _ = grownCap w (0 + n) 0 2 * 1
      show 0 + (0 + n - 0) + (grownCap w (0 + n) 0 2 - (0 + n)) = _
      omega
    · exact (Below.refl _ _).drew.alloc (by simp) _
theorem Xm {P : Program} (w : World) (t tx ty e e' : TypeId) (i : TypeInfo) (ht : P.underlying t = some (.slice e)) (ht' : P.underlying tx = some (.slice e')) (hi : P.info? e = some i) (base xo : Option Addr) (sLen sCap c : Nat) (hle : sLen ≤ sCap) :
    (Builtin.append_ #[t, tx] ty #[.slice base sLen sCap, .slice xo 0 c]).run P w = .ok (.slice base sLen sCap) w := by
  have hl : ∀ (x : Addr), (loadCells x 0).run P w = .ok #[] w := fun x => by simpa using run_loadCells_list (P := P) w x [] (by simp)
  cases base <;> cases xo <;> simp [Builtin.append_, run_underlying ht, run_underlying ht', sizeOf, typeInfo, hi, hle, storeCells, Builtin.lenOf, Builtin.firstCells, hl]
theorem Y2 {P : Program} {w : World} {ops : Array Oper} {rest : List Oper} {o : Oper} {a : Act} {Q : Exit → Act → World → Prop} (hgd : o.guard = none) (s x : Operand) (t : TypeId) (ho : o.op = .call { callee := .builtin .append, args := #[s, x], argTypes := #[t, t] })
    (e : TypeId) (i : TypeInfo) (ht : P.underlying t = some (.slice e)) (hi : P.info? e = some i) (base : Option Addr) (sLen sCap : Nat) (hle : sLen ≤ sCap) (hs : a.eval s = .slice base sLen sCap) (xo : Option Addr) (c : Nat) (hx : a.eval x = .slice xo 0 c)
    (h : wpList P ops Q rest (a.put o.dst (.slice base sLen sCap)) w) : wpList P ops Q (o :: rest) a w :=
  wpList_plain hgd fun _ hK => by
    have hr := Xm (P := P) w t t o.type e e i ht ht hi base xo sLen sCap c hle
    unfold Oper.wp execOp
    simp only [ho, resolve, invoke, builtin, Sem.run_bind, Sem.run_pure, Result.andThen_ok, List.map_toArray, List.map_cons, List.map_nil, hs, hx, hr]
    exact hK _ _ h
def Jcc (Q : Nat → Prop) (w : World) (gb : Nat) (L : List (List Int)) : Prop := ∀ i, (h : i < L.length) → ∃ o n c, w.cell? ⟨gb, i, none⟩ = some (.slice o n c) ∧ Nums Q w (.slice o n c) L[i]
def lens (L : List (List Int)) (i : Nat) : Nat := (L.take i).flatten.length
theorem Qw {L : List (List Int)} {i : Nat} (h : i < L.length) : lens L (i + 1) = lens L i + L[i].length := by
  unfold lens
  rw [List.take_succ_eq_append_getElem h, List.flatten_append, List.length_append]
  simp
theorem Jal {L : List (List Int)} {i : Nat} (h : i < L.length) : (L.take (i + 1)).flatten = (L.take i).flatten ++ L[i] := by
  rw [List.take_succ_eq_append_getElem h, List.flatten_append]
  simp
theorem Vk (L : List (List Int)) (i : Nat) : lens L i ≤ L.flatten.length := by
  have : L.flatten.length = (L.take i).flatten.length + (L.drop i).flatten.length := by
    rw [← List.length_append, ← List.flatten_append, List.take_append_drop]
  unfold lens
  omega
theorem Fv {Q : Nat → Prop} {w : World} {b off c : Nat} {xs : List Int} (h : Nums Q w (.slice (some ⟨b, off, none⟩) xs.length c) xs) : ∀ j u, (xs.map (Value.int .i64))[j]? = some u → w.cell? ((⟨b, off, none⟩ : Addr).add j) = some u := by
  intro j u hu
  obtain ⟨hj, rfl⟩ := Z0 hu
  obtain ⟨ao, cap, hv, _, hc, _⟩ := h
  obtain ⟨b', off', ha, _, _, hcell⟩ := hc (by omega)
  injection hv with e1 e2 e3
  rw [← e1] at ha
  injection ha with ha
  injection ha with e4 e5
  subst e4
  subst e5
  have e : (⟨b, off, none⟩ : Addr).add j = ⟨b, off + j, none⟩ := by cases j <;> simp [Addr.add]
  rw [e]
  exact hcell j hj
theorem V4 {xs : List Int} : ∀ u ∈ xs.map (Value.int .i64), u.oneCell' = true := by
  intro u hu
  obtain ⟨x, _, rfl⟩ := List.mem_map.1 hu
  rfl
set_option maxHeartbeats 2000000 in
set_option maxRecDepth 10000 in
theorem G6 (P : Nat → Prop) {Q : Nat → Prop} (w : World) (hP : ∀ b, w.heap.size ≤ b → P b) (gb k cap : Nat) (L : List (List Int)) (hk : L.length = k) (hk3 : k ≤ 200) (hgb : gb < w.heap.size) (hL : Jcc Q w gb L) (hfew : L.flatten.length ≤ 1000000) :
    Calls Tryz.prog 176 #[.slice (some ⟨gb, 0, none⟩) k cap] w fun e w' => ∃ so sn sc, e = .returned (.slice so sn sc) ∧ Nums P w' (.slice so sn sc) L.flatten ∧ Below w.heap.size w w' := by
  obtain ⟨i0, hi, hz0, hz1, hz2⟩ := info_parts Tryz.info2
  have HI := hide hi
  have HZ0 := hide hz0
  have HZ1 := hide hz1
  have HZ2 := hide hz2
  have HP : Hid (∀ b, w.heap.size ≤ b → P b) := hP
  have HL := hide hL
  have HK := hide hk
  have HF := hide hfew
  have HG := hide (fun n (h : n ≤ 1000000) w' => Jkp n h w')
  clear hi hz0 hz1 hz2 hP hL hk hfew
  go_enter Tryz.func176, Tryz.ntmps176
  go_wp2_with fail
  go_loopw [3, 11] (fun v3 v11 wr => ∃ i : Nat, v3 = .int .i64 (lens L i) ∧ v11 = .int .i64 i ∧ i ≤ k ∧ wr = w) (fun _ v11 _ => k - (intOf v11).toNat)
  case atStart => exact ⟨0, by simp [lens], rfl, by omega, rfl⟩
  case round =>
    obtain ⟨i, rfl, rfl, hik, hwr⟩ := hrel
    have hwr' := hwr.symm
    subst hwr'
    by_cases hlt : i < k
    · have hil : i < L.length := by rw [Ja HK]; exact hlt
      obtain ⟨o, n, c, hc, hn⟩ := Ja HL i hil
      have hnl := Jf hn
      have hsum := Qw hil
      rw [← hnl] at hsum
      have hle := Vk L (i + 1)
      have hf := Ja HF
      have hi0 : (0 : Int) ≤ (i : Int) := by omega
      have hi1 : (i : Int) < (k : Int) := by omega
      obtain ⟨m, hm⟩ : ∃ m, lens L i = m := ⟨_, rfl⟩
      obtain ⟨m', hm'⟩ : ∃ m', lens L (i + 1) = m' := ⟨_, rfl⟩
      rw [hm, hm'] at hsum
      rw [hm'] at hle
      rw [hm]
      have hw1 : IntKind.i64.wrap ((m : Int) + (n : Int)) = (m' : Int) := by rw [Jd (by omega) (by omega)]; omega
      have hneg : ¬ ((m' : Int) < 0) := by omega
      have HM' := hide hm'
      clear hn hnl hsum hle hf hm hm'
      go_wp2_with fail
      go_roundw
      case rel => exact ⟨i + 1, by rw [Ja HM'], by go_num, by omega, (by first | rfl | trivial)⟩
      case measure => simp [intOf]; omega
    · have hik' : i = k := by omega
      subst hik'
      have hle : lens L i ≤ 1000000 := Nat.le_trans (Vk L i) (Ja HF)
      obtain ⟨m, hm⟩ : ∃ m, lens L i = m := ⟨_, rfl⟩
      rw [hm] at hle ⊢
      clear hm
      go_wp2_with fail
      refine (Ja HG m hle _).mono ?_
      rintro e w1 ⟨v, rfl, hown, hb⟩
      have HO := hide hown
      have HB := hide hb
      clear hown hb
      go_wp2_with fail
      go_loopw [6, 27] (fun v6 v27 wr => ∃ j : Nat, v27 = .int .i64 j ∧ j ≤ i ∧ wr.ownsRow w.heap.size 2 1 v6 (lens L j) ((L.take j).flatten.map (Value.int .i64)) ∧ Below w.heap.size w wr) (fun _ v27 _ => i - (intOf v27).toNat)
      case atStart => exact ⟨0, rfl, by omega, by simpa [lens] using Ja HO, Ja HB⟩
      case round =>
        obtain ⟨j, rfl, hj, hown, hb⟩ := hrel
        by_cases hlt : j < i
        · have hjl : j < L.length := by rw [Ja HK]; exact hlt
          obtain ⟨o, n, c, hc, hn⟩ := Ja HL j hjl
          have hc' := (hb.cell (p := ⟨gb, j, none⟩) hgb).trans hc
          have hn' := hn.below hb
          have hnl := Jf hn
          have hsum := Qw hjl
          rw [← hnl] at hsum
          have hle := Vk L (j + 1)
          have hf := Ja HF
          have HFl := hide (Jal hjl)
          have hi0 : (0 : Int) ≤ (j : Int) := by omega
          have hi1 : (j : Int) < (i : Int) := by omega
          obtain ⟨vo, vc, rfl, hvle, -⟩ := J9 hown
          have HO := hide hown
          have HB := hide hb
          have HN := hide hn'
          have HNL := hide hnl
          have HS := hide hsum
          have hbnd : lens L j + n ≤ 1000000 := by omega
          clear hn hn' hown hb hc hsum hle hf hnl
          by_cases hn0 : n = 0
          · subst hn0
            have hz : L[j] = [] := List.eq_nil_of_length_eq_zero (Ja HNL).symm
            have HO4 : Hid (wr.ownsRow w.heap.size 2 1 (.slice vo (lens L j) vc) (lens L (j + 1)) ((L.take (j + 1)).flatten.map (Value.int .i64))) := hide (by
              rw [Ja HS, Ja HFl, hz, List.append_nil, Nat.add_zero]
              exact Ja HO)
            clear hz
            go_wp2_with (at_builtin; refine Y2 rfl _ _ 32 rfl 2 i0 Tryz.underlying32 (Ja HI) _ _ _ ?c1 rfl _ _ rfl ?_)
            case c1 => exact hvle
            go_wp2_with fail
            go_roundw
            case rel => exact ⟨j + 1, by go_num, by omega, Ja HO4, Ja HB⟩
            case measure => simp [intOf]; omega
          · obtain ⟨ao, cap', hv, hcap, h1, _⟩ := Ja HN
            obtain ⟨b, off, rfl, _, hbl, hcell⟩ := h1 (by rw [← Ja HNL]; omega)
            injection hv with e1 e2 e3
            subst e1
            clear h1 hcell hcap e2 e3
            go_wp2_with (at_builtin; refine wpList_append_own _ rfl _ _ 32 rfl w.heap.size 2 i0 (.int .i64 0) 1 8 Tryz.underlying32 (Ja HI) (Ja HZ0) (Ja HZ1) (Ja HZ2) rfl (by decide) _ _ _ rfl (Ja HO) ⟨b, off, none⟩ n c (L[j].map (Value.int .i64)) rfl (by simp [Ja HNL]) ?c2 V4 ?c3 ?c4 ?c5 ?_)
            case c2 =>
              have := Ja HN
              rw [Ja HNL] at this
              exact Fv this
            case c3 => unfold maxLen; omega
            case c4 => omega
            case c5 => exact (Ja HB).size
            intro v' w4 hown4 hgrow4 _
            have HB4 : Hid (Below w.heap.size w w4) := hide ((Ja HB).grown hgrow4 (Ja HB).size (fun q hq => ((Ja HO).lt q hq).1))
            have HO4 : Hid (w4.ownsRow w.heap.size 2 1 v' (lens L (j + 1)) ((L.take (j + 1)).flatten.map (Value.int .i64))) := hide (by
              rw [Ja HS, Ja HFl, List.map_append]
              simpa using hown4)
            clear hown4 hgrow4
            go_wp2_with fail
            go_roundw
            case rel => exact ⟨j + 1, by go_num, by omega, Ja HO4, Ja HB4⟩
            case measure => simp [intOf]; omega
        · have hji : j = i := by omega
          subst hji
          have hfl : (L.take j).flatten = L.flatten := by rw [← Ja HK, List.take_length]
          rw [hfl] at hown
          have hN := Js (P := P) hown (Ja HP)
          obtain ⟨vo, vc, rfl, hvle, -⟩ := J9 hown
          have HN := hide hN
          have HB := hide hb
          clear hown hb hN hfl
          go_wp2_with fail
          go_ret
          exact ⟨_, _, _, rfl, Ja HN, Ja HB⟩
theorem Jep (P : Nat → Prop) {Q : Nat → Prop} (w : World) (hP : ∀ b, w.heap.size ≤ b → P b) (gb k cap : Nat) (L : List (List Int)) (hk : L.length = k) (hk3 : k ≤ 200) (hgb : gb < w.heap.size) (hL : Jcc Q w gb L) (hfew : L.flatten.length ≤ 1000) :
    Calls Tryz.prog 176 #[.slice (some ⟨gb, 0, none⟩) k cap] w fun e w' => ∃ so sn sc, e = .returned (.slice so sn sc) ∧ Nums P w' (.slice so sn sc) L.flatten ∧ Below w.heap.size w w' := G6 P w hP gb k cap L hk hk3 hgb hL (by omega)
end Go.Proofs.YtjobgpahajhbnabGreatDoor
namespace Go.Proofs.YtjobgpahajhbnabGreatDoor
open Go.RowKit Go.Proofs Go.Maps
attribute [local go_sem ↓] Go.wp_at_zero Go.wp_at_succ
theorem Jhv (l : List Nat) (a : Nat) : l.foldl (· * ·) a = a * l.foldl (· * ·) 1 := by
  induction l generalizing a with
  | nil => simp
  | cons x l ih =>
    simp only [List.foldl_cons, Nat.one_mul]
    rw [ih (a * x), ih x, Nat.mul_assoc]
theorem Jp (l r : List Nat) : Jj (l ++ r) = Jj l * Jj r := by
  unfold Jj
  rw [List.foldl_append, Jhv]
theorem Ym (n : Nat) : Jj [n] = n := by simp [Jj]
theorem Jdz {sh : List Nat} {k : Nat} (h : k < sh.length) : Jj (sh.take (k + 1)) = Jj (sh.take k) * sh[k] := by
  rw [List.take_succ_eq_append_getElem h, Jp, Ym]
theorem Jjo {sh : List Nat} (h : ∀ n ∈ sh, n ≤ 400) : Jj sh ≤ 400 ^ sh.length := by
  induction sh with
  | nil => simp [Jj]
  | cons x l ih =>
    have h1 := ih (fun n hn => h n (List.mem_cons_of_mem _ hn))
    have h2 := h x (by simp)
    have e : Jj (x :: l) = x * Jj l := by
      have := Jp [x] l
      rw [Ym] at this
      exact this
    rw [e, List.length_cons, Nat.pow_succ, Nat.mul_comm]
    exact Nat.mul_le_mul h1 h2
structure Lens (sh : List Nat) : Prop where
  rank : sh.length ≤ 3
  lens : ∀ n ∈ sh, n ≤ 400
theorem Lens.take {sh : List Nat} (h : Lens sh) (k : Nat) : Lens (sh.take k) := ⟨by have := h.rank; simp; omega, fun n hn => h.lens n (List.mem_of_mem_take hn)⟩
theorem Lens.prod {sh : List Nat} (h : Lens sh) : Jj sh ≤ 64000000 := by
  have h1 := Jjo h.lens
  have h2 : 400 ^ sh.length ≤ 400 ^ 3 := Nat.pow_le_pow_right (by decide) h.rank
  have h3 : 400 ^ 3 = 64000000 := by decide
  omega
set_option maxHeartbeats 1000000 in
theorem Q5 {Q : Nat → Prop} (w : World) (so : Option Addr) (sn sc : Nat) (sh : List Nat) (h : Nums Q w (.slice so sn sc) (sh.map Int.ofNat)) (hl : Lens sh) :
    Calls Tryz.prog 148 #[.slice so sn sc] w fun e w' => e = .returned (.int .i64 (Jj sh)) ∧ w' = w := by
  have hn := Jf h
  simp at hn
  have hsn3 : sn ≤ 3 := by have := hl.rank; omega
  have HL := hide hl
  have HN := hide hn
  have HH := hide h
  clear h hl hn
  go_enter Tryz.func148, Tryz.ntmps148
  go_wp2_with fail
  go_loopw [3, 8] (fun v3 v8 wr => ∃ k : Nat, v8 = .int .i64 k ∧ v3 = .int .i64 (Jj (sh.take k)) ∧ k ≤ sn ∧ wr = w) (fun _ v8 _ => sn - (intOf v8).toNat)
  case atStart => exact ⟨0, rfl, by simp [Jj], by omega, rfl⟩
  case round =>
    obtain ⟨k, rfl, rfl, hk, hwr⟩ := hrel
    have hwr' := hwr.symm
    subst hwr'
    by_cases hlt : k < sn
    · have hks : k < sh.length := by rw [← Ja HN]; exact hlt
      obtain ⟨b, off, rfl, hb, hc, -⟩ := (Ja HH).at (k := k) (by simpa using hks)
      simp at hc
      have hs := Jdz hks
      have hm := ((Ja HL).take (k + 1)).prod
      obtain ⟨m, hm1⟩ : ∃ m, Jj (sh.take k) = m := ⟨_, rfl⟩
      obtain ⟨m', hm2⟩ : ∃ m', Jj (sh.take (k + 1)) = m' := ⟨_, rfl⟩
      obtain ⟨y, hy⟩ : ∃ y, sh[k] = y := ⟨_, rfl⟩
      rw [hm1, hm2, hy] at hs
      rw [hm2] at hm
      rw [hy] at hc
      rw [hm1]
      have hw1 : IntKind.i64.wrap ((m : Int) * (y : Int)) = (m' : Int) := by
        rw [← Int.natCast_mul, ← hs]
        exact Jd (by omega) (by omega)
      have hi0 : (0 : Int) ≤ (k : Int) := by omega
      have hi1 : (k : Int) < (sn : Int) := by omega
      have HM := hide hm2
      clear hs hm hm1 hm2 hy
      go_wp2_with fail
      go_roundw
      case rel => exact ⟨k + 1, by go_num, by rw [Ja HM], by omega, (by first | rfl | trivial)⟩
      case measure => simp [intOf]; omega
    · have hke : k = sn := by omega
      subst hke
      have hfl : sh.take k = sh := List.take_of_length_le (by rw [← Ja HN]; exact Nat.le_refl _)
      rw [hfl]
      clear hfl
      go_wp2_with fail
      exact bodyPost_ret (v := .int .i64 (Jj sh)) (by simp [results, Tryz.results148, go_sem]) rfl ⟨rfl, (by first | rfl | trivial)⟩
def Yu (sh : List Nat) : Bool := sh.all (fun n => decide (n ≤ 64)) && decide (Jj sh ≤ 64)
set_option maxHeartbeats 1000000 in
theorem V6 {Q : Nat → Prop} (w : World) (so : Option Addr) (sn sc : Nat) (sh : List Nat) (h : Nums Q w (.slice so sn sc) (sh.map Int.ofNat)) (hl : Lens sh) :
    Calls Tryz.prog 145 #[.slice so sn sc] w fun e w' => e = .returned (.bool (Yu sh)) ∧ w' = w := by
  have hn := Jf h
  simp at hn
  have hsn3 : sn ≤ 3 := by have := hl.rank; omega
  have HL := hide hl
  have HN := hide hn
  have HH := hide h
  have HC := hide (Q5 w so sn sc sh h hl)
  clear h hl hn
  go_enter Tryz.func145, Tryz.ntmps145
  go_wp2_with fail
  go_loopw [7] (fun v7 wr => ∃ k : Nat, v7 = .int .i64 k ∧ (∀ n ∈ sh.take k, n ≤ 64) ∧ k ≤ sn ∧ wr = w) (fun v7 _ => sn - (intOf v7).toNat)
  case atStart => exact ⟨0, rfl, by simp, by omega, rfl⟩
  case round =>
    obtain ⟨k, rfl, hall, hk, hwr⟩ := hrel
    have hwr' := hwr.symm
    subst hwr'
    have HA := hide hall
    clear hall
    by_cases hlt : k < sn
    · have hks : k < sh.length := by rw [← Ja HN]; exact hlt
      obtain ⟨b, off, rfl, hb, hc, -⟩ := (Ja HH).at (k := k) (by simpa using hks)
      simp at hc
      have hy64 := (Ja HL).lens _ (List.getElem_mem hks)
      have HTk : Hid (sh.take (k + 1) = sh.take k ++ [sh[k]]) := hide (List.take_succ_eq_append_getElem hks)
      have HMem := hide (List.getElem_mem hks)
      obtain ⟨y, hy⟩ : ∃ y, sh[k] = y := ⟨_, rfl⟩
      rw [hy] at hc hy64 HTk HMem
      have hi0 : (0 : Int) ≤ (k : Int) := by omega
      have hi1 : (k : Int) < (sn : Int) := by omega
      clear hy
      by_cases hbig : 64 < y
      · have hb' : (64 : Int) < (y : Int) := by omega
        have HF : Hid (Yu sh = false) := hide (by
          unfold Yu
          rw [Bool.and_eq_false_iff]
          left
          rw [List.all_eq_false]
          exact ⟨y, Ja HMem, by simp; omega⟩)
        go_wp2_with fail
        exact bodyPost_ret (v := .bool false) (by simp [results, Tryz.results145, go_sem]) rfl ⟨by rw [Ja HF], (by first | rfl | trivial)⟩
      · have hb' : ¬ ((64 : Int) < (y : Int)) := by omega
        go_wp2_with fail
        go_roundw
        case rel => exact ⟨k + 1, by go_num, (by rw [Ja HTk]; intro n hn; rcases List.mem_append.1 hn with h | h; exact Ja HA n h; simp at h; omega), by omega, (by first | rfl | trivial)⟩
        case measure => simp [intOf]; omega
    · have hke : k = sn := by omega
      subst hke
      have hfl : sh.take k = sh := List.take_of_length_le (by rw [← Ja HN]; exact Nat.le_refl _)
      rw [hfl] at HA
      have HF : Hid (Yu sh = decide ((Jj sh : Int) ≤ 64)) := hide (by
        unfold Yu
        have : sh.all (fun n => decide (n ≤ 64)) = true := by rw [List.all_eq_true]; intro n hn; simpa using Ja HA n hn
        rw [this, Bool.true_and]
        simp
        omega)
      clear hfl
      go_wp2_with (go_at_call 148; refine (Ja HC).mono ?_; rintro e w' ⟨rfl, rfl⟩)
      exact bodyPost_ret (v := .bool (decide ((Jj sh : Int) ≤ 64))) (by simp [results, Tryz.results145, go_sem]) rfl ⟨by rw [Ja HF], (by first | rfl | trivial)⟩
end Go.Proofs.YtjobgpahajhbnabGreatDoor
