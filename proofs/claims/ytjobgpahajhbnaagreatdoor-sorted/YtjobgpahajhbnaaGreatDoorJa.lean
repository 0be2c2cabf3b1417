import Derived.Test.YtjobgpahajhbnaaGreatDoorGg
import Derived.Test.YtjobgpahajhbnaaGreatDoorMc
import Derived.Test.YtjobgpahajhbnaaGreatDoorTr
import Derived.Maps.AppendAt
namespace Go.Proofs.YtjobgpahajhbnaaGreatDoor
open Go.RowKit Go.Proofs Go.Maps
attribute [local go_sem ↓] Go.wp_at_zero Go.wp_at_succ

/-- a desk with names, and blocks S that are none of its own -/
structure DkS (S X : Nat → Prop) (db : Nat) (env : ByteArray → Option Arr) (N : Nat) (mo : Option Nat) (w : World) : Prop where
  dsk : DskN X db 1000 env N mo w
  xlt : ∀ b, X b → b < w.heap.size
  s : ∀ b, S b → 6 ≤ b ∧ b < w.heap.size ∧ ¬ X b ∧ b ≠ db ∧ mo ≠ some b
def DkE (S : Nat → Prop) (db : Nat) (env : ByteArray → Option Arr) (N : Nat) (w : World) : Prop := ∃ X mo, DkS S X db env N mo w
theorem DkE.below {S : Nat → Prop} {db : Nat} {env : ByteArray → Option Arr} {N : Nat} {w w' : World} (h : DkE S db env N w) (hb : Below w.heap.size w w') : DkE S db env N w' := by
  obtain ⟨X, mo, h1, h2, h3⟩ := h
  have := hb.size
  exact ⟨X, mo, h1.below hb, fun b h => Nat.lt_of_lt_of_le (h2 b h) this, fun b h => by obtain ⟨a1, a2, a3⟩ := h3 b h; exact ⟨a1, by omega, a3⟩⟩
theorem DkE.low {S : Nat → Prop} {db : Nat} {env : ByteArray → Option Arr} {N : Nat} {w : World} (h : DkE S db env N w) : 6 ≤ db ∧ db < w.heap.size := by
  obtain ⟨X, mo, h1, h2, h3⟩ := h
  exact ⟨h1.low, h1.lt⟩
theorem DkE.lt {S : Nat → Prop} {db : Nat} {env : ByteArray → Option Arr} {N : Nat} {w : World} (h : DkE S db env N w) {b : Nat} (hb : S b) : 6 ≤ b ∧ b < w.heap.size ∧ b ≠ db := by
  obtain ⟨X, mo, h1, h2, h3⟩ := h
  obtain ⟨a1, a2, _, a4, _⟩ := h3 b hb
  exact ⟨a1, a2, a4⟩
theorem DkE.more {S : Nat → Prop} {db : Nat} {env : ByteArray → Option Arr} {N : Nat} {w w' : World} (h : DkE S db env N w) (hb : Below w.heap.size w w') : DkE (fun b => S b ∨ (w.heap.size ≤ b ∧ b < w'.heap.size)) db env N w' := by
  obtain ⟨X, mo, h1, h2, h3⟩ := h
  have hs := hb.size
  refine ⟨X, mo, h1.below hb, fun b h => Nat.lt_of_lt_of_le (h2 b h) hs, fun b h => ?_⟩
  rcases h with h | ⟨k1, k2⟩
  · obtain ⟨a1, a2, a3⟩ := h3 b h
    exact ⟨a1, by omega, a3⟩
  · have l1 := h1.low
    have l2 := h1.lt
    exact ⟨by omega, k2, fun hx => by have := h2 b hx; omega, by omega, fun e => by have := h1.moLt b e; omega⟩
theorem DkE.less {S S' : Nat → Prop} {db : Nat} {env : ByteArray → Option Arr} {N : Nat} {w : World} (h : DkE S db env N w) (hs : ∀ b, S' b → S b) : DkE S' db env N w := by
  obtain ⟨X, mo, h1, h2, h3⟩ := h
  exact ⟨X, mo, h1, h2, fun b hb => h3 b (hs b hb)⟩
theorem DkE.set {S : Nat → Prop} {db : Nat} {env : ByteArray → Option Arr} {N : Nat} {w : World} (h : DkE S db env N w) {r : Nat} (hr : S r) (i : Nat) (u : Value) : DkE S db env N (w.setCell ⟨r, i, none⟩ u) := by
  obtain ⟨X, mo, h1, h2, h3⟩ := h
  obtain ⟨a1, a2, a3, a4, a5⟩ := h3 r hr
  exact ⟨X, mo, h1.set a3 a1 a4 a5 i u, fun b h => by simpa using h2 b h, fun b h => by simpa using h3 b h⟩
theorem DkE.lasts (S : Nat → Prop) (db : Nat) (env : ByteArray → Option Arr) (N : Nat) : Lasts (DkE S db env N) := fun _ _ h hb => h.below hb
/-- blocks of which S holds are kept, and those of the program's own variables -/
def KeepS (S : Nat → Prop) (w w' : World) : Prop := Bs (fun b => ¬ S b ∧ 6 ≤ b) w w'
theorem KeepS.of {S : Nat → Prop} {w w' : World} (h : Below w.heap.size w w') : KeepS S w w' := Bs.of h
theorem KeepS.block {S : Nat → Prop} {w w' : World} (h : KeepS S w w') {b : Nat} (hb : b < w.heap.size) (hs : S b) : w'.heap[b]? = w.heap[b]? := Bs.block h b hb (fun hn => hn.1 hs)
theorem KeepS.cell {S : Nat → Prop} {w w' : World} (h : KeepS S w w') {b o : Nat} (hb : b < w.heap.size) (hs : S b) : w'.cell? ⟨b, o, none⟩ = w.cell? ⟨b, o, none⟩ := World.cell?_of_block (h.block hb hs)
theorem KeepS.frozen {S : Nat → Prop} {w w' : World} (h : KeepS S w w') {b o : Nat} (hb : b < w.heap.size) (hs : S b) : w'.frozen? ⟨b, o, none⟩ = w.frozen? ⟨b, o, none⟩ := World.frozen?_of_block (a := ⟨b, o, none⟩) (h.block hb hs)
theorem KeepS.nums {S Q : Nat → Prop} {w w' : World} {v : Value} {xs : List Int} (h : KeepS S w w') (hn : Nums Q w v xs) (hq : ∀ b, Q b → S b) : Nums Q w' v xs := hn.keep (Bs.size h) (fun b hb hl => h.block hl (hq b hb))
theorem KeepS.trans {S S' : Nat → Prop} {w w1 w2 : World} (h : KeepS S w w1) (h' : KeepS S' w1 w2) (hs : ∀ b, b < w.heap.size → S b → S' b) : KeepS S w w2 := Bs.trans h h' (fun k hk hn => ⟨fun h => hn.1 (hs k hk h), hn.2⟩)
theorem KeepS.set {S : Nat → Prop} {w w1 : World} (h : KeepS S w w1) {r : Nat} (hr : ¬ S r) (h6 : 6 ≤ r) (i : Nat) (u : Value) : KeepS S w (w1.setCell ⟨r, i, none⟩ u) := ⟨h.os, h.tape, h.output, by simpa using h.size, fun k hk hn => (RowKit.Below.heap_setCell _ _ _ _ (fun e => by have e : k = r := e; subst e; exact hn ⟨hr, h6⟩)).trans (Bs.block h k hk hn)⟩
/-- what reply leaves -/
def RepU (S : Nat → Prop) (db : Nat) (env : ByteArray → Option Arr) (N : Nat) (w : World) (sh cs : List Int) (cost : Int) (e : Ending) (w' : World) : Prop :=
  ∃ so sn sc co cn cc, e = .returned (.agg #[.int .i64 0, .int .i64 0, .slice so sn sc, .slice co cn cc, .int .i64 cost]) ∧ Nums (fun b => w.heap.size ≤ b) w' (.slice so sn sc) sh ∧ Nums (fun b => w.heap.size ≤ b) w' (.slice co cn cc) cs ∧ DkE S db env N w' ∧ KeepS S w w'
/-- a line that makes a name -/
def SaysU (db : Nat) (env : ByteArray → Option Arr) (N : Nat) (s : ByteArray) (env' : ByteArray → Option Arr) (N' : Nat) (sh cs : List Int) (cost : Int) : Prop :=
  ∀ S w, DkE S db env N w → Calls Tryz.prog 42 #[.pointer (some ⟨db, 0, none⟩), .string s] w (RepU S db env' N' w sh cs cost)
theorem says_named {f1 : ByteArray → Arr → Arr × Int} {f2 : ByteArray → Arr → Arr → Arr × Int} {env : ByteArray → Option Arr} {db N : Nat} {nm : List UInt8} {x : Ex} {t : List UInt8} {d : Nat} (hnm : NameT nm) (h : Tw d false (nm.length + 4) x t) (hs : ((nm ++ ([32, 105, 115, 32] ++ t))).length ≤ 200) (hd : d ≤ 8) (hN : N < 1000) (he : ∀ t a, env t = some a → a.ok) (hg : Good f1 f2 x) {a : Arr} {c : Nat} (hev : evalE env 1000 f1 f2 x 0 = .inr (a, c)) (hl1 : a.shape.length ≤ 200) (hl2 : a.cells.length ≤ 200) :
    SaysU db env N ⟨(nm ++ ([32, 105, 115, 32] ++ t)).toArray⟩ (upd env ⟨nm.toArray⟩ a) (N + 1) (a.shape.map Int.ofNat) a.cells c := by
  intro S w hD
  obtain ⟨X, mo, h1, h2, h3⟩ := hD
  obtain ⟨e1, e2, e3⟩ := tw_is hnm h (by simp at hs; omega) hd
  obtain ⟨c0, l0, rfl, _, _⟩ := hnm.hd
  refine (reply_named X env 1000 f1 f2 db w mo N hN _ (by simp [ByteArray.size] at hs ⊢; omega) h1 h2 (by decide) (by decide) he (by rw [e1]) (by rw [e1]) ⟨(c0 :: l0).toArray⟩ e2 (by simp [ByteArray.size]) (by simp [ByteArray.size] at hs ⊢; omega) (fun x' hx => by rw [tree_uniq hx e3]; exact hg) a c (fun x' hx => by rw [tree_uniq hx e3]; exact hev) hl1 hl2).mono ?_
  rintro e w' ⟨so, sn, sc, co, cn, cc, rfl, n1, n2, ⟨mo', hd', hm'⟩, hb⟩
  have hsz := hb.size
  refine ⟨so, sn, sc, co, cn, cc, rfl, n1, n2, ⟨fun b => (X b ∨ (w.heap.size ≤ b ∧ mo' ≠ some b)) ∧ b < w'.heap.size, mo', hd'.imp (fun b hb hl => ⟨hb, hl⟩) (fun hx => hd'.out hx.1) (fun mb e hx => ?_), fun b hb => hb.2, fun b hb => ?_⟩, ?_⟩
  · subst e
    exact hd'.map.2.2.1 hx.1
  · obtain ⟨a1, a2, a3, a4, a5⟩ := h3 b hb
    exact ⟨a1, by omega, fun hx => by rcases hx.1 with hx | hx; exact a3 hx; omega, a4, fun e => a5 (hm' b a2 e)⟩
  · refine ⟨hb.os, hb.tape, hb.output, hb.size, fun k hk hn => hb.block k hk ?_⟩
    rintro (rfl | e)
    · exact hn ⟨fun hs => (h3 _ hs).2.2.2.1 rfl, h1.low⟩
    · subst e
      exact hn ⟨fun hs => (h3 _ hs).2.2.2.2 rfl, h1.map.2.1⟩
/-- what Run of one line leaves -/
structure RunU (S : Nat → Prop) (db : Nat) (env : ByteArray → Option Arr) (N : Nat) (w : World) (sh cs : List Int) (cost : Int) (rb : Nat) (w' : World) (so : Option Addr) (sn sc : Nat) (co : Option Addr) (cn cc : Nat) : Prop where
  q0 : w'.cell? ⟨rb, 0, none⟩ = some (.int .i64 0)
  q1 : w'.cell? ⟨rb, 1, none⟩ = some (.int .i64 0)
  q2 : w'.cell? ⟨rb, 2, none⟩ = some (.slice so sn sc)
  q3 : w'.cell? ⟨rb, 3, none⟩ = some (.slice co cn cc)
  q4 : w'.cell? ⟨rb, 4, none⟩ = some (.int .i64 cost)
  sh : Nums (fun b => w.heap.size ≤ b) w' (.slice so sn sc) sh
  cs : Nums (fun b => w.heap.size ≤ b) w' (.slice co cn cc) cs
  lo : w.heap.size ≤ rb
  hi : rb < w'.heap.size
  dk : DkE S db env N w'
  bs : KeepS S w w'
theorem runU_mk {S : Nat → Prop} {db : Nat} {env : ByteArray → Option Arr} {N : Nat} {w w1 : World} {cost : Int} {sh cs : List Int} {so : Option Addr} {sn sc : Nat} {co : Option Addr} {cn cc : Nat} (o : Obj) (Z : Array Value)
    (hb : KeepS S w w1) (hd : DkE S db env N w1) (hsh : Nums (fun b => w.heap.size ≤ b) w1 (.slice so sn sc) sh) (hcs : Nums (fun b => w.heap.size ≤ b) w1 (.slice co cn cc) cs) :
    RunU S db env N w sh cs cost (w1.heap.size + 1) ((w1.alloc o).alloc (.cells (#[.int .i64 0, .int .i64 0, .slice so sn sc, .slice co cn cc, .int .i64 cost] ++ Z) 47)).drew so sn sc co cn cc := by
  have hbw : Below w1.heap.size w1 ((w1.alloc o).alloc (.cells (#[.int .i64 0, .int .i64 0, .slice so sn sc, .slice co cn cc, .int .i64 cost] ++ Z) 47)).drew := (((Below.refl _ _).alloc (Nat.le_refl _) _).alloc (by simp) _).drew
  have hc : ∀ i, i < 5 → ((w1.alloc o).alloc (.cells (#[.int .i64 0, .int .i64 0, .slice so sn sc, .slice co cn cc, .int .i64 cost] ++ Z) 47)).drew.cell? ⟨w1.heap.size + 1, i, none⟩ = #[Value.int .i64 0, .int .i64 0, .slice so sn sc, .slice co cn cc, .int .i64 cost][i]? := by
    intro i hi
    show ((w1.alloc o).alloc (.cells (#[.int .i64 0, .int .i64 0, .slice so sn sc, .slice co cn cc, .int .i64 cost] ++ Z) 47)).cell? ⟨w1.heap.size + 1, i, none⟩ = _
    rw [World.cell?_alloc_at _ _ _ _ (by simp), Array.getElem?_append_left (by simpa using hi)]
  have h1 := Bs.size hb
  exact ⟨(hc 0 (by omega)).trans rfl, (hc 1 (by omega)).trans rfl, (hc 2 (by omega)).trans rfl, (hc 3 (by omega)).trans rfl, (hc 4 (by omega)).trans rfl, hsh.below hbw, hcs.below hbw, by omega, by simp, hd.below hbw, hb.trans (KeepS.of (S := S) hbw) (fun _ _ h => h)⟩
set_option maxHeartbeats 1000000 in
set_option maxRecDepth 20000 in
theorem run_u (S : Nat → Prop) (env' : ByteArray → Option Arr) (N' : Nat) (w : World) (db lb cap : Nat) (s : ByteArray) (sh cs : List Int) (cost : Int) (hc : w.cell? ⟨lb, 0, none⟩ = some (.string s)) (hl : lb < w.heap.size)
    (hrep : Calls Tryz.prog 42 #[.pointer (some ⟨db, 0, none⟩), .string s] w (RepU S db env' N' w sh cs cost)) :
    Calls Tryz.prog 33 #[.pointer (some ⟨db, 0, none⟩), .slice (some ⟨lb, 0, none⟩) 1 cap] w fun e w' => ∃ rb rc so sn sc co cn cc, e = .returned (.slice (some ⟨rb, 0, none⟩) 1 rc) ∧ RunU S db env' N' w sh cs cost rb w' so sn sc co cn cc := by
  have HR := hide hrep
  clear hrep
  go_enter Tryz.func33, Tryz.ntmps33
  go_wp2_with fail
  go_loopw [5, 17] (fun v i wr => (i = .int .i64 0 ∧ v = .slice none 0 0 ∧ wr = w) ∨ (i = .int .i64 1 ∧ ∃ rb rc so sn sc co cn cc, v = .slice (some ⟨rb, 0, none⟩) 1 rc ∧ RunU S db env' N' w sh cs cost rb wr so sn sc co cn cc)) (fun _ i _ => 1 - (intOf i).toNat)
  case atStart => exact Or.inl ⟨rfl, rfl, rfl⟩
  case round =>
    rcases hrel with ⟨rfl, rfl, rfl⟩ | ⟨rfl, rb, rc, so, sn, sc, co, cn, cc, rfl, hv⟩
    · go_wp2_with (go_at_call 42; refine (unhide HR).mono ?_; rintro e w1 ⟨so, sn, sc, co, cn, cc, rfl, hsh, hcs, hd, hb⟩; have HSH := hide hsh; have HCS := hide hcs; have HB := hide hb; have HD := hide hd; clear hsh hcs hb hd)
      exact ⟨Or.inr ⟨rfl, _, _, so, sn, sc, co, cn, cc, rfl, runU_mk _ _ (unhide HB) (unhide HD) (unhide HSH) (unhide HCS)⟩, by simp [intOf]⟩
    · have HV := hide hv
      clear hv
      go_wp2_with fail
      exact bodyPost_ret (v := .slice (some ⟨rb, 0, none⟩) 1 rc) (by simp [results, Tryz.results33, go_sem]) rfl ⟨rb, rc, so, sn, sc, co, cn, cc, rfl, unhide HV⟩
end Go.Proofs.YtjobgpahajhbnaaGreatDoor
namespace Go.Proofs.YtjobgpahajhbnaaGreatDoor
open Go.RowKit Go.Proofs Go.Maps
attribute [local go_sem ↓] Go.wp_at_zero Go.wp_at_succ

set_option maxHeartbeats 1000000 in
set_option maxRecDepth 20000 in
theorem one_u (S : Nat → Prop) (db : Nat) (env env' : ByteArray → Option Arr) (N N' : Nat) (s : ByteArray) (sh cs : List Int) (cost : Int) (hs : SaysU db env N s env' N' sh cs cost) (w : World) (hD : DkE S db env N w) :
    Calls Tryz.prog 29 #[.pointer (some ⟨db, 0, none⟩), .string s] w fun e w' => ∃ so sn sc co cn cc, e = .returned (.tuple #[.agg #[.int .i64 0, .int .i64 0, .slice so sn sc, .slice co cn cc, .int .i64 cost], .bool true]) ∧ Nums (fun b => w.heap.size < b) w' (.slice so sn sc) sh ∧ Nums (fun b => w.heap.size < b) w' (.slice co cn cc) cs ∧ DkE S db env' N' w' ∧ KeepS S w w' := by
  obtain ⟨w0, hw0⟩ : ∃ w0, (w.alloc (.cells #[.int .i64 0, .int .i64 0, .slice none 0 0, .slice none 0 0, .int .i64 0] 47)).alloc (.cells #[.string s] 9) = w0 := ⟨_, rfl⟩
  have hb0 : Below w.heap.size w w0 := by rw [← hw0]; exact ((Below.refl _ _).alloc (Nat.le_refl _) _).alloc (by simp) _
  have hs0 : w0.heap.size = w.heap.size + 1 + 1 := by rw [← hw0]; simp
  have hM := hD.more hb0
  have hc0 : w0.cell? ⟨w.heap.size + 1, 0, none⟩ = some (.string s) := by rw [← hw0]; simp
  have hS : (fun b => S b ∨ (w.heap.size ≤ b ∧ b < w0.heap.size)) w.heap.size := Or.inr ⟨Nat.le_refl _, by omega⟩
  have hnS : ¬ S w.heap.size := fun h => by have := (hD.lt h).2.1; omega
  have h6 : 6 ≤ w.heap.size := by have := hD.low; omega
  have HC := hide (run_u (fun b => S b ∨ (w.heap.size ≤ b ∧ b < w0.heap.size)) env' N' w0 db (w.heap.size + 1) 1 s sh cs cost hc0 (by omega) (hs _ _ hM))
  have e0 : ∀ i, w0.cell? ⟨w.heap.size, i, none⟩ = (w.alloc (.cells #[.int .i64 0, .int .i64 0, .slice none 0 0, .slice none 0 0, .int .i64 0] 47)).cell? ⟨w.heap.size, i, none⟩ := fun i => by rw [← hw0, World.cell?_alloc_past _ _ _ (by simp)]
  have e9 : ∀ i, w0.frozen? ⟨w.heap.size, i, none⟩ = false := fun i => by
    rw [← hw0, World.frozen?_of_block (a := ⟨w.heap.size, i, none⟩) (RowKit.Below.heap_alloc _ _ _ (by simp))]
    exact World.frozen?_alloc_at _ _ _ _ rfl
  have HB0 := hide hb0
  have HS := hide hS
  have HE0 := hide e0
  have HE9 := hide e9
  have HLT : Hid (∀ b, S b → b < w.heap.size) := hide (fun b h => (hD.lt h).2.1)
  clear hs hD hb0 hM hc0 hS e0 e9
  go_enter Tryz.func29, Tryz.ntmps29
  go_wp2_with fail
  try rw [hw0]
  clear hw0
  refine (unhide HC).mono ?_
  rintro e w1 ⟨rb, rc, so, sn, sc, co, cn, cc, rfl, hv⟩
  have q0 := hv.q0
  have q1 := hv.q1
  have q2 := hv.q2
  have q3 := hv.q3
  have q4 := hv.q4
  have h1 := hv.lo
  have h2 := hv.hi
  have hz1 := Bs.size hv.bs
  have d : ∀ i, w1.cell? ⟨w.heap.size, i, none⟩ = (w.alloc (.cells #[.int .i64 0, .int .i64 0, .slice none 0 0, .slice none 0 0, .int .i64 0] 47)).cell? ⟨w.heap.size, i, none⟩ := fun i => (hv.bs.cell (b := w.heap.size) (o := i) (by omega) (unhide HS)).trans (unhide HE0 i)
  have d0 := (d 0).trans ((World.cell?_alloc_at _ _ _ _ rfl).trans rfl)
  have d1 := (d 1).trans ((World.cell?_alloc_at _ _ _ _ rfl).trans rfl)
  have d2 := (d 2).trans ((World.cell?_alloc_at _ _ _ _ rfl).trans rfl)
  have d3 := (d 3).trans ((World.cell?_alloc_at _ _ _ _ rfl).trans rfl)
  have d4 := (d 4).trans ((World.cell?_alloc_at _ _ _ _ rfl).trans rfl)
  have f : ∀ i, w1.frozen? ⟨w.heap.size, i, none⟩ = false := fun i => (hv.bs.frozen (b := w.heap.size) (o := i) (by omega) (unhide HS)).trans (unhide HE9 i)
  have g0 := f 0
  have g1 := f 1
  have g2 := f 2
  have g3 := f 3
  have g4 := f 4
  have n1 : rb ≠ w.heap.size := by omega
  have n2 : w.heap.size < w1.heap.size := by omega
  have hno : ¬ (fun b => w.heap.size < b) w.heap.size := by show ¬ w.heap.size < w.heap.size; omega
  have NS := hide (hv.sh.imp (Q := fun b => w.heap.size < b) (fun b h _ => by show w.heap.size < b; have h : w0.heap.size ≤ b := h; omega))
  have NC := hide (hv.cs.imp (Q := fun b => w.heap.size < b) (fun b h _ => by show w.heap.size < b; have h : w0.heap.size ≤ b := h; omega))
  have HDk := hide hv.dk
  have HKp : Hid (KeepS S w w1) := hide ((KeepS.of (S := S) (unhide HB0)).trans hv.bs (fun b hb h => Or.inl h))
  clear d f hv HC
  go_wp2_with fail
  go_region
  go_wp2_with fail
  refine bodyPost_ret (v := .tuple #[.agg #[.int .i64 0, .int .i64 0, .slice so sn sc, .slice co cn cc, .int .i64 cost], .bool true]) (by simp [results, Tryz.results29, go_sem, d0, d1, d2, d3, d4]) rfl ⟨so, sn, sc, co, cn, cc, rfl, ?_, ?_, ?_, ?_⟩
  · exact (((((((unhide NS).set hno 0 _).set hno 1 _).set hno 2 _).set hno 3 _).set hno 4 _)).below (Below.refl _ _).drew
  · exact (((((((unhide NC).set hno 0 _).set hno 1 _).set hno 2 _).set hno 3 _).set hno 4 _)).below (Below.refl _ _).drew
  · exact (((((((unhide HDk).set (unhide HS) 0 _).set (unhide HS) 1 _).set (unhide HS) 2 _).set (unhide HS) 3 _).set (unhide HS) 4 _).below (Below.refl _ _).drew).less (fun b h => Or.inl h)
  · exact KeepS.trans (S' := fun _ => True) ((((((unhide HKp).set hnS h6 0 _).set hnS h6 1 _).set hnS h6 2 _).set hnS h6 3 _).set hnS h6 4 _) (KeepS.of (Below.refl _ _).drew) (fun _ _ _ => trivial)
set_option maxHeartbeats 1000000 in
set_option maxRecDepth 20000 in
theorem is_u (S : Nat → Prop) (db : Nat) (env env' : ByteArray → Option Arr) (N N' : Nat) (s : ByteArray) (sh cs : List Int) (cost : Int) (hs : SaysU db env N s env' N' sh cs cost) (w : World) (hD : DkE S db env N w) (vo : Option Addr) (vn vc : Nat) (ko : Option Addr) (kn kc : Nat) (hsh : Nums S w (.slice vo vn vc) sh) (hcs : Nums S w (.slice ko kn kc) cs) (hl1 : sh.length ≤ 200) (hl2 : cs.length ≤ 200) :
    Calls Tryz.prog 28 #[.pointer (some ⟨db, 0, none⟩), .string s, .slice vo vn vc, .slice ko kn kc] w fun e w' => e = .returned (.bool true) ∧ DkE S db env' N' w' ∧ KeepS S w w' := by
  have HC := hide (one_u S db env env' N N' s sh cs cost hs w hD)
  have HV := hide hsh
  have HK := hide hcs
  obtain ⟨rfl, hvc, _⟩ := nums_at hsh
  obtain ⟨rfl, hkc, _⟩ := nums_at hcs
  clear hs hD hsh hcs
  go_enter Tryz.func28, Tryz.ntmps28
  go_wp2_with fail
  refine (unhide HC).mono ?_
  rintro e w1 ⟨so, sn, sc, co, cn, cc, rfl, n1, n2, hd1, hb1⟩
  obtain ⟨rfl, hsc, _⟩ := nums_at n1
  obtain ⟨rfl, hcc, _⟩ := nums_at n2
  obtain ⟨W2, hW2⟩ : ∃ W2, w1.alloc (.cells #[.int .i64 0, .int .i64 0, .slice so sh.length sc, .slice co cs.length cc, .int .i64 cost] 47) = W2 := ⟨_, rfl⟩
  have hbW : Below w1.heap.size w1 W2 := by rw [← hW2]; exact (Below.refl _ _).alloc (Nat.le_refl _) _
  have z2 : W2.cell? ⟨w1.heap.size, 2, none⟩ = some (.slice so sh.length sc) := by rw [← hW2]; exact (World.cell?_alloc_at _ _ _ _ rfl).trans rfl
  have z3 : W2.cell? ⟨w1.heap.size, 3, none⟩ = some (.slice co cs.length cc) := by rw [← hW2]; exact (World.cell?_alloc_at _ _ _ _ rfl).trans rfl
  have zs : w1.heap.size < W2.heap.size := by rw [← hW2]; simp
  have HKW : Hid (KeepS S w W2) := hide (hb1.trans (KeepS.of (S := S) hbW) (fun _ _ h => h))
  have HDW := hide (hd1.below hbW)
  have N1 := hide (n1.below hbW)
  have N2 := hide (n2.below hbW)
  have M1 := hide ((hb1.nums (unhide HV) (fun _ h => h)).below hbW)
  have M2 := hide ((hb1.nums (unhide HK) (fun _ h => h)).below hbW)
  clear n1 n2 hb1 hbW HC HV HK hd1
  go_wp2_with fail
  try rw [hW2]
  clear hW2
  go_loopw [11] (fun v wr => ∃ k : Nat, v = .int .i64 k ∧ k ≤ sh.length ∧ Below W2.heap.size W2 wr) (fun v _ => sh.length - (intOf v).toNat)
  case atStart => exact ⟨0, rfl, by omega, Below.refl _ _⟩
  case round =>
    obtain ⟨k, rfl, hk, hbe⟩ := hrel
    by_cases hkl : k < sh.length
    · obtain ⟨_, _, hA⟩ := nums_at (unhide N1)
      obtain ⟨_, _, hB⟩ := nums_at (unhide M1)
      obtain ⟨b1, o1, rfl, l1, c1⟩ := hA (by omega)
      obtain ⟨b2, o2, rfl, l2, c2⟩ := hB (by omega)
      have y1 := (hbe.cell (p := ⟨b1, o1 + k, none⟩) l1).trans (c1 k hkl)
      have y2 := (hbe.cell (p := ⟨b2, o2 + k, none⟩) l2).trans (c2 k hkl)
      have y0 := (hbe.cell (p := ⟨w1.heap.size, 2, none⟩) zs).trans z2
      obtain ⟨x, hx⟩ : ∃ x, sh[k] = x := ⟨_, rfl⟩
      rw [hx] at y1 y2
      have HBe := hide hbe
      have hk0 : (0 : Int) ≤ (k : Int) := by omega
      have hk1 : (k : Int) < (sh.length : Int) := by omega
      clear hA hB c1 c2 hbe hx
      go_wp2_with fail
      go_region
      go_wp2_with fail
      go_roundw
      case rel => exact ⟨k + 1, by go_num, by omega, (unhide HBe).drew⟩
      case measure => simp [intOf]; omega
    · have hke : k = sh.length := by omega
      subst hke
      have HBe := hide hbe
      clear hbe
      go_wp2_with fail
      go_loopw [12] (fun v wx => ∃ k : Nat, v = .int .i64 k ∧ k ≤ cs.length ∧ Below W2.heap.size W2 wx) (fun v _ => cs.length - (intOf v).toNat)
      case atStart => exact ⟨0, rfl, by omega, unhide HBe⟩
      case round =>
        obtain ⟨k, rfl, hk, hbe⟩ := hrel
        by_cases hkl : k < cs.length
        · obtain ⟨_, _, hA⟩ := nums_at (unhide N2)
          obtain ⟨_, _, hB⟩ := nums_at (unhide M2)
          obtain ⟨b1, o1, rfl, l1, c1⟩ := hA (by omega)
          obtain ⟨b2, o2, rfl, l2, c2⟩ := hB (by omega)
          have y1 := (hbe.cell (p := ⟨b1, o1 + k, none⟩) l1).trans (c1 k hkl)
          have y2 := (hbe.cell (p := ⟨b2, o2 + k, none⟩) l2).trans (c2 k hkl)
          have y0 := (hbe.cell (p := ⟨w1.heap.size, 3, none⟩) zs).trans z3
          obtain ⟨x, hx⟩ : ∃ x, cs[k] = x := ⟨_, rfl⟩
          rw [hx] at y1 y2
          have HBe2 := hide hbe
          have hk0 : (0 : Int) ≤ (k : Int) := by omega
          have hk1 : (k : Int) < (cs.length : Int) := by omega
          clear hA hB c1 c2 hbe hx
          go_wp2_with fail
          go_region
          go_wp2_with fail
          go_roundw
          case rel => exact ⟨k + 1, by go_num, by omega, (unhide HBe2).drew⟩
          case measure => simp [intOf]; omega
        · have hke : k = cs.length := by omega
          subst hke
          have HBe2 := hide hbe
          clear hbe
          go_wp2_with fail
          exact bodyPost_ret (v := .bool true) (by simp [results, Tryz.results28, go_sem]) rfl ⟨rfl, (unhide HDW).below (unhide HBe2), (unhide HKW).trans (KeepS.of (S := S) (unhide HBe2)) (fun _ _ h => h)⟩
set_option maxHeartbeats 400000 in
theorem isRow_u (S : Nat → Prop) (db : Nat) (env env' : ByteArray → Option Arr) (N N' : Nat) (s : ByteArray) (cs : List Int) (cost : Int) (hs : SaysU db env N s env' N' [(cs.length : Int)] cs cost) (w : World) (hD : DkE S db env N w) (ko : Option Addr) (kn kc : Nat) (hcs : Nums S w (.slice ko kn kc) cs) (hl : cs.length ≤ 200) :
    Calls Tryz.prog 19 #[.pointer (some ⟨db, 0, none⟩), .string s, .slice ko kn kc] w fun e w' => e = .returned (.bool true) ∧ DkE S db env' N' w' ∧ KeepS S w w' := by
  obtain ⟨rfl, _, _⟩ := nums_at hcs
  have hw0 : Below w.heap.size w (w.alloc (.cells #[.int .i64 cs.length] 3)) := (Below.refl _ _).alloc (Nat.le_refl _) _
  have HC := hide (is_u _ db env env' N N' s [(cs.length : Int)] cs cost hs _ (hD.more hw0) (some ⟨w.heap.size, 0, none⟩) 1 1 ko cs.length kc (nums_one rfl (Or.inr ⟨Nat.le_refl _, by simp⟩)) ((hcs.imp (fun _ h _ => Or.inl h)).below hw0) (by simp) hl)
  have HB0 := hide hw0
  clear hs hD hw0 hcs
  go_enter Tryz.func19, Tryz.ntmps19
  go_wp2_with (go_at_call 28; refine (unhide HC).mono ?_; rintro e w1 ⟨rfl, hd1, hb1⟩; have HB1 := hide hb1; have HD1 := hide hd1; clear hb1 hd1)
  exact bodyPost_ret (v := .bool true) (by simp [results, Tryz.results19, go_sem]) rfl ⟨rfl, (unhide HD1).less (fun b h => Or.inl h), (KeepS.of (S := S) (unhide HB0)).trans (unhide HB1) (fun _ _ h => Or.inl h)⟩
/-- a line that makes an array and no name -/
theorem says_plain {f1 : ByteArray → Arr → Arr × Int} {f2 : ByteArray → Arr → Arr → Arr × Int} {env : ByteArray → Option Arr} {S : Nat → Prop} {db N : Nat} {x : Ex} {t : List UInt8} {d : Nat} (h : Tw d false 0 x t) (hs : t.length ≤ 200) (hd : d ≤ 8) (he : ∀ t a, env t = some a → a.ok) (hg : Good f1 f2 x) {a : Arr} {c : Nat} (hev : evalE env 1000 f1 f2 x 0 = .inr (a, c)) (hl1 : a.shape.length ≤ 200) (hl2 : a.cells.length ≤ 200) :
    Says (DkE S db env N) db ⟨t.toArray⟩ 0 0 (a.shape.map Int.ofNat) a.cells c := by
  intro w hD
  obtain ⟨e1, e2, e3⟩ := tw_tree h hs hd
  obtain ⟨X, mo, h1, h2, h3⟩ := hD
  exact reply_ok env 1000 f1 f2 db w mo ⟨t.toArray⟩ (by simp [ByteArray.size]; omega) ⟨h1.lt, h1.evs, h1.c0, h1.c1⟩ (by decide) (by decide) he (h1.look.imp (fun _ _ _ => trivial)) (by rw [e1]) (by rw [e1]) e2 (fun x' hx => by rw [tree_uniq hx e3]; exact hg) a c (fun x' hx => by rw [tree_uniq hx e3]; exact hev) hl1 hl2
end Go.Proofs.YtjobgpahajhbnaaGreatDoor
namespace Go.Proofs.YtjobgpahajhbnaaGreatDoor
open Go.RowKit Go.Proofs
attribute [local go_sem ↓] Go.wp_at_zero Go.wp_at_succ

/-- a list of numbers that no one else holds, in a block from B on -/
def OwnL (B : Nat) (w : World) (v : Value) (xs : List Int) : Prop := w.ownsRow B 2 1 v xs.length (xs.map (Value.int .i64))
/-- no block of both -/
def Aprt (u v : Value) : Prop := ∀ g, u.ownBlock = some g → v.ownBlock ≠ some g
theorem Aprt.or {u v : Value} (h : Aprt u v) : u.ownBlock = none ∨ u.ownBlock ≠ v.ownBlock := by
  cases hu : u.ownBlock with
  | none => exact Or.inl rfl
  | some g => exact Or.inr (fun e => h g hu e.symm)
theorem OwnL.nil (B : Nat) (w : World) : OwnL B w (.slice none 0 0) [] := World.ownsRow_nil _ _ _ _
theorem OwnL.nums {B : Nat} {w : World} {v : Value} {xs : List Int} (h : OwnL B w v xs) : Nums (fun b => B ≤ b ∧ b < w.heap.size) w v xs := (nums_owns (P := fun b => B ≤ b) h (fun _ h => h)).imp (fun _ h hl => ⟨h, hl⟩)
theorem OwnL.shape {B : Nat} {w : World} {v : Value} {xs : List Int} (h : OwnL B w v xs) : ∃ vo vc, v = .slice vo xs.length vc := by
  obtain ⟨vo, vc, h1, _⟩ := own_slice h
  exact ⟨vo, vc, h1⟩
/-- v has grown into v', and nothing else has changed -/
structure Grew (B : Nat) (w : World) (v v' : Value) (w' : World) : Prop where
  bel : Below B w w'
  own : ∀ u ys, OwnL B w u ys → Aprt u v → OwnL B w' u ys
  apart : ∀ u ys, OwnL B w u ys → Aprt u v → Aprt u v'
theorem grew_of {B : Nat} {w w' : World} {v v' : Value} {o : Obj} {n : Nat} {xs : List Value} (hown : w.ownsRow B 2 1 v n xs) (hB : B ≤ w.heap.size) (hg : (w.alloc o).grownBy w' v.ownBlock) (hat : v'.ownBlock = v.ownBlock ∨ v'.ownBlock = some (w.alloc o).heap.size) : Grew B w v v' w' := by
  refine ⟨((Below.refl _ _).alloc hB o).grown hg (by simp; omega) (fun q hq => (hown.lt q hq).1), fun u ys hu ha => ((World.ownsRow.alloc hu o).kept hg ha.or), fun u ys hu ha g hgu => ?_⟩
  rcases hat with e | e
  · rw [e]; exact ha g hgu
  · rw [e]
    have := (World.ownsRow.lt hu g hgu).2
    simp
    omega
theorem app1 {B : Nat} {w : World} {v : Value} {xs : List Int} (h : OwnL B w v xs) (hx : xs.length ≤ 1000) (hB : B ≤ w.heap.size) (x : Int) :
    ∃ v' w', (Builtin.append_ #[32, 32] 32 #[v, .slice (some ⟨w.heap.size, 0, none⟩) 1 1]).run Tryz.prog (w.alloc (.cells #[.int .i64 x] 2)) = .ok v' w' ∧ OwnL B w' v' (xs ++ [x]) ∧ Grew B w v v' w' := by
  obtain ⟨i0, hi, hz0, hz1, hz2⟩ := info_parts Tryz.info2
  obtain ⟨v', w', h1, h2, h3, _, h4⟩ := run_append_own_at (P := Tryz.prog) (w.alloc (.cells #[.int .i64 x] 2)) B 32 32 2 i0 (.int .i64 0) 1 8 Tryz.underlying32 hi hz0 hz1 hz2 rfl (by decide) v _ _ (World.ownsRow.alloc h _) ⟨w.heap.size, 0, none⟩ 1 1 [.int .i64 x] rfl (by intro j u hj; match j, hj with | 0, hj => simp at hj; subst hj; exact (World.cell?_alloc_at _ _ _ _ rfl).trans rfl) (by intro u hu; simp at hu; subst hu; rfl) (by unfold maxLen; omega) (by omega) (by simp; omega)
  exact ⟨v', w', h1, by unfold OwnL; rw [List.map_append, List.length_append]; exact h2, grew_of h hB h3 h4⟩
theorem wpList_app1 {ops : Array Oper} {rest : List Oper} {o : Oper} {a : Act} {Q : Exit → Act → World → Prop} (hgd : o.guard = none) (s x : Operand) (ho : o.op = .call { callee := .builtin .append, args := #[s, x], argTypes := #[32, 32] })
    {B : Nat} {w : World} {v : Value} {xs : List Int} (h : OwnL B w v xs) (hx : xs.length ≤ 1000) (hB : B ≤ w.heap.size) (y : Int) (hs : a.eval s = v) (hv : a.eval x = .slice (some ⟨w.heap.size, 0, none⟩) 1 1)
    (hk : ∀ v' w', OwnL B w' v' (xs ++ [y]) → Grew B w v v' w' → wpList Tryz.prog ops Q rest (a.put o.dst v') w') : wpList Tryz.prog ops Q (o :: rest) a (w.alloc (.cells #[.int .i64 y] 2)) := by
  obtain ⟨i0, hi, hz0, hz1, hz2⟩ := info_parts Tryz.info2
  refine wpList_append_own_at _ hgd s x 32 ho B 2 i0 (.int .i64 0) 1 8 Tryz.underlying32 hi hz0 hz1 hz2 rfl (by decide) v _ _ hs (World.ownsRow.alloc h _) ⟨w.heap.size, 0, none⟩ 1 1 [.int .i64 y] hv rfl (by intro j u hj; match j, hj with | 0, hj => simp at hj; subst hj; exact (World.cell?_alloc_at _ _ _ _ rfl).trans rfl) (by intro u hu; simp at hu; subst hu; rfl) (by unfold maxLen; omega) (by omega) (by simp; omega) ?_
  intro v' w' h2 h3 _ h4
  exact hk v' w' (by unfold OwnL; rw [List.map_append, List.length_append]; exact h2) (grew_of h hB h3 h4)
/-- numbers as small makes them -/
def Few (l : List Int) : Prop := ∀ x ∈ l, -60 ≤ x ∧ x ≤ 60
set_option maxHeartbeats 1000000 in
set_option maxRecDepth 20000 in
theorem small_any (ao : Option Addr) (n cap : Nat) (xs : List Int) (M : Nat) (hM : M ≤ 100) (w : World) (hr : RawIn w ao xs) (hn : xs.length = n) (hlt : 0 < n → ∀ b off, ao = some ⟨b, off, none⟩ → b < w.heap.size) :
    Calls Tryz.prog 22 #[.slice ao n cap, .int .i64 M] w fun e w' => ∃ v, e = .returned v ∧ ∃ l, OwnL w.heap.size w' v l ∧ l.length ≤ M ∧ Few l ∧ Below w.heap.size w w' := by
  have HR := hide hr
  have HN := hide hn
  have HLT := hide hlt
  clear hr hn hlt
  go_enter Tryz.func22, Tryz.ntmps22
  go_wp2_with fail
  go_loopw [5, 6] (fun v5 v6 wr => ∃ (k : Nat) (l : List Int), v6 = .int .i64 k ∧ k ≤ n ∧ k ≤ M ∧ l.length = k ∧ Few l ∧ OwnL w.heap.size wr v5 l ∧ Below w.heap.size w wr) (fun _ v6 _ => M - (intOf v6).toNat)
  case atStart => exact ⟨0, [], rfl, by omega, by omega, rfl, (fun x h => by cases h), OwnL.nil _ _, Below.refl _ _⟩
  case round =>
    obtain ⟨k, l, rfl, hk, hkM, hlen, hfew, hown, hbel⟩ := hrel
    have HLen := hide hlen
    have HFew := hide hfew
    have HOw := hide hown
    have HBe := hide hbel
    by_cases hkn : k < n
    · by_cases hkm : k < M
      · have hkx : k < xs.length := by rw [unhide HN]; exact hkn
        obtain ⟨b, off, rfl, hc⟩ := (unhide HR).2 (by omega)
        have hb := unhide HLT (by omega) b off rfl
        have hf := (unhide HR).1 _ (List.getElem_mem hkx)
        have c0 := (hbel.cell (p := ⟨b, off + k, none⟩) hb).trans (hc k hkx)
        obtain ⟨x, hx⟩ : ∃ x, xs[k] = x := ⟨_, rfl⟩
        rw [hx] at c0 hf
        have HP := hide (fun w' => pick_any x 121 hf (by decide) w')
        have hk0 : (0 : Int) ≤ (k : Int) := by omega
        have hk1 : (k : Int) < (n : Int) := by omega
        have hk2 : (k : Int) < (M : Int) := by omega
        clear hlen hfew hown hbel hc hx hf
        go_wp2_with fail
        refine (unhide HP _).mono ?_
        rintro e w' ⟨⟨r, rfl, hr0, hr1⟩, rfl⟩
        have hw : wrap64 (r - 60) = r - 60 := by
          unfold wrap64
          omega
        have HR0 := hide hr0
        have HR1 := hide hr1
        clear hr0 hr1
        go_wp2_with (at_builtin; refine wpList_app1 rfl _ _ rfl (unhide HOw) (by have := unhide HLen; omega) (unhide HBe).size (r - 60) rfl rfl ?_)
        intro v' w4 ho4 hg4
        have HO4 := hide ho4
        have HG4 := hide hg4
        clear ho4 hg4
        go_wp2_with fail
        go_roundw
        case rel => exact ⟨k + 1, l ++ [r - 60], by go_num, by omega, by omega, by simp [unhide HLen], (by
          intro y hy
          rcases List.mem_append.1 hy with h | h
          · exact unhide HFew y h
          · simp at h; subst h; have := unhide HR0; have := unhide HR1; omega), unhide HO4, (unhide HBe).trans (unhide HG4).bel⟩
        case measure => simp [intOf]; omega
      · have hk1 : (k : Int) < (n : Int) := by omega
        have hk2 : ¬ (k : Int) < (M : Int) := by omega
        clear hlen hfew hown hbel
        go_wp2_with fail
        obtain ⟨vo, vc, rfl⟩ := (unhide HOw).shape
        exact bodyPost_ret (v := .slice vo l.length vc) (by simp [results, Tryz.results22, go_sem]) rfl ⟨_, rfl, l, unhide HOw, by rw [unhide HLen]; exact hkM, unhide HFew, unhide HBe⟩
    · have hk1 : ¬ (k : Int) < (n : Int) := by omega
      clear hlen hfew hown hbel
      go_wp2_with fail
      obtain ⟨vo, vc, rfl⟩ := (unhide HOw).shape
      exact bodyPost_ret (v := .slice vo l.length vc) (by simp [results, Tryz.results22, go_sem]) rfl ⟨_, rfl, l, unhide HOw, by rw [unhide HLen]; exact hkM, unhide HFew, unhide HBe⟩
end Go.Proofs.YtjobgpahajhbnaaGreatDoor
