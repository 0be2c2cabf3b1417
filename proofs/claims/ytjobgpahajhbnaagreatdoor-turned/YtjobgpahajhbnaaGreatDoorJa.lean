import Derived.Test.YtjobgpahajhbnaaGreatDoorXq
import Derived.Test.YtjobgpahajhbnaaGreatDoorVb
import Derived.Deep.Slices
import Derived.Test.YtjobgpahajhbnaaGreatDoorMa
import Derived.Test.YtjobgpahajhbnaaGreatDoorYe
import Derived.Test.YtjobgpahajhbnaaGreatDoorTk
import Derived.Maps.AppendAt
import Derived.Deep.RegionLaw
namespace Go.Proofs.YtjobgpahajhbnaaGreatDoor
open Go.ChangeShapes Go.WideShapes Go.ChangeAt Go.WideMaps Go.WideElems Go.RowKit

theorem raw_of {H : Type} {enc : TypeId × Value → H} {W : World} {ao : Option Addr} {len cap : Nat} {d : DataW H} {p : List MemPlace} (h : DataW.Trod enc Tryz.prog W 0 (fun _ => true) true 37 (.slice ao len cap) d p) :
    ∃ xs : List Int, xs.length = len ∧ RawIn W ao xs ∧ len ≤ 9223372036854775807 ∧ (0 < len → ∀ b off, ao = some ⟨b, off, none⟩ → b < W.heap.size) := by
  obtain ⟨fuel, hf⟩ := h
  rcases Deep.open_slice1 Tryz.underlying37 Tryz.cells3 hf with ⟨hcs, _⟩ | ⟨a, len', cap', m, n, V, D, Pl, hcs, _, hl, hm, hmm, _, hel⟩
  · have hcs : [Value.slice ao len cap] = [.slice none 0 0] := hcs
    obtain ⟨rfl, rfl, rfl⟩ : ao = none ∧ len = 0 ∧ cap = 0 := by simpa using hcs
    exact ⟨[], rfl, ⟨(fun _ h => by cases h), fun h => absurd h (by simp)⟩, by omega, fun h => absurd h (by omega)⟩
  · have hcs : [Value.slice ao len cap] = [.slice (some a) len' cap'] := hcs
    obtain ⟨rfl, rfl, rfl⟩ : ao = some a ∧ len = len' ∧ cap = cap' := by simpa using hcs
    have hlm : len ≤ m := by rw [hmm]; split <;> omega
    have hlb : len ≤ 9223372036854775807 := by unfold maxLen at hm; omega
    obtain ⟨X, hX⟩ := Deep.choose_lt (n := len) (p := fun i (x : Int) => W.cell? (a.add i) = some (.int .i64 x) ∧ fit64 x) (fun i hi => by
      obtain ⟨h1, h2⟩ := hel i (by omega)
      obtain ⟨x, ex, _, hw⟩ := DataW.trod_int Tryz.underlying3 h2
      have ex : V i = .int .i64 x := by simpa using ex
      exact ⟨x, by rw [h1, ex], fit_wf hw⟩)
    obtain ⟨b, off, spot⟩ := a
    by_cases hz : len = 0
    · subst hz
      exact ⟨[], rfl, ⟨(fun _ h => by cases h), fun h => absurd h (by simp)⟩, by omega, fun h => absurd h (by omega)⟩
    have hspot : spot = none := by simpa [Addr.add] using World.cell?_spot (hX 0 (by omega)).1
    subst hspot
    refine ⟨(List.range len).map X, by simp, ⟨?_, fun _ => ⟨b, off, rfl, ?_⟩⟩, hlb, ?_⟩
    · intro c hc
      simp only [List.mem_map, List.mem_range] at hc
      obtain ⟨i, hi, rfl⟩ := hc
      exact (hX i hi).2
    · intro i hi
      simp only [List.length_map, List.length_range] at hi
      have := (hX i hi).1
      rw [add_plain] at this
      simpa using this
    · intro _ b' off' e
      have e : b = b' := by injection e with e; injection e
      subst e
      have := (hX 0 (by omega)).1
      exact lt_of_cell (o := off) (by simpa [Addr.add] using this)

end Go.Proofs.YtjobgpahajhbnaaGreatDoor
namespace Go.Proofs.YtjobgpahajhbnaaGreatDoor
open Go.RowKit Go.Proofs Go.Maps
attribute [local go_sem ↓] Go.wp_at_zero Go.wp_at_succ

/-- a desk with names, and blocks S that are none of its own -/
structure DkS (S X : Nat → Prop) (db : Nat) (env : ByteArray → Option Arr) (N : Nat) (mo : Option Nat) (w : World) : Prop where
  dsk : DskN X db 1000 env N mo w
  xlt : ∀ b, X b → b < w.heap.size
  s : ∀ b, S b → 6 ≤ b ∧ b < w.heap.size ∧ ¬ X b ∧ b ≠ db ∧ mo ≠ some b
def DkE (S : Nat → Prop) (db : Nat) (env : ByteArray → Option Arr) (N : Nat) (w : World) : Prop := ∃ X mo, DkS S X db env N mo w
theorem DkE.below {S : Nat → Prop} {db : Nat} {env : ByteArray → Option Arr} {N : Nat} {w w' : World} (h : DkE S db env N w) (hb : Below w.heap.size w w') : DkE S db env N w' := by
  obtain ⟨X, mo, h1, h2, h3⟩ := h
  have := hb.size
  exact ⟨X, mo, h1.below hb, fun b h => Nat.lt_of_lt_of_le (h2 b h) this, fun b h => by obtain ⟨a1, a2, a3⟩ := h3 b h; exact ⟨a1, by omega, a3⟩⟩
theorem DkE.low {S : Nat → Prop} {db : Nat} {env : ByteArray → Option Arr} {N : Nat} {w : World} (h : DkE S db env N w) : 6 ≤ db ∧ db < w.heap.size := by
  obtain ⟨X, mo, h1, h2, h3⟩ := h
  exact ⟨h1.low, h1.lt⟩
theorem DkE.lt {S : Nat → Prop} {db : Nat} {env : ByteArray → Option Arr} {N : Nat} {w : World} (h : DkE S db env N w) {b : Nat} (hb : S b) : 6 ≤ b ∧ b < w.heap.size ∧ b ≠ db := by
  obtain ⟨X, mo, h1, h2, h3⟩ := h
  obtain ⟨a1, a2, _, a4, _⟩ := h3 b hb
  exact ⟨a1, a2, a4⟩
theorem DkE.more {S : Nat → Prop} {db : Nat} {env : ByteArray → Option Arr} {N : Nat} {w w' : World} (h : DkE S db env N w) (hb : Below w.heap.size w w') : DkE (fun b => S b ∨ (w.heap.size ≤ b ∧ b < w'.heap.size)) db env N w' := by
  obtain ⟨X, mo, h1, h2, h3⟩ := h
  have hs := hb.size
  refine ⟨X, mo, h1.below hb, fun b h => Nat.lt_of_lt_of_le (h2 b h) hs, fun b h => ?_⟩
  rcases h with h | ⟨k1, k2⟩
  · obtain ⟨a1, a2, a3⟩ := h3 b h
    exact ⟨a1, by omega, a3⟩
  · have l1 := h1.low
    have l2 := h1.lt
    exact ⟨by omega, k2, fun hx => by have := h2 b hx; omega, by omega, fun e => by have := h1.moLt b e; omega⟩
theorem DkE.less {S S' : Nat → Prop} {db : Nat} {env : ByteArray → Option Arr} {N : Nat} {w : World} (h : DkE S db env N w) (hs : ∀ b, S' b → S b) : DkE S' db env N w := by
  obtain ⟨X, mo, h1, h2, h3⟩ := h
  exact ⟨X, mo, h1, h2, fun b hb => h3 b (hs b hb)⟩
theorem DkE.set {S : Nat → Prop} {db : Nat} {env : ByteArray → Option Arr} {N : Nat} {w : World} (h : DkE S db env N w) {r : Nat} (hr : S r) (i : Nat) (u : Value) : DkE S db env N (w.setCell ⟨r, i, none⟩ u) := by
  obtain ⟨X, mo, h1, h2, h3⟩ := h
  obtain ⟨a1, a2, a3, a4, a5⟩ := h3 r hr
  exact ⟨X, mo, h1.set a3 a1 a4 a5 i u, fun b h => by simpa using h2 b h, fun b h => by simpa using h3 b h⟩
theorem DkE.lasts (S : Nat → Prop) (db : Nat) (env : ByteArray → Option Arr) (N : Nat) : Lasts (DkE S db env N) := fun _ _ h hb => h.below hb
/-- blocks of which S holds are kept, and those of the program's own variables -/
def KeepS (S : Nat → Prop) (w w' : World) : Prop := Bs (fun b => ¬ S b ∧ 6 ≤ b) w w'
theorem KeepS.of {S : Nat → Prop} {w w' : World} (h : Below w.heap.size w w') : KeepS S w w' := Bs.of h
theorem KeepS.block {S : Nat → Prop} {w w' : World} (h : KeepS S w w') {b : Nat} (hb : b < w.heap.size) (hs : S b) : w'.heap[b]? = w.heap[b]? := Bs.block h b hb (fun hn => hn.1 hs)
theorem KeepS.cell {S : Nat → Prop} {w w' : World} (h : KeepS S w w') {b o : Nat} (hb : b < w.heap.size) (hs : S b) : w'.cell? ⟨b, o, none⟩ = w.cell? ⟨b, o, none⟩ := World.cell?_of_block (h.block hb hs)
theorem KeepS.frozen {S : Nat → Prop} {w w' : World} (h : KeepS S w w') {b o : Nat} (hb : b < w.heap.size) (hs : S b) : w'.frozen? ⟨b, o, none⟩ = w.frozen? ⟨b, o, none⟩ := World.frozen?_of_block (a := ⟨b, o, none⟩) (h.block hb hs)
theorem KeepS.nums {S Q : Nat → Prop} {w w' : World} {v : Value} {xs : List Int} (h : KeepS S w w') (hn : Nums Q w v xs) (hq : ∀ b, Q b → S b) : Nums Q w' v xs := hn.keep (Bs.size h) (fun b hb hl => h.block hl (hq b hb))
theorem KeepS.trans {S S' : Nat → Prop} {w w1 w2 : World} (h : KeepS S w w1) (h' : KeepS S' w1 w2) (hs : ∀ b, b < w.heap.size → S b → S' b) : KeepS S w w2 := Bs.trans h h' (fun k hk hn => ⟨fun h => hn.1 (hs k hk h), hn.2⟩)
theorem KeepS.lower {S S' : Nat → Prop} {w w1 : World} (h : KeepS S w w1) (hs : ∀ b, b < w.heap.size → S' b → S b) : KeepS S' w w1 := ⟨h.os, h.tape, h.output, h.size, fun k hk hn => Bs.block h k hk (fun hn' => hn ⟨fun h' => hn'.1 (hs k hk h'), hn'.2⟩)⟩
theorem KeepS.set {S : Nat → Prop} {w w1 : World} (h : KeepS S w w1) {r : Nat} (hr : ¬ S r) (h6 : 6 ≤ r) (i : Nat) (u : Value) : KeepS S w (w1.setCell ⟨r, i, none⟩ u) := ⟨h.os, h.tape, h.output, by simpa using h.size, fun k hk hn => (RowKit.Below.heap_setCell _ _ _ _ (fun e => by have e : k = r := e; subst e; exact hn ⟨hr, h6⟩)).trans (Bs.block h k hk hn)⟩
/-- what reply leaves -/
def RepU (S : Nat → Prop) (db : Nat) (env : ByteArray → Option Arr) (N : Nat) (w : World) (sh cs : List Int) (cost : Int) (e : Ending) (w' : World) : Prop :=
  ∃ so sn sc co cn cc, e = .returned (.agg #[.int .i64 0, .int .i64 0, .slice so sn sc, .slice co cn cc, .int .i64 cost]) ∧ Nums (fun b => w.heap.size ≤ b) w' (.slice so sn sc) sh ∧ Nums (fun b => w.heap.size ≤ b) w' (.slice co cn cc) cs ∧ DkE S db env N w' ∧ KeepS S w w'
/-- a line that makes a name -/
def SaysU (db : Nat) (env : ByteArray → Option Arr) (N : Nat) (s : ByteArray) (env' : ByteArray → Option Arr) (N' : Nat) (sh cs : List Int) (cost : Int) : Prop :=
  ∀ S w, DkE S db env N w → Calls Tryz.prog 42 #[.pointer (some ⟨db, 0, none⟩), .string s] w (RepU S db env' N' w sh cs cost)
theorem says_named {f1 : ByteArray → Arr → Arr × Int} {f2 : ByteArray → Arr → Arr → Arr × Int} {env : ByteArray → Option Arr} {db N : Nat} {nm : List UInt8} {x : Ex} {t : List UInt8} {d : Nat} (hnm : NameT nm) (h : Tw d false (nm.length + 4) x t) (hs : ((nm ++ ([32, 105, 115, 32] ++ t))).length ≤ 200) (hd : d ≤ 8) (hN : N < 1000) (he : ∀ t a, env t = some a → a.ok) (hg : Good f1 f2 x) {a : Arr} {c : Nat} (hev : evalE env 1000 f1 f2 x 0 = .inr (a, c)) (hl1 : a.shape.length ≤ 200) (hl2 : a.cells.length ≤ 200) :
    SaysU db env N ⟨(nm ++ ([32, 105, 115, 32] ++ t)).toArray⟩ (upd env ⟨nm.toArray⟩ a) (N + 1) (a.shape.map Int.ofNat) a.cells c := by
  intro S w hD
  obtain ⟨X, mo, h1, h2, h3⟩ := hD
  obtain ⟨e1, e2, e3⟩ := tw_is hnm h (by simp at hs; omega) hd
  obtain ⟨c0, l0, rfl, _, _⟩ := hnm.hd
  refine (reply_named X env 1000 f1 f2 db w mo N hN _ (by simp [ByteArray.size] at hs ⊢; omega) h1 h2 (by decide) (by decide) he (by rw [e1]) (by rw [e1]) ⟨(c0 :: l0).toArray⟩ e2 (by simp [ByteArray.size]) (by simp [ByteArray.size] at hs ⊢; omega) (fun x' hx => by rw [tree_uniq hx e3]; exact hg) a c (fun x' hx => by rw [tree_uniq hx e3]; exact hev) hl1 hl2).mono ?_
  rintro e w' ⟨so, sn, sc, co, cn, cc, rfl, n1, n2, ⟨mo', hd', hm'⟩, hb⟩
  have hsz := hb.size
  refine ⟨so, sn, sc, co, cn, cc, rfl, n1, n2, ⟨fun b => (X b ∨ (w.heap.size ≤ b ∧ mo' ≠ some b)) ∧ b < w'.heap.size, mo', hd'.imp (fun b hb hl => ⟨hb, hl⟩) (fun hx => hd'.out hx.1) (fun mb e hx => ?_), fun b hb => hb.2, fun b hb => ?_⟩, ?_⟩
  · subst e
    exact hd'.map.2.2.1 hx.1
  · obtain ⟨a1, a2, a3, a4, a5⟩ := h3 b hb
    exact ⟨a1, by omega, fun hx => by rcases hx.1 with hx | hx; exact a3 hx; omega, a4, fun e => a5 (hm' b a2 e)⟩
  · refine ⟨hb.os, hb.tape, hb.output, hb.size, fun k hk hn => hb.block k hk ?_⟩
    rintro (rfl | e)
    · exact hn ⟨fun hs => (h3 _ hs).2.2.2.1 rfl, h1.low⟩
    · subst e
      exact hn ⟨fun hs => (h3 _ hs).2.2.2.2 rfl, h1.map.2.1⟩
/-- what Run of one line leaves -/
structure RunU (S : Nat → Prop) (db : Nat) (env : ByteArray → Option Arr) (N : Nat) (w : World) (sh cs : List Int) (cost : Int) (rb : Nat) (w' : World) (so : Option Addr) (sn sc : Nat) (co : Option Addr) (cn cc : Nat) : Prop where
  q0 : w'.cell? ⟨rb, 0, none⟩ = some (.int .i64 0)
  q1 : w'.cell? ⟨rb, 1, none⟩ = some (.int .i64 0)
  q2 : w'.cell? ⟨rb, 2, none⟩ = some (.slice so sn sc)
  q3 : w'.cell? ⟨rb, 3, none⟩ = some (.slice co cn cc)
  q4 : w'.cell? ⟨rb, 4, none⟩ = some (.int .i64 cost)
  sh : Nums (fun b => w.heap.size ≤ b) w' (.slice so sn sc) sh
  cs : Nums (fun b => w.heap.size ≤ b) w' (.slice co cn cc) cs
  lo : w.heap.size ≤ rb
  hi : rb < w'.heap.size
  dk : DkE S db env N w'
  bs : KeepS S w w'
theorem runU_mk {S : Nat → Prop} {db : Nat} {env : ByteArray → Option Arr} {N : Nat} {w w1 : World} {cost : Int} {sh cs : List Int} {so : Option Addr} {sn sc : Nat} {co : Option Addr} {cn cc : Nat} (o : Obj) (Z : Array Value)
    (hb : KeepS S w w1) (hd : DkE S db env N w1) (hsh : Nums (fun b => w.heap.size ≤ b) w1 (.slice so sn sc) sh) (hcs : Nums (fun b => w.heap.size ≤ b) w1 (.slice co cn cc) cs) :
    RunU S db env N w sh cs cost (w1.heap.size + 1) ((w1.alloc o).alloc (.cells (#[.int .i64 0, .int .i64 0, .slice so sn sc, .slice co cn cc, .int .i64 cost] ++ Z) 47)).drew so sn sc co cn cc := by
  have hbw : Below w1.heap.size w1 ((w1.alloc o).alloc (.cells (#[.int .i64 0, .int .i64 0, .slice so sn sc, .slice co cn cc, .int .i64 cost] ++ Z) 47)).drew := (((Below.refl _ _).alloc (Nat.le_refl _) _).alloc (by simp) _).drew
  have hc : ∀ i, i < 5 → ((w1.alloc o).alloc (.cells (#[.int .i64 0, .int .i64 0, .slice so sn sc, .slice co cn cc, .int .i64 cost] ++ Z) 47)).drew.cell? ⟨w1.heap.size + 1, i, none⟩ = #[Value.int .i64 0, .int .i64 0, .slice so sn sc, .slice co cn cc, .int .i64 cost][i]? := by
    intro i hi
    show ((w1.alloc o).alloc (.cells (#[.int .i64 0, .int .i64 0, .slice so sn sc, .slice co cn cc, .int .i64 cost] ++ Z) 47)).cell? ⟨w1.heap.size + 1, i, none⟩ = _
    rw [World.cell?_alloc_at _ _ _ _ (by simp), Array.getElem?_append_left (by simpa using hi)]
  have h1 := Bs.size hb
  exact ⟨(hc 0 (by omega)).trans rfl, (hc 1 (by omega)).trans rfl, (hc 2 (by omega)).trans rfl, (hc 3 (by omega)).trans rfl, (hc 4 (by omega)).trans rfl, hsh.below hbw, hcs.below hbw, by omega, by simp, hd.below hbw, hb.trans (KeepS.of (S := S) hbw) (fun _ _ h => h)⟩
set_option maxHeartbeats 1000000 in
set_option maxRecDepth 20000 in
theorem run_u (S : Nat → Prop) (env' : ByteArray → Option Arr) (N' : Nat) (w : World) (db lb cap : Nat) (s : ByteArray) (sh cs : List Int) (cost : Int) (hc : w.cell? ⟨lb, 0, none⟩ = some (.string s)) (hl : lb < w.heap.size)
    (hrep : Calls Tryz.prog 42 #[.pointer (some ⟨db, 0, none⟩), .string s] w (RepU S db env' N' w sh cs cost)) :
    Calls Tryz.prog 33 #[.pointer (some ⟨db, 0, none⟩), .slice (some ⟨lb, 0, none⟩) 1 cap] w fun e w' => ∃ rb rc so sn sc co cn cc, e = .returned (.slice (some ⟨rb, 0, none⟩) 1 rc) ∧ RunU S db env' N' w sh cs cost rb w' so sn sc co cn cc := by
  have HR := hide hrep
  clear hrep
  go_enter Tryz.func33, Tryz.ntmps33
  go_wp2_with fail
  go_loopw [5, 17] (fun v i wr => (i = .int .i64 0 ∧ v = .slice none 0 0 ∧ wr = w) ∨ (i = .int .i64 1 ∧ ∃ rb rc so sn sc co cn cc, v = .slice (some ⟨rb, 0, none⟩) 1 rc ∧ RunU S db env' N' w sh cs cost rb wr so sn sc co cn cc)) (fun _ i _ => 1 - (intOf i).toNat)
  case atStart => exact Or.inl ⟨rfl, rfl, rfl⟩
  case round =>
    rcases hrel with ⟨rfl, rfl, rfl⟩ | ⟨rfl, rb, rc, so, sn, sc, co, cn, cc, rfl, hv⟩
    · go_wp2_with (go_at_call 42; refine (unhide HR).mono ?_; rintro e w1 ⟨so, sn, sc, co, cn, cc, rfl, hsh, hcs, hd, hb⟩; have HSH := hide hsh; have HCS := hide hcs; have HB := hide hb; have HD := hide hd; clear hsh hcs hb hd)
      exact ⟨Or.inr ⟨rfl, _, _, so, sn, sc, co, cn, cc, rfl, runU_mk _ _ (unhide HB) (unhide HD) (unhide HSH) (unhide HCS)⟩, by simp [intOf]⟩
    · have HV := hide hv
      clear hv
      go_wp2_with fail
      exact bodyPost_ret (v := .slice (some ⟨rb, 0, none⟩) 1 rc) (by simp [results, Tryz.results33, go_sem]) rfl ⟨rb, rc, so, sn, sc, co, cn, cc, rfl, unhide HV⟩
end Go.Proofs.YtjobgpahajhbnaaGreatDoor
namespace Go.Proofs.YtjobgpahajhbnaaGreatDoor
open Go.RowKit Go.Proofs Go.Maps
attribute [local go_sem ↓] Go.wp_at_zero Go.wp_at_succ

set_option maxHeartbeats 1000000 in
set_option maxRecDepth 20000 in
theorem one_u (S : Nat → Prop) (db : Nat) (env env' : ByteArray → Option Arr) (N N' : Nat) (s : ByteArray) (sh cs : List Int) (cost : Int) (hs : SaysU db env N s env' N' sh cs cost) (w : World) (hD : DkE S db env N w) :
    Calls Tryz.prog 29 #[.pointer (some ⟨db, 0, none⟩), .string s] w fun e w' => ∃ so sn sc co cn cc, e = .returned (.tuple #[.agg #[.int .i64 0, .int .i64 0, .slice so sn sc, .slice co cn cc, .int .i64 cost], .bool true]) ∧ Nums (fun b => w.heap.size < b) w' (.slice so sn sc) sh ∧ Nums (fun b => w.heap.size < b) w' (.slice co cn cc) cs ∧ DkE S db env' N' w' ∧ KeepS S w w' := by
  obtain ⟨w0, hw0⟩ : ∃ w0, (w.alloc (.cells #[.int .i64 0, .int .i64 0, .slice none 0 0, .slice none 0 0, .int .i64 0] 47)).alloc (.cells #[.string s] 9) = w0 := ⟨_, rfl⟩
  have hb0 : Below w.heap.size w w0 := by rw [← hw0]; exact ((Below.refl _ _).alloc (Nat.le_refl _) _).alloc (by simp) _
  have hs0 : w0.heap.size = w.heap.size + 1 + 1 := by rw [← hw0]; simp
  have hM := hD.more hb0
  have hc0 : w0.cell? ⟨w.heap.size + 1, 0, none⟩ = some (.string s) := by rw [← hw0]; simp
  have hS : (fun b => S b ∨ (w.heap.size ≤ b ∧ b < w0.heap.size)) w.heap.size := Or.inr ⟨Nat.le_refl _, by omega⟩
  have hnS : ¬ S w.heap.size := fun h => by have := (hD.lt h).2.1; omega
  have h6 : 6 ≤ w.heap.size := by have := hD.low; omega
  have HC := hide (run_u (fun b => S b ∨ (w.heap.size ≤ b ∧ b < w0.heap.size)) env' N' w0 db (w.heap.size + 1) 1 s sh cs cost hc0 (by omega) (hs _ _ hM))
  have e0 : ∀ i, w0.cell? ⟨w.heap.size, i, none⟩ = (w.alloc (.cells #[.int .i64 0, .int .i64 0, .slice none 0 0, .slice none 0 0, .int .i64 0] 47)).cell? ⟨w.heap.size, i, none⟩ := fun i => by rw [← hw0, World.cell?_alloc_past _ _ _ (by simp)]
  have e9 : ∀ i, w0.frozen? ⟨w.heap.size, i, none⟩ = false := fun i => by
    rw [← hw0, World.frozen?_of_block (a := ⟨w.heap.size, i, none⟩) (RowKit.Below.heap_alloc _ _ _ (by simp))]
    exact World.frozen?_alloc_at _ _ _ _ rfl
  have HB0 := hide hb0
  have HS := hide hS
  have HE0 := hide e0
  have HE9 := hide e9
  have HLT : Hid (∀ b, S b → b < w.heap.size) := hide (fun b h => (hD.lt h).2.1)
  clear hs hD hb0 hM hc0 hS e0 e9
  go_enter Tryz.func29, Tryz.ntmps29
  go_wp2_with fail
  try rw [hw0]
  clear hw0
  refine (unhide HC).mono ?_
  rintro e w1 ⟨rb, rc, so, sn, sc, co, cn, cc, rfl, hv⟩
  have q0 := hv.q0
  have q1 := hv.q1
  have q2 := hv.q2
  have q3 := hv.q3
  have q4 := hv.q4
  have h1 := hv.lo
  have h2 := hv.hi
  have hz1 := Bs.size hv.bs
  have d : ∀ i, w1.cell? ⟨w.heap.size, i, none⟩ = (w.alloc (.cells #[.int .i64 0, .int .i64 0, .slice none 0 0, .slice none 0 0, .int .i64 0] 47)).cell? ⟨w.heap.size, i, none⟩ := fun i => (hv.bs.cell (b := w.heap.size) (o := i) (by omega) (unhide HS)).trans (unhide HE0 i)
  have d0 := (d 0).trans ((World.cell?_alloc_at _ _ _ _ rfl).trans rfl)
  have d1 := (d 1).trans ((World.cell?_alloc_at _ _ _ _ rfl).trans rfl)
  have d2 := (d 2).trans ((World.cell?_alloc_at _ _ _ _ rfl).trans rfl)
  have d3 := (d 3).trans ((World.cell?_alloc_at _ _ _ _ rfl).trans rfl)
  have d4 := (d 4).trans ((World.cell?_alloc_at _ _ _ _ rfl).trans rfl)
  have f : ∀ i, w1.frozen? ⟨w.heap.size, i, none⟩ = false := fun i => (hv.bs.frozen (b := w.heap.size) (o := i) (by omega) (unhide HS)).trans (unhide HE9 i)
  have g0 := f 0
  have g1 := f 1
  have g2 := f 2
  have g3 := f 3
  have g4 := f 4
  have n1 : rb ≠ w.heap.size := by omega
  have n2 : w.heap.size < w1.heap.size := by omega
  have hno : ¬ (fun b => w.heap.size < b) w.heap.size := by show ¬ w.heap.size < w.heap.size; omega
  have NS := hide (hv.sh.imp (Q := fun b => w.heap.size < b) (fun b h _ => by show w.heap.size < b; have h : w0.heap.size ≤ b := h; omega))
  have NC := hide (hv.cs.imp (Q := fun b => w.heap.size < b) (fun b h _ => by show w.heap.size < b; have h : w0.heap.size ≤ b := h; omega))
  have HDk := hide hv.dk
  have HKp : Hid (KeepS S w w1) := hide ((KeepS.of (S := S) (unhide HB0)).trans hv.bs (fun b hb h => Or.inl h))
  clear d f hv HC
  go_wp2_with fail
  go_region
  go_wp2_with fail
  refine bodyPost_ret (v := .tuple #[.agg #[.int .i64 0, .int .i64 0, .slice so sn sc, .slice co cn cc, .int .i64 cost], .bool true]) (by simp [results, Tryz.results29, go_sem, d0, d1, d2, d3, d4]) rfl ⟨so, sn, sc, co, cn, cc, rfl, ?_, ?_, ?_, ?_⟩
  · exact (((((((unhide NS).set hno 0 _).set hno 1 _).set hno 2 _).set hno 3 _).set hno 4 _)).below (Below.refl _ _).drew
  · exact (((((((unhide NC).set hno 0 _).set hno 1 _).set hno 2 _).set hno 3 _).set hno 4 _)).below (Below.refl _ _).drew
  · exact (((((((unhide HDk).set (unhide HS) 0 _).set (unhide HS) 1 _).set (unhide HS) 2 _).set (unhide HS) 3 _).set (unhide HS) 4 _).below (Below.refl _ _).drew).less (fun b h => Or.inl h)
  · exact KeepS.trans (S' := fun _ => True) ((((((unhide HKp).set hnS h6 0 _).set hnS h6 1 _).set hnS h6 2 _).set hnS h6 3 _).set hnS h6 4 _) (KeepS.of (Below.refl _ _).drew) (fun _ _ _ => trivial)
set_option maxHeartbeats 1000000 in
set_option maxRecDepth 20000 in
theorem is_u (S : Nat → Prop) (db : Nat) (env env' : ByteArray → Option Arr) (N N' : Nat) (s : ByteArray) (sh cs : List Int) (cost : Int) (hs : SaysU db env N s env' N' sh cs cost) (w : World) (hD : DkE S db env N w) (vo : Option Addr) (vn vc : Nat) (ko : Option Addr) (kn kc : Nat) (hsh : Nums S w (.slice vo vn vc) sh) (hcs : Nums S w (.slice ko kn kc) cs) (hl1 : sh.length ≤ 200) (hl2 : cs.length ≤ 200) :
    Calls Tryz.prog 28 #[.pointer (some ⟨db, 0, none⟩), .string s, .slice vo vn vc, .slice ko kn kc] w fun e w' => e = .returned (.bool true) ∧ DkE S db env' N' w' ∧ KeepS S w w' := by
  have HC := hide (one_u S db env env' N N' s sh cs cost hs w hD)
  have HV := hide hsh
  have HK := hide hcs
  obtain ⟨rfl, hvc, _⟩ := nums_at hsh
  obtain ⟨rfl, hkc, _⟩ := nums_at hcs
  clear hs hD hsh hcs
  go_enter Tryz.func28, Tryz.ntmps28
  go_wp2_with fail
  refine (unhide HC).mono ?_
  rintro e w1 ⟨so, sn, sc, co, cn, cc, rfl, n1, n2, hd1, hb1⟩
  obtain ⟨rfl, hsc, _⟩ := nums_at n1
  obtain ⟨rfl, hcc, _⟩ := nums_at n2
  obtain ⟨W2, hW2⟩ : ∃ W2, w1.alloc (.cells #[.int .i64 0, .int .i64 0, .slice so sh.length sc, .slice co cs.length cc, .int .i64 cost] 47) = W2 := ⟨_, rfl⟩
  have hbW : Below w1.heap.size w1 W2 := by rw [← hW2]; exact (Below.refl _ _).alloc (Nat.le_refl _) _
  have z2 : W2.cell? ⟨w1.heap.size, 2, none⟩ = some (.slice so sh.length sc) := by rw [← hW2]; exact (World.cell?_alloc_at _ _ _ _ rfl).trans rfl
  have z3 : W2.cell? ⟨w1.heap.size, 3, none⟩ = some (.slice co cs.length cc) := by rw [← hW2]; exact (World.cell?_alloc_at _ _ _ _ rfl).trans rfl
  have zs : w1.heap.size < W2.heap.size := by rw [← hW2]; simp
  have HKW : Hid (KeepS S w W2) := hide (hb1.trans (KeepS.of (S := S) hbW) (fun _ _ h => h))
  have HDW := hide (hd1.below hbW)
  have N1 := hide (n1.below hbW)
  have N2 := hide (n2.below hbW)
  have M1 := hide ((hb1.nums (unhide HV) (fun _ h => h)).below hbW)
  have M2 := hide ((hb1.nums (unhide HK) (fun _ h => h)).below hbW)
  clear n1 n2 hb1 hbW HC HV HK hd1
  go_wp2_with fail
  try rw [hW2]
  clear hW2
  go_loopw [11] (fun v wr => ∃ k : Nat, v = .int .i64 k ∧ k ≤ sh.length ∧ Below W2.heap.size W2 wr) (fun v _ => sh.length - (intOf v).toNat)
  case atStart => exact ⟨0, rfl, by omega, Below.refl _ _⟩
  case round =>
    obtain ⟨k, rfl, hk, hbe⟩ := hrel
    by_cases hkl : k < sh.length
    · obtain ⟨_, _, hA⟩ := nums_at (unhide N1)
      obtain ⟨_, _, hB⟩ := nums_at (unhide M1)
      obtain ⟨b1, o1, rfl, l1, c1⟩ := hA (by omega)
      obtain ⟨b2, o2, rfl, l2, c2⟩ := hB (by omega)
      have y1 := (hbe.cell (p := ⟨b1, o1 + k, none⟩) l1).trans (c1 k hkl)
      have y2 := (hbe.cell (p := ⟨b2, o2 + k, none⟩) l2).trans (c2 k hkl)
      have y0 := (hbe.cell (p := ⟨w1.heap.size, 2, none⟩) zs).trans z2
      obtain ⟨x, hx⟩ : ∃ x, sh[k] = x := ⟨_, rfl⟩
      rw [hx] at y1 y2
      have HBe := hide hbe
      have hk0 : (0 : Int) ≤ (k : Int) := by omega
      have hk1 : (k : Int) < (sh.length : Int) := by omega
      clear hA hB c1 c2 hbe hx
      go_wp2_with fail
      go_region
      go_wp2_with fail
      go_roundw
      case rel => exact ⟨k + 1, by go_num, by omega, (unhide HBe).drew⟩
      case measure => simp [intOf]; omega
    · have hke : k = sh.length := by omega
      subst hke
      have HBe := hide hbe
      clear hbe
      go_wp2_with fail
      go_loopw [12] (fun v wx => ∃ k : Nat, v = .int .i64 k ∧ k ≤ cs.length ∧ Below W2.heap.size W2 wx) (fun v _ => cs.length - (intOf v).toNat)
      case atStart => exact ⟨0, rfl, by omega, unhide HBe⟩
      case round =>
        obtain ⟨k, rfl, hk, hbe⟩ := hrel
        by_cases hkl : k < cs.length
        · obtain ⟨_, _, hA⟩ := nums_at (unhide N2)
          obtain ⟨_, _, hB⟩ := nums_at (unhide M2)
          obtain ⟨b1, o1, rfl, l1, c1⟩ := hA (by omega)
          obtain ⟨b2, o2, rfl, l2, c2⟩ := hB (by omega)
          have y1 := (hbe.cell (p := ⟨b1, o1 + k, none⟩) l1).trans (c1 k hkl)
          have y2 := (hbe.cell (p := ⟨b2, o2 + k, none⟩) l2).trans (c2 k hkl)
          have y0 := (hbe.cell (p := ⟨w1.heap.size, 3, none⟩) zs).trans z3
          obtain ⟨x, hx⟩ : ∃ x, cs[k] = x := ⟨_, rfl⟩
          rw [hx] at y1 y2
          have HBe2 := hide hbe
          have hk0 : (0 : Int) ≤ (k : Int) := by omega
          have hk1 : (k : Int) < (cs.length : Int) := by omega
          clear hA hB c1 c2 hbe hx
          go_wp2_with fail
          go_region
          go_wp2_with fail
          go_roundw
          case rel => exact ⟨k + 1, by go_num, by omega, (unhide HBe2).drew⟩
          case measure => simp [intOf]; omega
        · have hke : k = cs.length := by omega
          subst hke
          have HBe2 := hide hbe
          clear hbe
          go_wp2_with fail
          exact bodyPost_ret (v := .bool true) (by simp [results, Tryz.results28, go_sem]) rfl ⟨rfl, (unhide HDW).below (unhide HBe2), (unhide HKW).trans (KeepS.of (S := S) (unhide HBe2)) (fun _ _ h => h)⟩
set_option maxHeartbeats 400000 in
theorem isRow_u (S : Nat → Prop) (db : Nat) (env env' : ByteArray → Option Arr) (N N' : Nat) (s : ByteArray) (cs : List Int) (cost : Int) (hs : SaysU db env N s env' N' [(cs.length : Int)] cs cost) (w : World) (hD : DkE S db env N w) (ko : Option Addr) (kn kc : Nat) (hcs : Nums S w (.slice ko kn kc) cs) (hl : cs.length ≤ 200) :
    Calls Tryz.prog 19 #[.pointer (some ⟨db, 0, none⟩), .string s, .slice ko kn kc] w fun e w' => e = .returned (.bool true) ∧ DkE S db env' N' w' ∧ KeepS S w w' := by
  obtain ⟨rfl, _, _⟩ := nums_at hcs
  have hw0 : Below w.heap.size w (w.alloc (.cells #[.int .i64 cs.length] 3)) := (Below.refl _ _).alloc (Nat.le_refl _) _
  have HC := hide (is_u _ db env env' N N' s [(cs.length : Int)] cs cost hs _ (hD.more hw0) (some ⟨w.heap.size, 0, none⟩) 1 1 ko cs.length kc (nums_one rfl (Or.inr ⟨Nat.le_refl _, by simp⟩)) ((hcs.imp (fun _ h _ => Or.inl h)).below hw0) (by simp) hl)
  have HB0 := hide hw0
  clear hs hD hw0 hcs
  go_enter Tryz.func19, Tryz.ntmps19
  go_wp2_with (go_at_call 28; refine (unhide HC).mono ?_; rintro e w1 ⟨rfl, hd1, hb1⟩; have HB1 := hide hb1; have HD1 := hide hd1; clear hb1 hd1)
  exact bodyPost_ret (v := .bool true) (by simp [results, Tryz.results19, go_sem]) rfl ⟨rfl, (unhide HD1).less (fun b h => Or.inl h), (KeepS.of (S := S) (unhide HB0)).trans (unhide HB1) (fun _ _ h => Or.inl h)⟩
/-- a line that makes an array and no name -/
theorem says_plain {f1 : ByteArray → Arr → Arr × Int} {f2 : ByteArray → Arr → Arr → Arr × Int} {env : ByteArray → Option Arr} {S : Nat → Prop} {db N : Nat} {x : Ex} {t : List UInt8} {d : Nat} (h : Tw d false 0 x t) (hs : t.length ≤ 200) (hd : d ≤ 8) (he : ∀ t a, env t = some a → a.ok) (hg : Good f1 f2 x) {a : Arr} {c : Nat} (hev : evalE env 1000 f1 f2 x 0 = .inr (a, c)) (hl1 : a.shape.length ≤ 200) (hl2 : a.cells.length ≤ 200) :
    Says (DkE S db env N) db ⟨t.toArray⟩ 0 0 (a.shape.map Int.ofNat) a.cells c := by
  intro w hD
  obtain ⟨e1, e2, e3⟩ := tw_tree h hs hd
  obtain ⟨X, mo, h1, h2, h3⟩ := hD
  exact reply_ok env 1000 f1 f2 db w mo ⟨t.toArray⟩ (by simp [ByteArray.size]; omega) ⟨h1.lt, h1.evs, h1.c0, h1.c1⟩ (by decide) (by decide) he (h1.look.imp (fun _ _ _ => trivial)) (by rw [e1]) (by rw [e1]) e2 (fun x' hx => by rw [tree_uniq hx e3]; exact hg) a c (fun x' hx => by rw [tree_uniq hx e3]; exact hev) hl1 hl2
theorem says_fails {f1 : ByteArray → Arr → Arr × Int} {f2 : ByteArray → Arr → Arr → Arr × Int} {env : ByteArray → Option Arr} {S : Nat → Prop} {db N : Nat} {x : Ex} {t : List UInt8} {d : Nat} (h : Tw d false 0 x t) (hs : t.length ≤ 200) (hd : d ≤ 8) (he : ∀ t a, env t = some a → a.ok) (hg : Good f1 f2 x) {er : Int} {pl : Nat} (hev : evalE env 1000 f1 f2 x 0 = .inl (er, pl)) (hne : er ≠ 0) :
    Says (DkE S db env N) db ⟨t.toArray⟩ er pl [] [] 0 := by
  intro w hD
  obtain ⟨e1, e2, e3⟩ := tw_tree h hs hd
  obtain ⟨X, mo, h1, h2, h3⟩ := hD
  exact reply_err env 1000 f1 f2 db w mo ⟨t.toArray⟩ (by simp [ByteArray.size]; omega) ⟨h1.lt, h1.evs, h1.c0, h1.c1⟩ (by decide) (by decide) he (h1.look.imp (fun _ _ _ => trivial)) (by rw [e1]) (by rw [e1]) (fun x' hx => by rw [tree_uniq hx e3]; exact hg) er pl (fun x' hx => by rw [tree_uniq hx e3]; exact hev) hne
end Go.Proofs.YtjobgpahajhbnaaGreatDoor
namespace Go.Proofs.YtjobgpahajhbnaaGreatDoor
open Go.RowKit Go.Proofs
attribute [local go_sem ↓] Go.wp_at_zero Go.wp_at_succ

/-- a list of numbers that no one else holds, in a block from B on -/
def OwnL (B : Nat) (w : World) (v : Value) (xs : List Int) : Prop := w.ownsRow B 2 1 v xs.length (xs.map (Value.int .i64))
/-- no block of both -/
def Aprt (u v : Value) : Prop := ∀ g, u.ownBlock = some g → v.ownBlock ≠ some g
theorem Aprt.symm {u v : Value} (h : Aprt u v) : Aprt v u := fun g h1 h2 => h g h2 h1
theorem Aprt.nil (v : Value) : Aprt (.slice none 0 0) v := fun g h => by cases h
theorem Aprt.or {u v : Value} (h : Aprt u v) : u.ownBlock = none ∨ u.ownBlock ≠ v.ownBlock := by
  cases hu : u.ownBlock with
  | none => exact Or.inl rfl
  | some g => exact Or.inr (fun e => h g hu e.symm)
theorem OwnL.below {B : Nat} {w w' : World} {v : Value} {xs : List Int} (h : OwnL B w v xs) (hb : Below w.heap.size w w') : OwnL B w' v xs := owns_below h hb
theorem OwnL.nil (B : Nat) (w : World) : OwnL B w (.slice none 0 0) [] := World.ownsRow_nil _ _ _ _
theorem OwnL.nums {B : Nat} {w : World} {v : Value} {xs : List Int} (h : OwnL B w v xs) : Nums (fun b => B ≤ b ∧ b < w.heap.size) w v xs := (nums_owns (P := fun b => B ≤ b) h (fun _ h => h)).imp (fun _ h hl => ⟨h, hl⟩)
theorem OwnL.shape {B : Nat} {w : World} {v : Value} {xs : List Int} (h : OwnL B w v xs) : ∃ vo vc, v = .slice vo xs.length vc := by
  obtain ⟨vo, vc, h1, _⟩ := own_slice h
  exact ⟨vo, vc, h1⟩
/-- v has grown into v', and nothing else has changed -/
structure Grew (B : Nat) (w : World) (v v' : Value) (w' : World) : Prop where
  bel : Below B w w'
  own : ∀ u ys, OwnL B w u ys → Aprt u v → OwnL B w' u ys
  apart : ∀ u ys, OwnL B w u ys → Aprt u v → Aprt u v'
theorem grew_of {B : Nat} {w w' : World} {v v' : Value} {o : Obj} {n : Nat} {xs : List Value} (hown : w.ownsRow B 2 1 v n xs) (hB : B ≤ w.heap.size) (hg : (w.alloc o).grownBy w' v.ownBlock) (hat : v'.ownBlock = v.ownBlock ∨ v'.ownBlock = some (w.alloc o).heap.size) : Grew B w v v' w' := by
  refine ⟨((Below.refl _ _).alloc hB o).grown hg (by simp; omega) (fun q hq => (hown.lt q hq).1), fun u ys hu ha => ((World.ownsRow.alloc hu o).kept hg ha.or), fun u ys hu ha g hgu => ?_⟩
  rcases hat with e | e
  · rw [e]; exact ha g hgu
  · rw [e]
    have := (World.ownsRow.lt hu g hgu).2
    simp
    omega
theorem app1 {B : Nat} {w : World} {v : Value} {xs : List Int} (h : OwnL B w v xs) (hx : xs.length ≤ 1000) (hB : B ≤ w.heap.size) (x : Int) :
    ∃ v' w', (Builtin.append_ #[32, 32] 32 #[v, .slice (some ⟨w.heap.size, 0, none⟩) 1 1]).run Tryz.prog (w.alloc (.cells #[.int .i64 x] 2)) = .ok v' w' ∧ OwnL B w' v' (xs ++ [x]) ∧ Grew B w v v' w' := by
  obtain ⟨i0, hi, hz0, hz1, hz2⟩ := info_parts Tryz.info2
  obtain ⟨v', w', h1, h2, h3, _, h4⟩ := run_append_own_at (P := Tryz.prog) (w.alloc (.cells #[.int .i64 x] 2)) B 32 32 2 i0 (.int .i64 0) 1 8 Tryz.underlying32 hi hz0 hz1 hz2 rfl (by decide) v _ _ (World.ownsRow.alloc h _) ⟨w.heap.size, 0, none⟩ 1 1 [.int .i64 x] rfl (by intro j u hj; match j, hj with | 0, hj => simp at hj; subst hj; exact (World.cell?_alloc_at _ _ _ _ rfl).trans rfl) (by intro u hu; simp at hu; subst hu; rfl) (by unfold maxLen; omega) (by omega) (by simp; omega)
  exact ⟨v', w', h1, by unfold OwnL; rw [List.map_append, List.length_append]; exact h2, grew_of h hB h3 h4⟩
theorem app2 {B : Nat} {w : World} {v : Value} {xs : List Int} (h : OwnL B w v xs) (hx : xs.length ≤ 1000) (hB : B ≤ w.heap.size) (x y : Int) :
    ∃ v' w', (Builtin.append_ #[32, 32] 32 #[v, .slice (some ⟨w.heap.size, 0, none⟩) 2 2]).run Tryz.prog (w.alloc (.cells #[.int .i64 x, .int .i64 y] 2)) = .ok v' w' ∧ OwnL B w' v' (xs ++ [x, y]) ∧ Grew B w v v' w' := by
  obtain ⟨i0, hi, hz0, hz1, hz2⟩ := info_parts Tryz.info2
  obtain ⟨v', w', h1, h2, h3, _, h4⟩ := run_append_own_at (P := Tryz.prog) (w.alloc (.cells #[.int .i64 x, .int .i64 y] 2)) B 32 32 2 i0 (.int .i64 0) 1 8 Tryz.underlying32 hi hz0 hz1 hz2 rfl (by decide) v _ _ (World.ownsRow.alloc h _) ⟨w.heap.size, 0, none⟩ 2 2 [.int .i64 x, .int .i64 y] rfl (by
      intro j u hj
      match j, hj with
      | 0, hj => simp at hj; subst hj; exact (World.cell?_alloc_at _ _ _ _ rfl).trans rfl
      | 1, hj => simp at hj; subst hj; exact (World.cell?_alloc_at _ _ _ _ rfl).trans rfl) (by intro u hu; simp at hu; rcases hu with rfl | rfl <;> rfl) (by unfold maxLen; omega) (by omega) (by simp; omega)
  exact ⟨v', w', h1, by unfold OwnL; rw [List.map_append, List.length_append]; exact h2, grew_of h hB h3 h4⟩
theorem wpList_app1 {ops : Array Oper} {rest : List Oper} {o : Oper} {a : Act} {Q : Exit → Act → World → Prop} (hgd : o.guard = none) (s x : Operand) (ho : o.op = .call { callee := .builtin .append, args := #[s, x], argTypes := #[32, 32] })
    {B : Nat} {w : World} {v : Value} {xs : List Int} (h : OwnL B w v xs) (hx : xs.length ≤ 1000) (hB : B ≤ w.heap.size) (y : Int) (hs : a.eval s = v) (hv : a.eval x = .slice (some ⟨w.heap.size, 0, none⟩) 1 1)
    (hk : ∀ v' w', OwnL B w' v' (xs ++ [y]) → Grew B w v v' w' → wpList Tryz.prog ops Q rest (a.put o.dst v') w') : wpList Tryz.prog ops Q (o :: rest) a (w.alloc (.cells #[.int .i64 y] 2)) := by
  obtain ⟨i0, hi, hz0, hz1, hz2⟩ := info_parts Tryz.info2
  refine wpList_append_own_at _ hgd s x 32 ho B 2 i0 (.int .i64 0) 1 8 Tryz.underlying32 hi hz0 hz1 hz2 rfl (by decide) v _ _ hs (World.ownsRow.alloc h _) ⟨w.heap.size, 0, none⟩ 1 1 [.int .i64 y] hv rfl (by intro j u hj; match j, hj with | 0, hj => simp at hj; subst hj; exact (World.cell?_alloc_at _ _ _ _ rfl).trans rfl) (by intro u hu; simp at hu; subst hu; rfl) (by unfold maxLen; omega) (by omega) (by simp; omega) ?_
  intro v' w' h2 h3 _ h4
  exact hk v' w' (by unfold OwnL; rw [List.map_append, List.length_append]; exact h2) (grew_of h hB h3 h4)
/-- numbers as small makes them -/
def Few (l : List Int) : Prop := ∀ x ∈ l, -60 ≤ x ∧ x ≤ 60
set_option maxHeartbeats 1000000 in
set_option maxRecDepth 20000 in
theorem small_any (ao : Option Addr) (n cap : Nat) (xs : List Int) (M : Nat) (hM : M ≤ 100) (w : World) (hr : RawIn w ao xs) (hn : xs.length = n) (hlt : 0 < n → ∀ b off, ao = some ⟨b, off, none⟩ → b < w.heap.size) :
    Calls Tryz.prog 22 #[.slice ao n cap, .int .i64 M] w fun e w' => ∃ v, e = .returned v ∧ ∃ l, OwnL w.heap.size w' v l ∧ l.length ≤ M ∧ Few l ∧ Below w.heap.size w w' := by
  have HR := hide hr
  have HN := hide hn
  have HLT := hide hlt
  clear hr hn hlt
  go_enter Tryz.func22, Tryz.ntmps22
  go_wp2_with fail
  go_loopw [5, 6] (fun v5 v6 wr => ∃ (k : Nat) (l : List Int), v6 = .int .i64 k ∧ k ≤ n ∧ k ≤ M ∧ l.length = k ∧ Few l ∧ OwnL w.heap.size wr v5 l ∧ Below w.heap.size w wr) (fun _ v6 _ => M - (intOf v6).toNat)
  case atStart => exact ⟨0, [], rfl, by omega, by omega, rfl, (fun x h => by cases h), OwnL.nil _ _, Below.refl _ _⟩
  case round =>
    obtain ⟨k, l, rfl, hk, hkM, hlen, hfew, hown, hbel⟩ := hrel
    have HLen := hide hlen
    have HFew := hide hfew
    have HOw := hide hown
    have HBe := hide hbel
    by_cases hkn : k < n
    · by_cases hkm : k < M
      · have hkx : k < xs.length := by rw [unhide HN]; exact hkn
        obtain ⟨b, off, rfl, hc⟩ := (unhide HR).2 (by omega)
        have hb := unhide HLT (by omega) b off rfl
        have hf := (unhide HR).1 _ (List.getElem_mem hkx)
        have c0 := (hbel.cell (p := ⟨b, off + k, none⟩) hb).trans (hc k hkx)
        obtain ⟨x, hx⟩ : ∃ x, xs[k] = x := ⟨_, rfl⟩
        rw [hx] at c0 hf
        have HP := hide (fun w' => pick_any x 121 hf (by decide) w')
        have hk0 : (0 : Int) ≤ (k : Int) := by omega
        have hk1 : (k : Int) < (n : Int) := by omega
        have hk2 : (k : Int) < (M : Int) := by omega
        clear hlen hfew hown hbel hc hx hf
        go_wp2_with fail
        refine (unhide HP _).mono ?_
        rintro e w' ⟨⟨r, rfl, hr0, hr1⟩, rfl⟩
        have hw : wrap64 (r - 60) = r - 60 := by
          unfold wrap64
          omega
        have HR0 := hide hr0
        have HR1 := hide hr1
        clear hr0 hr1
        go_wp2_with (at_builtin; refine wpList_app1 rfl _ _ rfl (unhide HOw) (by have := unhide HLen; omega) (unhide HBe).size (r - 60) rfl rfl ?_)
        intro v' w4 ho4 hg4
        have HO4 := hide ho4
        have HG4 := hide hg4
        clear ho4 hg4
        go_wp2_with fail
        go_roundw
        case rel => exact ⟨k + 1, l ++ [r - 60], by go_num, by omega, by omega, by simp [unhide HLen], (by
          intro y hy
          rcases List.mem_append.1 hy with h | h
          · exact unhide HFew y h
          · simp at h; subst h; have := unhide HR0; have := unhide HR1; omega), unhide HO4, (unhide HBe).trans (unhide HG4).bel⟩
        case measure => simp [intOf]; omega
      · have hk1 : (k : Int) < (n : Int) := by omega
        have hk2 : ¬ (k : Int) < (M : Int) := by omega
        clear hlen hfew hown hbel
        go_wp2_with fail
        obtain ⟨vo, vc, rfl⟩ := (unhide HOw).shape
        exact bodyPost_ret (v := .slice vo l.length vc) (by simp [results, Tryz.results22, go_sem]) rfl ⟨_, rfl, l, unhide HOw, by rw [unhide HLen]; exact hkM, unhide HFew, unhide HBe⟩
    · have hk1 : ¬ (k : Int) < (n : Int) := by omega
      clear hlen hfew hown hbel
      go_wp2_with fail
      obtain ⟨vo, vc, rfl⟩ := (unhide HOw).shape
      exact bodyPost_ret (v := .slice vo l.length vc) (by simp [results, Tryz.results22, go_sem]) rfl ⟨_, rfl, l, unhide HOw, by rw [unhide HLen]; exact hkM, unhide HFew, unhide HBe⟩
end Go.Proofs.YtjobgpahajhbnaaGreatDoor
namespace Go.Proofs.YtjobgpahajhbnaaGreatDoor
open Go.RowKit Go.Proofs
attribute [local go_sem ↓] Go.wp_at_zero Go.wp_at_succ

theorem NmRow.snoc {ns : List Int} {u : List UInt8} (h : NmRow ns u) {n : Int} {t : List UInt8} (hn : Nm n t) : NmRow (ns ++ [n]) (u ++ (32 :: t)) := by
  induction h with
  | one m s hm => exact NmRow.more m s [n] t hm (NmRow.one n t hn)
  | more m s ms v hm hms ih =>
    have := NmRow.more m s (ms ++ [n]) (v ++ (32 :: t)) hm ih
    simpa using this
/-- numbers, each behind a blank -/
def Tail (l : List Int) (t : List UInt8) : Prop := (l = [] ∧ t = []) ∨ ∃ u, t = 32 :: u ∧ NmRow l u
theorem Tail.snoc {l : List Int} {t : List UInt8} (h : Tail l t) {n : Int} {s : List UInt8} (hn : Nm n s) : Tail (l ++ [n]) (t ++ (32 :: s)) := by
  rcases h with ⟨rfl, rfl⟩ | ⟨u, rfl, hu⟩
  · exact Or.inr ⟨s, rfl, NmRow.one n s hn⟩
  · exact Or.inr ⟨u ++ (32 :: s), rfl, hu.snoc hn⟩
/-- what row writes -/
def RowT (l : List Int) (t : List UInt8) : Prop := (l = [] ∧ t = 40 :: ([105, 111, 116, 97, 32, 48] ++ [41])) ∨ ∃ u, t = 40 :: (([114, 97, 118, 101, 108] ++ (32 :: u)) ++ [41]) ∧ NmRow l u ∧ u.length ≤ 4 * l.length
theorem cat1 (t s : List UInt8) : (⟨t.toArray⟩ : ByteArray) ++ ⟨#[32]⟩ ++ ⟨s.toArray⟩ = ⟨(t ++ (32 :: s)).toArray⟩ := by
  apply ba_ext
  simp
theorem cat2 (t : List UInt8) : (⟨#[40, 114, 97, 118, 101, 108]⟩ : ByteArray) ++ ⟨t.toArray⟩ ++ ⟨#[41]⟩ = ⟨([40, 114, 97, 118, 101, 108] ++ t ++ [41]).toArray⟩ := by
  apply ba_ext
  simp
set_option maxHeartbeats 1000000 in
set_option maxRecDepth 20000 in
theorem rowText_any {Q : Nat → Prop} (w : World) (ao : Option Addr) (n cap : Nat) (l : List Int) (hn : Nums Q w (.slice ao n cap) l) (hl : l.length ≤ 30) (hf : Few l) :
    Calls Tryz.prog 27 #[.slice ao n cap] w fun e w' => (∃ t, e = .returned (.string ⟨List.toArray t⟩) ∧ RowT l t) ∧ w' = w := by
  obtain ⟨rfl, _, hc⟩ := nums_at hn
  by_cases h0 : l.length = 0
  · have h0' : ((l.length : Int) == 0) = true := by rw [h0]; rfl
    have HE := hide (List.eq_nil_of_length_eq_zero h0)
    clear hn hc h0
    go_enter Tryz.func27, Tryz.ntmps27
    go_wp2
    exact bodyPost_ret (v := .string ⟨(40 :: ([105, 111, 116, 97, 32, 48] ++ [41])).toArray⟩) (by simp [results, Tryz.results27, go_sem]) rfl ⟨⟨_, rfl, Or.inl ⟨unhide HE, rfl⟩⟩, rfl⟩
  · have h0' : ((l.length : Int) == 0) = false := by rw [beq_eq_false_iff_ne]; omega
    obtain ⟨b, off, rfl, hb, hcell⟩ := hc (by omega)
    have HC := hide hcell
    have HF := hide hf
    clear hn hc hcell hf
    go_enter Tryz.func27, Tryz.ntmps27
    go_wp2_with fail
    go_loopw [3, 4] (fun v3 v4 wr => ∃ (k : Nat) (t : List UInt8), v4 = .int .i64 k ∧ k ≤ l.length ∧ v3 = .string ⟨t.toArray⟩ ∧ Tail (l.take k) t ∧ t.length ≤ 4 * k ∧ wr = w) (fun _ v4 _ => l.length - (intOf v4).toNat)
    case atStart => exact ⟨0, [], rfl, by omega, rfl, Or.inl ⟨rfl, rfl⟩, by simp, rfl⟩
    case round =>
      obtain ⟨k, t, rfl, hk, rfl, hT, htl, rfl⟩ := hrel
      have HT := hide hT
      clear hT
      by_cases hkl : k < l.length
      · have c0 := unhide HC k hkl
        have hx := unhide HF _ (List.getElem_mem hkl)
        have HTk : Hid (l.take (k + 1) = l.take k ++ [l[k]]) := hide (by rw [List.take_succ_eq_append_getElem hkl])
        obtain ⟨x, hxe⟩ : ∃ x, l[k] = x := ⟨_, rfl⟩
        rw [hxe] at c0 hx HTk
        have HN := hide (fun w' => num_any x (by omega) w')
        have hk0 : (0 : Int) ≤ (k : Int) := by omega
        have hk1 : (k : Int) < (l.length : Int) := by omega
        clear hxe hx
        go_wp2_with fail
        refine (unhide HN _).mono ?_
        rintro e w' ⟨⟨s, rfl, hs, hsl⟩, rfl⟩
        have HS := hide hs
        clear hs
        go_wp2_with fail
        go_roundw
        case rel => exact ⟨k + 1, t ++ (32 :: s), by go_num, by omega, by rw [cat1], by rw [unhide HTk]; exact (unhide HT).snoc (unhide HS), by simp; omega, (by first | rfl | trivial)⟩
        case measure => simp [intOf]; omega
      · have hke : k = l.length := by omega
        subst hke
        go_wp2_with fail
        refine bodyPost_ret (v := .string ⟨([40, 114, 97, 118, 101, 108] ++ t ++ [41]).toArray⟩) (by simp [results, Tryz.results27, go_sem]; apply ba_ext; simp) rfl ⟨⟨_, rfl, Or.inr ?_⟩, rfl⟩
        have hT := unhide HT
        rw [List.take_of_length_le (Nat.le_refl _)] at hT
        rcases hT with ⟨rfl, _⟩ | ⟨u, rfl, hu⟩
        · exact absurd rfl h0
        · exact ⟨u, by simp, hu, by simp at htl; omega⟩
theorem tl_iota (r : List UInt8) : tl ([105, 111, 116, 97] ++ (32 :: r)) = some 4 := by
  have h : ([105, 111, 116, 97] ++ (32 :: r)).takeWhile lU = [105, 111, 116, 97] := rfl
  have hf : isFn [105, 111, 116, 97] = true := by decide +kernel
  show wrdE ([105, 111, 116, 97] ++ (32 :: r)) = some 4
  unfold wrdE
  rw [h]
  simp [hf]
theorem fn1_iota : Fn1 [105, 111, 116, 97] := ⟨⟨105, [111, 116, 97], rfl, by decide, by decide⟩, tl_iota, by decide +kernel, by decide +kernel⟩
theorem tl_in (r : List UInt8) : tl ([105, 110] ++ (32 :: r)) = some 2 := by
  have h : ([105, 110] ++ (32 :: r)).takeWhile lU = [105, 110] := rfl
  have hf : isFn [105, 110] = true := by decide +kernel
  show wrdE ([105, 110] ++ (32 :: r)) = some 2
  unfold wrdE
  rw [h]
  simp [hf]
theorem fn2_in : Fn2 [105, 110] := ⟨⟨105, [110], rfl, by decide⟩, tl_in, by decide +kernel, by decide +kernel⟩
theorem tl_at (r : List UInt8) : tl ([97, 116] ++ (32 :: r)) = some 2 := by
  have h : ([97, 116] ++ (32 :: r)).takeWhile lU = [97, 116] := rfl
  have hf : isFn [97, 116] = true := by decide +kernel
  show wrdE ([97, 116] ++ (32 :: r)) = some 2
  unfold wrdE
  rw [h]
  simp [hf]
theorem fn2_at : Fn2 [97, 116] := ⟨⟨97, [116], rfl, by decide⟩, tl_at, by decide +kernel, by decide +kernel⟩
theorem tl_keep (r : List UInt8) : tl ([107, 101, 101, 112] ++ (32 :: r)) = some 4 := by
  have h : ([107, 101, 101, 112] ++ (32 :: r)).takeWhile lU = [107, 101, 101, 112] := rfl
  have hf : isFn [107, 101, 101, 112] = true := by decide +kernel
  show wrdE ([107, 101, 101, 112] ++ (32 :: r)) = some 4
  unfold wrdE
  rw [h]
  simp [hf]
theorem fn2_keep : Fn2 [107, 101, 101, 112] := ⟨⟨107, [101, 101, 112], rfl, by decide⟩, tl_keep, by decide +kernel, by decide +kernel⟩
theorem stop_take {c : UInt8} (hc : lU c = true) {r : List UInt8} (hr : StopN r) : ([c] ++ r).takeWhile lU = [c] := by
  cases r with
  | nil => simp [hc]
  | cons d r =>
    have : lU d = false := hr d rfl
    simp [hc, this]
theorem name1 {c : UInt8} (hl : lU c = true) (h32 : c ≠ 32) (ht : tailU c = false) (hf : isFn [c] = false) (hk : kindT ⟨#[c]⟩ = 1) (hr : roleT ⟨#[c]⟩ = 0) (htl : ∀ r, tl ([c] ++ r) = wrdE ([c] ++ r)) : NameT [c] := by
  refine ⟨⟨c, [], rfl, h32, ht⟩, fun r hr => ?_, hk, hr⟩
  rw [htl]
  unfold wrdE
  rw [stop_take hl hr]
  simp [hf]
theorem name_x : NameT [120] := name1 (by decide) (by decide) (by decide) (by decide +kernel) (by decide +kernel) (by decide +kernel) (fun _ => rfl)
theorem name_y : NameT [121] := name1 (by decide) (by decide) (by decide) (by decide +kernel) (by decide +kernel) (by decide +kernel) (fun _ => rfl)
theorem name_p : NameT [112] := name1 (by decide) (by decide) (by decide) (by decide +kernel) (by decide +kernel) (by decide +kernel) (fun _ => rfl)
end Go.Proofs.YtjobgpahajhbnaaGreatDoor
namespace Go.Proofs.YtjobgpahajhbnaaGreatDoor
open Go.RowKit Go.Proofs
attribute [local go_sem ↓] Go.wp_at_zero Go.wp_at_succ

def f1F (t : ByteArray) : Arr → Arr × Int := if t.data.toList.headD 0 = 105 then iotaP else fun a => (ravelP a, 0)
def f2F (t : ByteArray) : Arr → Arr → Arr × Int := if t.data.toList.headD 0 = 105 then inP else if t.data.toList.headD 0 = 97 then atP else keepP
def rowA (l : List Int) : Arr := ⟨[l.length], l⟩
def EnvOk (env : ByteArray → Option Arr) : Prop := ∀ t a, env t = some a → a.ok
theorem rowA_ok {l : List Int} (hl : l.length ≤ 64) (hf : ∀ c ∈ l, fit64 c) : (rowA l).ok := ⟨by simp [rowA], by simp [rowA]; omega, by simp [rowA, prodL], by simp [rowA]; omega, hf⟩
theorem EnvOk.upd {env : ByteArray → Option Arr} (h : EnvOk env) (nm : ByteArray) {a : Arr} (ha : a.ok) : EnvOk (upd env nm a) := by
  intro t b hb
  unfold YtjobgpahajhbnaaGreatDoor.upd at hb
  split at hb
  · cases hb; exact ha
  · exact h t b hb
theorem ravel_row {l : List Int} : ravelP (arrOf l) = rowA l := by
  unfold arrOf rowA ravelP
  split <;> rfl
theorem pay_more {r : Arr × Int} {p c : Nat} (h : r.2 = 0) (hl : r.1.cells.length ≤ 70) (hc : c ≤ 800) : payP 1000 r p c = .inr (r.1, c + (1 + r.1.cells.length)) := by
  unfold payP
  rw [if_neg (by simp [h]), if_neg (by omega)]
/-- the text of row, as a tree -/
theorem row_tw {l : List Int} {t : List UInt8} (h : RowT l t) (hl : l.length ≤ 64) (hf : ∀ c ∈ l, fit64 c) (p : Nat) : ∃ x, Tw 1 true p x t ∧ Good f1F f2F x ∧ ∀ env, ∃ c, c ≤ 100 ∧ evalE env 1000 f1F f2F x 0 = .inr (rowA l, c) := by
  rcases h with ⟨rfl, rfl⟩ | ⟨u, rfl, hu, hul⟩
  · refine ⟨.one ⟨#[105, 111, 116, 97]⟩ (p + 1) (.num [0]), Tw.br 0 p _ _ (Tw.one 0 (p + 1) [105, 111, 116, 97] (.num [0]) [48] fn1_iota (Tw.only _ _ _ _ (Tw.row 0 _ [0] [48] (NmRow.one 0 [48] nm_zero)))), ⟨iota_one, by simp, by simp, by intro c hc; simp at hc; subst hc; unfold fit64; omega⟩, fun env => ⟨1, by omega, ?_⟩⟩
    have hv : f1F ⟨#[105, 111, 116, 97]⟩ (arrOf [0]) = (rowA [], 0) := rfl
    simp only [evalE]
    rw [hv, pay_more rfl (by simp [rowA]) (by omega)]
    rfl
  · have h0 := row_pos hu
    refine ⟨.one ⟨#[114, 97, 118, 101, 108]⟩ (p + 1) (.num l), Tw.br 0 p _ _ (Tw.one 0 (p + 1) [114, 97, 118, 101, 108] (.num l) u fn1_ravel (Tw.only _ _ _ _ (Tw.row 0 _ l u hu))), ⟨ravel_one, h0, by omega, hf⟩, fun env => ⟨0 + (1 + l.length), by omega, ?_⟩⟩
    have hv : f1F ⟨#[114, 97, 118, 101, 108]⟩ (arrOf l) = (rowA l, 0) := by
      have : f1F ⟨#[114, 97, 118, 101, 108]⟩ = fun a => (ravelP a, 0) := rfl
      rw [this]
      show (ravelP (arrOf l), (0 : Int)) = _
      rw [ravel_row]
    simp only [evalE]
    rw [hv, pay_more rfl (by simp [rowA]; omega) (by omega)]
    rfl
theorem rowT_len {l : List Int} {t : List UInt8} (h : RowT l t) : t.length ≤ 10 + 4 * l.length := by
  rcases h with ⟨rfl, rfl⟩ | ⟨u, rfl, _, hu⟩
  · simp
  · simp; omega
theorem few_fit {l : List Int} (h : Few l) : ∀ c ∈ l, fit64 c := fun c hc => by have := h c hc; unfold fit64; omega
theorem cat_is (nm t : List UInt8) : (⟨nm.toArray⟩ : ByteArray) ++ ⟨#[32, 105, 115, 32]⟩ ++ ⟨t.toArray⟩ = ⟨(nm ++ ([32, 105, 115, 32] ++ t)).toArray⟩ := by
  apply ba_ext
  simp
set_option maxHeartbeats 400000 in
theorem set_any (S : Nat → Prop) (db : Nat) (env : ByteArray → Option Arr) (N : Nat) (nm : List UInt8) (hnm : NameT nm) (hnl : nm.length ≤ 4) (w : World) (hD : DkE S db env N w) (hN : N < 1000) (he : EnvOk env) (ko : Option Addr) (kn kc : Nat) (l : List Int) (hn : Nums S w (.slice ko kn kc) l) (hl : l.length ≤ 24) (hf : Few l) :
    Calls Tryz.prog 23 #[.pointer (some ⟨db, 0, none⟩), .string ⟨nm.toArray⟩, .slice ko kn kc] w fun e w' => e = .returned (.bool true) ∧ DkE S db (upd env ⟨nm.toArray⟩ (rowA l)) (N + 1) w' ∧ KeepS S w w' := by
  have HT := hide (rowText_any w ko kn kc l hn (by omega) hf)
  have HS : Hid (∀ t, RowT l t → Calls Tryz.prog 19 #[.pointer (some ⟨db, 0, none⟩), .string (⟨nm.toArray⟩ ++ ⟨#[32, 105, 115, 32]⟩ ++ ⟨t.toArray⟩), .slice ko kn kc] w fun e w' => e = .returned (.bool true) ∧ DkE S db (upd env ⟨nm.toArray⟩ (rowA l)) (N + 1) w' ∧ KeepS S w w') := hide (by
    intro t ht
    obtain ⟨x, h1, h2, h3⟩ := row_tw ht (by omega) (few_fit hf) (nm.length + 4)
    obtain ⟨c, _, hev⟩ := h3 env
    have htl := rowT_len ht
    have hs := says_named (db := db) (N := N) hnm (Tw.only _ _ _ _ h1) (by simp; omega) (by decide) hN he h2 hev (by simp [rowA]) (by simp [rowA]; omega)
    rw [cat_is]
    exact isRow_u S db env _ N (N + 1) _ l c hs w hD ko kn kc hn (by omega))
  clear hnm hD hN he hn hf
  go_enter Tryz.func23, Tryz.ntmps23
  go_wp2_with fail
  refine (unhide HT).mono ?_
  rintro e w' ⟨⟨t, rfl, ht⟩, rfl⟩
  have HTT := hide ht
  have htl := rowT_len ht
  have htl2 : t.length ≤ 200 := by omega
  clear ht htl
  go_wp2_with fail
  refine (unhide HS t (unhide HTT)).mono ?_
  rintro e w' ⟨rfl, h1, h2⟩
  have H1 := hide h1
  have H2 := hide h2
  clear h1 h2
  go_wp2_with fail
  exact bodyPost_ret (v := .bool true) (by simp [results, Tryz.results23, go_sem]) rfl ⟨rfl, unhide H1, unhide H2⟩
end Go.Proofs.YtjobgpahajhbnaaGreatDoor
namespace Go.Proofs.YtjobgpahajhbnaaGreatDoor
open Go.RowKit Go.Proofs

/-- a line that makes a row -/
def RowSays (env : ByteArray → Option Arr) (t : List UInt8) (cs : List Int) : Prop := ∃ cost, ∀ S db N, Says (DkE S db env N) db ⟨t.toArray⟩ 0 0 [(cs.length : Int)] cs cost
theorem rowSays_of {env : ByteArray → Option Arr} {x : Ex} {t : List UInt8} {d c : Nat} {cs : List Int} (h : Tw d false 0 x t) (hs : t.length ≤ 200) (hd : d ≤ 8) (he : EnvOk env) (hg : Good f1F f2F x) (hev : evalE env 1000 f1F f2F x 0 = .inr (rowA cs, c)) (hl : cs.length ≤ 64) : RowSays env t cs :=
  ⟨c, fun S db N => says_plain (a := rowA cs) h hs hd he hg hev (by simp [rowA]) (by simp [rowA]; omega)⟩
/-- what the functions make of rows -/
theorem in_rows (l o : List Int) : inP (rowA l) (rowA o) = (rowA (l.map (oneOf o)), 0) := by
  unfold inP rowA
  simp
def keptL (l o : List Int) : List Int := l.filter (fun x => decide (x ∈ o))
theorem keepL_in (o : List Int) : ∀ (l acc : List Int), acc.length + l.length ≤ 64 → keepL (l.map (oneOf o)) l acc = some (acc ++ keptL l o)
  | [], acc, _ => by simp [keepL, keptL]
  | x :: l, acc, h => by
    simp only [List.map_cons, keepL]
    have h' : acc.length + (l.length + 1) ≤ 64 := h
    by_cases hx : x ∈ o
    · have e : oneOf o x = 1 := by simp [oneOf, hx]
      rw [e, if_neg (by omega), keepL_in o l _ (by simp; omega)]
      simp [keptL, hx]
    · have e : oneOf o x = 0 := by simp [oneOf, hx]
      rw [e, if_neg (by omega), keepL_in o l _ (by simp; omega)]
      simp [keptL, hx]
def twiceL (l : List Int) : List Int := l.flatMap (fun x => [x, x])
theorem keepL_two : ∀ (l acc : List Int), acc.length + 2 * l.length ≤ 64 → keepL (List.replicate l.length 2) l acc = some (acc ++ twiceL l)
  | [], acc, _ => by simp [keepL, twiceL]
  | x :: l, acc, h => by
    simp only [List.length_cons, List.replicate_succ, keepL]
    have h' : acc.length + 2 * (l.length + 1) ≤ 64 := h
    have e : List.replicate (2 : Int).toNat x = [x, x] := rfl
    rw [if_neg (by omega), e, keepL_two l _ (by simp; omega)]
    simp [twiceL]
theorem keptL_len (l o : List Int) : (keptL l o).length ≤ l.length := List.length_filter_le _ _
theorem twiceL_len (l : List Int) : (twiceL l).length = 2 * l.length := by
  induction l with
  | nil => rfl
  | cons x l ih => simp only [twiceL, List.flatMap_cons, List.length_append] at ih ⊢; rw [ih]; simp; omega
theorem keep_rows {l o : List Int} (h : l.length ≤ 24) : keepP (rowA (l.map (oneOf o))) (rowA l) = (rowA (keptL l o), 0) := by
  unfold keepP
  have hn : (rowA (l.map (oneOf o))).cells.any negB = false := by
    rw [List.any_eq_false]
    intro x hx
    obtain ⟨y, _, rfl⟩ := List.mem_map.1 hx
    unfold oneOf negB
    split <;> simp
  rw [if_neg (by simp [rowA]), if_neg (by simp [rowA]), hn, if_neg (by decide), if_neg (by simp [rowA])]
  unfold keepR
  have e : keepL (rowA (l.map (oneOf o))).cells (rowA l).cells [] = some (keptL l o) := keepL_in o l [] (by simp; omega)
  rw [e]
  rfl
theorem keep_twice {l : List Int} (h : l.length ≤ 24) : keepP (arrOf [2]) (rowA l) = (rowA (twiceL l), 0) := by
  unfold keepP
  rw [if_neg (by simp [rowA, arrOf]), if_neg (by simp [arrOf]), if_neg (by decide), if_pos (by simp [arrOf])]
  unfold keepR
  have e : keepL (List.replicate (rowA l).cells.length ((arrOf [2]).cells.headD 0)) (rowA l).cells [] = some (twiceL l) := keepL_two l [] (by simp; omega)
  rw [e]
  rfl
theorem at_rows {ps l : List Int} (h : ∀ p ∈ ps, 0 ≤ p ∧ p < l.length) : atP (rowA ps) (rowA l) = (rowA (ps.map (atF l)), 0) := by
  unfold atP
  have hn : (rowA ps).cells.any (outB (rowA l).cells.length) = false := by
    rw [List.any_eq_false]
    intro x hx
    have := h x hx
    have e : outB (rowA l).cells.length x = false := by
      unfold outB
      rw [decide_eq_false (by omega), decide_eq_false (by show ¬ (l.length : Int) ≤ x; omega)]
      rfl
    rw [e]
    decide
  rw [if_neg (by simp [rowA]), hn, if_neg (by decide)]
  simp [rowA]
theorem at_out {n : Int} {l : List Int} (h : n < 0 ∨ (l.length : Int) ≤ n) : atP (arrOf [n]) (rowA l) = (eArr, 8) := by
  unfold atP
  rw [if_neg (by simp [rowA]), if_pos (by simp [arrOf, outB, rowA]; exact h)]
theorem eval_name {env : ByteArray → Option Arr} {t : ByteArray} {p c : Nat} {a : Arr} (h : env t = some a) : evalE env 1000 f1F f2F (.name t p) c = .inr (a, c) := by
  simp only [evalE, h]
theorem eval_bin {env : ByteArray → Option Arr} {X Y : Ex} {A B : Arr} {c c1 c2 : Nat} (e1 : evalE env 1000 f1F f2F Y c = .inr (B, c1)) (e2 : evalE env 1000 f1F f2F X c1 = .inr (A, c2)) (t : ByteArray) (q : Nat) : evalE env 1000 f1F f2F (.two t q X Y) c = payP 1000 (f2F t A B) q c2 := by
  rw [evalE, e1]
  simp only []
  rw [e2]
def xT : ByteArray := ⟨#[120]⟩
def yT : ByteArray := ⟨#[121]⟩
def pT : ByteArray := ⟨#[112]⟩
theorem line_in {env : ByteArray → Option Arr} {l o : List Int} (he : EnvOk env) (hx : env xT = some (rowA l)) (hy : env yT = some (rowA o)) (hl : l.length ≤ 24) : RowSays env [120, 32, 105, 110, 32, 121] (l.map (oneOf o)) := by
  refine rowSays_of (d := 0) (x := .two ⟨#[105, 110]⟩ 2 (.name xT 0) (.name yT 5)) (Tw.two 0 0 [105, 110] _ _ [120] [121] fn2_in (Tw.name 0 0 [120] name_x) (Tw.only _ _ _ _ (Tw.name 0 5 [121] name_y))) (by simp) (by decide) he ⟨in_two, by simp [Good, xT, ByteArray.size], by simp [Good, yT, ByteArray.size]⟩ (c := 0 + (1 + (l.map (oneOf o)).length)) ?_ (by simp; omega)
  rw [eval_bin (eval_name hy) (eval_name hx)]
  have : f2F ⟨#[105, 110]⟩ = inP := rfl
  rw [this, in_rows, pay_more rfl (by simp [rowA]; omega) (by omega)]
  rfl
theorem line_keep {env : ByteArray → Option Arr} {l o : List Int} (he : EnvOk env) (hx : env xT = some (rowA l)) (hy : env yT = some (rowA o)) (hl : l.length ≤ 24) : RowSays env [40, 120, 32, 105, 110, 32, 121, 41, 32, 107, 101, 101, 112, 32, 120] (keptL l o) := by
  refine rowSays_of (d := 1) (x := .two ⟨#[107, 101, 101, 112]⟩ 9 (.two ⟨#[105, 110]⟩ 3 (.name xT 1) (.name yT 6)) (.name xT 14)) (Tw.two 1 0 [107, 101, 101, 112] _ _ [40, 120, 32, 105, 110, 32, 121, 41] [120] fn2_keep (Tw.br 0 0 _ [120, 32, 105, 110, 32, 121] (Tw.two 0 1 [105, 110] _ _ [120] [121] fn2_in (Tw.name 0 1 [120] name_x) (Tw.only _ _ _ _ (Tw.name 0 6 [121] name_y)))) (Tw.only _ _ _ _ (Tw.name 1 14 [120] name_x))) (by simp) (by decide) he ⟨keep_two, ⟨in_two, by simp [Good, xT, ByteArray.size], by simp [Good, yT, ByteArray.size]⟩, by simp [Good, xT, ByteArray.size]⟩ (c := 0 + (1 + (l.map (oneOf o)).length) + (1 + (keptL l o).length)) ?_ (by have := keptL_len l o; omega)
  have h1 : evalE env 1000 f1F f2F (.two ⟨#[105, 110]⟩ 3 (.name xT 1) (.name yT 6)) 0 = .inr (rowA (l.map (oneOf o)), 0 + (1 + (l.map (oneOf o)).length)) := by
    rw [eval_bin (eval_name hy) (eval_name hx)]
    have : f2F ⟨#[105, 110]⟩ = inP := rfl
    rw [this, in_rows, pay_more rfl (by simp [rowA]; omega) (by omega)]
    rfl
  rw [eval_bin (eval_name hx) h1]
  have : f2F ⟨#[107, 101, 101, 112]⟩ = keepP := rfl
  have hk := keptL_len l o
  rw [this, keep_rows hl, pay_more rfl (by simp [rowA]; omega) (by simp; omega)]
  rfl
theorem line_twice {env : ByteArray → Option Arr} {l : List Int} (he : EnvOk env) (hx : env xT = some (rowA l)) (hl : l.length ≤ 24) : RowSays env [50, 32, 107, 101, 101, 112, 32, 120] (twiceL l) := by
  have nm2 : Nm 2 [50] := Nm.pos [50] (by decide) (by decide) (by decide) (by decide)
  have ht := twiceL_len l
  refine rowSays_of (d := 0) (x := .two ⟨#[107, 101, 101, 112]⟩ 2 (.num [2]) (.name xT 7)) (Tw.two 0 0 [107, 101, 101, 112] _ _ [50] [120] fn2_keep (Tw.row 0 0 [2] [50] (NmRow.one 2 [50] nm2)) (Tw.only _ _ _ _ (Tw.name 0 7 [120] name_x))) (by simp) (by decide) he ⟨keep_two, ⟨by simp, by simp, by intro c hc; simp at hc; subst hc; unfold fit64; omega⟩, by simp [Good, xT, ByteArray.size]⟩ (c := 0 + (1 + (twiceL l).length)) ?_ (by omega)
  have h1 : evalE env 1000 f1F f2F (.num [2]) 0 = .inr (arrOf [2], 0) := by simp only [evalE]
  rw [eval_bin (eval_name hx) h1]
  have : f2F ⟨#[107, 101, 101, 112]⟩ = keepP := rfl
  rw [this, keep_twice hl, pay_more rfl (by simp [rowA]; omega) (by omega)]
  rfl
theorem line_at {env : ByteArray → Option Arr} {l ps : List Int} (he : EnvOk env) (hx : env xT = some (rowA l)) (hp : env pT = some (rowA ps)) (hl : ps.length ≤ 24) (h : ∀ p ∈ ps, 0 ≤ p ∧ p < l.length) : RowSays env [112, 32, 97, 116, 32, 120] (ps.map (atF l)) := by
  refine rowSays_of (d := 0) (x := .two ⟨#[97, 116]⟩ 2 (.name pT 0) (.name xT 5)) (Tw.two 0 0 [97, 116] _ _ [112] [120] fn2_at (Tw.name 0 0 [112] name_p) (Tw.only _ _ _ _ (Tw.name 0 5 [120] name_x))) (by simp) (by decide) he ⟨at_two, by simp [Good, pT, ByteArray.size], by simp [Good, xT, ByteArray.size]⟩ (c := 0 + (1 + (ps.map (atF l)).length)) ?_ (by simp; omega)
  rw [eval_bin (eval_name hx) (eval_name hp)]
  have : f2F ⟨#[97, 116]⟩ = atP := rfl
  rw [this, at_rows h, pay_more rfl (by simp [rowA]; omega) (by omega)]
  rfl
theorem line_out {env : ByteArray → Option Arr} {l : List Int} {n : Int} {t : List UInt8} (he : EnvOk env) (hx : env xT = some (rowA l)) (hn : Nm n t) (hf : fit64 n) (htl : t.length ≤ 20) (h : n < 0 ∨ (l.length : Int) ≤ n) : ∀ S db N, Says (DkE S db env N) db ⟨(t ++ [32, 97, 116, 32, 120]).toArray⟩ 8 ((t.length + 1 : Nat) : Int) [] [] 0 := by
  intro S db N
  refine says_fails (d := 0) (x := .two ⟨#[97, 116]⟩ (t.length + 1) (.num [n]) (.name xT (t.length + 1 + 2 + 1))) (f1 := f1F) (f2 := f2F) ?_ (by simp; omega) (by decide) he ⟨at_two, ⟨by simp, by simp, by intro c hc; simp at hc; subst hc; exact hf⟩, by simp [Good, xT, ByteArray.size]⟩ ?_ (by decide)
  · have := Tw.two 0 0 [97, 116] _ _ t [120] fn2_at (Tw.row 0 0 [n] t (NmRow.one n t hn)) (Tw.only _ _ _ _ (Tw.name 0 (0 + t.length + 1 + 2 + 1) [120] name_x))
    rw [Nat.zero_add] at this
    exact this
  · have h1 : evalE env 1000 f1F f2F (.num [n]) 0 = .inr (arrOf [n], 0) := by simp only [evalE]
    rw [eval_bin (eval_name hx) h1]
    have : f2F ⟨#[97, 116]⟩ = atP := rfl
    rw [this, at_out h]
    rfl
end Go.Proofs.YtjobgpahajhbnaaGreatDoor
namespace Go.Proofs.YtjobgpahajhbnaaGreatDoor
open Go.RowKit Go.Proofs
attribute [local go_sem ↓] Go.wp_at_zero Go.wp_at_succ

theorem step_app2 {ops : Array Oper} {o : Oper} {a : Act} {w : World} {K : Act → World → Prop} {Q : Exit → Act → World → Prop} {E : Prop} (hg : o.guard = none) (s x : Operand) (hop : o.op = Op.call { callee := Callee.builtin Builtin.append, args := #[s, x], argTypes := #[32, 32] }) (hty : o.type = 32)
    {B : Nat} {v : Value} {xs : List Int} (h : OwnL B w v xs) (hx : xs.length ≤ 1000) (hB : B ≤ w.heap.size) (y z : Int) (hs : a.eval s = v) (hv : a.eval x = .slice (some ⟨w.heap.size, 0, none⟩) 2 2)
    (hK : ∀ v' w', OwnL B w' v' (xs ++ [y, z]) → Grew B w v v' w' → K (a.put o.dst v') w') : if Region.wanted o (yielded ops a.tmps) = true then Oper.wp Tryz.prog o a (w.alloc (.cells #[.int .i64 y, .int .i64 z] 2)) K Q else E := by
  have hw : Region.wanted o (yielded ops a.tmps) = true := by simp [Region.wanted, hg]
  rw [if_pos hw]
  obtain ⟨v', w', hrun, h1, h2⟩ := app2 h hx hB y z
  unfold Oper.wp
  simp [execOp, hop, hty, resolve, invoke, builtin, hs, hv, hrun, Result.andThen]
  exact hK v' w' h1 h2
/-- three lists of one's own -/
structure Three (wS wr : World) (v1 v2 v3 : Value) (a b c : List Int) : Prop where
  o1 : OwnL wS.heap.size wr v1 a
  o2 : OwnL wS.heap.size wr v2 b
  o3 : OwnL wS.heap.size wr v3 c
  a12 : Aprt v1 v2
  a13 : Aprt v1 v3
  a23 : Aprt v2 v3
  bel : Below wS.heap.size wS wr
theorem Three.below {wS wr w' : World} {v1 v2 v3 : Value} {a b c : List Int} (h : Three wS wr v1 v2 v3 a b c) (hb : Below wr.heap.size wr w') : Three wS w' v1 v2 v3 a b c := ⟨h.o1.below hb, h.o2.below hb, h.o3.below hb, h.a12, h.a13, h.a23, h.bel.trans (hb.mono h.bel.size)⟩
theorem Three.grow1 {wS wr w' : World} {v1 v2 v3 v' : Value} {a b c a' : List Int} (h : Three wS wr v1 v2 v3 a b c) (ho : OwnL wS.heap.size w' v' a') (hg : Grew wS.heap.size wr v1 v' w') : Three wS w' v' v2 v3 a' b c :=
  ⟨ho, hg.own _ _ h.o2 h.a12.symm, hg.own _ _ h.o3 h.a13.symm, (hg.apart _ _ h.o2 h.a12.symm).symm, (hg.apart _ _ h.o3 h.a13.symm).symm, h.a23, h.bel.trans hg.bel⟩
theorem Three.grow2 {wS wr w' : World} {v1 v2 v3 v' : Value} {a b c b' : List Int} (h : Three wS wr v1 v2 v3 a b c) (ho : OwnL wS.heap.size w' v' b') (hg : Grew wS.heap.size wr v2 v' w') : Three wS w' v1 v' v3 a b' c :=
  ⟨hg.own _ _ h.o1 h.a12, ho, hg.own _ _ h.o3 h.a23.symm, hg.apart _ _ h.o1 h.a12, h.a13, (hg.apart _ _ h.o3 h.a23.symm).symm, h.bel.trans hg.bel⟩
theorem Three.grow3 {wS wr w' : World} {v1 v2 v3 v' : Value} {a b c c' : List Int} (h : Three wS wr v1 v2 v3 a b c) (ho : OwnL wS.heap.size w' v' c') (hg : Grew wS.heap.size wr v3 v' w') : Three wS w' v1 v2 v' a b c' :=
  ⟨hg.own _ _ h.o1 h.a13, hg.own _ _ h.o2 h.a23, ho, h.a12, hg.apart _ _ h.o1 h.a13, hg.apart _ _ h.o2 h.a23, h.bel.trans hg.bel⟩
theorem Three.start (w : World) : Three w w (.slice none 0 0) (.slice none 0 0) (.slice none 0 0) [] [] [] := ⟨OwnL.nil _ _, OwnL.nil _ _, OwnL.nil _ _, Aprt.nil _, Aprt.nil _, Aprt.nil _, Below.refl _ _⟩
theorem oneOf_snoc {o : List Int} {j : Nat} {x : Int} (hj : j < o.length) : oneOf (o.take (j + 1)) x = if o[j] = x then 1 else oneOf (o.take j) x := by
  unfold oneOf
  rw [List.take_succ_eq_append_getElem hj]
  by_cases h : o[j] = x
  · rw [if_pos h, if_pos (by simp [h])]
  · rw [if_neg h]
    have : x ∈ o.take j ++ [o[j]] ↔ x ∈ o.take j := by
      rw [List.mem_append, List.mem_singleton]
      exact ⟨fun hh => hh.elim id (fun e => absurd e.symm h), Or.inl⟩
    simp only [this]
theorem kept_snoc {l o : List Int} {k : Nat} (hk : k < l.length) : keptL (l.take (k + 1)) o = keptL (l.take k) o ++ (if l[k] ∈ o then [l[k]] else []) := by
  rw [List.take_succ_eq_append_getElem hk]
  unfold keptL
  rw [List.filter_append]
  by_cases h : l[k] ∈ o <;> simp [h]
theorem twice_snoc {l : List Int} {k : Nat} (hk : k < l.length) : twiceL (l.take (k + 1)) = twiceL (l.take k) ++ [l[k], l[k]] := by
  rw [List.take_succ_eq_append_getElem hk]
  unfold twiceL
  rw [List.flatMap_append]
  simp
theorem there_snoc {l o : List Int} {k : Nat} (hk : k < l.length) : (l.take (k + 1)).map (oneOf o) = (l.take k).map (oneOf o) ++ [oneOf o l[k]] := by
  rw [List.take_succ_eq_append_getElem hk, List.map_append]
  rfl
theorem KeepS.whole {S : Nat → Prop} {w w' : World} (h : KeepS S w w') {n : Nat} (hn : n ≤ w.heap.size) (hs : ∀ b, 6 ≤ b → b < n → S b) : Below n w w' :=
  ⟨h.os, h.tape, h.output, h.size, fun k hk => Bs.block h k (by omega) (fun hh => hh.1 (hs k hh.2 hk))⟩
end Go.Proofs.YtjobgpahajhbnaaGreatDoor
namespace Go.Proofs.YtjobgpahajhbnaaGreatDoor
open Go.RowKit Go.Proofs
attribute [local go_sem ↓] Go.wp_at_zero Go.wp_at_succ

def env0 : ByteArray → Option Arr := fun _ => none
theorem env0_ok : EnvOk env0 := fun _ _ h => by cases h
theorem desk_new {w : World} (hE : Evs w) : DkE (fun b => 6 ≤ b ∧ b < w.heap.size) w.heap.size env0 0 (w.alloc (.cells #[.int .i64 1000, .map none] 91)) := by
  have h6 : 6 ≤ w.heap.size := hE.1
  refine ⟨fun _ => False, none, ⟨by simp, h6, hE.alloc _, by simp, by simp, World.frozen?_alloc_at _ _ _ _ rfl, fun h => h, rfl⟩, fun b h => absurd h id, fun b h => ⟨h.1, by simp; omega, fun h => h, by omega, fun h => by cases h⟩⟩
def envX (l : List Int) : ByteArray → Option Arr := upd env0 ⟨List.toArray [120]⟩ (rowA l)
def envY (l o : List Int) : ByteArray → Option Arr := upd (envX l) ⟨List.toArray [121]⟩ (rowA o)
def envP (l o p : List Int) : ByteArray → Option Arr := upd (envY l o) ⟨List.toArray [112]⟩ (rowA p)
theorem envY_x (l o : List Int) : envY l o xT = some (rowA l) := by
  unfold envY upd
  rw [if_neg (by decide)]
  unfold envX upd
  rw [if_pos (by decide)]
theorem envY_y (l o : List Int) : envY l o yT = some (rowA o) := by
  unfold envY upd
  rw [if_pos (by decide)]
theorem envP_x (l o p : List Int) : envP l o p xT = some (rowA l) := by
  unfold envP upd
  rw [if_neg (by decide)]
  exact envY_x l o
theorem envP_p (l o p : List Int) : envP l o p pT = some (rowA p) := by
  unfold envP upd
  rw [if_pos (by decide)]
theorem envX_ok {l : List Int} (hl : l.length ≤ 64) (hf : ∀ c ∈ l, fit64 c) : EnvOk (envX l) := env0_ok.upd _ (rowA_ok hl hf)
theorem envY_ok {l o : List Int} (hl : l.length ≤ 64) (hf : ∀ c ∈ l, fit64 c) (hl2 : o.length ≤ 64) (hf2 : ∀ c ∈ o, fit64 c) : EnvOk (envY l o) := (envX_ok hl hf).upd _ (rowA_ok hl2 hf2)
theorem envP_ok {l o p : List Int} (hl : l.length ≤ 64) (hf : ∀ c ∈ l, fit64 c) (hl2 : o.length ≤ 64) (hf2 : ∀ c ∈ o, fit64 c) (hl3 : p.length ≤ 64) (hf3 : ∀ c ∈ p, fit64 c) : EnvOk (envP l o p) := (envY_ok hl hf hl2 hf2).upd _ (rowA_ok hl3 hf3)
/-- isRow of a line that makes no name -/
theorem row_line {env : ByteArray → Option Arr} {t : List UInt8} {cs : List Int} (h : RowSays env t cs) {S : Nat → Prop} {db N : Nat} {w : World} (hD : DkE S db env N w) {Q : Nat → Prop} {v : Value} (hn : Nums Q w v cs) (hl : cs.length ≤ 64) :
    Calls Tryz.prog 19 #[.pointer (some ⟨db, 0, none⟩), .string ⟨t.toArray⟩, v] w fun e w' => e = .returned (.bool true) ∧ Below w.heap.size w w' := by
  obtain ⟨cost, hs⟩ := h
  have hn' := hn
  obtain ⟨ao, cap, rfl, _⟩ := hn
  exact isRow_gen (DkE S db env N) (DkE.lasts S db env N) db _ cs cost (hs S db N) w hD ao cs.length cap hn' (by omega)
theorem fail_line {env : ByteArray → Option Arr} {t : List UInt8} {er pl : Int} (h : ∀ S db N, Says (DkE S db env N) db ⟨t.toArray⟩ er pl [] [] 0) {S : Nat → Prop} {db N : Nat} {w : World} (hD : DkE S db env N w) :
    Calls Tryz.prog 20 #[.pointer (some ⟨db, 0, none⟩), .string ⟨t.toArray⟩, .int .i64 er, .int .i64 pl] w fun e w' => e = .returned (.bool true) ∧ Below w.heap.size w w' :=
  fails_gen (DkE S db env N) (DkE.lasts S db env N) db _ er pl (h S db N) w hD
def thereL (l o : List Int) : List Int := l.map (oneOf o)
theorem thereL_len (l o : List Int) : (thereL l o).length = l.length := by simp [thereL]
theorem numT_any (i : Nat) (hi : i < 100) (w : World) : Calls Tryz.prog 26 #[.int .i64 i] w fun e w' => e = .returned (.string ⟨(Lib.decDigits i).toArray⟩) ∧ w' = w := by
  go_enter Tryz.func26, Tryz.ntmps26
  go_wp2_with (go_at_call 39; refine (Tryz.strconv_FormatInt_10_small i hi _).mono ?_; rintro e w' ⟨rfl, rfl⟩)
  exact bodyPost_ret (v := .string ⟨(Lib.decDigits i).toArray⟩) (by simp [results, Tryz.results26, go_sem]) rfl ⟨rfl, rfl⟩
theorem cat_at (t : List UInt8) : (⟨t.toArray⟩ : ByteArray) ++ ⟨#[32, 97, 116, 32, 120]⟩ = ⟨(t ++ [32, 97, 116, 32, 120]).toArray⟩ := by
  apply ba_ext
  simp
theorem nm_neg1 : Nm (-1) [95, 49] := Nm.neg [49] (by decide) (by decide) (by decide) (by decide)
theorem numT_nm {i : Nat} (h : i < 100) : Nm (i : Int) (Lib.decDigits i) ∧ (Lib.decDigits i).length ≤ 2 := by
  obtain ⟨d1, d2, d3, d4⟩ := dec_nm h
  have := Nm.pos _ d1 d2 (by omega) (by omega)
  rw [d4] at this
  exact ⟨this, d3⟩
set_option maxHeartbeats 4000000 in
set_option maxRecDepth 20000 in
theorem found_law (ao : Option Addr) (n cap : Nat) (xs : List Int) (ao2 : Option Addr) (n2 cap2 : Nat) (ys : List Int) (w : World) (hE : Evs w) (hr : RawIn w ao xs) (hn : xs.length = n) (hlt : 0 < n → ∀ b off, ao = some ⟨b, off, none⟩ → b < w.heap.size) (hr2 : RawIn w ao2 ys) (hn2 : ys.length = n2) (hlt2 : 0 < n2 → ∀ b off, ao2 = some ⟨b, off, none⟩ → b < w.heap.size) :
    Calls Tryz.prog 9 #[.slice ao n cap, .slice ao2 n2 cap2] w fun e w' => e = .returned (.bool true) ∧ Below w.heap.size w w' := by
  have HD1 := hide (desk_new hE)
  obtain ⟨W1, hW1⟩ : ∃ W1, w.alloc (.cells #[.int .i64 1000, .map none] 91) = W1 := ⟨_, rfl⟩
  have hb1 : Below w.heap.size w W1 := by rw [← hW1]; exact (Below.refl _ _).alloc (Nat.le_refl _) _
  rw [hW1] at HD1
  have hr1 : RawIn W1 ao xs := ⟨hr.1, fun h0 => by
    obtain ⟨b, off, e, hc⟩ := hr.2 h0
    exact ⟨b, off, e, fun i hi => (hb1.cell (p := ⟨b, off + i, none⟩) (hlt (by omega) b off e)).trans (hc i hi)⟩⟩
  have HS1 := hide (small_any ao n cap xs 24 (by decide) W1 hr1 hn (fun h0 b off e => Nat.lt_of_lt_of_le (hlt h0 b off e) hb1.size))
  have HS2 : Hid (∀ w', Below w.heap.size w w' → Calls Tryz.prog 22 #[.slice ao2 n2 cap2, .int .i64 (24 : Nat)] w' fun e w'' => ∃ v, e = .returned v ∧ ∃ l, OwnL w'.heap.size w'' v l ∧ l.length ≤ 24 ∧ Few l ∧ Below w'.heap.size w' w'') := hide (fun w' hb => by
    refine small_any ao2 n2 cap2 ys 24 (by decide) w' ⟨hr2.1, fun h0 => ?_⟩ hn2 (fun h0 b off e => Nat.lt_of_lt_of_le (hlt2 h0 b off e) hb.size)
    obtain ⟨b, off, e, hc⟩ := hr2.2 h0
    exact ⟨b, off, e, fun i hi => (hb.cell (p := ⟨b, off + i, none⟩) (hlt2 (by omega) b off e)).trans (hc i hi)⟩)
  have HB1 := hide hb1
  clear hE hr hn hlt hr2 hn2 hlt2 hr1 hb1
  go_enter Tryz.func9, Tryz.ntmps9
  go_wp2_with (go_at_call 15; refine (desk_any _).mono ?_; rintro e w' ⟨rfl, rfl⟩)
  try rw [hW1]
  clear hW1
  refine (unhide HS1).mono ?_
  rintro e w2 ⟨v1, rfl, l, hl1, hl2, hl3, hb2⟩
  obtain ⟨lo, lc, rfl⟩ := hl1.shape
  have HL1 := hide hl1
  have HL3 := hide hl3
  have HB2 : Hid (Below w.heap.size w w2) := hide ((unhide HB1).trans (hb2.mono (unhide HB1).size))
  have HB12 := hide hb2
  clear hl1 hl3 hb2 HS1
  go_wp2_with fail
  refine (unhide HS2 _ (unhide HB2)).mono ?_
  rintro e w3 ⟨v2, rfl, o, ho1, ho2, ho3, hb3⟩
  obtain ⟨oo, oc, rfl⟩ := ho1.shape
  have HO3 := hide ho3
  have HB3 : Hid (Below w.heap.size w w3) := hide ((unhide HB2).trans (hb3.mono (unhide HB2).size))
  have hb13 : Below W1.heap.size W1 w3 := (unhide HB12).trans (hb3.mono (unhide HB12).size)
  have HDk := hide ((unhide HD1).more hb13)
  obtain ⟨S, hS⟩ : ∃ S, (fun b => (6 ≤ b ∧ b < w.heap.size) ∨ (W1.heap.size ≤ b ∧ b < w3.heap.size)) = S := ⟨_, rfl⟩
  have hSl : ∀ b, 6 ≤ b → b < w.heap.size → S b := fun b h1 h2 => by rw [← hS]; exact Or.inl ⟨h1, h2⟩
  rw [hS] at HDk
  have hs12 := (unhide HB12).size
  have hs23 := hb3.size
  have HNL : Hid (Nums S w3 (.slice lo l.length lc) l) := hide (((unhide HL1).nums.imp (Q := S) (fun b h _ => by rw [← hS]; exact Or.inr ⟨h.1, by omega⟩)).below hb3)
  have HNO : Hid (Nums S w3 (.slice oo o.length oc) o) := hide (ho1.nums.imp (Q := S) (fun b h _ => by rw [← hS]; exact Or.inr ⟨by omega, h.2⟩))
  have HSl := hide hSl
  obtain ⟨db, hdb⟩ : ∃ db, w.heap.size = db := ⟨_, rfl⟩
  rw [hdb] at HDk
  have HDB := hide hdb
  have HX := hide (set_any S db env0 0 [120] name_x (by decide) w3 (unhide HDk) (by decide) env0_ok lo l.length lc l (unhide HNL) hl2 (unhide HL3))
  clear ho1 ho3 hb3 hb13 hS hSl HS2 HB12 HD1 hs12 hs23 HL1
  rw [hdb] at HB3 HSl ⊢
  clear HB1 HB2
  go_wp2_with fail
  clear hdb
  refine (unhide HX).mono ?_
  rintro e w4 ⟨rfl, hd4, hk4⟩
  have hsz3 := (unhide HB3).size
  have HB4 : Hid (Below db w w4) := hide ((unhide HB3).trans (hk4.whole (by have := (unhide HDk).low; omega) (unhide HSl)))
  have HNL4 := hide (hk4.nums (unhide HNL) (fun _ h => h))
  have HNO4 := hide (hk4.nums (unhide HNO) (fun _ h => h))
  have HD4 : Hid (DkE S db (envX l) 1 w4) := hide hd4
  have HY := hide (set_any S db (envX l) 1 [121] name_y (by decide) w4 (unhide HD4) (by decide) (envX_ok (by omega) (few_fit (unhide HL3))) oo o.length oc o (unhide HNO4) ho2 (unhide HO3))
  clear hd4 hk4 HX HNL HNO HDk hsz3 HB3
  go_wp2_with fail
  refine (unhide HY).mono ?_
  rintro e wS ⟨rfl, hd5, hk5⟩
  have HB5 : Hid (Below db w wS) := hide ((unhide HB4).trans (hk5.whole (by have := (unhide HD4).low; omega) (unhide HSl)))
  have HNL5 := hide (hk5.nums (unhide HNL4) (fun _ h => h))
  have HNO5 := hide (hk5.nums (unhide HNO4) (fun _ h => h))
  have HD5 : Hid (DkE S db (envY l o) 2 wS) := hide hd5
  clear hd5 hk5 HY HNL4 HNO4 HD4 HB4
  go_wp2_with fail
  go_loopw [9, 10, 11, 12] (fun v9 v10 v11 v12 wr => ∃ k : Nat, v12 = .int .i64 k ∧ k ≤ l.length ∧ Three wS wr v9 v10 v11 (thereL (l.take k) o) (keptL (l.take k) o) (twiceL (l.take k))) (fun _ _ _ v12 _ => l.length - (intOf v12).toNat)
  case atStart => exact ⟨0, rfl, by omega, Three.start wS⟩
  case round =>
    obtain ⟨k, rfl, hk, h3⟩ := hrel
    have H3 := hide h3
    by_cases hkl : k < l.length
    · obtain ⟨_, _, hA⟩ := nums_at (unhide HNL5)
      obtain ⟨lb, lof, rfl, hlb, hlc⟩ := hA (by omega)
      have hS1 : thereL (l.take (k + 1)) o = thereL (l.take k) o ++ [oneOf o l[k]] := there_snoc (l := l) (o := o) hkl
      have hS2 := kept_snoc (l := l) (o := o) hkl
      have hS3 := twice_snoc (l := l) hkl
      obtain ⟨x, hx⟩ : ∃ x, l[k] = x := ⟨_, rfl⟩
      have HCX : Hid (∀ w', Below wS.heap.size wS w' → w'.cell? ⟨lb, lof + k, none⟩ = some (.int .i64 x)) := hide (fun w' hb => by rw [← hx]; exact (hb.cell (p := ⟨lb, lof + k, none⟩) hlb).trans (hlc k hkl))
      have cx := unhide HCX wr h3.bel
      rw [hx] at hS1 hS2 hS3
      have hq1 : (thereL (l.take k) o).length ≤ 24 := by rw [thereL_len]; simp; omega
      have hq2 : (keptL (l.take k) o).length ≤ 24 := by have := keptL_len (l.take k) o; simp at this; omega
      have hq3 : (twiceL (l.take k)).length ≤ 48 := by rw [twiceL_len]; simp; omega
      have HQ1 := hide hq1
      have HQ2 := hide hq2
      have HQ3 := hide hq3
      clear hq1 hq2 hq3
      have HS1 := hide hS1
      have HS2 := hide hS2
      have HS3 := hide hS3
      have hszr := h3.bel.size
      have hlr : lb < wr.heap.size := by omega
      have hk0 : (0 : Int) ≤ (k : Int) := by omega
      have hk1 : (k : Int) < (l.length : Int) := by omega
      clear hA hlc hx hS1 hS2 hS3 h3
      go_wp2_with fail
      go_loopw [13, 14] (fun v13 v14 wx => ∃ j : Nat, v14 = .int .i64 j ∧ j ≤ o.length ∧ v13 = .int .i64 (oneOf (o.take j) x) ∧ Below wr.heap.size wr wx) (fun _ v14 _ => o.length - (intOf v14).toNat)
      case atStart => exact ⟨0, rfl, by omega, by simp [oneOf], Below.refl _ _⟩
      case round =>
        obtain ⟨j, rfl, hj, rfl, hbx⟩ := hrel
        have cx' := (hbx.cell (p := ⟨lb, lof + k, none⟩) hlr).trans cx
        have hszx := hbx.size
        by_cases hjl : j < o.length
        · obtain ⟨_, _, hA⟩ := nums_at (unhide HNO5)
          obtain ⟨ob, oof, rfl, hob, hoc⟩ := hA (by omega)
          have cy := (hbx.cell (p := ⟨ob, oof + j, none⟩) (Nat.lt_of_lt_of_le hob (unhide H3).bel.size)).trans (((unhide H3).bel.cell (p := ⟨ob, oof + j, none⟩) hob).trans (hoc j hjl))
          have hsn := oneOf_snoc (o := o) (j := j) (x := x) hjl
          obtain ⟨y, hy⟩ : ∃ y, o[j] = y := ⟨_, rfl⟩
          rw [hy] at cy hsn
          have HBx := hide hbx
          have hj0 : (0 : Int) ≤ (j : Int) := by omega
          have hj1 : (j : Int) < (o.length : Int) := by omega
          clear hA hoc hy hbx cx
          by_cases hyx : y = x
          · have hyx' : (y == x) = true := by simpa using hyx
            rw [if_pos hyx] at hsn
            have HSN := hide hsn
            clear hyx hsn
            go_wp2_with fail
            go_region
            go_wp2_with fail
            go_roundw
            case rel => exact ⟨j + 1, by go_num, by omega, by rw [unhide HSN], (unhide HBx).drew⟩
            case measure => simp [intOf]; omega
          · have hyx' : (y == x) = false := by simpa using hyx
            rw [if_neg hyx] at hsn
            have HSN := hide hsn
            clear hyx hsn
            go_wp2_with fail
            go_region
            go_wp2_with fail
            go_roundw
            case rel => exact ⟨j + 1, by go_num, by omega, by rw [unhide HSN], (unhide HBx).drew⟩
            case measure => simp [intOf]; omega
        · have hje : j = o.length := by omega
          have hT : o.take j = o := List.take_of_length_le (by omega)
          rw [hT]
          have H4 := hide ((unhide H3).below hbx)
          have hlr2 : lb < wr.heap.size := by omega
          have hj1 : ¬ (j : Int) < (o.length : Int) := by omega
          clear hje hT hbx cx H3
          by_cases hxo : x ∈ o
          · have e1 : oneOf o x = 1 := by simp [oneOf, hxo]
            rw [if_pos hxo] at HS2
            rw [e1] at HS1 ⊢
            clear e1 hxo
            go_wp2_with (at_builtin; refine wpList_app1 rfl _ _ rfl (unhide H4).o1 (by have := unhide HQ1; omega) (unhide H4).bel.size 1 rfl rfl ?_)
            intro v' w4 ho4 hg4
            have H5 := hide ((unhide H4).grow1 ho4 hg4)
            have cx4 := unhide HCX w4 (unhide H5).bel
            clear ho4 hg4 H4 cx'
            go_wp2_with (at_builtin; refine wpList_app1 rfl _ _ rfl (unhide H5).o2 (by have := unhide HQ2; omega) (unhide H5).bel.size x rfl rfl ?_)
            intro v2' w5 ho5 hg5
            have H6 := hide ((unhide H5).grow2 ho5 hg5)
            have cx5 := unhide HCX w5 (unhide H6).bel
            clear ho5 hg5 H5 cx4
            go_wp2_with fail
            go_region_law (refine step_app2 rfl _ _ rfl rfl ((unhide H6).o3.below (Below.refl _ _).drew) (by have := unhide HQ3; omega) (unhide H6).bel.size x x rfl rfl ?_; intro v3' w6 ho6 hg6; have H7 := hide (((unhide H6).below (Below.refl _ _).drew).grow3 ho6 hg6); clear ho6 hg6)
            all_goals
              go_wp2_with fail
              go_roundw
              case rel => exact ⟨k + 1, by go_num, by omega, by rw [unhide HS1, unhide HS2, unhide HS3]; exact unhide H7⟩
              case measure => simp [intOf]; omega
          · have e1 : oneOf o x = 0 := by simp [oneOf, hxo]
            rw [if_neg hxo, List.append_nil] at HS2
            rw [e1] at HS1 ⊢
            clear e1 hxo
            go_wp2_with (at_builtin; refine wpList_app1 rfl _ _ rfl (unhide H4).o1 (by have := unhide HQ1; omega) (unhide H4).bel.size 0 rfl rfl ?_)
            intro v' w4 ho4 hg4
            have H6 := hide ((unhide H4).grow1 ho4 hg4)
            have cx5 := unhide HCX w4 (unhide H6).bel
            clear ho4 hg4 H4 cx'
            go_wp2_with fail
            go_region_law (refine step_app2 rfl _ _ rfl rfl ((unhide H6).o3.below (Below.refl _ _).drew) (by have := unhide HQ3; omega) (unhide H6).bel.size x x rfl rfl ?_; intro v3' w6 ho6 hg6; have H7 := hide (((unhide H6).below (Below.refl _ _).drew).grow3 ho6 hg6); clear ho6 hg6)
            all_goals
              go_wp2_with fail
              go_roundw
              case rel => exact ⟨k + 1, by go_num, by omega, by rw [unhide HS1, unhide HS2, unhide HS3]; exact unhide H7⟩
              case measure => simp [intOf]; omega
    · have hke : k = l.length := by omega
      have hT : l.take k = l := List.take_of_length_le (by omega)
      rw [hT] at H3
      have hk1 : ¬ (k : Int) < (l.length : Int) := by omega
      clear h3 hT hke
      rename World => wL
      have H1 := hide (Three.start wL)
      have HNL6 := hide ((unhide HNL5).below (unhide H3).bel)
      have HNO6 := hide ((unhide HNO5).below (unhide H3).bel)
      go_wp2_with fail
      go_loopw [15, 16, 17] (fun v15 v16 v17 wx => ∃ (k : Nat) (ps : List Int), v17 = .int .i64 k ∧ k ≤ o.length ∧ ps.length = k ∧ (∀ p ∈ ps, 0 ≤ p ∧ p < l.length) ∧ Three wL wx v15 v16 (.slice none 0 0) ps (ps.map (atF l)) []) (fun _ _ v17 _ => o.length - (intOf v17).toNat)
      case atStart => exact ⟨0, [], rfl, by omega, rfl, (fun p h => by cases h), unhide H1⟩
      case round =>
        obtain ⟨k2, ps, rfl, hk2, hps, hpr, h2⟩ := hrel
        have H2 := hide h2
        have HPS := hide hps
        have HPR := hide hpr
        by_cases hgo : k2 < o.length ∧ 0 < l.length
        · obtain ⟨hko, hl0⟩ := hgo
          obtain ⟨_, _, hA⟩ := nums_at (unhide HNL6)
          obtain ⟨lb, lof, rfl, hlb, hlc⟩ := hA (by omega)
          obtain ⟨_, _, hA2⟩ := nums_at (unhide HNO6)
          obtain ⟨ob, oof, rfl, hob, hoc⟩ := hA2 (by omega)
          have cy := (h2.bel.cell (p := ⟨ob, oof + k2, none⟩) hob).trans (hoc k2 hko)
          have hfy := few_fit (unhide HO3) _ (List.getElem_mem hko)
          obtain ⟨y, hy⟩ : ∃ y, o[k2] = y := ⟨_, rfl⟩
          rw [hy] at cy hfy
          have HP := hide (fun w' => pick_any y l.length hfy (by omega) w')
          have HLC : Hid (∀ m, (hm : m < l.length) → ∀ w', Below wL.heap.size wL w' → w'.cell? ⟨lb, lof + m, none⟩ = some (.int .i64 l[m])) := hide (fun m hm w' hb => (hb.cell (p := ⟨lb, lof + m, none⟩) hlb).trans (hlc m hm))
          have i0 : (0 : Int) ≤ (k2 : Int) := by omega
          have i1 : (k2 : Int) < (o.length : Int) := by omega
          have i2 : (0 : Int) < (l.length : Int) := by omega
          clear hA hA2 hlc hoc hy hfy h2 hps hpr
          go_wp2_with fail
          refine (unhide HP _).mono ?_
          rintro e w' ⟨⟨r, rfl, hr0, hr1⟩, rfl⟩
          obtain ⟨m, rfl⟩ : ∃ m : Nat, r = m := ⟨r.toNat, by omega⟩
          have hm : m < l.length := by omega
          clear HP
          go_wp2_with (at_builtin; refine wpList_app1 rfl _ _ rfl (unhide H2).o1 (by have := unhide HPS; omega) (unhide H2).bel.size (m : Int) rfl rfl ?_)
          intro v' w4 ho4 hg4
          have H5 := hide ((unhide H2).grow1 ho4 hg4)
          have cm := unhide HLC m hm w4 (unhide H5).bel
          have HAt : Hid (atF l (m : Int) = l[m]) := hide (by simp [atF, List.getD_eq_getElem?_getD, hm])
          obtain ⟨x, hx⟩ : ∃ x, l[m] = x := ⟨_, rfl⟩
          rw [hx] at cm HAt
          clear ho4 hg4 H2 hx cy
          go_wp2_with (at_builtin; refine wpList_app1 rfl _ _ rfl (unhide H5).o2 (by have := unhide HPS; simp; omega) (unhide H5).bel.size x rfl rfl ?_)
          intro v2' w5 ho5 hg5
          have H6 := hide ((unhide H5).grow2 ho5 hg5)
          clear ho5 hg5 H5 cm
          go_wp2_with fail
          go_roundw
          case rel => exact ⟨k2 + 1, ps ++ [(m : Int)], by go_num, by omega, by simp [unhide HPS], (by
            intro p hp
            rcases List.mem_append.1 hp with h | h
            · exact unhide HPR p h
            · simp at h; subst h; omega), (by
            have e : (ps ++ [(m : Int)]).map (atF l) = ps.map (atF l) ++ [x] := by rw [List.map_append, List.map_cons, unhide HAt]; rfl
            rw [e]
            exact unhide H6)⟩
          case measure => simp [intOf]; omega
        · have hcase : o.length ≤ k2 ∨ (k2 < o.length ∧ l.length = 0) := by omega
          have hbL : Below wS.heap.size wS wr := (unhide H3).bel.trans (h2.bel.mono (unhide H3).bel.size)
          have hsL := (unhide H3).bel.size
          have hsR := h2.bel.size
          obtain ⟨S2, hS2⟩ : ∃ S2, (fun b => S b ∨ (wS.heap.size ≤ b ∧ b < wr.heap.size)) = S2 := ⟨_, rfl⟩
          have HD7 := hide ((unhide HD5).more hbL)
          rw [hS2] at HD7
          have HN9 : Hid (Nums S2 wr u9 (thereL l o)) := hide (((unhide H3).o1.nums.imp (Q := S2) (fun b h _ => by rw [← hS2]; exact Or.inr ⟨h.1, by omega⟩)).below h2.bel)
          have HN10 : Hid (Nums S2 wr u10 (keptL l o)) := hide (((unhide H3).o2.nums.imp (Q := S2) (fun b h _ => by rw [← hS2]; exact Or.inr ⟨h.1, by omega⟩)).below h2.bel)
          have HN11 : Hid (Nums S2 wr u11 (twiceL l)) := hide (((unhide H3).o3.nums.imp (Q := S2) (fun b h _ => by rw [← hS2]; exact Or.inr ⟨h.1, by omega⟩)).below h2.bel)
          have HN15 : Hid (Nums S2 wr u15 ps) := hide (h2.o1.nums.imp (Q := S2) (fun b h _ => by rw [← hS2]; exact Or.inr ⟨by omega, h.2⟩))
          have HN16 : Hid (Nums S2 wr u16 (ps.map (atF l))) := hide (h2.o2.nums.imp (Q := S2) (fun b h _ => by rw [← hS2]; exact Or.inr ⟨by omega, h.2⟩))
          have HSl2 : Hid (∀ b, 6 ≤ b → b < db → S2 b) := hide (fun b h1 h2 => by rw [← hS2]; exact Or.inl (unhide HSl b h1 h2))
          have HB7 : Hid (Below db w wr) := hide ((unhide HB5).trans (hbL.mono (by have := (unhide HD5).low; omega)))
          obtain ⟨po, pc, rfl⟩ := h2.o1.shape
          have hfl := few_fit (unhide HL3)
          have hfo := few_fit (unhide HO3)
          have hoY : EnvOk (envY l o) := envY_ok (by omega) hfl (by omega) hfo
          have hfp : Few ps := fun p hp => by have := hpr p hp; omega
          have hpl : ps.length ≤ 24 := by omega
          have HR1 : Hid (RowSays (envY l o) [120, 32, 105, 110, 32, 121] (thereL l o)) := hide (line_in hoY (envY_x l o) (envY_y l o) hl2)
          have HR2 := hide (line_keep hoY (envY_x l o) (envY_y l o) hl2)
          have HR3 := hide (line_twice hoY (envY_x l o) hl2)
          have hoP : EnvOk (envP l o ps) := envP_ok (by omega) hfl (by omega) hfo (by omega) (few_fit hfp)
          have HR4 := hide (line_at hoP (envP_x l o ps) (envP_p l o ps) hpl hpr)
          obtain ⟨hnm, hnl⟩ := numT_nm (i := l.length) (by omega)
          have hr5 := line_out hoP (envP_x l o ps) hnm (by unfold fit64; omega) (by omega) (Or.inr (Int.le_refl _))
          have hr6 := line_out hoP (envP_x l o ps) nm_neg1 (by unfold fit64; omega) (by decide) (Or.inl (by decide))
          have HZ1 : Hid (∀ w', DkE S2 db (envP l o ps) 3 w' → Calls Tryz.prog 20 #[.pointer (some ⟨db, 0, none⟩), .string ((⟨(Lib.decDigits l.length).toArray⟩ : ByteArray) ++ ⟨#[32, 97, 116, 32, 120]⟩), .int .i64 8, .int .i64 (((Lib.decDigits l.length).length : Int) + 1)] w' fun e w'' => e = .returned (.bool true) ∧ Below w'.heap.size w' w'') := hide (fun w' hD => by
            have := fail_line hr5 hD
            rw [cat_at]
            simpa using this)
          have HZ2 : Hid (∀ w', DkE S2 db (envP l o ps) 3 w' → Calls Tryz.prog 20 #[.pointer (some ⟨db, 0, none⟩), .string ⟨#[95, 49, 32, 97, 116, 32, 120]⟩, .int .i64 8, .int .i64 3] w' fun e w'' => e = .returned (.bool true) ∧ Below w'.heap.size w' w'') := hide (fun w' hD => fail_line hr6 hD)
          have HOY := hide hoY
          have HFP := hide hfp
          have HNUM := hide (fun w' => numT_any l.length (by omega) w')
          have HK1 : Hid ((thereL l o).length ≤ 64) := hide (by rw [thereL_len]; omega)
          have HK2 : Hid ((keptL l o).length ≤ 64) := hide (by have := keptL_len l o; omega)
          have HK3 : Hid ((twiceL l).length ≤ 64) := hide (by rw [twiceL_len]; omega)
          have HK4 : Hid ((ps.map (atF l)).length ≤ 64) := hide (by simp; omega)
          have hcase' : ¬ (k2 : Int) < (o.length : Int) ∨ ((k2 : Int) < (o.length : Int) ∧ ¬ (0 : Int) < (l.length : Int)) := by omega
          clear h2 hps hpr hgo hcase hbL hsL hsR hS2 hfl hfo hoY hfp hoP hnm hr5 hr6 H3 H2 HSl HB5 HD5 HNL5 HNO5 HNL6 HNO6 H1 HPR HPS
          rcases hcase' with i1 | ⟨i1, i2⟩
          all_goals
            go_wp2_with fail
            refine (row_line (unhide HR1) (unhide HD7) (unhide HN9) (unhide HK1)).mono ?_
            rintro e w8 ⟨rfl, hb8⟩
            have HD8 := hide ((unhide HD7).below hb8)
            have HB8 : Hid (Below db w w8) := hide ((unhide HB7).trans (hb8.mono (by have := (unhide HD7).low; omega)))
            have HN10' := hide ((unhide HN10).below hb8)
            have HN11' := hide ((unhide HN11).below hb8)
            have HN15' := hide ((unhide HN15).below hb8)
            have HN16' := hide ((unhide HN16).below hb8)
            clear hb8 HD7 HB7 HN9 HN10 HN11 HN15 HN16 HR1 HK1
            go_wp2_with fail
            refine (row_line (unhide HR2) (unhide HD8) (unhide HN10') (unhide HK2)).mono ?_
            rintro e w9 ⟨rfl, hb9⟩
            have HD9 := hide ((unhide HD8).below hb9)
            have HB9 : Hid (Below db w w9) := hide ((unhide HB8).trans (hb9.mono (by have := (unhide HD8).low; omega)))
            have HN11 := hide ((unhide HN11').below hb9)
            have HN15 := hide ((unhide HN15').below hb9)
            have HN16 := hide ((unhide HN16').below hb9)
            clear hb9 HD8 HB8 HN10' HN11' HN15' HN16' HR2 HK2
            go_wp2_with fail
            refine (row_line (unhide HR3) (unhide HD9) (unhide HN11) (unhide HK3)).mono ?_
            rintro e w10 ⟨rfl, hb10⟩
            have HD10 := hide ((unhide HD9).below hb10)
            have HB10 : Hid (Below db w w10) := hide ((unhide HB9).trans (hb10.mono (by have := (unhide HD9).low; omega)))
            have HN15' := hide ((unhide HN15).below hb10)
            have HN16' := hide ((unhide HN16).below hb10)
            clear hb10 HD9 HB9 HN11 HN15 HN16 HR3 HK3
            go_wp2_with fail
            refine (set_any S2 db (envY l o) 2 [112] name_p (by decide) w10 (unhide HD10) (by decide) (unhide HOY) po ps.length pc ps (unhide HN15') hpl (unhide HFP)).mono ?_
            rintro e w11 ⟨rfl, hd11, hk11⟩
            have HD11 : Hid (DkE S2 db (envP l o ps) 3 w11) := hide hd11
            have HB11 : Hid (Below db w w11) := hide ((unhide HB10).trans (hk11.whole (by have := (unhide HD10).low; omega) (unhide HSl2)))
            have HN16 := hide (hk11.nums (unhide HN16') (fun _ h => h))
            clear hd11 hk11 HD10 HB10 HN15' HN16' HFP HOY
            go_wp2_with fail
            refine (row_line (unhide HR4) (unhide HD11) (unhide HN16) (unhide HK4)).mono ?_
            rintro e w12 ⟨rfl, hb12⟩
            have HD12 := hide ((unhide HD11).below hb12)
            have HB12 : Hid (Below db w w12) := hide ((unhide HB11).trans (hb12.mono (by have := (unhide HD11).low; omega)))
            clear hb12 HD11 HB11 HN16 HR4 HK4
            go_wp2_with (go_at_call 26; refine (unhide HNUM _).mono ?_; rintro e w' ⟨rfl, rfl⟩)
            refine (unhide HZ1 _ (unhide HD12)).mono ?_
            rintro e w13 ⟨rfl, hb13⟩
            have HD13 := hide ((unhide HD12).below hb13)
            have HB13 : Hid (Below db w w13) := hide ((unhide HB12).trans (hb13.mono (by have := (unhide HD12).low; omega)))
            clear hb13 HD12 HB12 HZ1
            go_wp2_with fail
            refine (unhide HZ2 _ (unhide HD13)).mono ?_
            rintro e w14 ⟨rfl, hb14⟩
            have HB14 : Hid (Below db w w14) := hide ((unhide HB13).trans (hb14.mono (by have := (unhide HD13).low; omega)))
            clear hb14 HD13 HB13 HZ2
            go_wp2_with fail
            exact bodyPost_ret (v := .bool true) (by simp [results, Tryz.results9, go_sem]) rfl ⟨rfl, by rw [unhide HDB]; exact unhide HB14⟩
end Go.Proofs.YtjobgpahajhbnaaGreatDoor
