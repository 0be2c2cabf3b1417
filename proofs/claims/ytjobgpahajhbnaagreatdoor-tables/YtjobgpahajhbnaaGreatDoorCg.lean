import Derived.Test.YtjobgpahajhbnaaGreatDoorCe
import Derived.Test.YtjobgpahajhbnaaGreatDoorTe
import Derived.Deep.CutRange
import Derived.Test.YtjobgpahajhbnaaGreatDoorJb
import Derived.Test.YtjobgpahajhbnaaGreatDoorKg
import Derived.Test.YtjobgpahajhbnaaGreatDoorTa
import Derived.RangeFuncNested
import Derived.RangeFuncBound
import Derived.RangeFuncCalls
import Derived.RangeFuncLeaves
import Derived.RangeFuncBox
import Derived.RangeFuncFrom
import Derived.Shelf.Abstract
import Derived.Shelf.RegionOpen
import Derived.WalkKit
import Derived.OwnWalkIn
import Derived.TacticsInMore
import Derived.LoopNIn
import Derived.LoopIn
import Derived.Shelf.SlicesE.Reverse
import Derived.Ground.SlgnProg
namespace Go.Proofs.YtjobgpahajhbnaaGreatDoor
open Go.RowKit Go.Proofs
attribute [local go_sem ↓] Go.wp_at_zero Go.wp_at_succ

/-- block g holds these numbers -/
structure Rw (w : World) (g : Nat) (xs : List Int) : Prop where
  lt : g < w.heap.size
  cell : ∀ p x, xs[p]? = some x → w.cell? ⟨g, p, none⟩ = some (.int .i64 x)
  fr : ∀ p, w.frozen? ⟨g, p, none⟩ = false
theorem Rw.below {w w' : World} {g : Nat} {xs : List Int} (h : Rw w g xs) (hb : Below w.heap.size w w') : Rw w' g xs :=
  ⟨Nat.lt_of_lt_of_le h.lt hb.size, fun p x hp => (hb.cell (p := ⟨g, p, none⟩) h.lt).trans (h.cell p x hp), fun p => (hb.frozen (p := ⟨g, p, none⟩) h.lt).trans (h.fr p)⟩
theorem Rw.set {w : World} {g : Nat} {xs : List Int} (h : Rw w g xs) {p : Nat} (hp : p < xs.length) (x : Int) : Rw (w.setCell ⟨g, p, none⟩ (.int .i64 x)) g (xs.set p x) := by
  refine ⟨by simpa using h.lt, fun q y hq => ?_, fun q => (World.frozen?_setCell ..).trans (h.fr q)⟩
  by_cases e : q = p
  · subst e
    rw [List.getElem?_set_self hp] at hq
    rw [← Option.some.inj hq]
    exact World.cell?_setCell_same _ _ _ (h.cell q _ (List.getElem?_eq_getElem hp))
  · rw [World.cell?_setCell_other _ _ _ _ (by intro h; injection h with _ e2; exact e e2.symm)]
    rw [List.getElem?_set_ne (fun h => e h.symm)] at hq
    exact h.cell q y hq
theorem Rw.nums {P : Nat → Prop} {w : World} {g : Nat} {xs : List Int} (h : Rw w g xs) (hP : P g) {n : Nat} (hn : xs.length = n) : Nums P w (.slice (some ⟨g, 0, none⟩) n n) xs := by
  subst hn
  exact ⟨_, _, rfl, Nat.le_refl _, fun _ => ⟨g, 0, rfl, hP, h.lt, fun i hi => by rw [Nat.zero_add]; exact h.cell i _ (List.getElem?_eq_getElem hi)⟩, fun a e => by cases e; rfl⟩
theorem Bx.bs {W w w' : World} {l : List (List Value)} {g : Nat} (h : Bx W w l) (hb : Bs (fun b => b = g) w w') (hg : W.heap.size + l.length ≤ g) : Bx W w' l :=
  h.keep ⟨hb.os, hb.tape, hb.output, hb.size, fun k hk => by have hk : k < W.heap.size + l.length := hk; exact hb.block k (Nat.lt_of_lt_of_le hk h.lt) (fun (e : k = g) => by omega)⟩
theorem bs_set {g p : Nat} {w w1 : World} (h : Bs (fun b => b = g) w w1) (v : Value) : Bs (fun b => b = g) w (w1.setCell ⟨g, p, none⟩ v) :=
  ⟨h.os, h.tape, h.output, by simpa using h.size, fun k hk hne => (RowKit.Below.heap_setCell _ _ _ _ (by intro e; exact hne e)).trans (h.block k hk hne)⟩
theorem put_two {w : World} {b : Nat} {u0 u1 : Value} (h0 : w.cell? ⟨b, 0, none⟩ = some u0) (h1 : w.cell? ⟨b, 1, none⟩ = some u1) (v0 v1 : Value) : ((w.setCell ⟨b, 0, none⟩ v0).setCell ⟨b, 1, none⟩ v1).cell? ⟨b, 0, none⟩ = some v0 ∧ ((w.setCell ⟨b, 0, none⟩ v0).setCell ⟨b, 1, none⟩ v1).cell? ⟨b, 1, none⟩ = some v1 :=
  ⟨(World.cell?_setCell_other _ _ _ _ (by simp)).trans (World.cell?_setCell_same _ _ _ h0), World.cell?_setCell_same _ _ _ (u := u1) ((World.cell?_setCell_other _ _ _ _ (by simp)).trans h1)⟩
end Go.Proofs.YtjobgpahajhbnaaGreatDoor
namespace Go.Proofs.YtjobgpahajhbnaaGreatDoor
open Go.RowKit Go.Proofs Go.Maps
attribute [local go_sem ↓] Go.wp_at_zero Go.wp_at_succ

theorem Tryz.full235 (h : Nat) (w : World) : (binOp .eql 235 (.func (.func h) #[] #[]) .nilFunc).run Tryz.prog w = .ok (.bool false) w := by kernel_rfl
set_option maxHeartbeats 2000000 in
set_option maxRecDepth 20000 in
theorem find_form {t : ByteArray} {k1 ks : Lit} {h g : Nat} {z : Int} (h1 : 1 ≤ t.size) (hk1 : keyOf Tryz.prog 9 (.string (t.extract 1 t.size)) = some k1) (ha1 : formsOneD.atKey k1 (.held .nilFunc) = .held (.func (.func h) #[] #[])) (hks : keyOf Tryz.prog 9 (.string (t.extract 0 1)) = some ks) (has : signsD.atKey ks (.held zSign) = .held (.agg #[.func (.func g) #[] #[], .int .i64 z])) (w : World) :
    Calls Tryz.prog 109 #[.string t] w fun e w' => ∃ b3 b4, e = .returned (.func (.func 155) #[] #[.pointer (some ⟨b3, 0, none⟩), .pointer (some ⟨b4, 0, none⟩)]) ∧ w'.cell? ⟨b3, 0, none⟩ = some (.func (.func h) #[] #[]) ∧ b3 < w'.heap.size ∧ w'.cell? ⟨b4, 0, none⟩ = some (.func (.func g) #[] #[]) ∧ w'.cell? ⟨b4, 1, none⟩ = some (.int .i64 z) ∧ b4 < w'.heap.size ∧ Below w.heap.size w w' := by
  have HL1 : Hid (∀ w' b, w'.ownsMap Tryz.prog 9 selfE b 2 formsOneD → (Instr.lookup 236 (.map (some b)) (.string (t.extract 1 t.size)) false).run Tryz.prog w' = .ok (.func (.func h) #[] #[]) w') := hide (fun w' b h => look_self0 Tryz.underlying236 (Tryz.zero235 w') h hk1 ha1)
  have HL2 : Hid (∀ w' b, w'.ownsMap Tryz.prog 9 selfE b 9 signsD → (Instr.lookup 242 (.map (some b)) (.string (t.extract 0 1)) false).run Tryz.prog w' = .ok (.agg #[.func (.func g) #[] #[], .int .i64 z]) w') := hide (fun w' b h => look_self0 Tryz.underlying242 (Tryz.zero241 w') h hks has)
  have hnn := Tryz.full235 h
  clear hk1 ha1 hks has
  go_enter Tryz.func109, Tryz.ntmps109
  go_upto_region 1 with fail
  go_cut [3] from 5 to 8 (fun v3 wx => ∃ b3, v3 = .pointer (some ⟨b3, 0, none⟩) ∧ wx.cell? ⟨b3, 0, none⟩ = some (.func (.func h) #[] #[]) ∧ b3 < wx.heap.size ∧ Below w.heap.size w wx)
  case first =>
    go_region_with (first | (go_at_call 152; refine (formsOne_any _).mono ?_; rintro e w1 ⟨rfl, ho, hb⟩; have hl := unhide HL1 _ w.heap.size (by exact ho); have hl3 := unhide HL1 (w1.alloc (.cells #[.nilFunc] 235)) w.heap.size (World.ownsMap.alloc (by exact ho) _); have HB := hide hb; obtain ⟨hc, hf⟩ := bcell hb; have hs := hb.size; (try simp at hs); (try have hs2 : w.heap.size < w1.heap.size := by omega); clear ho hb) | (go_at_call 152; refine (formsOne_any _).mono ?_; rintro e w1 ⟨rfl, ho, hb⟩; have hl : (Instr.lookup 236 (.map (some (w.heap.size + 1))) (.string (t.extract 1 t.size)) false).run Tryz.prog w1 = .ok (.func (.func h) #[] #[]) w1 := (by have := unhide HL1 _ _ ho; simpa [World.drew] using this); have HB := hide hb; obtain ⟨hc, hf⟩ := bcell hb; have hs := hb.size; (try simp at hs); (try have hs2 : w.heap.size < w1.heap.size := by omega); clear ho hb))
    all_goals go_wp2_with fail
    all_goals go_meet
    all_goals first
      | exact ⟨w1.heap.size, rfl, (World.cell?_alloc_at _ _ _ _ rfl).trans rfl, by simp, (below_drew (unhide HB)).alloc (below_drew (unhide HB)).size _⟩
      | exact ⟨w.heap.size, rfl, World.cell?_setCell_same _ _ _ (u := .nilFunc) ((hc w.heap.size 0 (by simp)).trans ((World.cell?_alloc_at _ _ _ _ rfl).trans rfl)), by simp; omega, ((((Below.refl w.heap.size w).alloc (Nat.le_refl _) _).drew.trans ((unhide HB).mono (by simp))).setCell (p := ⟨w.heap.size, 0, none⟩) (Nat.le_refl _) _)⟩
      | (trace_state; fail)
  case rest =>
    obtain ⟨b3, rfl, c3, l3, hb3⟩ := hcut
    rename World => wc
    have HB3 := hide hb3
    clear hb3
    go_upto_region 4 with fail
    go_cut [4] from 14 to 17 (fun v4 wx => ∃ b4, v4 = .pointer (some ⟨b4, 0, none⟩) ∧ wx.cell? ⟨b4, 0, none⟩ = some (.func (.func g) #[] #[]) ∧ wx.cell? ⟨b4, 1, none⟩ = some (.int .i64 z) ∧ b4 < wx.heap.size ∧ Below wc.heap.size wc wx)
    case first =>
      go_region_with (first | (go_at_call 154; refine (signs_any _).mono ?_; rintro e w1 ⟨rfl, ho, hb⟩; have hl := unhide HL2 _ wc.heap.size (by exact ho); have hl3 := unhide HL2 (w1.alloc (.cells #[.nilFunc, .int .i64 0] 241)) wc.heap.size (World.ownsMap.alloc (by exact ho) _); have HB := hide hb; obtain ⟨hc, hf⟩ := bcell hb; have hs := hb.size; (try simp at hs); (try have hs2 : wc.heap.size < w1.heap.size := by omega); clear ho hb) | (go_at_call 154; refine (signs_any _).mono ?_; rintro e w1 ⟨rfl, ho, hb⟩; have hl : (Instr.lookup 242 (.map (some (wc.heap.size + 1))) (.string (t.extract 0 1)) false).run Tryz.prog w1 = .ok (.agg #[.func (.func g) #[] #[], .int .i64 z]) w1 := (by have := unhide HL2 _ _ ho; simpa [World.drew] using this); have HB := hide hb; obtain ⟨hc, hf⟩ := bcell hb; have hs := hb.size; (try simp at hs); (try have hs2 : wc.heap.size < w1.heap.size := by omega); clear ho hb))
      all_goals go_wp2_with fail
      all_goals go_meet
      all_goals first
        | exact ⟨w1.heap.size, rfl, (World.cell?_alloc_at _ _ _ _ rfl).trans rfl, (World.cell?_alloc_at _ _ _ _ rfl).trans rfl, by simp, (below_drew (unhide HB)).alloc (below_drew (unhide HB)).size _⟩
        | exact ⟨wc.heap.size, rfl, (World.cell?_setCell_other _ _ _ _ (by simp)).trans (World.cell?_setCell_same _ _ _ (u := .nilFunc) ((hc wc.heap.size 0 (by simp)).trans ((World.cell?_alloc_at _ _ _ _ rfl).trans rfl))), World.cell?_setCell_same _ _ _ (u := .int .i64 0) ((World.cell?_setCell_other _ _ _ _ (by simp)).trans ((hc wc.heap.size 1 (by simp)).trans ((World.cell?_alloc_at _ _ _ _ rfl).trans rfl))), by simp; omega, (((((Below.refl wc.heap.size wc).alloc (Nat.le_refl _) _).drew.trans ((unhide HB).mono (by simp))).setCell (p := ⟨wc.heap.size, 0, none⟩) (Nat.le_refl _) _).setCell (p := ⟨wc.heap.size, 1, none⟩) (Nat.le_refl _) _)⟩
        | (trace_state; fail)
    case rest =>
      obtain ⟨b4, rfl, c4, c5, l4, hb4⟩ := hcut
      rename World => wd
      have HB4 := hide hb4
      clear hb4
      go_wp2_with fail
      exact bodyPost_ret (v := .func (.func 155) #[] #[.pointer (some ⟨b3, 0, none⟩), .pointer (some ⟨b4, 0, none⟩)]) (by simp [results, Tryz.results109, go_sem]) rfl ⟨b3, b4, rfl, ((unhide HB4).cell (p := ⟨b3, 0, none⟩) l3).trans c3, Nat.lt_of_lt_of_le l3 (unhide HB4).size, c4, c5, l4, (unhide HB3).trans ((unhide HB4).mono (unhide HB3).size)⟩
end Go.Proofs.YtjobgpahajhbnaaGreatDoor
namespace Go.Proofs.YtjobgpahajhbnaaGreatDoor
open Go.RowKit Go.Proofs
attribute [local go_sem ↓] Go.wp_at_zero Go.wp_at_succ

theorem NmRow.snoc {ns : List Int} {u : List UInt8} (h : NmRow ns u) {n : Int} {t : List UInt8} (hn : Nm n t) : NmRow (ns ++ [n]) (u ++ (32 :: t)) := by
  induction h with
  | one m s hm => exact NmRow.more m s [n] t hm (NmRow.one n t hn)
  | more m s ms v hm hms ih =>
    have := NmRow.more m s (ms ++ [n]) (v ++ (32 :: t)) hm ih
    simpa using this
/-- numbers, each behind a blank -/
def Tail (l : List Int) (t : List UInt8) : Prop := (l = [] ∧ t = []) ∨ ∃ u, t = 32 :: u ∧ NmRow l u
theorem Tail.snoc {l : List Int} {t : List UInt8} (h : Tail l t) {n : Int} {s : List UInt8} (hn : Nm n s) : Tail (l ++ [n]) (t ++ (32 :: s)) := by
  rcases h with ⟨rfl, rfl⟩ | ⟨u, rfl, hu⟩
  · exact Or.inr ⟨s, rfl, NmRow.one n s hn⟩
  · exact Or.inr ⟨u ++ (32 :: s), rfl, hu.snoc hn⟩
/-- what row writes -/
def RowT (l : List Int) (t : List UInt8) : Prop := (l = [] ∧ t = 40 :: ([105, 111, 116, 97, 32, 48] ++ [41])) ∨ ∃ u, t = 40 :: (([114, 97, 118, 101, 108] ++ (32 :: u)) ++ [41]) ∧ NmRow l u ∧ u.length ≤ 4 * l.length
theorem cat1 (t s : List UInt8) : (⟨t.toArray⟩ : ByteArray) ++ ⟨#[32]⟩ ++ ⟨s.toArray⟩ = ⟨(t ++ (32 :: s)).toArray⟩ := by
  apply ba_ext
  simp
set_option maxHeartbeats 1000000 in
set_option maxRecDepth 20000 in
theorem rowText_any {Q : Nat → Prop} (w : World) (ao : Option Addr) (n cap : Nat) (l : List Int) (hn : Nums Q w (.slice ao n cap) l) (hl : l.length ≤ 30) (hf : Few l) :
    Calls Tryz.prog 27 #[.slice ao n cap] w fun e w' => (∃ t, e = .returned (.string ⟨List.toArray t⟩) ∧ RowT l t) ∧ w' = w := by
  obtain ⟨rfl, _, hc⟩ := nums_at hn
  by_cases h0 : l.length = 0
  · have h0' : ((l.length : Int) == 0) = true := by rw [h0]; rfl
    have HE := hide (List.eq_nil_of_length_eq_zero h0)
    clear hn hc h0
    go_enter Tryz.func27, Tryz.ntmps27
    go_wp2
    exact bodyPost_ret (v := .string ⟨(40 :: ([105, 111, 116, 97, 32, 48] ++ [41])).toArray⟩) (by simp [results, Tryz.results27, go_sem]) rfl ⟨⟨_, rfl, Or.inl ⟨unhide HE, rfl⟩⟩, rfl⟩
  · have h0' : ((l.length : Int) == 0) = false := by rw [beq_eq_false_iff_ne]; omega
    obtain ⟨b, off, rfl, hb, hcell⟩ := hc (by omega)
    have HC := hide hcell
    have HF := hide hf
    clear hn hc hcell hf
    go_enter Tryz.func27, Tryz.ntmps27
    go_wp2_with fail
    go_loopw [3, 4] (fun v3 v4 wr => ∃ (k : Nat) (t : List UInt8), v4 = .int .i64 k ∧ k ≤ l.length ∧ v3 = .string ⟨t.toArray⟩ ∧ Tail (l.take k) t ∧ t.length ≤ 4 * k ∧ wr = w) (fun _ v4 _ => l.length - (intOf v4).toNat)
    case atStart => exact ⟨0, [], rfl, by omega, rfl, Or.inl ⟨rfl, rfl⟩, by simp, rfl⟩
    case round =>
      obtain ⟨k, t, rfl, hk, rfl, hT, htl, rfl⟩ := hrel
      have HT := hide hT
      clear hT
      by_cases hkl : k < l.length
      · have c0 := unhide HC k hkl
        have hx := unhide HF _ (List.getElem_mem hkl)
        have HTk : Hid (l.take (k + 1) = l.take k ++ [l[k]]) := hide (by rw [List.take_succ_eq_append_getElem hkl])
        obtain ⟨x, hxe⟩ : ∃ x, l[k] = x := ⟨_, rfl⟩
        rw [hxe] at c0 hx HTk
        have HN := hide (fun w' => num_any x (by omega) w')
        have hk0 : (0 : Int) ≤ (k : Int) := by omega
        have hk1 : (k : Int) < (l.length : Int) := by omega
        clear hxe hx
        go_wp2_with fail
        refine (unhide HN _).mono ?_
        rintro e w' ⟨⟨s, rfl, hs, hsl⟩, rfl⟩
        have HS := hide hs
        clear hs
        go_wp2_with fail
        go_roundw
        case rel => exact ⟨k + 1, t ++ (32 :: s), by go_num, by omega, by rw [cat1], by rw [unhide HTk]; exact (unhide HT).snoc (unhide HS), by simp; omega, (by first | rfl | trivial)⟩
        case measure => simp [intOf]; omega
      · have hke : k = l.length := by omega
        subst hke
        go_wp2_with fail
        refine bodyPost_ret (v := .string ⟨([40, 114, 97, 118, 101, 108] ++ t ++ [41]).toArray⟩) (by simp [results, Tryz.results27, go_sem]; apply ba_ext; simp) rfl ⟨⟨_, rfl, Or.inr ?_⟩, rfl⟩
        have hT := unhide HT
        rw [List.take_of_length_le (Nat.le_refl _)] at hT
        rcases hT with ⟨rfl, _⟩ | ⟨u, rfl, hu⟩
        · exact absurd rfl h0
        · exact ⟨u, by simp, hu, by simp at htl; omega⟩
theorem tl_iota (r : List UInt8) : tl ([105, 111, 116, 97] ++ (32 :: r)) = some 4 := by
  have h : ([105, 111, 116, 97] ++ (32 :: r)).takeWhile lU = [105, 111, 116, 97] := rfl
  have hf : isFn [105, 111, 116, 97] = true := by decide +kernel
  show wrdE ([105, 111, 116, 97] ++ (32 :: r)) = some 4
  unfold wrdE
  rw [h]
  simp [hf]
theorem fn1_iota : Fn1 [105, 111, 116, 97] := ⟨⟨105, [111, 116, 97], rfl, by decide, by decide⟩, tl_iota, by decide +kernel, by decide +kernel⟩
theorem stop_take {c : UInt8} (hc : lU c = true) {r : List UInt8} (hr : StopN r) : ([c] ++ r).takeWhile lU = [c] := by
  cases r with
  | nil => simp [hc]
  | cons d r =>
    have : lU d = false := hr d rfl
    simp [hc, this]
theorem name1 {c : UInt8} (hl : lU c = true) (h32 : c ≠ 32) (ht : tailU c = false) (hf : isFn [c] = false) (hk : kindT ⟨#[c]⟩ = 1) (hr : roleT ⟨#[c]⟩ = 0) (htl : ∀ r, tl ([c] ++ r) = wrdE ([c] ++ r)) : NameT [c] := by
  refine ⟨⟨c, [], rfl, h32, ht⟩, fun r hr => ?_, hk, hr⟩
  rw [htl]
  unfold wrdE
  rw [stop_take hl hr]
  simp [hf]
end Go.Proofs.YtjobgpahajhbnaaGreatDoor
namespace Go.Proofs.YtjobgpahajhbnaaGreatDoor
open Go.RowKit Go.Proofs
attribute [local go_sem ↓] Go.wp_at_zero Go.wp_at_succ

def rowA (l : List Int) : Arr := ⟨[l.length], l⟩
def EnvOk (env : ByteArray → Option Arr) : Prop := ∀ t a, env t = some a → a.ok
theorem EnvOk.upd {env : ByteArray → Option Arr} (h : EnvOk env) (nm : ByteArray) {a : Arr} (ha : a.ok) : EnvOk (upd env nm a) := by
  intro t b hb
  unfold YtjobgpahajhbnaaGreatDoor.upd at hb
  split at hb
  · cases hb; exact ha
  · exact h t b hb
theorem ravel_row {l : List Int} : ravelP (arrOf l) = rowA l := by
  unfold arrOf rowA ravelP
  split <;> rfl
theorem pay_more {r : Arr × Int} {p c : Nat} (h : r.2 = 0) (hl : r.1.cells.length ≤ 70) (hc : c ≤ 800) : payP 1000 r p c = .inr (r.1, c + (1 + r.1.cells.length)) := by
  unfold payP
  rw [if_neg (by simp [h]), if_neg (by omega)]
theorem few_fit {l : List Int} (h : Few l) : ∀ c ∈ l, fit64 c := fun c hc => by have := h c hc; unfold fit64; omega
end Go.Proofs.YtjobgpahajhbnaaGreatDoor
namespace Go.Proofs.YtjobgpahajhbnaaGreatDoor
open Go.RowKit Go.Proofs

theorem pair_evens {F : Int → Int → Int × Int} (hf : ∀ x y, fit64 x → fit64 y → fit64 (F x y).1) : Evens (pairP F) where
  ok := fun a b ha hb h => (pairP_ok hf ha hb).2 h
  shape := fun a b ha hb hs h0 => by
    unfold pairP at h0 ⊢
    have hz : ∀ {sh : List Nat} {xs ys : List Int}, (zipA F sh xs ys).2 = 0 → (zipA F sh xs ys).1.shape = sh := by
      intro sh xs ys h
      unfold zipA at h ⊢
      cases hc : zipF F xs ys with
      | inl e => rw [hc] at h; exact absurd h (zip_err hc)
      | inr l => rfl
    split
    · rename_i h1
      rw [if_pos h1] at h0
      rw [hz h0, ← hs]
    · rename_i h1
      rw [if_neg h1] at h0
      split
      · rename_i h2
        exact absurd (hs.trans h2) h1
      · rename_i h2
        rw [if_neg h2, if_neg (by simp [hs]), if_neg (by simp [hs])] at h0
        rw [if_neg (by simp [hs]), if_neg (by simp [hs]), hz h0]
theorem pair_sc {F : Int → Int → Int × Int} {x y : Int} (h : (F x y).2 = 0) : pairP F (arrOf [x]) (arrOf [y]) = (arrOf [(F x y).1], 0) := by
  simp [pairP, arrOf, zipA, zipF, h]
/-- a g (b g (.. g z)), of numbers -/
def chainN (g : Int → Int → Int) : List Int → Int
  | [] => 0
  | x :: r => if r = [] then x else g x (chainN g r)
theorem chainN_one (g : Int → Int → Int) (x : Int) : chainN g [x] = x := by simp [chainN]
theorem chainN_cons {g : Int → Int → Int} {x : Int} {r : List Int} (h : r ≠ []) : chainN g (x :: r) = g x (chainN g r) := by rw [chainN, if_neg h]
theorem chain_nums {F : Int → Int → Int × Int} (hF : ∀ x y, (F x y).2 = 0) : ∀ {l : List Int}, l ≠ [] → chainL (pairP F) (l.map fun x => arrOf [x]) = (arrOf [chainN (fun x y => (F x y).1) l], 0)
  | [], h => absurd rfl h
  | x :: r, _ => by
    by_cases hr : r = []
    · subst hr
      rw [List.map_cons, List.map_nil, chain_one, chainN_one]
    · have ih := chain_nums hF hr
      rw [List.map_cons, chain_cons (by simpa using hr) (by rw [ih]), ih, pair_sc (hF _ _), chainN_cons hr]
      simp
theorem row_last (l : List Int) : lastN (rowA l).shape = l.length := by simp [rowA, lastN]
theorem row_cols (l : List Int) : cols (rowA l) = l.map fun x => arrOf [x] := by
  apply List.ext_getElem
  · rw [cols_len, row_last]; simp
  · intro i h1 h2
    have hi : i < l.length := by simpa using h2
    rw [cols_at h1, List.getElem_map]
    unfold col
    rw [row_last]
    have hp : prodL (rowA l).shape.dropLast = 1 := rfl
    rw [hp]
    unfold arrOf
    rw [if_pos (by rfl)]
    simp [rowA, colC, hi]
theorem fits_none : fitsB [] = true := by decide
/-- what a fold makes of a row -/
def foldN (g : Int → Int → Int) (z : Int) (l : List Int) : Int := if l = [] then z else chainN g l
theorem fold_row {F : Int → Int → Int × Int} (hF : ∀ x y, (F x y).2 = 0) (z : Int) (l : List Int) : foldP (pairP F) z (rowA l) = (arrOf [foldN (fun x y => (F x y).1) z l], 0) := by
  unfold foldP foldN
  have hd : (rowA l).shape.dropLast = [] := rfl
  rw [if_neg (by simp [rowA]), hd, fits_none, if_neg (by simp), row_last]
  by_cases h : l = []
  · subst h
    rfl
  · rw [if_neg (by simpa using h), if_neg h, row_cols, chain_nums hF h]
theorem wrap_id {a : Int} (h : -100000 ≤ a) (h' : a ≤ 100000) : wrap64 a = a := by
  unfold wrap64
  omega
end Go.Proofs.YtjobgpahajhbnaaGreatDoor
namespace Go.Proofs.YtjobgpahajhbnaaGreatDoor
open Go.RowKit Go.Proofs Go.Maps
attribute [local go_sem ↓] Go.wp_at_zero Go.wp_at_succ

theorem form_fn {h g : Nat} {z : Int} (hh : Enters Tryz.prog h) {F : Arr → Arr × Int} {w' : World} (hF : ∀ (P : Nat → Prop) (W : World), Below w'.heap.size w' W → (∀ b, W.heap.size ≤ b → P b) → ∀ (so : Option Addr) (sn sc : Nat) (co : Option Addr) (cn cc : Nat) (a : Arr), IsArr P W (.agg #[.slice so sn sc, .slice co cn cc]) a → a.ok → Calls Tryz.prog h #[.agg #[.slice so sn sc, .slice co cn cc], .agg #[.func (.func g) #[] #[], .int .i64 z]] W fun e W' => ∃ so sn sc co cn cc, e = .returned (.tuple #[.agg #[.slice so sn sc, .slice co cn cc], .int .i64 (F a).2]) ∧ IsArr P W' (.agg #[.slice so sn sc, .slice co cn cc]) (F a).1 ∧ Below W.heap.size W W')
    {b3 b4 : Nat} (c3 : w'.cell? ⟨b3, 0, none⟩ = some (.func (.func h) #[] #[])) (l3 : b3 < w'.heap.size) (c4 : w'.cell? ⟨b4, 0, none⟩ = some (.func (.func g) #[] #[])) (c5 : w'.cell? ⟨b4, 1, none⟩ = some (.int .i64 z)) (l4 : b4 < w'.heap.size) : FnOne 155 #[.pointer (some ⟨b3, 0, none⟩), .pointer (some ⟨b4, 0, none⟩)] w' F := by
  intro W P v a hW hP hA hok
  have hA0 := hA
  obtain ⟨so, sn, sc, co, cn, cc, rfl, _, _⟩ := hA0
  show Calls Tryz.prog 155 #[.agg #[.slice so sn sc, .slice co cn cc], .pointer (some ⟨b3, 0, none⟩), .pointer (some ⟨b4, 0, none⟩)] W _
  have d3 := (hW.cell (p := ⟨b3, 0, none⟩) l3).trans c3
  have d4 := (hW.cell (p := ⟨b4, 0, none⟩) l4).trans c4
  have d5 := (hW.cell (p := ⟨b4, 1, none⟩) l4).trans c5
  have hsz := hW.size
  have k3 : b3 < W.heap.size := by omega
  have k4 : b4 < W.heap.size := by omega
  have hen2 : ∀ args w, (callFunc h args).run Tryz.prog w = .ok (.enter h args) w := hh
  have hst : Bx W ((W.alloc (.cells #[.slice so sn sc, .slice co cn cc] 89)).alloc (.cells #[.slice none 0 0, .slice none 0 0] 89)) [[.slice so sn sc, .slice co cn cc], [.slice none 0 0, .slice none 0 0]] := ((Bx.nil W).alloc (by simp) [.slice so sn sc, .slice co cn cc] 89).alloc (by simp) [.slice none 0 0, .slice none 0 0] 89
  have HST := hide hst
  have HC := hide (hF (OffB W.heap.size 2 P) _ (hW.trans (hst.below.mono hsz)) (fun b hb => OffB.new hP (by have := hst.lt; simp at hb; omega)) so sn sc co cn cc a ((hA.imp (Q := OffB W.heap.size 2 P) (fun b h hl => ⟨h, Or.inl hl⟩)).below hst.below) hok)
  clear hst hA hok hP hF hh c3 l3 c4 c5 l4 hW hsz
  go_enter Tryz.func155, Tryz.ntmps155
  go_wp2_with (go_at_fn h; refine (unhide HC).mono ?_)
  rintro e w2 ⟨s4, s5, s6, c4, c5, c6, rfl, hA5, hb5⟩
  have HX := hide ((unhide HST).next hb5)
  have HA5 := hide hA5
  clear hA5 hb5 HST HC d3 d4 d5
  have r0 : w2.cell? ⟨W.heap.size + 1, 0, none⟩ = some (.slice none 0 0) := ((unhide HX).cell 1 0 _ rfl).1
  have r1 : w2.cell? ⟨W.heap.size + 1, 1, none⟩ = some (.slice none 0 0) := ((unhide HX).cell 1 1 _ rfl).1
  have g0 : w2.frozen? ⟨W.heap.size + 1, 0, none⟩ = false := ((unhide HX).cell 1 0 _ rfl).2
  have g1 : w2.frozen? ⟨W.heap.size + 1, 1, none⟩ = false := ((unhide HX).cell 1 1 _ rfl).2
  go_wp2_with fail
  have hf2 := fin_bx (q := 1) (u0 := .slice s4 s5 s6) (u1 := .slice c4 c5 c6) (unhide HX).below (by decide) (unhide HA5)
  exact bodyPost_ret (v := .tuple #[.agg #[.slice s4 s5 s6, .slice c4 c5 c6], .int .i64 (F a).2]) (by simp [results, Tryz.results155, go_sem, r0, r1]) rfl ⟨_, _, _, _, _, _, rfl, hf2.1, hf2.2⟩
theorem Tryz.enters155 : Enters Tryz.prog 155 := Go.Proofs.enters_of Tryz.func155 (by decide) rfl
theorem Tryz.enters177 : Enters Tryz.prog 177 := Go.Proofs.enters_of Tryz.func177 (by decide) rfl
theorem fold_c {t : ByteArray} {ks : Lit} {g : Nat} {z : Int} {f : Arr → Arr → Arr × Int} (h1 : 1 ≤ t.size) (hk1 : keyOf Tryz.prog 9 (.string (t.extract 1 t.size)) = some (.string [47])) (hks : keyOf Tryz.prog 9 (.string (t.extract 0 1)) = some ks) (has : signsD.atKey ks (.held zSign) = .held (.agg #[.func (.func g) #[] #[], .int .i64 z])) (hen : Enters Tryz.prog g) (hfn : ∀ w, FnTwo g #[] w f) (hev : Evens f) (hz : fit64 z) : OneC t (foldP f z) where
  finds := fun w => (find_form h1 hk1 (show formsOneD.atKey (.string [47]) (.held .nilFunc) = .held (.func (.func 177) #[] #[]) by kernel_rfl) hks has w).mono (by
    rintro e w' ⟨b3, b4, rfl, c3, l3, c4, c5, l4, hb⟩
    exact ⟨155, _, rfl, Tryz.enters155, hb, form_fn Tryz.enters177 (fun P W hW hP so sn sc co cn cc a ha hok => fold_any z hen (hfn w') hev P W hW hP so sn sc co cn cc a ha hok) c3 l3 c4 c5 l4⟩)
  ok := fun a ha => fold_ok hev hz ha
theorem sum_one : OneC ⟨#[43, 47]⟩ (foldP (pairP plusF) 0) := fold_c (by decide) (by kernel_rfl) (ks := .string [43]) (by kernel_rfl) (by kernel_rfl) Tryz.enters190 plus_fn (pair_evens plus_rule.fits) (by unfold fit64; omega)
end Go.Proofs.YtjobgpahajhbnaaGreatDoor
namespace Go.Proofs.YtjobgpahajhbnaaGreatDoor
open Go.RowKit Go.Proofs Go.Shelf
attribute [local go_sem] Oper.semAt_some

/-- a part of a row of n: where it begins, how long it is -/
abbrev Part (n : Nat) := { p : Nat × Nat // p.1 + p.2 ≤ n ∧ 0 < p.2 }
/-- the two boxes that the library's closure reads -/
def KpB (bs bn : Nat) (W W' : World) : Prop := W'.heap[bs]? = W.heap[bs]? ∧ W'.heap[bn]? = W.heap[bn]?
theorem KpB.refl {bs bn : Nat} (W : World) : KpB bs bn W W := ⟨rfl, rfl⟩
theorem KpB.trans {bs bn : Nat} {A B C : World} (h : KpB bs bn A B) (k : KpB bs bn B C) : KpB bs bn A C := ⟨k.1.trans h.1, k.2.trans h.2⟩
def chunkAt (n c k : Nat) (hc : 0 < c) (h : k * c < n) : Part n := ⟨(k * c, min c (n - k * c)), by omega, by simp; omega⟩
/-- the parts of a row, each of c but the last -/
def partsL (n c : Nat) (hc : 0 < c) : Nat → List (Part n)
  | 0 => []
  | k + 1 => if h : k * c < n then partsL n c hc k ++ [chunkAt n c k hc h] else partsL n c hc k
theorem partsL_len {n c : Nat} (hc : 0 < c) (k : Nat) : (partsL n c hc k).length ≤ k := by
  induction k with
  | zero => simp [partsL]
  | succ k ih =>
    unfold partsL
    split
    · simp; omega
    · omega
theorem partsL_end {n c k : Nat} (hc : 0 < c) (h : n ≤ k * c) : ∀ j, k ≤ j → partsL n c hc j = partsL n c hc k
  | 0, hj => by rw [show k = 0 by omega]
  | j + 1, hj => by
    by_cases e : k = j + 1
    · rw [e]
    · have hkj : k * c ≤ j * c := Nat.mul_le_mul_right _ (by omega)
      rw [partsL, dif_neg (by omega)]
      exact partsL_end hc h j (by omega)
theorem partsL_succ {n c k : Nat} (hc : 0 < c) (h : k * c < n) : partsL n c hc (k + 1) = partsL n c hc k ++ [chunkAt n c k hc h] := by
  rw [partsL, dif_pos h]
set_option maxRecDepth 100000 in
set_option maxHeartbeats 2000000 in
theorem chunk1_in (n : Nat) (hn : 1 ≤ n) (l bs bn b off len cap c : Nat) (hc : 0 < c) (hcl : c ≤ 1000) (hlen : len ≤ 1000) (hcap : len ≤ cap) (J Jx : List (Part len) → World → Prop)
    (hJ : ∀ pre W, J pre W → J pre W.drew)
    (hY : ∀ pre x W, J pre W → pre.length < len → YieldAt Fence.wide (n - 1) Tryz.prog l #[.slice (some ⟨b, off + x.1.1, none⟩) x.1.2 x.1.2] W fun e W' =>
      (e = .returned (.bool true) ∧ J (pre ++ [x]) W' ∧ KpB bs bn W W') ∨ (e = .returned (.bool false) ∧ Jx (pre ++ [x]) W'))
    (W : World) (h1 : W.cell? ⟨bs, 0, none⟩ = some (.slice (some ⟨b, off, none⟩) len cap)) (h2 : W.cell? ⟨bn, 0, none⟩ = some (.int .i64 c)) (h0 : J [] W) :
    CallsIn Fence.wide n Tryz.prog 274 #[.func (.yield l) #[] #[], .pointer (some ⟨bs, 0, none⟩), .pointer (some ⟨bn, 0, none⟩)] W fun e W' => (∃ v, e = .returned v) ∧
      ((∃ ys, ys = partsL len c hc len ∧ J ys W') ∨ (∃ pre, Jx pre W')) := by
  have hd1 : ∀ W' : World, KpB bs bn W W' → W'.cell? ⟨bs, 0, none⟩ = some (.slice (some ⟨b, off, none⟩) len cap) := fun W' h => (World.cell?_of_block h.1).trans h1
  have hd2 : ∀ W' : World, KpB bs bn W W' → W'.cell? ⟨bn, 0, none⟩ = some (.int .i64 c) := fun W' h => (World.cell?_of_block h.2).trans h2
  refine callsIn_of_wp Tryz.func274 rfl trivial ?_ rfl
  simp only [Tryz.ntmps274, List.size_toArray, List.length_cons, List.length_nil, Nat.reduceAdd, Nat.reduceSub, Array.replicate_succ, Array.replicate_zero, List.push_toArray, List.append_toArray, List.nil_append, List.cons_append]
  gi_wp2
  gi_loopw [4] (fun v4 wr => ∃ k i : Nat, v4 = .int .i64 i ∧ i = k * c ∧ k ≤ len ∧ i < len + c ∧ J (partsL len c hc k) wr ∧ KpB bs bn W wr) (fun v4 _ => len + c - (intOf v4).toNat)
  case atStart => exact ⟨0, 0, rfl, by simp, by omega, by omega, h0, KpB.refl W⟩
  case round =>
    obtain ⟨k, i, rfl, hik, hkl, hib, hJs, hK⟩ := hrel
    have c1 := hd1 _ hK
    have c2 := hd2 _ hK
    by_cases hlt : i < len
    · have hlt' : k * c < len := by rw [← hik]; exact hlt
      have hpl := partsL_len (n := len) hc k
      have hk1 : k < len := by
        have : k ≤ k * c := Nat.le_mul_of_pos_right _ hc
        omega
      obtain ⟨e, he⟩ : ∃ e, min c (len - i) = e := ⟨_, rfl⟩
      have hYk := hY (partsL len c hc k) (chunkAt len c k hc hlt')
      have e1 : (chunkAt len c k hc hlt').1.1 = i := hik.symm
      have e2 : (chunkAt len c k hc hlt').1.2 = e := by show min c (len - k * c) = e; rw [← hik]; exact he
      rw [e1, e2] at hYk
      have hsu := partsL_succ hc hlt'
      rw [← hsu] at hYk
      obtain ⟨u, hu⟩ : ∃ u, i + e = u := ⟨_, rfl⟩
      have hi0 : (0 : Int) ≤ (i : Int) := by omega
      have hi1 : (i : Int) < (len : Int) := by omega
      have hi2 : (i : Int) ≤ (len : Int) := by omega
      have hmin : min (c : Int) ((len - i : Nat) : Int) = (e : Int) := by omega
      have hmin2 : min (c : Int) ((len : Int) - (i : Int)) = (e : Int) := by omega
      have hul : u ≤ len := by omega
      have hiu : i ≤ u := by omega
      have hiu1 : (i : Int) ≤ (u : Int) := by omega
      have hiu2 : (u : Int) ≤ (cap : Int) := by omega
      have hui : u - i = e := by omega
      have had : (if u = i then some (⟨b, off, none⟩ : Addr) else some ⟨b, off + i, none⟩) = some ⟨b, off + i, none⟩ := if_neg (by omega)
      have hw1 : IntKind.i64.wrap ((i : Int) + (e : Int)) = (u : Int) := by
        have e : (i : Int) + (e : Int) = (u : Int) := by omega
        rw [e]
        exact wrap_pos (by omega) (by omega)
      obtain ⟨fn, tmps, assign, body, hy, hR⟩ := hYk wr.drew (hJ _ _ hJs) (by omega)
      have hw2 : IntKind.i64.wrap ((i : Int) + (c : Int)) = ((i + c : Nat) : Int) := by
        have e : (i : Int) + (c : Int) = ((i + c : Nat) : Int) := by omega
        rw [e]
        exact wrap_pos (by omega) (by omega)
      have HIK := hide hik
      have HKT : Hid (∀ W3, KpB bs bn wr.drew W3 → KpB bs bn W W3) := hide (fun W3 h => hK.trans h)
      have HD2 := hide hd2
      clear hik hlt' hkl he e1 e2 hsu hJ h0 h1 h2 hd1 hd2 hY hYk
      gi_wp2
      gi_region
      gi_wp2
      refine hR.mono ?_
      rintro e W3 (⟨rfl, hJ3, hk3⟩ | ⟨rfl, hJx3⟩)
      · have c3 := unhide HD2 W3 (unhide HKT W3 hk3)
        gi_wp2
        go_roundw
        case rel => exact ⟨k + 1, i + c, by simp, by rw [unhide HIK, Nat.add_mul, Nat.one_mul], by omega, by omega, hJ3, unhide HKT W3 hk3⟩
        case measure => simp [intOf]; omega
      · gi_wp2
        refine bodyPost_ret (results_none rfl _ _ _) rfl ?_
        exact ⟨⟨_, rfl⟩, .inr ⟨_, hJx3⟩⟩
    · have hnl : ¬ ((i : Int) < (len : Int)) := by omega
      have hend := partsL_end hc (n := len) (k := k) (by rw [← hik]; omega) len hkl
      gi_wp2
      go_end0
      exact ⟨⟨_, rfl⟩, .inl hJs⟩
end Go.Proofs.YtjobgpahajhbnaaGreatDoor
namespace Go.Proofs
open Go.Shelf
def Tryz.rev235_ren : Go.Shelf.Ren := ⟨fun | 35 => 235 | n => n, fun | 22 => 32 | 23 => 2 | 3 => 3 | 4 => 4 | 0 => 0 | n => n, fun | n => n⟩
theorem Tryz.rev235 : Go.Proofs.SlLaysE.n35 Tryz.prog Tryz.rev235_ren := {
  mixed := by kernel_rfl
  f35 := ⟨Tryz.f235.name, by decide, Tryz.func235.trans (congrArg some (by kernel_rfl))⟩
  t0 := Tryz.underlying0
  a0 := Tryz.isAgg0
  z0 := Tryz.sizeOf0
  v0 := Tryz.zeroValue0
  t3 := Tryz.underlying3
  a3 := Tryz.isAgg3
  z3 := Tryz.sizeOf3
  v3 := Tryz.zeroValue3
  t4 := Tryz.underlying4
  a4 := Tryz.isAgg4
  z4 := Tryz.sizeOf4
  v4 := Tryz.zeroValue4
  t22 := Tryz.underlying32
  a22 := Tryz.isAgg32
  z22 := Tryz.sizeOf32
  v22 := Tryz.zeroValue32
  a23 := Tryz.isAgg2
  z23 := Tryz.sizeOf2 }
end Go.Proofs
namespace Go.Proofs.YtjobgpahajhbnaaGreatDoor
open Go.RowKit Go.Proofs Go.Shelf

/-- a row of numbers that may be written, from a block's first cell on -/
def RowAt (W : World) (g : Nat) (L : List Int) : Prop := ∀ j, (h : j < L.length) → W.cell? ⟨g, j, none⟩ = some (.int .i64 L[j]) ∧ W.frozen? ⟨g, j, none⟩ = false
def revAt (L : List Int) (p : Nat × Nat) : List Int := L.take p.1 ++ (((L.drop p.1).take p.2).reverse ++ L.drop (p.1 + p.2))
theorem revAt_len {L : List Int} {p : Nat × Nat} (h : p.1 + p.2 ≤ L.length) : (revAt L p).length = L.length := by
  unfold revAt
  simp
  omega
/-- all is kept but the cells of block g -/
structure OnlyB (g : Nat) (W W' : World) : Prop where
  os : W'.os = W.os
  tape : W'.tape = W.tape
  output : W'.output = W.output
  size : W'.heap.size = W.heap.size
  block : ∀ k, k ≠ g → W'.heap[k]? = W.heap[k]?
theorem OnlyB.below {g : Nat} {W W' : World} (h : OnlyB g W W') {n : Nat} (hn : n ≤ g) : Below n W W' := ⟨h.os, h.tape, h.output, by rw [h.size]; exact Nat.le_refl _, fun k hk => h.block k (by omega)⟩
theorem OnlyB.others {g : Nat} {W W' : World} (h : OnlyB g W W') {v : Value} {j : Nat} (hc : W.cell? ⟨g, j, none⟩ = some v) : KeepsOthers W W' := ⟨by rw [h.size]; exact Nat.le_refl _, fun k o hk ho => by
  by_cases e : k = g
  · subst e
    obtain ⟨o', ho', hc'⟩ := cells_of_cell hc
    have ho' : W.heap[k]? = some o' := ho'
    rw [hk] at ho'
    cases ho'
    rw [ho] at hc'
    cases hc'
  · rw [h.block k e]; exact hk⟩
theorem onlyB_put (W : World) (n g off : Nat) (d : Array Int) : OnlyB g W (Go.Sort.putRow (Value.int .i64) (Go.Sort.ahead W n) g off d) := ⟨rfl, rfl, rfl, by simp [Go.Sort.ahead], fun k hk => by
  show ((W.heap.modify g _))[k]? = _
  rw [Array.getElem?_modify, if_neg (Ne.symm hk)]⟩
theorem reverse_any (W : World) (g : Nat) (L : List Int) (h : RowAt W g L) (p : Nat × Nat) (hp : p.1 + p.2 ≤ L.length) (hl : L.length ≤ 1000) :
    Calls Tryz.prog 235 #[.slice (some ⟨g, p.1, none⟩) p.2 p.2] W fun e W' => e = .returned (.tuple #[]) ∧ RowAt W' g (revAt L p) ∧ OnlyB g W W' := by
  obtain ⟨zs, hzs⟩ : ∃ zs, (L.drop p.1).take p.2 = zs := ⟨_, rfl⟩
  have hzl : zs.length = p.2 := by rw [← hzs]; simp; omega
  have hH : Go.Sort.Holds (Value.int .i64) W g p.1 zs.toArray := by
    intro j hj
    have hj' : j < p.2 := by rw [← hzl]; simpa using hj
    have hz : zs.toArray[j]! = L[p.1 + j]'(by omega) := by
      rw [getElem!_pos _ j hj]
      subst hzs
      simp
    rw [hz]
    exact h (p.1 + j) (by omega)
  have := AnyE.slices_Reverse Tryz.rev235 (Value.int .i64) (fun _ => rfl) g p.1 p.2 zs W hH (by omega)
  rw [hzl] at this
  refine this.mono ?_
  rintro e W' ⟨rfl, n, rfl⟩
  refine ⟨rfl, ?_, onlyB_put W n g p.1 _⟩
  have hHa : Go.Sort.Holds (Value.int .i64) (Go.Sort.ahead W n) g p.1 zs.toArray := hH
  intro j hj
  rw [revAt_len hp] at hj
  refine ⟨?_, by rw [Go.Sort.frozen?_putRow]; exact (h j hj).2⟩
  have hL : (revAt L p)[j]? = some ((revAt L p)[j]'(by rw [revAt_len hp]; exact hj)) := List.getElem?_eq_getElem _
  generalize hv : (revAt L p)[j]'(by rw [revAt_len hp]; exact hj) = v at hL ⊢
  unfold revAt at hL
  rw [hzs] at hL
  by_cases h1 : j < p.1
  · rw [Go.Sort.cell?_putRow_other _ _ _ _ _ _ (Or.inr (Or.inl h1))]
    rw [List.getElem?_append_left (by simp; omega), List.getElem?_take, if_pos h1, List.getElem?_eq_getElem hj] at hL
    rw [← Option.some.inj hL]
    exact (h j hj).1
  · rw [List.getElem?_append_right (by simp; omega), List.length_take, Nat.min_eq_left (by omega)] at hL
    by_cases h2 : j < p.1 + p.2
    · rw [List.getElem?_append_left (by simp; omega)] at hL
      have hc := Go.Sort.cell?_putRow (Value.int .i64) (Go.Sort.ahead W n) g p.1 zs.toArray zs.reverse.toArray hHa (by simp) (j - p.1) (by simp; omega)
      rw [show p.1 + (j - p.1) = j by omega] at hc
      rw [hc, getElem!_pos _ _ (by simp; omega)]
      obtain ⟨hb, hL⟩ := List.getElem?_eq_some_iff.1 hL
      rw [← hL]
      simp
    · rw [Go.Sort.cell?_putRow_other _ _ _ _ _ _ (Or.inr (Or.inr (by simp; omega)))]
      rw [List.getElem?_append_right (by simp; omega), List.getElem?_drop, List.length_reverse, hzl, show p.1 + p.2 + (j - p.1 - p.2) = j by omega, List.getElem?_eq_getElem hj] at hL
      rw [← Option.some.inj hL]
      exact (h j hj).1
end Go.Proofs.YtjobgpahajhbnaaGreatDoor
namespace Go.Proofs.YtjobgpahajhbnaaGreatDoor
open Go.RowKit Go.Proofs Go.Shelf
attribute [local go_sem] Oper.semAt_some

set_option maxHeartbeats 1000000 in
theorem chunk_call (ao : Option Addr) (n cap c : Nat) (hc : 0 < c) (w : World) :
    Calls Tryz.prog 233 #[.slice ao n cap, .int .i64 c] w fun e w' => e = .returned (.func (.func 274) #[] #[.pointer (some ⟨w.heap.size, 0, none⟩), .pointer (some ⟨w.heap.size + 1, 0, none⟩)]) ∧ w' = (w.alloc (.cells #[.slice ao n cap] 32)).alloc (.cells #[.int .i64 c] 3) := by
  have h1 : ¬ ((c : Int) < 1) := by omega
  go_enter Tryz.func233, Tryz.ntmps233
  go_wp2
  exact bodyPost_ret (v := .func (.func 274) #[] #[.pointer (some ⟨w.heap.size, 0, none⟩), .pointer (some ⟨w.heap.size + 1, 0, none⟩)]) (by simp [results, Tryz.results233, go_sem]) rfl ⟨rfl, rfl⟩
set_option maxRecDepth 100000 in
set_option maxHeartbeats 1000000 in
theorem chunk0_in (n : Nat) (l bs bn cap : Nat) (ao : Option Addr) {α : Type} (J : List α → World → Prop) (W : World) (h1 : W.cell? ⟨bs, 0, none⟩ = some (.slice ao 0 cap)) (h0 : J [] W) :
    CallsIn Fence.wide n Tryz.prog 274 #[.func (.yield l) #[] #[], .pointer (some ⟨bs, 0, none⟩), .pointer (some ⟨bn, 0, none⟩)] W fun e W' => (∃ v, e = .returned v) ∧ J [] W' := by
  refine callsIn_of_wp Tryz.func274 rfl trivial ?_ rfl
  simp only [Tryz.ntmps274, List.size_toArray, List.length_cons, List.length_nil, Nat.reduceAdd, Nat.reduceSub, Array.replicate_succ, Array.replicate_zero, List.push_toArray, List.append_toArray, List.nil_append, List.cons_append]
  gi_wp2
  gi_loopw [4] (fun i wr => i = .int .i64 0 ∧ J [] wr ∧ wr = W) (fun _ _ => 0)
  case atStart => exact ⟨rfl, h0, rfl⟩
  case round =>
    obtain ⟨rfl, hJs, hw⟩ := hrel
    have hw' := hw.symm
    subst hw'
    gi_wp2
    go_end0
    exact ⟨⟨_, rfl⟩, hJs⟩
theorem chunk_stops (n : Nat) (hn : 1 ≤ n) (bs bn b off len cap c : Nat) (ao : Option Addr) (hao : 0 < len → ao = some ⟨b, off, none⟩) (hc : 0 < c) (hcl : c ≤ 1000) (hlen : len ≤ 1000) (hcap : len ≤ cap) (w : World) (hbs : bs < w.heap.size) (hbn : bn < w.heap.size) (h1 : w.cell? ⟨bs, 0, none⟩ = some (.slice ao len cap)) (h2 : w.cell? ⟨bn, 0, none⟩ = some (.int .i64 c)) :
    SeqStopsK Fence.wide n Tryz.prog 274 #[.pointer (some ⟨bs, 0, none⟩), .pointer (some ⟨bn, 0, none⟩)] (fun x : Part len => #[.slice (some ⟨b, off + x.1.1, none⟩) x.1.2 x.1.2]) (KpB bs bn) (fun ys => ys = partsL len c hc len) (fun _ => True) len w := fun l J Jx W hW hJ _ hY h0 => by
  have h1' := (hW.cell (p := ⟨bs, 0, none⟩) hbs).trans h1
  have h2' := (hW.cell (p := ⟨bn, 0, none⟩) hbn).trans h2
  by_cases hl : 0 < len
  · have hao' := hao hl
    subst hao'
    refine (chunk1_in n hn l bs bn b off len cap c hc hcl hlen hcap J Jx (fun pre W1 h => hJ pre W1 W1.drew none h ⟨rfl, rfl, rfl, Nat.le_refl _, fun _ _ _ => rfl⟩ (fun r e => by cases e)) hY W h1' h2' h0).mono ?_
    rintro e W' ⟨hv, ⟨ys, hy, hj⟩ | ⟨pre, hj⟩⟩
    · exact ⟨hv, .inl ⟨ys, hy, hj⟩⟩
    · exact ⟨hv, .inr ⟨pre, trivial, hj⟩⟩
  · have hz : len = 0 := by omega
    subst hz
    refine (chunk0_in n l bs bn cap ao J W h1' h0).mono ?_
    rintro e W' ⟨hv, hj⟩
    exact ⟨hv, .inl ⟨[], rfl, hj⟩⟩
end Go.Proofs.YtjobgpahajhbnaaGreatDoor
