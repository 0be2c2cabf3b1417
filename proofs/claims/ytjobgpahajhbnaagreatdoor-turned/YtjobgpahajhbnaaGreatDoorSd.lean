import Derived.Test.YtjobgpahajhbnaaGreatDoorPr
import Derived.Test.YtjobgpahajhbnaaGreatDoorPq
import Derived.Laws.OwnMore
import Derived.Deep.LoopGhost
namespace Go.Proofs.YtjobgpahajhbnaaGreatDoor
open Go.RowKit

/-- what a line's EXPR says -/
inductive Ex where
  | num (ws : List Int)
  | name (t : ByteArray) (p : Nat)
  | one (t : ByteArray) (p : Nat) (r : Ex)
  | two (t : ByteArray) (p : Nat) (l r : Ex)

/-- a list of numbers that lies behind block B -/
def IntsIn (B : Nat) (w : World) (v : Value) (ws : List Int) : Prop :=
  ∃ b cap, v = .slice (some ⟨b, 0, none⟩) ws.length cap ∧ ws.length ≤ cap ∧ B < b ∧ b < w.heap.size ∧ ∀ i, (h : i < ws.length) → w.cell? ⟨b, i, none⟩ = some (.int .i64 ws[i])
/-- an Expr in memory, all of it behind block B -/
def IsEx (B : Nat) (w : World) : Option Addr → Ex → Prop
  | a, .num ws => ∃ b n, a = some ⟨b, 0, none⟩ ∧ B < b ∧ b < w.heap.size ∧ w.cell? ⟨b, 0, none⟩ = some (.int .i64 0) ∧ w.cell? ⟨b, 7, none⟩ = some n ∧ IntsIn B w n ws ∧ 0 < ws.length ∧ ws.length ≤ 200
  | a, .name t p => ∃ (b : Nat) (rr xx : Int), a = some ⟨b, 0, none⟩ ∧ B < b ∧ b < w.heap.size ∧ w.cell? ⟨b, 0, none⟩ = some (.int .i64 1) ∧ w.cell? ⟨b, 1, none⟩ = some (.int .i64 rr) ∧ w.cell? ⟨b, 2, none⟩ = some (.int .i64 xx) ∧ w.cell? ⟨b, 3, none⟩ = some (.string t) ∧ w.cell? ⟨b, 4, none⟩ = some (.int .i64 p)
  | a, .one t p r => ∃ (b : Nat) (k : Int) (q : Option Addr), a = some ⟨b, 0, none⟩ ∧ B < b ∧ b < w.heap.size ∧ w.cell? ⟨b, 0, none⟩ = some (.int .i64 k) ∧ k ≠ 0 ∧ k ≠ 1 ∧ w.cell? ⟨b, 3, none⟩ = some (.string t) ∧ w.cell? ⟨b, 4, none⟩ = some (.int .i64 p) ∧ w.cell? ⟨b, 5, none⟩ = some (.pointer none) ∧ w.cell? ⟨b, 6, none⟩ = some (.pointer q) ∧ IsEx B w q r
  | a, .two t p l r => ∃ (b : Nat) (k : Int) (ql q : Option Addr), a = some ⟨b, 0, none⟩ ∧ B < b ∧ b < w.heap.size ∧ w.cell? ⟨b, 0, none⟩ = some (.int .i64 k) ∧ k ≠ 0 ∧ k ≠ 1 ∧ w.cell? ⟨b, 3, none⟩ = some (.string t) ∧ w.cell? ⟨b, 4, none⟩ = some (.int .i64 p) ∧ w.cell? ⟨b, 5, none⟩ = some (.pointer ql) ∧ w.cell? ⟨b, 6, none⟩ = some (.pointer q) ∧ IsEx B w ql l ∧ IsEx B w q r
/-- all blocks behind B are as they were -/
def Behind (B : Nat) (w w' : World) : Prop := w.heap.size ≤ w'.heap.size ∧ ∀ b, B < b → b < w.heap.size → w'.heap[b]? = w.heap[b]?
theorem Behind.cell {B : Nat} {w w' : World} (h : Behind B w w') {b : Nat} (h1 : B < b) (h2 : b < w.heap.size) (i : Nat) : w'.cell? ⟨b, i, none⟩ = w.cell? ⟨b, i, none⟩ := World.cell?_of_block (h.2 b h1 h2)
theorem Behind.trans {B : Nat} {a b c : World} (h : Behind B a b) (h' : Behind B b c) : Behind B a c :=
  ⟨Nat.le_trans h.1 h'.1, fun k hk hl => (h'.2 k hk (Nat.lt_of_lt_of_le hl h.1)).trans (h.2 k hk hl)⟩
theorem Behind.of_below {B : Nat} {w w' : World} (h : Below w.heap.size w w') : Behind B w w' := ⟨h.size, fun b _ hb => h.block b hb⟩
theorem Kp.behind {W0 w w' : World} (h : Kp W0 w w') : Behind W0.heap.size w w' := ⟨h.size, fun b hb hl => h.block b hl (fun e => by have := Option.some.inj e; omega)⟩
theorem IntsIn.keep {B : Nat} {w w' : World} {v : Value} {ws : List Int} (h : IntsIn B w v ws) (hb : Behind B w w') : IntsIn B w' v ws := by
  obtain ⟨b, cap, hv, hl, h1, h2, hc⟩ := h
  exact ⟨b, cap, hv, hl, h1, Nat.lt_of_lt_of_le h2 hb.1, fun i hi => (hb.cell h1 h2 i).trans (hc i hi)⟩
theorem IsEx.keep {B : Nat} {w w' : World} (hb : Behind B w w') : ∀ {e : Ex} {a : Option Addr}, IsEx B w a e → IsEx B w' a e
  | .num ws, a, h => by
    obtain ⟨b, n, ha, h1, h2, c0, c7, hi, hp⟩ := h
    exact ⟨b, n, ha, h1, Nat.lt_of_lt_of_le h2 hb.1, (hb.cell h1 h2 0).trans c0, (hb.cell h1 h2 7).trans c7, hi.keep hb, hp⟩
  | .name t p, a, h => by
    obtain ⟨b, rr, xx, ha, h1, h2, c0, c1, c2, c3, c4⟩ := h
    exact ⟨b, rr, xx, ha, h1, Nat.lt_of_lt_of_le h2 hb.1, (hb.cell h1 h2 0).trans c0, (hb.cell h1 h2 1).trans c1, (hb.cell h1 h2 2).trans c2, (hb.cell h1 h2 3).trans c3, (hb.cell h1 h2 4).trans c4⟩
  | .one t p r, a, h => by
    obtain ⟨b, k, q, ha, h1, h2, c0, k0, k1, c3, c4, c5, c6, hr⟩ := h
    exact ⟨b, k, q, ha, h1, Nat.lt_of_lt_of_le h2 hb.1, (hb.cell h1 h2 0).trans c0, k0, k1, (hb.cell h1 h2 3).trans c3, (hb.cell h1 h2 4).trans c4, (hb.cell h1 h2 5).trans c5, (hb.cell h1 h2 6).trans c6, IsEx.keep hb hr⟩
  | .two t p l r, a, h => by
    obtain ⟨b, k, ql, q, ha, h1, h2, c0, k0, k1, c3, c4, c5, c6, hl, hr⟩ := h
    exact ⟨b, k, ql, q, ha, h1, Nat.lt_of_lt_of_le h2 hb.1, (hb.cell h1 h2 0).trans c0, k0, k1, (hb.cell h1 h2 3).trans c3, (hb.cell h1 h2 4).trans c4, (hb.cell h1 h2 5).trans c5, (hb.cell h1 h2 6).trans c6, IsEx.keep hb hl, IsEx.keep hb hr⟩

theorem IntsIn.mono {B B' : Nat} {w : World} {v : Value} {ws : List Int} (h : IntsIn B w v ws) (hb : B' ≤ B) : IntsIn B' w v ws := by
  obtain ⟨b, cap, hv, hl, h1, h2, hc⟩ := h
  exact ⟨b, cap, hv, hl, by omega, h2, hc⟩
theorem IsEx.mono {B B' : Nat} {w : World} (hb : B' ≤ B) : ∀ {e : Ex} {a : Option Addr}, IsEx B w a e → IsEx B' w a e
  | .num ws, a, h => by
    obtain ⟨b, n, ha, h1, h2, c0, c7, hi, hp⟩ := h
    exact ⟨b, n, ha, by omega, h2, c0, c7, hi.mono hb, hp⟩
  | .name t p, a, h => by
    obtain ⟨b, rr, xx, ha, h1, r⟩ := h
    exact ⟨b, rr, xx, ha, by omega, r⟩
  | .one t p r, a, h => by
    obtain ⟨b, k, q, ha, h1, h2, c0, k0, k1, c3, c4, c5, c6, hr⟩ := h
    exact ⟨b, k, q, ha, by omega, h2, c0, k0, k1, c3, c4, c5, c6, IsEx.mono hb hr⟩
  | .two t p l r, a, h => by
    obtain ⟨b, k, ql, q, ha, h1, h2, c0, k0, k1, c3, c4, c5, c6, hl, hr⟩ := h
    exact ⟨b, k, ql, q, ha, by omega, h2, c0, k0, k1, c3, c4, c5, c6, IsEx.mono hb hl, IsEx.mono hb hr⟩
theorem Kp.behind' {W0 w w' : World} {B : Nat} (h : Kp W0 w w') (hB : W0.heap.size ≤ B) : Behind B w w' := ⟨h.size, fun b hb hl => h.block b hl (fun e => by have := Option.some.inj e; omega)⟩

/-- the numbers from j to k -/
def worths (S : List Tok) (j k : Nat) : List Int := ((S.take k).drop j).map Tok.x
theorem worths_len (S : List Tok) (j k : Nat) (h : k ≤ S.length) : (worths S j k).length = k - j := by
  simp [worths, List.length_take, Nat.min_eq_left h]
theorem worths_snoc (S : List Tok) (j k : Nat) (hj : j ≤ k) (hk : k < S.length) : worths S j (k + 1) = worths S j k ++ [(tokAt S k).x] := by
  unfold worths
  rw [tokAt_lt hk, List.take_add_one, List.getElem?_eq_getElem hk]
  rw [List.drop_append_of_le_length (by simp; omega)]
  simp
theorem worths_one (S : List Tok) (j : Nat) (hj : j < S.length) : worths S j (j + 1) = [(tokAt S j).x] := by
  rw [worths_snoc S j j (Nat.le_refl _) hj]
  simp [worths]
/-- what tokens from j on say, with o brackets open: a THING (true) or an EXPR (false), up to k -/
inductive PX (S : List Tok) : Bool → Nat → Nat → Ex → Nat → Prop where
  | nums (j o k : Nat) : j < k → k ≤ S.length → (∀ i, j ≤ i → i < k → kB (kr S) i 0 = true) → kB (kr S) k 0 = false → PX S true j o (.num (worths S j k)) k
  | name (j o : Nat) : kB (kr S) j 1 = true → PX S true j o (.name (tokAt S j).t (tokAt S j).p) (j + 1)
  | paren (j o : Nat) (e : Ex) (k : Nat) : kB (kr S) j 4 = true → o < 8 → PX S false (j + 1) (o + 1) e k → kB (kr S) k 5 = true → PX S true j o e (k + 1)
  | one (j o : Nat) (r : Ex) (k : Nat) : fB (kr S) j 1 = true → PX S false (j + 1) o r k → PX S false j o (.one (tokAt S j).t (tokAt S j).p r) k
  | only (j o : Nat) (l : Ex) (k : Nat) : fB (kr S) j 1 = false → PX S true j o l k → fB (kr S) k 2 = false → PX S false j o l k
  | two (j o : Nat) (l : Ex) (k : Nat) (r : Ex) (m : Nat) : fB (kr S) j 1 = false → PX S true j o l k → fB (kr S) k 2 = true → PX S false (k + 1) o r m → PX S false j o (.two (tokAt S k).t (tokAt S k).p l r) m

theorem Tryz.info2 : (Tryz.prog.info? 2).map (fun i => (i.zero, i.size, i.bytes)) = some (some (.int .i64 0), 1, 8) := by kernel_rfl
theorem ownsRow_mono {w : World} {B B' : Nat} {e : TypeId} {k : Nat} {v : Value} {n : Nat} {xs : List Value} (h : w.ownsRow B e k v n xs) (hb : B' ≤ B) : w.ownsRow B' e k v n xs := by
  obtain ⟨hl, h | ⟨g, cap, cur, hv, hg, r⟩⟩ := h
  · exact ⟨hl, .inl h⟩
  · exact ⟨hl, .inr ⟨g, cap, cur, hv, Nat.le_trans hb hg, r⟩⟩
theorem owns_keep {W0 w w' : World} {B : Nat} {e : TypeId} {k : Nat} {v : Value} {n : Nat} {xs : List Value} (h : w.ownsRow B e k v n xs) (hB : W0.heap.size < B) (hk : Kp W0 w w') : w'.ownsRow B e k v n xs :=
  h.kept hk (by
    right
    intro he
    have := (h.lt _ he).1
    omega)
theorem ints_owns {w : World} {B : Nat} {v : Value} {ws : List Int} (h : w.ownsRow (B + 1) 2 1 v ws.length (ws.map (Value.int .i64))) (h0 : 0 < ws.length) : IntsIn B w v ws := by
  obtain ⟨hl, ⟨rfl, h⟩ | ⟨g, cap, cur, rfl, hg, r⟩⟩ := h
  · omega
  · have h' : w.ownsRow (B + 1) 2 1 (.slice (some ⟨g, 0, none⟩) ws.length cap) ws.length (ws.map (Value.int .i64)) := ⟨hl, .inr ⟨g, cap, cur, rfl, hg, r⟩⟩
    refine ⟨g, cap, rfl, r.2.1, by omega, (h'.lt g rfl).2, fun i hi => ?_⟩
    rw [h'.cellAt i (by omega)]
    simp [hi]
theorem new_cell1 (w : World) (v : Value) (e : TypeId) : ∀ j u, [v][j]? = some u → (w.alloc (.cells #[v] e)).cell? ((⟨w.heap.size, 0, none⟩ : Addr).add j) = some u := by
  intro j u hj
  match j, hj with
  | 0, hj => simp at hj; subst hj; simp [Addr.add]

theorem Kp.grown {W0 w w1 w2 : World} (h : Kp W0 w w1) {row : Option Nat} (hg : w1.grownBy w2 row) (hr : ∀ k, row = some k → w.heap.size ≤ k) : Kp W0 w w2 :=
  ⟨hg.os.trans h.os, hg.tape.trans h.tape, hg.output.trans h.output, Nat.le_trans h.size hg.size, fun k hk hn => (hg.block k (Nat.lt_of_lt_of_le hk h.size) (fun e => by have := hr k e.symm; omega)).trans (h.block k hk hn)⟩
theorem num_rel {W0 w wr w1 w2 : World} {v : Value} {n : Nat} {xs : List Value} {o1 o2 : Obj} (h : Kp W0 w wr) (h1 : Kp W0 wr w1) (ho : w1.ownsRow w.heap.size 2 1 v n xs) (hg : ((w1.alloc o1).alloc o2).grownBy w2 v.ownBlock) (_ : W0.heap.size < w.heap.size) : Kp W0 w w2 :=
  (((h.trans h1).alloc o1).alloc o2).grown hg (fun k hk => (ho.lt k hk).1)
theorem num_rd {W0 w w1 w2 : World} {tk : Value} {j o : Nat} {v : Value} {n : Nat} {xs : List Value} {o1 o2 : Obj} (h : Rd W0 tk j o w1) (hl : W0.heap.size < w.heap.size) (ho : w1.ownsRow w.heap.size 2 1 v n xs) (hg : ((w1.alloc o1).alloc o2).grownBy w2 v.ownBlock) : Rd W0 tk j o w2 := by
  have h2 := (h.alloc o1).alloc o2
  have hb : w2.heap[W0.heap.size]? = ((w1.alloc o1).alloc o2).heap[W0.heap.size]? := hg.block _ h2.lt (fun e => by have := (ho.lt _ e.symm).1; omega)
  exact ⟨(h2.below.grown hg (by have := h2.lt; omega) (fun k hk => by have := (ho.lt k hk).1; omega)), (World.cell?_of_block hb).trans h2.tok, (World.cell?_of_block hb).trans h2.nxt, (World.cell?_of_block hb).trans h2.opn, (World.frozen?_of_block hb).trans h2.fr1, (World.frozen?_of_block hb).trans h2.fr2, Nat.lt_of_lt_of_le h2.lt hg.size⟩

set_option maxHeartbeats 1000000 in
theorem numbers_any (W0 : World) (ao : Option Addr) (tb cap : Nat) (S : List Tok) (hT : TokIn W0 ao tb S) (j o : Nat) (w : World) (hj0 : j < S.length) (hw : Rd W0 (.slice ao S.length cap) (j + 1) o w) :
    Calls Tryz.prog 218 #[.pointer (some ⟨W0.heap.size, 0, none⟩), .int .i64 (tokAt S j).x] w fun e w' => ∃ k v, e = .returned v ∧ j < k ∧ k ≤ S.length ∧ (∀ i, j < i → i < k → kB (kr S) i 0 = true) ∧ kB (kr S) k 0 = false ∧ Rd W0 (.slice ao S.length cap) k o w' ∧ Kp W0 w w' ∧ w'.ownsRow w.heap.size 2 1 v (k - j) ((worths S j k).map (Value.int .i64)) := by
  obtain ⟨i0, hi, hz0, hz1, hz2⟩ := info_parts Tryz.info2
  have HI := hide hi
  have HZ0 := hide hz0
  have HZ1 := hide hz1
  have HZ2 := hide hz2
  have HW := hide hw
  have HT := hide hT
  have hfew := hT.few
  have hlt := hw.lt
  have HO : Hid ((w.alloc (.cells #[.int .i64 (tokAt S j).x] 2)).ownsRow w.heap.size 2 1 (.slice (some ⟨w.heap.size, 0, none⟩) 1 1) 1 [.int .i64 (tokAt S j).x]) :=
    World.ownsRow_lit (e := 2) (size := 1) w #[.int .i64 (tokAt S j).x] 1 (Nat.le_refl _) (by unfold maxLen; omega) rfl
  have HX := hide (worths_one S j hj0)
  obtain ⟨x, hx⟩ : ∃ x, (tokAt S j).x = x := ⟨_, rfl⟩
  rw [hx] at HO HX ⊢
  clear hi hz0 hz1 hz2 hw hT hx
  go_enter Tryz.func218, Tryz.ntmps218
  go_wp2_with fail
  go_loopg [5] (S.length) (fun g v wr => ∃ k, j < k ∧ k ≤ S.length ∧ S.length - k ≤ g ∧ (∀ i, j < i → i < k → kB (kr S) i 0 = true) ∧ Rd W0 (.slice ao S.length cap) k o wr ∧ Kp W0 w wr ∧ wr.ownsRow w.heap.size 2 1 v (k - j) ((worths S j k).map (Value.int .i64)))
  case atStart =>
    refine ⟨j + 1, by omega, by omega, by omega, fun i h1 h2 => by omega, (unhide HW).alloc _, (Kp.refl W0 w).alloc _, ?_⟩
    rw [unhide HX]
    have : j + 1 - j = 1 := by omega
    rw [this]
    exact unhide HO
  case round =>
    obtain ⟨k, hjk, hkl, hg, hall, hwr, hkp, hown⟩ := hrel
    have HWr := hide hwr
    have HKp := hide hkp
    have HOw := hide hown
    have HAll := hide hall
    clear hwr hkp hown hall
    cases hk : kB (kr S) k 0
    · have HK := hide hk
      clear hk
      go_wp2_with fail
      refine (acc_any W0 ao tb cap S 0 k o _ (unhide HT) hkl (unhide HWr)).mono ?_
      rintro e w1 ⟨rfl, hw1, hk1⟩
      rw [unhide HK] at hw1 ⊢
      unfold Tok.v tokX
      have HW1 : Hid (Rd W0 (.slice ao S.length cap) k o w1) := hw1
      have HK1 := hide hk1
      clear hw1 hk1
      go_wp2_with fail
      go_ret
      refine ⟨k, _, rfl, hjk, hkl, unhide HAll, unhide HK, (unhide HW1).alloc _, ((unhide HKp).trans (unhide HK1)).alloc _, ?_⟩
      exact (owns_keep (unhide HOw) hlt (unhide HK1)).alloc _
    · obtain ⟨hkl', _⟩ := kB_lt hk
      rw [kr_len] at hkl'
      have HSN := hide (worths_snoc S j k (by omega) hkl')
      have HK := hide hk
      clear hk
      obtain ⟨q, hq⟩ : ∃ q, tokAt S k = q := ⟨_, rfl⟩
      have HQ := hide hq
      go_wp2_with fail
      refine (acc_any W0 ao tb cap S 0 k o _ (unhide HT) hkl (unhide HWr)).mono ?_
      rintro e w1 ⟨rfl, hw1, hk1⟩
      rw [unhide HK] at hw1 ⊢
      simp only [cond_true, hq]
      rw [hq] at HSN
      obtain ⟨kk, rr, xx, tt, pp⟩ := q
      clear hq
      unfold Tok.v tokX
      have HW1 : Hid (Rd W0 (.slice ao S.length cap) (k + 1) o w1) := hw1
      have HK1 := hide hk1
      clear hw1 hk1
      have hs1 : w.heap.size ≤ w1.heap.size := Nat.le_trans (unhide HKp).size (unhide HK1).size
      have HO1 := hide (owns_keep (unhide HOw) hlt (unhide HK1))
      go_wp2_with (at_builtin; refine wpList_append_own _ rfl _ _ 32 rfl w.heap.size 2 i0 (.int .i64 0) 1 8 Tryz.underlying32 (unhide HI) (unhide HZ0) (unhide HZ1) (unhide HZ2) rfl (by decide) _ _ _ rfl (((unhide HO1).alloc _).alloc _) ⟨w1.heap.size + 1, 0, none⟩ 1 1 [.int .i64 xx] rfl rfl ?c1 ?c2 ?c3 ?c4 ?c5 ?_)
      case c2 => rfl
      case c3 => unfold maxLen; omega
      case c4 => omega
      case c5 => omega
      · intro v' w2 hown2 hgrow _
        have HR := hide (num_rel (W0 := W0) (unhide HKp) (unhide HK1) (unhide HO1) hgrow hlt)
        have HW2 : Hid (Rd W0 (.slice ao S.length cap) (k + 1) o w2) := num_rd (unhide HW1) hlt (unhide HO1) hgrow
        have HO2 := hide hown2
        clear hown2 hgrow
        go_wp2_with fail
        go_roundg (S.length - (k + 1))
        case measure => omega
        case rel =>
          refine ⟨k + 1, by omega, by omega, by omega, fun i h1 h2 => ?_, unhide HW2, unhide HR, ?_⟩
          · by_cases e : i = k
            · rw [e]; exact unhide HK
            · exact unhide HAll i h1 (by omega)
          · rw [unhide HSN]
            have : k + 1 - j = k - j + 1 := by omega
            rw [this, List.map_append]
            exact unhide HO2
end Go.Proofs.YtjobgpahajhbnaaGreatDoor
