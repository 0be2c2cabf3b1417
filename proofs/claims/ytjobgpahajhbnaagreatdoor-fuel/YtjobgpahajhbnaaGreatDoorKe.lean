import Derived.Test.YtjobgpahajhbnaaGreatDoorTr
import Derived.Test.YtjobgpahajhbnaaGreatDoorJc
namespace Go.Proofs.YtjobgpahajhbnaaGreatDoor
open Go.RowKit Go.Proofs Go.Maps
attribute [local go_sem ↓] Go.wp_at_zero Go.wp_at_succ

theorem foldl_mul (l : List Nat) (a : Nat) : l.foldl (· * ·) a = a * l.foldl (· * ·) 1 := by
  induction l generalizing a with
  | nil => simp
  | cons x l ih =>
    simp only [List.foldl_cons, Nat.one_mul]
    rw [ih (a * x), ih x, Nat.mul_assoc]
theorem prodL_append (l r : List Nat) : prodL (l ++ r) = prodL l * prodL r := by
  unfold prodL
  rw [List.foldl_append, foldl_mul]
theorem prodL_one (n : Nat) : prodL [n] = n := by simp [prodL]
theorem prodL_succ {sh : List Nat} {k : Nat} (h : k < sh.length) : prodL (sh.take (k + 1)) = prodL (sh.take k) * sh[k] := by
  rw [List.take_succ_eq_append_getElem h, prodL_append, prodL_one]
theorem prodL_le {sh : List Nat} (h : ∀ n ∈ sh, n ≤ 400) : prodL sh ≤ 400 ^ sh.length := by
  induction sh with
  | nil => simp [prodL]
  | cons x l ih =>
    have h1 := ih (fun n hn => h n (List.mem_cons_of_mem _ hn))
    have h2 := h x (by simp)
    have e : prodL (x :: l) = x * prodL l := by
      have := prodL_append [x] l
      rw [prodL_one] at this
      exact this
    rw [e, List.length_cons, Nat.pow_succ, Nat.mul_comm]
    exact Nat.mul_le_mul h1 h2
structure Lens (sh : List Nat) : Prop where
  rank : sh.length ≤ 3
  lens : ∀ n ∈ sh, n ≤ 400
theorem Lens.take {sh : List Nat} (h : Lens sh) (k : Nat) : Lens (sh.take k) := ⟨by have := h.rank; simp; omega, fun n hn => h.lens n (List.mem_of_mem_take hn)⟩
theorem Lens.prod {sh : List Nat} (h : Lens sh) : prodL sh ≤ 64000000 := by
  have h1 := prodL_le h.lens
  have h2 : 400 ^ sh.length ≤ 400 ^ 3 := Nat.pow_le_pow_right (by decide) h.rank
  have h3 : 400 ^ 3 = 64000000 := by decide
  omega
set_option maxHeartbeats 1000000 in
theorem count_any {Q : Nat → Prop} (w : World) (so : Option Addr) (sn sc : Nat) (sh : List Nat) (h : Nums Q w (.slice so sn sc) (sh.map Int.ofNat)) (hl : Lens sh) :
    Calls Tryz.prog 225 #[.slice so sn sc] w fun e w' => e = .returned (.int .i64 (prodL sh)) ∧ w' = w := by
  have hn := nums_len h
  simp at hn
  have hsn3 : sn ≤ 3 := by have := hl.rank; omega
  have HL := hide hl
  have HN := hide hn
  have HH := hide h
  clear h hl hn
  go_enter Tryz.func225, Tryz.ntmps225
  go_wp2_with fail
  go_loopw [3, 8] (fun v3 v8 wr => ∃ k : Nat, v8 = .int .i64 k ∧ v3 = .int .i64 (prodL (sh.take k)) ∧ k ≤ sn ∧ wr = w) (fun _ v8 _ => sn - (intOf v8).toNat)
  case atStart => exact ⟨0, rfl, by simp [prodL], by omega, rfl⟩
  case round =>
    obtain ⟨k, rfl, rfl, hk, hwr⟩ := hrel
    have hwr' := hwr.symm
    subst hwr'
    by_cases hlt : k < sn
    · have hks : k < sh.length := by rw [← unhide HN]; exact hlt
      obtain ⟨b, off, rfl, hb, hc, -⟩ := (unhide HH).at (k := k) (by simpa using hks)
      simp at hc
      have hs := prodL_succ hks
      have hm := ((unhide HL).take (k + 1)).prod
      obtain ⟨m, hm1⟩ : ∃ m, prodL (sh.take k) = m := ⟨_, rfl⟩
      obtain ⟨m', hm2⟩ : ∃ m', prodL (sh.take (k + 1)) = m' := ⟨_, rfl⟩
      obtain ⟨y, hy⟩ : ∃ y, sh[k] = y := ⟨_, rfl⟩
      rw [hm1, hm2, hy] at hs
      rw [hm2] at hm
      rw [hy] at hc
      rw [hm1]
      have hw1 : IntKind.i64.wrap ((m : Int) * (y : Int)) = (m' : Int) := by
        rw [← Int.natCast_mul, ← hs]
        exact wrap_pos (by omega) (by omega)
      have hi0 : (0 : Int) ≤ (k : Int) := by omega
      have hi1 : (k : Int) < (sn : Int) := by omega
      have HM := hide hm2
      clear hs hm hm1 hm2 hy
      go_wp2_with fail
      go_roundw
      case rel => exact ⟨k + 1, by go_num, by rw [unhide HM], by omega, (by first | rfl | trivial)⟩
      case measure => simp [intOf]; omega
    · have hke : k = sn := by omega
      subst hke
      have hfl : sh.take k = sh := List.take_of_length_le (by rw [← unhide HN]; exact Nat.le_refl _)
      rw [hfl]
      clear hfl
      go_wp2_with fail
      exact bodyPost_ret (v := .int .i64 (prodL sh)) (by simp [results, Tryz.results225, go_sem]) rfl ⟨rfl, (by first | rfl | trivial)⟩
def fitsB (sh : List Nat) : Bool := sh.all (fun n => decide (n ≤ 64)) && decide (prodL sh ≤ 64)
set_option maxHeartbeats 1000000 in
theorem fits_any {Q : Nat → Prop} (w : World) (so : Option Addr) (sn sc : Nat) (sh : List Nat) (h : Nums Q w (.slice so sn sc) (sh.map Int.ofNat)) (hl : Lens sh) :
    Calls Tryz.prog 222 #[.slice so sn sc] w fun e w' => e = .returned (.bool (fitsB sh)) ∧ w' = w := by
  have hn := nums_len h
  simp at hn
  have hsn3 : sn ≤ 3 := by have := hl.rank; omega
  have HL := hide hl
  have HN := hide hn
  have HH := hide h
  have HC := hide (count_any w so sn sc sh h hl)
  clear h hl hn
  go_enter Tryz.func222, Tryz.ntmps222
  go_wp2_with fail
  go_loopw [7] (fun v7 wr => ∃ k : Nat, v7 = .int .i64 k ∧ (∀ n ∈ sh.take k, n ≤ 64) ∧ k ≤ sn ∧ wr = w) (fun v7 _ => sn - (intOf v7).toNat)
  case atStart => exact ⟨0, rfl, by simp, by omega, rfl⟩
  case round =>
    obtain ⟨k, rfl, hall, hk, hwr⟩ := hrel
    have hwr' := hwr.symm
    subst hwr'
    have HA := hide hall
    clear hall
    by_cases hlt : k < sn
    · have hks : k < sh.length := by rw [← unhide HN]; exact hlt
      obtain ⟨b, off, rfl, hb, hc, -⟩ := (unhide HH).at (k := k) (by simpa using hks)
      simp at hc
      have hy64 := (unhide HL).lens _ (List.getElem_mem hks)
      have HTk : Hid (sh.take (k + 1) = sh.take k ++ [sh[k]]) := hide (List.take_succ_eq_append_getElem hks)
      have HMem := hide (List.getElem_mem hks)
      obtain ⟨y, hy⟩ : ∃ y, sh[k] = y := ⟨_, rfl⟩
      rw [hy] at hc hy64 HTk HMem
      have hi0 : (0 : Int) ≤ (k : Int) := by omega
      have hi1 : (k : Int) < (sn : Int) := by omega
      clear hy
      by_cases hbig : 64 < y
      · have hb' : (64 : Int) < (y : Int) := by omega
        have HF : Hid (fitsB sh = false) := hide (by
          unfold fitsB
          rw [Bool.and_eq_false_iff]
          left
          rw [List.all_eq_false]
          exact ⟨y, unhide HMem, by simp; omega⟩)
        go_wp2_with fail
        exact bodyPost_ret (v := .bool false) (by simp [results, Tryz.results222, go_sem]) rfl ⟨by rw [unhide HF], (by first | rfl | trivial)⟩
      · have hb' : ¬ ((64 : Int) < (y : Int)) := by omega
        go_wp2_with fail
        go_roundw
        case rel => exact ⟨k + 1, by go_num, (by rw [unhide HTk]; intro n hn; rcases List.mem_append.1 hn with h | h; exact unhide HA n h; simp at h; omega), by omega, (by first | rfl | trivial)⟩
        case measure => simp [intOf]; omega
    · have hke : k = sn := by omega
      subst hke
      have hfl : sh.take k = sh := List.take_of_length_le (by rw [← unhide HN]; exact Nat.le_refl _)
      rw [hfl] at HA
      have HF : Hid (fitsB sh = decide ((prodL sh : Int) ≤ 64)) := hide (by
        unfold fitsB
        have : sh.all (fun n => decide (n ≤ 64)) = true := by rw [List.all_eq_true]; intro n hn; simpa using unhide HA n hn
        rw [this, Bool.true_and]
        simp
        omega)
      clear hfl
      go_wp2_with (go_at_call 225; refine (unhide HC).mono ?_; rintro e w' ⟨rfl, rfl⟩)
      exact bodyPost_ret (v := .bool (decide ((prodL sh : Int) ≤ 64))) (by simp [results, Tryz.results222, go_sem]) rfl ⟨by rw [unhide HF], (by first | rfl | trivial)⟩
end Go.Proofs.YtjobgpahajhbnaaGreatDoor
namespace Go.Proofs.YtjobgpahajhbnaaGreatDoor
open Go.RowKit Go.Proofs Go.Maps
attribute [local go_sem ↓] Go.wp_at_zero Go.wp_at_succ

/-- a scalar counts as a row of one -/
def rowed (a : Arr) : Arr := if a.shape.length = 0 then ravelP a else a
theorem rowed_ok {a : Arr} (h : a.ok) : (rowed a).ok := by
  unfold rowed
  split
  · exact ⟨by simp [ravelP], by simp [ravelP]; exact h.few, by simp [ravelP, prodL], h.few, h.fits⟩
  · exact h
theorem rowed_cells (a : Arr) : (rowed a).cells = a.cells := by
  unfold rowed
  split <;> rfl
/-- blocks of which P holds, but the three of a function's own -/
def Off3 (n : Nat) (P : Nat → Prop) (b : Nat) : Prop := P b ∧ (b < n ∨ n + 1 + 1 < b)
/-- where a function of two arrays stands: their two boxes and what it will answer -/
structure St (W : World) (P : Nat → Prop) (w : World) (so : Option Addr) (sn sc : Nat) (co : Option Addr) (cn cc : Nat) (so2 : Option Addr) (sn2 sc2 : Nat) (co2 : Option Addr) (cn2 cc2 : Nat) (a b : Arr) : Prop where
  below : Below W.heap.size W w
  lt : W.heap.size + 1 + 1 < w.heap.size
  a0 : w.cell? ⟨W.heap.size, 0, none⟩ = some (.slice so sn sc)
  a1 : w.cell? ⟨W.heap.size, 1, none⟩ = some (.slice co cn cc)
  b0 : w.cell? ⟨W.heap.size + 1, 0, none⟩ = some (.slice so2 sn2 sc2)
  b1 : w.cell? ⟨W.heap.size + 1, 1, none⟩ = some (.slice co2 cn2 cc2)
  r0 : w.cell? ⟨W.heap.size + 1 + 1, 0, none⟩ = some (.slice none 0 0)
  r1 : w.cell? ⟨W.heap.size + 1 + 1, 1, none⟩ = some (.slice none 0 0)
  fr : ∀ b i, W.heap.size ≤ b → b ≤ W.heap.size + 1 + 1 → w.frozen? ⟨b, i, none⟩ = false
  isA : IsArr (Off3 W.heap.size P) w (.agg #[.slice so sn sc, .slice co cn cc]) a
  isB : IsArr (Off3 W.heap.size P) w (.agg #[.slice so2 sn2 sc2, .slice co2 cn2 cc2]) b
theorem St.keep {W w w' : World} {P : Nat → Prop} {so : Option Addr} {sn sc : Nat} {co : Option Addr} {cn cc : Nat} {so2 : Option Addr} {sn2 sc2 : Nat} {co2 : Option Addr} {cn2 cc2 : Nat} {a b : Arr} (h : St W P w so sn sc co cn cc so2 sn2 sc2 co2 cn2 cc2 a b) (hb : Below w.heap.size w w') : St W P w' so sn sc co cn cc so2 sn2 sc2 co2 cn2 cc2 a b := by
  have l := h.lt
  have hz := hb.size
  refine ⟨h.below.trans (hb.mono h.below.size), by omega, ?_, ?_, ?_, ?_, ?_, ?_, ?_, h.isA.below hb, h.isB.below hb⟩
  · exact (hb.cell (p := ⟨W.heap.size, 0, none⟩) (by show W.heap.size < w.heap.size; omega)).trans h.a0
  · exact (hb.cell (p := ⟨W.heap.size, 1, none⟩) (by show W.heap.size < w.heap.size; omega)).trans h.a1
  · exact (hb.cell (p := ⟨W.heap.size + 1, 0, none⟩) (by show W.heap.size + 1 < w.heap.size; omega)).trans h.b0
  · exact (hb.cell (p := ⟨W.heap.size + 1, 1, none⟩) (by show W.heap.size + 1 < w.heap.size; omega)).trans h.b1
  · exact (hb.cell (p := ⟨W.heap.size + 1 + 1, 0, none⟩) (by show W.heap.size + 1 + 1 < w.heap.size; omega)).trans h.r0
  · exact (hb.cell (p := ⟨W.heap.size + 1 + 1, 1, none⟩) (by show W.heap.size + 1 + 1 < w.heap.size; omega)).trans h.r1
  · intro b i h1 h2
    exact (hb.frozen (p := ⟨b, i, none⟩) (by show b < w.heap.size; omega)).trans (h.fr b i h1 h2)
theorem St.start {W : World} {P : Nat → Prop} {so : Option Addr} {sn sc : Nat} {co : Option Addr} {cn cc : Nat} {so2 : Option Addr} {sn2 sc2 : Nat} {co2 : Option Addr} {cn2 cc2 : Nat} {a b : Arr} (ha : IsArr P W (.agg #[.slice so sn sc, .slice co cn cc]) a) (hb : IsArr P W (.agg #[.slice so2 sn2 sc2, .slice co2 cn2 cc2]) b) :
    St W P (((W.alloc (.cells #[.slice so sn sc, .slice co cn cc] 89)).alloc (.cells #[.slice so2 sn2 sc2, .slice co2 cn2 cc2] 89)).alloc (.cells #[.slice none 0 0, .slice none 0 0] 89)) so sn sc co cn cc so2 sn2 sc2 co2 cn2 cc2 a b := by
  have hbW : Below W.heap.size W (((W.alloc (.cells #[.slice so sn sc, .slice co cn cc] 89)).alloc (.cells #[.slice so2 sn2 sc2, .slice co2 cn2 cc2] 89)).alloc (.cells #[.slice none 0 0, .slice none 0 0] 89)) := (((Below.refl _ _).alloc (Nat.le_refl _) _).alloc (by simp) _).alloc (by simp; omega) _
  have hs : (((W.alloc (.cells #[.slice so sn sc, .slice co cn cc] 89)).alloc (.cells #[.slice so2 sn2 sc2, .slice co2 cn2 cc2] 89)).alloc (.cells #[.slice none 0 0, .slice none 0 0] 89)).heap.size = W.heap.size + 1 + 1 + 1 := by simp
  refine ⟨hbW, by omega, ?_, ?_, ?_, ?_, ?_, ?_, ?_, (ha.imp (fun b hp hl => ⟨hp, .inl hl⟩)).below hbW, (hb.imp (fun b hp hl => ⟨hp, .inl hl⟩)).below hbW⟩
  · rw [World.cell?_of_block (a := ⟨W.heap.size, 0, none⟩) (RowKit.Below.heap_alloc _ _ _ (by simp; omega)), World.cell?_of_block (a := ⟨W.heap.size, 0, none⟩) (RowKit.Below.heap_alloc _ _ _ (by simp))]
    exact (World.cell?_alloc_at _ _ _ _ rfl).trans rfl
  · rw [World.cell?_of_block (a := ⟨W.heap.size, 1, none⟩) (RowKit.Below.heap_alloc _ _ _ (by simp; omega)), World.cell?_of_block (a := ⟨W.heap.size, 1, none⟩) (RowKit.Below.heap_alloc _ _ _ (by simp))]
    exact (World.cell?_alloc_at _ _ _ _ rfl).trans rfl
  · rw [World.cell?_of_block (a := ⟨W.heap.size + 1, 0, none⟩) (RowKit.Below.heap_alloc _ _ _ (by simp))]
    exact (World.cell?_alloc_at _ _ _ _ (by simp)).trans rfl
  · rw [World.cell?_of_block (a := ⟨W.heap.size + 1, 1, none⟩) (RowKit.Below.heap_alloc _ _ _ (by simp))]
    exact (World.cell?_alloc_at _ _ _ _ (by simp)).trans rfl
  · exact (World.cell?_alloc_at _ _ _ _ (by simp)).trans rfl
  · exact (World.cell?_alloc_at _ _ _ _ (by simp)).trans rfl
  · intro b i h1 h2
    by_cases e : b = W.heap.size + 1 + 1
    · subst e; exact World.frozen?_alloc_at _ _ _ _ (by simp)
    · by_cases e2 : b = W.heap.size + 1
      · subst e2
        rw [World.frozen?_of_block (a := ⟨W.heap.size + 1, i, none⟩) (RowKit.Below.heap_alloc _ _ _ (by simp))]
        exact World.frozen?_alloc_at _ _ _ _ (by simp)
      · have e3 : b = W.heap.size := by omega
        subst e3
        rw [World.frozen?_of_block (a := ⟨W.heap.size, i, none⟩) (RowKit.Below.heap_alloc _ _ _ (by simp; omega)), World.frozen?_of_block (a := ⟨W.heap.size, i, none⟩) (RowKit.Below.heap_alloc _ _ _ (by simp))]
        exact World.frozen?_alloc_at _ _ _ _ rfl
/-- b's box is written anew -/
theorem St.setB {W w : World} {P : Nat → Prop} {so : Option Addr} {sn sc : Nat} {co : Option Addr} {cn cc : Nat} {so2 : Option Addr} {sn2 sc2 : Nat} {co2 : Option Addr} {cn2 cc2 : Nat} {a b : Arr} (h : St W P w so sn sc co cn cc so2 sn2 sc2 co2 cn2 cc2 a b) {s1 : Option Addr} {s2 s3 : Nat} {c1 : Option Addr} {c2 c3 : Nat} {b' : Arr} (hb : IsArr (Off3 W.heap.size P) w (.agg #[.slice s1 s2 s3, .slice c1 c2 c3]) b') : St W P ((w.setCell ⟨W.heap.size + 1, 0, none⟩ (.slice s1 s2 s3)).setCell ⟨W.heap.size + 1, 1, none⟩ (.slice c1 c2 c3)) so sn sc co cn cc s1 s2 s3 c1 c2 c3 a b' := by
  have hbl : ∀ b, b ≠ W.heap.size + 1 → ((w.setCell ⟨W.heap.size + 1, 0, none⟩ (.slice s1 s2 s3)).setCell ⟨W.heap.size + 1, 1, none⟩ (.slice c1 c2 c3)).heap[b]? = w.heap[b]? := fun b hne => (RowKit.Below.heap_setCell _ _ _ _ (fun e => hne e)).trans (RowKit.Below.heap_setCell _ _ _ _ (fun e => hne e))
  have hno : ¬ Off3 W.heap.size P (W.heap.size + 1) := by
    rintro ⟨_, h | h⟩ <;> omega
  refine ⟨(h.below.setCell (p := ⟨W.heap.size + 1, 0, none⟩) (by show W.heap.size ≤ W.heap.size + 1; omega) _).setCell (p := ⟨W.heap.size + 1, 1, none⟩) (by show W.heap.size ≤ W.heap.size + 1; omega) _, by simpa using h.lt, ?_, ?_, ?_, ?_, ?_, ?_, ?_, (h.isA.set hno 0 _).set hno 1 _, (hb.set hno 0 _).set hno 1 _⟩
  · rw [World.cell?_of_block (a := ⟨W.heap.size, 0, none⟩) (hbl _ (by show W.heap.size ≠ W.heap.size + 1; omega))]; exact h.a0
  · rw [World.cell?_of_block (a := ⟨W.heap.size, 1, none⟩) (hbl _ (by show W.heap.size ≠ W.heap.size + 1; omega))]; exact h.a1
  · rw [World.cell?_setCell_other _ _ _ _ (by simp)]; exact World.cell?_setCell_same _ _ _ h.b0
  · exact World.cell?_setCell_same _ _ _ (u := .slice co2 cn2 cc2) ((World.cell?_setCell_other _ _ _ _ (by simp)).trans h.b1)
  · rw [World.cell?_of_block (a := ⟨W.heap.size + 1 + 1, 0, none⟩) (hbl _ (by show W.heap.size + 1 + 1 ≠ W.heap.size + 1; omega))]; exact h.r0
  · rw [World.cell?_of_block (a := ⟨W.heap.size + 1 + 1, 1, none⟩) (hbl _ (by show W.heap.size + 1 + 1 ≠ W.heap.size + 1; omega))]; exact h.r1
  · intro b i h1 h2
    rw [World.frozen?_setCell, World.frozen?_setCell]
    exact h.fr b i h1 h2
/-- a's box is written anew -/
theorem St.setA {W w : World} {P : Nat → Prop} {so : Option Addr} {sn sc : Nat} {co : Option Addr} {cn cc : Nat} {so2 : Option Addr} {sn2 sc2 : Nat} {co2 : Option Addr} {cn2 cc2 : Nat} {a b : Arr} (h : St W P w so sn sc co cn cc so2 sn2 sc2 co2 cn2 cc2 a b) {s1 : Option Addr} {s2 s3 : Nat} {c1 : Option Addr} {c2 c3 : Nat} {b' : Arr} (hb : IsArr (Off3 W.heap.size P) w (.agg #[.slice s1 s2 s3, .slice c1 c2 c3]) b') : St W P ((w.setCell ⟨W.heap.size, 0, none⟩ (.slice s1 s2 s3)).setCell ⟨W.heap.size, 1, none⟩ (.slice c1 c2 c3)) s1 s2 s3 c1 c2 c3 so2 sn2 sc2 co2 cn2 cc2 b' b := by
  have hbl : ∀ b, b ≠ W.heap.size → ((w.setCell ⟨W.heap.size, 0, none⟩ (.slice s1 s2 s3)).setCell ⟨W.heap.size, 1, none⟩ (.slice c1 c2 c3)).heap[b]? = w.heap[b]? := fun b hne => (RowKit.Below.heap_setCell _ _ _ _ (fun e => hne e)).trans (RowKit.Below.heap_setCell _ _ _ _ (fun e => hne e))
  have hno : ¬ Off3 W.heap.size P W.heap.size := by
    rintro ⟨_, h | h⟩ <;> omega
  refine ⟨(h.below.setCell (p := ⟨W.heap.size, 0, none⟩) (by show W.heap.size ≤ W.heap.size; omega) _).setCell (p := ⟨W.heap.size, 1, none⟩) (by show W.heap.size ≤ W.heap.size; omega) _, by simpa using h.lt, ?_, ?_, ?_, ?_, ?_, ?_, ?_, (hb.set hno 0 _).set hno 1 _, (h.isB.set hno 0 _).set hno 1 _⟩
  · rw [World.cell?_setCell_other _ _ _ _ (by simp)]; exact World.cell?_setCell_same _ _ _ h.a0
  · exact World.cell?_setCell_same _ _ _ (u := .slice co cn cc) ((World.cell?_setCell_other _ _ _ _ (by simp)).trans h.a1)
  · rw [World.cell?_of_block (a := ⟨W.heap.size + 1, 0, none⟩) (hbl _ (by show W.heap.size + 1 ≠ W.heap.size; omega))]; exact h.b0
  · rw [World.cell?_of_block (a := ⟨W.heap.size + 1, 1, none⟩) (hbl _ (by show W.heap.size + 1 ≠ W.heap.size; omega))]; exact h.b1
  · rw [World.cell?_of_block (a := ⟨W.heap.size + 1 + 1, 0, none⟩) (hbl _ (by show W.heap.size + 1 + 1 ≠ W.heap.size; omega))]; exact h.r0
  · rw [World.cell?_of_block (a := ⟨W.heap.size + 1 + 1, 1, none⟩) (hbl _ (by show W.heap.size + 1 + 1 ≠ W.heap.size; omega))]; exact h.r1
  · intro b i h1 h2
    rw [World.frozen?_setCell, World.frozen?_setCell]
    exact h.fr b i h1 h2
theorem nums_drop {P : Nat → Prop} {w : World} {b off cap : Nat} {xs : List Int} (h : Nums P w (.slice (some ⟨b, off, none⟩) xs.length cap) xs) {k : Nat} (hk : k ≤ xs.length) : Nums P w (.slice (some ⟨b, off + k, none⟩) (xs.length - k) (cap - k)) (xs.drop k) := by
  obtain ⟨ao, cap', hv, hcap, h1, _⟩ := h
  injection hv with e1 e2 e3
  subst e3
  refine ⟨some ⟨b, off + k, none⟩, cap - k, by simp, by simp; omega, fun h0 => ?_, fun a h => by cases h; rfl⟩
  have h0' : 0 < xs.length := by simp at h0; omega
  obtain ⟨b', off', ha, hp, hl, hc⟩ := h1 h0'
  rw [← e1] at ha
  injection ha with ha
  injection ha with e4 e5
  subst e4
  subst e5
  refine ⟨b, off + k, rfl, hp, hl, fun i hi => ?_⟩
  simp at hi
  rw [Nat.add_assoc, hc (k + i) (by omega)]
  simp
theorem nums_take {P : Nat → Prop} {w : World} {b off cap : Nat} {xs : List Int} (h : Nums P w (.slice (some ⟨b, off, none⟩) xs.length cap) xs) {k : Nat} (hk : k ≤ xs.length) : Nums P w (.slice (some ⟨b, off, none⟩) k cap) (xs.take k) := by
  obtain ⟨ao, cap', hv, hcap, h1, _⟩ := h
  injection hv with e1 e2 e3
  subst e3
  refine ⟨some ⟨b, off, none⟩, cap, by simp [Nat.min_eq_left hk], by simp; omega, fun h0 => ?_, fun a h => by cases h; rfl⟩
  have h0' : 0 < xs.length := by simp at h0; omega
  obtain ⟨b', off', ha, hp, hl, hc⟩ := h1 h0'
  rw [← e1] at ha
  injection ha with ha
  injection ha with e4 e5
  subst e4
  subst e5
  refine ⟨b, off, rfl, hp, hl, fun i hi => ?_⟩
  simp at hi
  rw [hc i (by omega)]
  simp
set_option maxHeartbeats 1000000 in
theorem least_any (P : Nat → Prop) (W : World) (hP : ∀ b, W.heap.size ≤ b → P b) (so : Option Addr) (sn sc : Nat) (co : Option Addr) (cn cc : Nat) (a : Arr) (ha : IsArr P W (.agg #[.slice so sn sc, .slice co cn cc]) a) :
    Calls Tryz.prog 254 #[.agg #[.slice so sn sc, .slice co cn cc]] W fun e w' => ∃ s1 s2 s3 c1 c2 c3, e = .returned (.agg #[.slice s1 s2 s3, .slice c1 c2 c3]) ∧ IsArr P w' (.agg #[.slice s1 s2 s3, .slice c1 c2 c3]) (rowed a) ∧ Below W.heap.size W w' := by
  have hsn := (isArr_len ha).2
  have HS := hide (fun W' => isScalar_any W' so sn sc co cn cc)
  have HC := hide (fun W' (h : Below W.heap.size W W') (hs : W.heap.size + 1 < W'.heap.size) => row_any (fun b => P b ∧ b ≠ W.heap.size + 1) W' (fun b h' => ⟨hP b (by omega), by omega⟩) (.slice co cn cc) a.cells (((isArr_cells ha).imp (fun b hp hl => ⟨hp, by omega⟩)).below h))
  have HA := hide (ha.imp (Q := fun b => P b ∧ b ≠ W.heap.size + 1) (fun b hp hl => ⟨hp, by omega⟩))
  obtain ⟨r, hr⟩ : ∃ r : Arr, rowed a = r := ⟨_, rfl⟩
  simp only [hr]
  by_cases h0 : sn = 0
  · have hr' : (⟨[a.cells.length], a.cells⟩ : Arr) = r := by rw [← hr]; unfold rowed; rw [if_pos (by omega)]; rfl
    simp only [hr'] at HC
    subst h0
    clear hr hr' ha hP hsn HA
    go_enter Tryz.func254, Tryz.ntmps254
    go_wp2_with (go_at_call 220; refine (unhide HS _).mono ?_; rintro e w' ⟨rfl, rfl⟩)
    have HBW : Hid (Below W.heap.size W ((((W.alloc (.cells #[.slice so 0 sc, .slice co cn cc] 89)).alloc (.cells #[.slice none 0 0, .slice none 0 0] 89)).alloc (.cells #[.slice so 0 sc, .slice co cn cc] 89)).alloc (.cells #[.slice so 0 sc, .slice co cn cc] 89))) := hide ((((((Below.refl W.heap.size W).alloc (Nat.le_refl _) _).alloc (by simp) _).alloc (by simp; omega) _).alloc (by simp; omega) _))
    refine (unhide HC _ (unhide HBW) (by simp)).mono ?_
    rintro e w1 ⟨s1, s2, s3, c1, c2, c3, rfl, h1, hb1⟩
    have HA := hide h1
    have HB : Hid (Below W.heap.size W w1) := hide ((unhide HBW).trans (hb1.mono (unhide HBW).size))
    obtain ⟨hc, hf⟩ := bcell hb1
    have hs1 := hb1.size
    simp only [World.size_alloc] at hc hf hs1
    have d0 : w1.cell? ⟨W.heap.size + 1, 0, none⟩ = some (.slice none 0 0) := (hc (W.heap.size + 1) 0 (by omega)).trans ((cell_res W _ _ _ _ 0).trans rfl)
    have d1 : w1.cell? ⟨W.heap.size + 1, 1, none⟩ = some (.slice none 0 0) := (hc (W.heap.size + 1) 1 (by omega)).trans ((cell_res W _ _ _ _ 1).trans rfl)
    have g0 := (hf (W.heap.size + 1) 0 (by omega)).trans (frozen_res W _ _ _ _ 0)
    have g1 := (hf (W.heap.size + 1) 1 (by omega)).trans (frozen_res W _ _ _ _ 1)
    have hw1 : W.heap.size + 1 < w1.heap.size := by omega
    clear h1 hb1 hc hf HBW HC HS
    go_wp2_with fail
    refine bodyPost_ret (v := .agg #[.slice s1 s2 s3, .slice c1 c2 c3]) (by simp [results, Tryz.results254, go_sem, d0, d1]) rfl ⟨_, _, _, _, _, _, rfl, ?_, ?_⟩
    · exact (((unhide HA).set (fun h => h.2 rfl) 0 _).set (fun h => h.2 rfl) 1 _).imp (fun b h _ => h.1)
    · exact ((unhide HB).setCell (p := ⟨W.heap.size + 1, 0, none⟩) (Nat.le_succ _) _).setCell (p := ⟨W.heap.size + 1, 1, none⟩) (Nat.le_succ _) _
  · have hr' : a = r := by rw [← hr]; unfold rowed; rw [if_neg (by omega)]
    subst hr'
    have h0' : ((sn : Int) == 0) = false := by rw [beq_eq_false_iff_ne]; omega
    clear hr ha hP hsn HC h0
    go_enter Tryz.func254, Tryz.ntmps254
    go_wp2_with (go_at_call 220; refine (unhide HS _).mono ?_; rintro e w' ⟨rfl, rfl⟩)
    refine bodyPost_ret (v := .agg #[.slice so sn sc, .slice co cn cc]) (by simp [results, Tryz.results254, go_sem]) rfl ⟨_, _, _, _, _, _, rfl, ?_, ?_⟩
    · exact ((unhide HA).below (((((Below.refl W.heap.size W).alloc (Nat.le_refl _) _).alloc (by simp) _).alloc (by simp; omega) _).alloc (by simp; omega) _)).imp (fun b h _ => h.1)
    · exact ((((Below.refl W.heap.size W).alloc (Nat.le_refl _) _).alloc (by simp) _).alloc (by simp; omega) _).alloc (by simp; omega) _
end Go.Proofs.YtjobgpahajhbnaaGreatDoor
