import Derived.Test.YtjobgpahajhbnaaGreatDoorGf
import Derived.Test.YtjobgpahajhbnaaGreatDoorTr
import Derived.Test.YtjobgpahajhbnaaGreatDoorKd
import Derived.Test.YtjobgpahajhbnaaGreatDoorVg
import Derived.Test.YtjobgpahajhbnaaGreatDoorEa
import Derived.Deep.RegionHeld3
import Derived.Test.YtjobgpahajhbnaaGreatDoorEb
import Derived.Test.YtjobgpahajhbnaaGreatDoorSi
namespace Go.Proofs.YtjobgpahajhbnaaGreatDoor
open Go.RowKit Go.Proofs
attribute [local go_sem ↓] Go.wp_at_zero Go.wp_at_succ

/-- blocks of twenty -/
def st1 (cf : Int → Int → Int) (n : Nat) : Nat → Nat → List Int → List Int
  | 0, a, d => insOut cf a (n - (a + 1)) (a + 1) d
  | f + 1, a, d => if a + 20 ≤ n then st1 cf n f (a + 20) (insOut cf a (a + 20 - (a + 1)) (a + 1) d) else insOut cf a (n - (a + 1)) (a + 1) d
/-- blocks made one, two by two -/
def mrg (cf : Int → Int → Int) (n s : Nat) : Nat → Nat → List Int → List Int
  | 0, _, d => d
  | f + 1, a, d => if a + 2 * s ≤ n then mrg cf n s f (a + 2 * s) (symP cf (2 * s) a (a + s) (a + 2 * s) d) else if a + s < n then symP cf (n - a) a (a + s) n d else d
def mrgs (cf : Int → Int → Int) (n : Nat) : Nat → Nat → List Int → List Int
  | 0, _, d => d
  | f + 1, s, d => if s < n then mrgs cf n f (2 * s) (mrg cf n s (n + 1) 0 d) else d
def stableP (cf : Int → Int → Int) (n : Nat) (d : List Int) : List Int := mrgs cf n (n + 1) 20 (st1 cf n (n + 1) 0 d)
set_option maxHeartbeats 8000000 in
set_option maxRecDepth 20000 in
theorem stable_any (g n b3 b2 cap : Nat) (W0 : World) (cf : Int → Int → Int) (hC : CmpC g n b3 b2 W0 cf) (hn : n ≤ 1000) (W : World) (d : List Int) (hS : SAt g n W0 W d) :
    Calls Tryz.prog 288 #[.slice (some ⟨g, 0, none⟩) n cap, .int .i64 n, .func (.func 276) #[] #[.pointer (some ⟨b3, 0, none⟩), .pointer (some ⟨b2, 0, none⟩)]] W fun e W' => e = .returned (.tuple #[]) ∧ SAt g n W0 W' (stableP cf n d) := by
  have HC := hide hC
  have HS := hide hS
  obtain ⟨R1, hR1⟩ : ∃ R1, st1 cf n (n + 1) 0 d = R1 := ⟨_, rfl⟩
  obtain ⟨R, hR⟩ : ∃ R, mrgs cf n (n + 1) 20 R1 = R := ⟨_, rfl⟩
  have hRR : stableP cf n d = R := by unfold stableP; rw [hR1, hR]
  rw [hRR]
  have HR1 := hide hR1
  have HR := hide hR
  clear hC hS hR hR1 hRR
  go_enter Tryz.func288, Tryz.ntmps288
  go_wp2_with fail
  go_loopw [7, 8] (fun v7 v8 wr => ∃ (a f : Nat) (d : List Int), v7 = .int .i64 a ∧ v8 = .int .i64 (a + 20 : Nat) ∧ a ≤ n ∧ n < a + f ∧ SAt g n W0 wr d ∧ Hid (st1 cf n f a d = R1)) (fun _ v8 _ => n + 20 - (intOf v8).toNat)
  case atStart => exact ⟨0, n + 1, d, rfl, rfl, by omega, by omega, unhide HS, HR1⟩
  case round =>
    obtain ⟨a, f, d, rfl, rfl, han, hf, hS, hE⟩ := hrel
    rename World => wr
    have HSx := hide hS
    obtain ⟨f, rfl⟩ : ∃ f', f = f' + 1 := ⟨f - 1, by omega⟩
    obtain ⟨a2, ha2⟩ : ∃ a2, a + 20 = a2 := ⟨_, rfl⟩
    rw [ha2]
    by_cases hlt : a2 ≤ n
    · have HIn := hide (insert_any g n b3 b2 cap a a2 W0 cf (unhide HC) hn (by omega) hlt wr d hS)
      have HE2 : Hid (st1 cf n f a2 (insOut cf a (a2 - (a + 1)) (a + 1) d) = R1) := hide (by
        have h1 := unhide hE
        rw [st1, ha2, if_pos hlt] at h1
        exact h1)
      have g0 : (a2 : Int) ≤ (n : Int) := by omega
      have HA2 := hide ha2
      clear hS hE ha2
      go_wp2_with fail
      refine (unhide HIn).mono ?_
      rintro e w5 ⟨rfl, hS5⟩
      have HS5 := hide hS5
      clear hS5
      go_wp2_with fail
      go_roundw
      case rel => exact ⟨a2, f, _, by first | rfl | go_num, by first | rfl | go_num, by omega, by have := unhide HA2; omega, unhide HS5, HE2⟩
      case measure => simp [intOf]; omega
    · have HIn := hide (insert_any g n b3 b2 cap a n W0 cf (unhide HC) hn han (Nat.le_refl _) wr d hS)
      have hd : insOut cf a (n - (a + 1)) (a + 1) d = R1 := by
        have h1 := unhide hE
        rw [st1, ha2, if_neg hlt] at h1
        exact h1
      rw [hd] at HIn
      have g0 : ¬ (a2 : Int) ≤ (n : Int) := by omega
      clear hS hE hd ha2
      go_wp2_with fail
      refine (unhide HIn).mono ?_
      rintro e w5 ⟨rfl, hS5⟩
      have HS5 := hide hS5
      clear hS5 HIn
      go_wp2_with fail
      go_loopw [6] (fun v6 wx => ∃ (s f : Nat) (d : List Int), v6 = .int .i64 s ∧ 0 < s ∧ s ≤ 2020 ∧ n < s + f ∧ SAt g n W0 wx d ∧ Hid (mrgs cf n f s d = R)) (fun v6 _ => n + 1 - (intOf v6).toNat)
      case atStart => exact ⟨20, n + 1, R1, rfl, by omega, by omega, by omega, unhide HS5, HR⟩
      case round =>
        obtain ⟨s, f, d, rfl, hs0, hs1, hf, hS, hE⟩ := hrel
        rename World => wx
        have HSy := hide hS
        by_cases hsn : s < n
        · obtain ⟨f, rfl⟩ : ∃ f', f = f' + 1 := ⟨f - 1, by omega⟩
          obtain ⟨s2, hs2⟩ : ∃ s2, 2 * s = s2 := ⟨_, rfl⟩
          obtain ⟨R2, hR2⟩ : ∃ R2, mrg cf n s (n + 1) 0 d = R2 := ⟨_, rfl⟩
          have HE2 : Hid (mrgs cf n f s2 R2 = R) := hide (by
            have h1 := unhide hE
            rw [mrgs, if_pos hsn, hs2, hR2] at h1
            exact h1)
          have HR2 := hide hR2
          have hw1 : IntKind.i64.wrap (2 * (s : Int)) = (s2 : Int) := by
            have e : 2 * (s : Int) = (s2 : Int) := by omega
            rw [e]
            exact wrap_pos (by omega) (by omega)
          have hw2 : IntKind.i64.wrap ((s : Int) * 2) = (s2 : Int) := by
            have e : (s : Int) * 2 = (s2 : Int) := by omega
            rw [e]
            exact wrap_pos (by omega) (by omega)
          have g0 : (s : Int) < (n : Int) := by omega
          have HS2 := hide hs2
          clear hS hE hR2 hs2
          go_wp2_with fail
          go_loopw [7, 8] (fun v7 v8 wy => ∃ (a f : Nat) (d : List Int), v7 = .int .i64 a ∧ v8 = .int .i64 (a + s2 : Nat) ∧ a ≤ n ∧ n < a + f ∧ SAt g n W0 wy d ∧ Hid (mrg cf n s f a d = R2)) (fun _ v8 _ => n + s2 - (intOf v8).toNat)
          case atStart => exact ⟨0, n + 1, d, rfl, by first | rfl | go_num | (rw [Nat.zero_add]), by omega, by omega, unhide HSy, HR2⟩
          case round =>
            obtain ⟨a, k, d, rfl, rfl, han, hk, hS, hE⟩ := hrel
            rename World => wy
            have HSz := hide hS
            obtain ⟨k, rfl⟩ : ∃ k', k = k' + 1 := ⟨k - 1, by omega⟩
            obtain ⟨b, hab⟩ : ∃ b, a + s2 = b := ⟨_, rfl⟩
            obtain ⟨m, ham⟩ : ∃ m, a + s = m := ⟨_, rfl⟩
            have hs2' := unhide HS2
            rw [hab]
            have hwm : IntKind.i64.wrap ((a : Int) + (s : Int)) = (m : Int) := by
              rw [← Int.natCast_add, ham]
              exact wrap_pos (by omega) (by omega)
            by_cases hbn : b ≤ n
            · have HSm := hide (sym_any g n b3 b2 cap W0 cf (unhide HC) hn s2 a m b wy d (by omega) (by omega) hbn (by omega) hS)
              have HE3 : Hid (mrg cf n s k b (symP cf s2 a m b d) = R2) := hide (by
                have h1 := unhide hE
                rw [mrg, hs2', hab, ham, if_pos hbn] at h1
                exact h1)
              have g1 : (b : Int) ≤ (n : Int) := by omega
              have hwb : IntKind.i64.wrap ((b : Int) + (s2 : Int)) = ((b + s2 : Nat) : Int) := by
                rw [← Int.natCast_add]
                exact wrap_pos (by omega) (by omega)
              have HAB := hide hab
              clear hS hE hab ham hs2'
              go_wp2_with fail
              refine (unhide HSm).mono ?_
              rintro e w6 ⟨rfl, hS6⟩
              have HS6 := hide hS6
              clear hS6
              go_wp2_with fail
              go_roundw
              case rel => exact ⟨b, k, _, by first | rfl | go_num, by first | rfl | go_num, by omega, by have := unhide HAB; have := unhide HS2; omega, unhide HS6, HE3⟩
              case measure => simp [intOf]; have := unhide HAB; have := unhide HS2; omega
            · have g1 : ¬ (b : Int) ≤ (n : Int) := by omega
              by_cases hmn : m < n
              · have HSm := hide (sym_any g n b3 b2 cap W0 cf (unhide HC) hn (n - a) a m n wy d (by omega) hmn (Nat.le_refl _) (Nat.le_refl _) hS)
                have hd : symP cf (n - a) a m n d = R2 := by
                  have h1 := unhide hE
                  rw [mrg, hs2', hab, ham, if_neg hbn, if_pos hmn] at h1
                  exact h1
                rw [hd] at HSm
                have g2 : (m : Int) < (n : Int) := by omega
                clear hS hE hab ham hs2' hd
                go_wp2_with fail
                refine (unhide HSm).mono ?_
                rintro e w6 ⟨rfl, hS6⟩
                have HS6 := hide hS6
                clear hS6
                go_wp2_with fail
                go_roundw
                case rel => exact ⟨s2, f, R2, by first | rfl | go_num, by have := unhide HS2; omega, by have := unhide HS2; omega, by have := unhide HS2; omega, unhide HS6, HE2⟩
                case measure => simp [intOf]; have := unhide HS2; omega
              · have hd : d = R2 := by
                  have h1 := unhide hE
                  rw [mrg, hs2', hab, ham, if_neg hbn, if_neg hmn] at h1
                  exact h1
                subst hd
                have g2 : ¬ (m : Int) < (n : Int) := by omega
                clear hS hE hab ham hs2'
                go_wp2_with fail
                go_roundw
                case rel => exact ⟨s2, f, d, by first | rfl | go_num, by have := unhide HS2; omega, by have := unhide HS2; omega, by have := unhide HS2; omega, unhide HSz, HE2⟩
                case measure => simp [intOf]; have := unhide HS2; omega
        · have hd : d = R := by
            have h1 := unhide hE
            cases f with
            | zero => rw [mrgs] at h1; exact h1
            | succ f => rw [mrgs, if_neg hsn] at h1; exact h1
          subst hd
          have g0 : ¬ (s : Int) < (n : Int) := by omega
          clear hS hE
          go_wp2_with fail
          go_end0
          exact ⟨rfl, unhide HSy⟩
set_option maxHeartbeats 1000000 in
theorem sortStable_any (g n b3 b2 cap : Nat) (W0 : World) (cf : Int → Int → Int) (hC : CmpC g n b3 b2 W0 cf) (hn : n ≤ 1000) (W : World) (d : List Int) (hS : SAt g n W0 W d) :
    Calls Tryz.prog 275 #[.slice (some ⟨g, 0, none⟩) n cap, .func (.func 276) #[] #[.pointer (some ⟨b3, 0, none⟩), .pointer (some ⟨b2, 0, none⟩)]] W fun e W' => e = .returned (.tuple #[]) ∧ SAt g n W0 W' (stableP cf n d) := by
  have HC := hide (stable_any g n b3 b2 cap W0 cf hC hn W d hS)
  obtain ⟨R, hR⟩ : ∃ R, stableP cf n d = R := ⟨_, rfl⟩
  rw [hR] at HC ⊢
  clear hC hS hR
  go_enter Tryz.func275, Tryz.ntmps275
  go_wp2_with (go_at_call 288; refine (unhide HC).mono ?_; rintro e w5 ⟨rfl, hS5⟩; have HS5 := hide hS5; clear hS5)
  go_end0
  exact ⟨rfl, unhide HS5⟩
end Go.Proofs.YtjobgpahajhbnaaGreatDoor
namespace Go.Proofs.YtjobgpahajhbnaaGreatDoor
open Go.RowKit Go.Proofs
attribute [local go_sem ↓] Go.wp_at_zero Go.wp_at_succ

/-- boxes from W on: what each of their cells holds -/
structure Bx (W w : World) (l : List (List Value)) : Prop where
  below : Below W.heap.size W w
  lt : W.heap.size + l.length ≤ w.heap.size
  cell : ∀ q j v, (l[q]?.bind (·[j]?)) = some v → w.cell? ⟨W.heap.size + q, j, none⟩ = some v ∧ w.frozen? ⟨W.heap.size + q, j, none⟩ = false
theorem Bx.nil (W : World) : Bx W W [] := ⟨Below.refl _ _, by simp, fun q j v h => by simp at h⟩
theorem Bx.next {W w w' : World} {l : List (List Value)} (h : Bx W w l) (hb : Below w.heap.size w w') : Bx W w' l := by
  have h1 := h.lt
  have h2 := hb.size
  refine ⟨h.below.trans (hb.mono h.below.size), by omega, fun q j v hq => ?_⟩
  have hql : q < l.length := by
    rcases Nat.lt_or_ge q l.length with h | h
    · exact h
    · rw [List.getElem?_eq_none h] at hq
      cases hq
  obtain ⟨a, b⟩ := h.cell q j v hq
  exact ⟨(hb.cell (p := ⟨W.heap.size + q, j, none⟩) (by show W.heap.size + q < w.heap.size; omega)).trans a, (hb.frozen (p := ⟨W.heap.size + q, j, none⟩) (by show W.heap.size + q < w.heap.size; omega)).trans b⟩
theorem Bx.keep {W w w' : World} {l : List (List Value)} (h : Bx W w l) (hb : Below (W.heap.size + l.length) w w') : Bx W w' l := by
  have h1 := h.lt
  have h2 := hb.size
  refine ⟨h.below.trans (hb.mono (by omega)), by omega, fun q j v hq => ?_⟩
  have hql : q < l.length := by
    rcases Nat.lt_or_ge q l.length with h | h
    · exact h
    · rw [List.getElem?_eq_none h] at hq
      cases hq
  obtain ⟨a, b⟩ := h.cell q j v hq
  exact ⟨(hb.cell (p := ⟨W.heap.size + q, j, none⟩) (by show W.heap.size + q < W.heap.size + l.length; omega)).trans a, (hb.frozen (p := ⟨W.heap.size + q, j, none⟩) (by show W.heap.size + q < W.heap.size + l.length; omega)).trans b⟩
theorem Bx.alloc {W w : World} {l : List (List Value)} (h : Bx W w l) (hs : w.heap.size = W.heap.size + l.length) (vs : List Value) (e : TypeId) : Bx W (w.alloc (.cells vs.toArray e)) (l ++ [vs]) := by
  refine ⟨h.below.alloc h.below.size _, by simp; omega, fun q j v hq => ?_⟩
  by_cases hql : q < l.length
  · rw [List.getElem?_append_left hql] at hq
    obtain ⟨a, b⟩ := h.cell q j v hq
    have hb : Below w.heap.size w (w.alloc (.cells vs.toArray e)) := (Below.refl _ _).alloc (Nat.le_refl _) _
    exact ⟨(hb.cell (p := ⟨W.heap.size + q, j, none⟩) (by show W.heap.size + q < w.heap.size; omega)).trans a, (hb.frozen (p := ⟨W.heap.size + q, j, none⟩) (by show W.heap.size + q < w.heap.size; omega)).trans b⟩
  · rw [List.getElem?_append_right (by omega)] at hq
    have : q - l.length = 0 := by
      rcases Nat.eq_zero_or_pos (q - l.length) with e | e
      · exact e
      · rw [List.getElem?_eq_none (by simp; omega)] at hq
        cases hq
    rw [this] at hq
    have hq : vs[j]? = some v := by simpa using hq
    have hqe : W.heap.size + q = w.heap.size := by omega
    rw [hqe]
    exact ⟨(World.cell?_alloc_at _ _ _ _ rfl).trans (by simpa using hq), World.frozen?_alloc_at _ _ _ _ rfl⟩
/-- blocks of which P holds, the boxes aside -/
def OffB (n k : Nat) (P : Nat → Prop) (b : Nat) : Prop := P b ∧ (b < n ∨ n + k ≤ b)
theorem OffB.new {n k : Nat} {P : Nat → Prop} (hP : ∀ b, n ≤ b → P b) {b : Nat} (h : n + k ≤ b) : OffB n k P b := ⟨hP b (by omega), Or.inr h⟩
end Go.Proofs.YtjobgpahajhbnaaGreatDoor
namespace Go.Proofs.YtjobgpahajhbnaaGreatDoor
open Go.RowKit Go.Proofs
attribute [local go_sem ↓] Go.wp_at_zero Go.wp_at_succ

theorem fin_bx {W w : World} {P : Nat → Prop} {k q : Nat} {v u0 u1 : Value} {a : Arr} (hb : Below W.heap.size W w) (hq : q < k) (hA : IsArr (OffB W.heap.size k P) w v a) : IsArr P ((w.setCell ⟨W.heap.size + q, 0, none⟩ u0).setCell ⟨W.heap.size + q, 1, none⟩ u1) v a ∧ Below W.heap.size W ((w.setCell ⟨W.heap.size + q, 0, none⟩ u0).setCell ⟨W.heap.size + q, 1, none⟩ u1) := by
  have hno : ¬ OffB W.heap.size k P (W.heap.size + q) := by
    rintro ⟨_, h⟩
    omega
  exact ⟨((hA.set hno 0 _).set hno 1 _).imp (fun b h _ => h.1), (hb.setCell (p := ⟨W.heap.size + q, 0, none⟩) (by show W.heap.size ≤ W.heap.size + q; omega) _).setCell (p := ⟨W.heap.size + q, 1, none⟩) (by show W.heap.size ≤ W.heap.size + q; omega) _⟩
end Go.Proofs.YtjobgpahajhbnaaGreatDoor
namespace Go.Proofs.YtjobgpahajhbnaaGreatDoor
open Go.RowKit

/-- a function of one array, as it is written ahead of a blank -/
structure Fn1 (f : List UInt8) : Prop where
  hd : ∃ c l, f = c :: l ∧ c ≠ 32 ∧ tailU c = false
  tl : ∀ r, tl (f ++ (32 :: r)) = some f.length
  kind : kindT ⟨f.toArray⟩ = 3
  role : roleB (roleT ⟨f.toArray⟩) 1 = true
theorem tl_ravel (r : List UInt8) : tl ([114, 97, 118, 101, 108] ++ (32 :: r)) = some 5 := by
  have h : ([114, 97, 118, 101, 108] ++ (32 :: r)).takeWhile lU = [114, 97, 118, 101, 108] := rfl
  have hf : isFn [114, 97, 118, 101, 108] = true := by decide +kernel
  show wrdE ([114, 97, 118, 101, 108] ++ (32 :: r)) = some 5
  unfold wrdE
  rw [h]
  simp [hf]
theorem fn1_ravel : Fn1 [114, 97, 118, 101, 108] := ⟨⟨114, [97, 118, 101, 108], rfl, by decide, by decide⟩, tl_ravel, by decide +kernel, by decide +kernel⟩
end Go.Proofs.YtjobgpahajhbnaaGreatDoor
namespace Go.Proofs.YtjobgpahajhbnaaGreatDoor
open Go.RowKit

/-- numbers with blanks between -/
inductive NmRow : List Int → List UInt8 → Prop where
  | one (n : Int) (t : List UInt8) : Nm n t → NmRow [n] t
  | more (n : Int) (t : List UInt8) (ns : List Int) (u : List UInt8) : Nm n t → NmRow ns u → NmRow (n :: ns) (t ++ (32 :: u))
theorem stop_blank (r : List UInt8) : Stop (32 :: r) := by intro c hc; simp at hc; subst hc; decide
theorem row_toks {ns : List Int} {t : List UInt8} (h : NmRow ns t) : ∀ (p : Nat) (r : List UInt8), Stop r → ∃ A : List (Nat × Nat), LY p t r A ∧ A.length = ns.length ∧
    ∀ (s : ByteArray) (q : List UInt8), s.data.toList = q ++ (t ++ r) → q.length = p → ∀ i, (hi : i < ns.length) → ∃ x y, A[i]? = some (x, y) ∧ kindT (s.extract x y) = 0 ∧ roleT (s.extract x y) = 0 ∧ worthT (s.extract x y) = ns[i] := by
  induction h with
  | one n t hn =>
    intro p r hr
    refine ⟨[(p, p + t.length)], nm_ly hn hr p, rfl, ?_⟩
    intro s q hs hq i hi
    have : i = 0 := by simpa using hi
    subst this
    obtain ⟨k1, k2, k3⟩ := nm_tok hn
    have ht := ext_mid hs hq
    exact ⟨p, p + t.length, rfl, by rw [ht, k1], by rw [ht, k2], by rw [ht, k3]; rfl⟩
  | more n t ns u hn hu ih =>
    intro p r hr
    obtain ⟨A, hA, hl, hf⟩ := ih (p + t.length + 1) r hr
    refine ⟨(p, p + t.length) :: A, ?_, by simp [hl], ?_⟩
    · have h1 := nm_ly hn (stop_blank (u ++ r)) p
      exact h1.append (l2 := 32 :: u) (r := r) (by simp) (LY.blank _ _ _ _ hA)
    · intro s q hs hq i hi
      match i, hi with
      | 0, _ =>
        obtain ⟨k1, k2, k3⟩ := nm_tok hn
        have ht := ext_mid (t := t) (r := (32 :: u) ++ r) (by rw [hs]; simp) hq
        exact ⟨p, p + t.length, rfl, by rw [ht, k1], by rw [ht, k2], by rw [ht, k3]; rfl⟩
      | i + 1, hi =>
        obtain ⟨x, y, h1, h2⟩ := hf s (q ++ t ++ [32]) (by rw [hs]; simp) (by simp [hq]; omega) i (by simpa using hi)
        exact ⟨x, y, by simpa using h1, by simpa using h2⟩
theorem row_pos {ns : List Int} {t : List UInt8} (h : NmRow ns t) : 0 < ns.length := by cases h <;> simp
/-- a function of two arrays, with blanks round it -/
structure Fn2 (f : List UInt8) : Prop where
  hd : ∃ c l, f = c :: l ∧ c ≠ 32
  tl : ∀ r, tl (f ++ (32 :: r)) = some f.length
  kind : kindT ⟨f.toArray⟩ = 3
  role : roleB (roleT ⟨f.toArray⟩) 2 = true
/-- what may come behind a name -/
def StopN (r : List UInt8) : Prop := ∀ c, r.head? = some c → lU c = false
/-- a name -/
structure NameT (t : List UInt8) : Prop where
  hd : ∃ c l, t = c :: l ∧ c ≠ 32 ∧ tailU c = false
  tl : ∀ r, StopN r → tl (t ++ r) = some t.length
  kind : kindT ⟨t.toArray⟩ = 1
  role : roleT ⟨t.toArray⟩ = 0
/-- a text at place p, its tree; brackets so deep at most; true: it is a THING -/
inductive Tw : Nat → Bool → Nat → Ex → List UInt8 → Prop where
  | row (d p : Nat) (ns : List Int) (t : List UInt8) : NmRow ns t → Tw d true p (.num ns) t
  | name (d p : Nat) (t : List UInt8) : NameT t → Tw d true p (.name ⟨t.toArray⟩ p) t
  | br (d p : Nat) (x : Ex) (t : List UInt8) : Tw d false (p + 1) x t → Tw (d + 1) true p x (40 :: (t ++ [41]))
  | only (d p : Nat) (x : Ex) (t : List UInt8) : Tw d true p x t → Tw d false p x t
  | two (d p : Nat) (f : List UInt8) (l r : Ex) (a b : List UInt8) : Fn2 f → Tw d true p l a → Tw d false (p + a.length + 1 + f.length + 1) r b → Tw d false p (.two ⟨f.toArray⟩ (p + a.length + 1) l r) (a ++ (32 :: (f ++ (32 :: b))))
  | one (d p : Nat) (f : List UInt8) (r : Ex) (b : List UInt8) : Fn1 f → Tw d false (p + f.length + 1) r b → Tw d false p (.one ⟨f.toArray⟩ p r) (f ++ (32 :: b))
/-- the tokens A of a text t at place p give the tree x, wherever they stand, and none of them is 'is' -/
def GivesW (d : Nat) (b : Bool) (x : Ex) (t : List UInt8) (p : Nat) (r : List UInt8) (A : List (Nat × Nat)) : Prop :=
  ∀ (s : ByteArray) (q : List UInt8), s.data.toList = q ++ (t ++ r) → q.length = p → ∀ (pre post : List (Nat × Nat)) (o : Nat), d + o ≤ 8 →
    kB (kr (toks s (pre ++ (A ++ post)))) (pre.length + A.length) 0 = false → (b = false → fB (kr (toks s (pre ++ (A ++ post)))) (pre.length + A.length) 2 = false) →
    (b = true → fB (kr (toks s (pre ++ (A ++ post)))) pre.length 1 = false) ∧ (∀ i, i < A.length → kB (kr (toks s (pre ++ (A ++ post)))) (pre.length + i) 2 = false) ∧ PX (toks s (pre ++ (A ++ post))) b pre.length o x (pre.length + A.length)
theorem at_in {pre A post : List (Nat × Nat)} {i : Nat} {z : Nat × Nat} (h : A[i]? = some z) : (pre ++ (A ++ post))[pre.length + i]? = some z := by
  rw [List.getElem?_append_right (by omega), Nat.add_sub_cancel_left, List.getElem?_append_left (List.getElem?_eq_some_iff.1 h).1]
  exact h
theorem worths_row {s : ByteArray} {pre A post : List (Nat × Nat)} {ns : List Int} (hl : A.length = ns.length) (h : ∀ i, (hi : i < ns.length) → ∃ x y, A[i]? = some (x, y) ∧ worthT (s.extract x y) = ns[i]) : worths (toks s (pre ++ (A ++ post))) pre.length (pre.length + A.length) = ns := by
  apply List.ext_getElem
  · rw [worths_len _ _ _ (by rw [toks_len]; simp)]; omega
  · intro i h1 h2
    obtain ⟨x, y, e1, e2⟩ := h i h2
    have e3 := at_in (pre := pre) (post := post) e1
    have hlt : pre.length + i < (pre ++ (A ++ post)).length := (List.getElem?_eq_some_iff.1 e3).1
    have e4 : (pre ++ (A ++ post))[pre.length + i] = (x, y) := by rw [List.getElem?_eq_getElem hlt] at e3; exact Option.some.inj e3
    simp only [worths, toks, List.getElem_map, List.getElem_drop, List.getElem_take]
    rw [e4]
    exact e2
end Go.Proofs.YtjobgpahajhbnaaGreatDoor
namespace Go.Proofs.YtjobgpahajhbnaaGreatDoor
open Go.RowKit

/-- what may come behind a THING -/
def StopB (r : List UInt8) : Prop := r = [] ∨ (∃ r', r = 32 :: r') ∨ ∃ r', r = 41 :: r'
theorem StopB.dig {r : List UInt8} (h : StopB r) : Stop r := by
  rcases h with rfl | ⟨r', rfl⟩ | ⟨r', rfl⟩ <;> intro c hc <;> simp at hc <;> subst hc <;> decide
theorem StopB.let_ {r : List UInt8} (h : StopB r) : StopN r := by
  rcases h with rfl | ⟨r', rfl⟩ | ⟨r', rfl⟩ <;> intro c hc <;> simp at hc <;> subst hc <;> decide
set_option maxHeartbeats 1000000 in
theorem tw_gives {d : Nat} {b : Bool} {p0 : Nat} {x : Ex} {t : List UInt8} (h : Tw d b p0 x t) : ∀ (r : List UInt8), (b = true → StopB r) → (b = false → r = [] ∨ ∃ r', r = 41 :: r') → ∃ A, LY p0 t r A ∧ GivesW d b x t p0 r A := by
  induction h with
  | row d p ns t hn =>
    intro r hr _
    obtain ⟨A, hA, hl, hf⟩ := row_toks hn p r (hr rfl).dig
    refine ⟨A, hA, ?_⟩
    intro s q hs hq pre post o hd hk _
    have hf' := hf s q hs hq
    have hpos := row_pos hn
    have hkb : ∀ i, i < A.length → ∀ m, kB (kr (toks s (pre ++ (A ++ post)))) (pre.length + i) m = ((0 : Int) == m) := fun i hi m => by
      obtain ⟨x, y, e1, e2, _, _⟩ := hf' i (by omega)
      rw [kB_tok (at_in e1), e2]
    refine ⟨fun _ => ?_, fun i hi => by rw [hkb i hi]; decide, ?_⟩
    · obtain ⟨x, y, e1, _, e3, _⟩ := hf' 0 hpos
      have := fB_tok (s := s) (at_in (pre := pre) (post := post) e1) 1
      rw [Nat.add_zero] at this
      rw [this, e3]
      decide
    · have hx := PX.nums (S := toks s (pre ++ (A ++ post))) pre.length o (pre.length + A.length) (by omega) (by rw [toks_len]; simp) (by
        intro i h1 h2
        have := hkb (i - pre.length) (by omega) 0
        rw [show pre.length + (i - pre.length) = i by omega] at this
        rw [this]; rfl) hk
      rw [worths_row hl (fun i hi => by obtain ⟨x, y, e1, _, _, e4⟩ := hf' i hi; exact ⟨x, y, e1, e4⟩)] at hx
      exact hx
  | name d p t hn =>
    intro r hr _
    obtain ⟨c, l, rfl, hc, _⟩ := hn.hd
    refine ⟨[(p, p + (c :: l).length)], LY.one hc (by have := hn.tl r (hr rfl).let_; simpa using this), ?_⟩
    intro s q hs hq pre post o hd hk _
    have hL : (pre ++ ([(p, p + (c :: l).length)] ++ post))[pre.length]? = some (p, p + (c :: l).length) := at_pre
    have ht := ext_mid hs hq
    refine ⟨fun _ => by rw [fB_tok hL, ht, hn.role]; decide, fun i hi => ?_, ?_⟩
    · have : i = 0 := by simpa using hi
      subst this
      rw [Nat.add_zero, kB_tok hL, ht, hn.kind]
      decide
    · have hx := PX.name (S := toks s (pre ++ ([(p, p + (c :: l).length)] ++ post))) pre.length o (by rw [kB_tok hL, ht, hn.kind]; rfl)
      rw [tokAt_tok hL, ht] at hx
      exact hx
  | br d p x t h ih =>
    intro r hr _
    obtain ⟨A, hA, hG⟩ := ih ([41] ++ r) (fun h => by cases h) (fun _ => Or.inr ⟨r, rfl⟩)
    refine ⟨(p, p + 1) :: (A ++ [(p + 1 + t.length, p + 1 + t.length + 1)]), ?_, ?_⟩
    · refine LY.tok p 1 40 (t ++ [41]) r _ (by decide) rfl (by omega) ?_
      refine hA.append rfl ?_
      exact LY.one (l := []) (by decide) rfl
    · intro s q hs hq pre post o hd hk _
      have hs1 : s.data.toList = q ++ ([40] ++ ((t ++ [41]) ++ r)) := by rw [hs]; simp
      have hs2 : s.data.toList = (q ++ [40]) ++ (t ++ ([41] ++ r)) := by rw [hs]; simp
      have hs3 : s.data.toList = (q ++ [40] ++ t) ++ ([41] ++ r) := by rw [hs]; simp
      have t1 : s.extract p (p + 1) = ⟨#[40]⟩ := ext_mid (t := [40]) hs1 hq
      have t2 : s.extract (p + 1 + t.length) (p + 1 + t.length + 1) = ⟨#[41]⟩ := ext_mid (t := [41]) hs3 (by simp [hq]; omega)
      obtain ⟨b1, b2, b3, b4⟩ := br_tok
      have eL : pre ++ ((p, p + 1) :: (A ++ [(p + 1 + t.length, p + 1 + t.length + 1)]) ++ post) = (pre ++ [(p, p + 1)]) ++ (A ++ ((p + 1 + t.length, p + 1 + t.length + 1) :: post)) := by simp
      have hL1 : (pre ++ ((p, p + 1) :: (A ++ [(p + 1 + t.length, p + 1 + t.length + 1)]) ++ post))[pre.length]? = some (p, p + 1) := at_pre
      have hL2 : ((pre ++ [(p, p + 1)]) ++ (A ++ ((p + 1 + t.length, p + 1 + t.length + 1) :: post)))[(pre ++ [(p, p + 1)]).length + A.length]? = some (p + 1 + t.length, p + 1 + t.length + 1) := by
        rw [← List.append_assoc, ← List.length_append]; exact at_pre
      have g1 := hG s (q ++ [40]) hs2 (by simp [hq]) (pre ++ [(p, p + 1)]) ((p + 1 + t.length, p + 1 + t.length + 1) :: post) (o + 1) (by omega) (by rw [kB_tok hL2, t2, b3]; rfl) (fun _ => by rw [fB_tok hL2, t2, b4]; decide)
      obtain ⟨_, hi, hx⟩ := g1
      have e5 : ∀ m, kB (kr (toks s ((pre ++ [(p, p + 1)]) ++ (A ++ ((p + 1 + t.length, p + 1 + t.length + 1) :: post))))) ((pre ++ [(p, p + 1)]).length + A.length) m = ((5 : Int) == m) := fun m => by rw [kB_tok hL2, t2, b3]
      rw [← eL] at hx e5 hi
      have el : (pre ++ [(p, p + 1)]).length = pre.length + 1 := by simp
      refine ⟨fun _ => by rw [fB_tok hL1, t1, b2]; decide, ?_, ?_⟩
      · intro i hil
        by_cases h0 : i = 0
        · subst h0
          change kB (kr (toks s (pre ++ ((p, p + 1) :: (A ++ [(p + 1 + t.length, p + 1 + t.length + 1)]) ++ post)))) pre.length 2 = false
          rw [kB_tok hL1, t1, b1]
          decide
        · by_cases h1 : i = A.length + 1
          · have := e5 2
            rw [el] at this
            rw [show pre.length + i = pre.length + 1 + A.length by omega, this]
            decide
          · have := hi (i - 1) (by simp at hil; omega)
            rw [el] at this
            rw [show pre.length + i = pre.length + 1 + (i - 1) by omega]
            exact this
      · have hfin := PX.paren (S := toks s (pre ++ ((p, p + 1) :: (A ++ [(p + 1 + t.length, p + 1 + t.length + 1)]) ++ post))) pre.length o x ((pre ++ [(p, p + 1)]).length + A.length) (by rw [kB_tok hL1, t1, b1]; rfl) (by omega) (by simpa using hx) (by rw [e5 5]; rfl)
        have en : pre.length + ((p, p + 1) :: (A ++ [(p + 1 + t.length, p + 1 + t.length + 1)])).length = (pre ++ [(p, p + 1)]).length + A.length + 1 := by simp; omega
        rw [en]
        exact hfin
  | only d p x t h ih =>
    intro r _ hr
    have hst : StopB r := by
      rcases hr rfl with rfl | ⟨r', rfl⟩
      · exact Or.inl rfl
      · exact Or.inr (Or.inr ⟨r', rfl⟩)
    obtain ⟨A, hA, hG⟩ := ih r (fun _ => hst) (fun h => by cases h)
    refine ⟨A, hA, ?_⟩
    intro s q hs hq pre post o hd hk hf
    obtain ⟨h1, h0, hx⟩ := hG s q hs hq pre post o hd hk (fun h => by cases h)
    exact ⟨(fun h => by cases h), h0, PX.only _ _ _ _ (h1 rfl) hx (hf rfl)⟩
  | two d p f l r2 a b hF h1 h2 ih1 ih2 =>
    intro r _ hr
    obtain ⟨fc, fl, rfl, hfc⟩ := hF.hd
    obtain ⟨A1, hA1, hG1⟩ := ih1 (32 :: ((fc :: fl) ++ (32 :: b)) ++ r) (fun _ => Or.inr (Or.inl ⟨_, rfl⟩)) (fun h => by cases h)
    obtain ⟨A2, hA2, hG2⟩ := ih2 r (fun h => by cases h) (fun _ => hr rfl)
    refine ⟨A1 ++ ((p + a.length + 1, p + a.length + 1 + (fc :: fl).length) :: A2), ?_, ?_⟩
    · refine hA1.append rfl ?_
      refine LY.blank _ _ _ _ ?_
      refine LY.tok (p + a.length + 1) (fc :: fl).length fc (fl ++ (32 :: b)) r A2 hfc ?_ (by simp) ?_
      · have := hF.tl (b ++ r)
        simpa using this
      · have e : List.drop (fc :: fl).length (fc :: (fl ++ (32 :: b))) = 32 :: b := by
          rw [← List.cons_append, List.drop_append_of_le_length (Nat.le_refl _)]
          simp
        rw [e]
        exact LY.blank _ _ _ _ hA2
    · intro s q hs hq pre post o hd hk hf
      have hs1 : s.data.toList = q ++ (a ++ ((32 :: ((fc :: fl) ++ (32 :: b))) ++ r)) := by rw [hs]; simp
      have hs2 : s.data.toList = (q ++ a ++ [32]) ++ ((fc :: fl) ++ ((32 :: b) ++ r)) := by rw [hs]; simp
      have hs3 : s.data.toList = (q ++ a ++ [32] ++ (fc :: fl) ++ [32]) ++ (b ++ r) := by rw [hs]; simp
      have t2 : s.extract (p + a.length + 1) (p + a.length + 1 + (fc :: fl).length) = ⟨(fc :: fl).toArray⟩ := ext_mid (t := fc :: fl) hs2 (by simp [hq]; omega)
      obtain ⟨z, hz⟩ : ∃ z, (p + a.length + 1, p + a.length + 1 + (fc :: fl).length) = z := ⟨_, rfl⟩
      have hz1 : z.1 = p + a.length + 1 := by rw [← hz]
      have hz2 : s.extract z.1 z.2 = ⟨(fc :: fl).toArray⟩ := by rw [← hz]; exact t2
      rw [hz] at hk hf ⊢
      have eL : pre ++ (A1 ++ (z :: A2) ++ post) = pre ++ (A1 ++ ((z :: A2) ++ post)) := by simp
      have eM : pre ++ (A1 ++ (z :: A2) ++ post) = (pre ++ A1 ++ [z]) ++ (A2 ++ post) := by simp
      have hL : (pre ++ (A1 ++ (z :: A2) ++ post))[pre.length + A1.length]? = some (z.1, z.2) := by
        have : pre ++ (A1 ++ (z :: A2) ++ post) = (pre ++ A1) ++ (z :: (A2 ++ post)) := by simp
        rw [this, ← List.length_append]; exact at_pre
      have en : pre.length + (A1 ++ (z :: A2)).length = (pre ++ A1 ++ [z]).length + A2.length := by simp; omega
      have g1 := hG1 s q hs1 hq pre ((z :: A2) ++ post) o (by omega) (by rw [← eL, kB_tok hL, hz2, hF.kind]; rfl) (fun h => by cases h)
      rw [← eL] at g1
      obtain ⟨k1, k0, hx⟩ := g1
      have g2 := hG2 s _ hs3 (by simp [hq]; omega) (pre ++ A1 ++ [z]) post o (by omega) (by rw [← eM, ← en]; exact hk) (fun _ => by rw [← eM, ← en]; exact hf rfl)
      rw [← eM] at g2
      obtain ⟨_, k2, hy⟩ := g2
      have el : (pre ++ A1 ++ [z]).length = pre.length + A1.length + 1 := by simp; omega
      rw [el] at hy k2
      have hfin := PX.two pre.length o _ (pre.length + A1.length) _ _ (k1 rfl) hx (by rw [fB_tok hL, hz2]; exact hF.role) hy
      rw [tokAt_tok hL, hz2, hz1] at hfin
      rw [en, el]
      refine ⟨(fun h => by cases h), fun i hi => ?_, hfin⟩
      by_cases i1 : i < A1.length
      · exact k0 i i1
      · by_cases i2 : i = A1.length
        · subst i2
          rw [kB_tok hL, hz2, hF.kind]
          decide
        · have := k2 (i - A1.length - 1) (by simp at hi; omega)
          rw [show pre.length + i = pre.length + A1.length + 1 + (i - A1.length - 1) by omega]
          exact this
  | one d p f r2 b hF h ih =>
    intro r _ hr
    obtain ⟨c, l, rfl, hc, _⟩ := hF.hd
    obtain ⟨A, hA, hG⟩ := ih r (fun h => by cases h) (fun _ => hr rfl)
    refine ⟨(p, p + (c :: l).length) :: A, ?_, ?_⟩
    · refine LY.tok p (c :: l).length c (l ++ (32 :: b)) r A hc ?_ (by simp) ?_
      · have := hF.tl (b ++ r)
        simpa using this
      · have e : List.drop (c :: l).length (c :: (l ++ (32 :: b))) = 32 :: b := by
          rw [← List.cons_append, List.drop_append_of_le_length (Nat.le_refl _)]
          simp
        rw [e]
        exact LY.blank _ _ _ _ hA
    · intro s q hs hq pre post o hd hk hf
      have hs1 : s.data.toList = q ++ ((c :: l) ++ ((32 :: b) ++ r)) := by rw [hs]; simp
      have hs2 : s.data.toList = (q ++ (c :: l) ++ [32]) ++ (b ++ r) := by rw [hs]; simp
      have t1 : s.extract p (p + (c :: l).length) = ⟨(c :: l).toArray⟩ := ext_mid hs1 hq
      have eM : pre ++ ((p, p + (c :: l).length) :: A ++ post) = (pre ++ [(p, p + (c :: l).length)]) ++ (A ++ post) := by simp
      have hL : (pre ++ ((p, p + (c :: l).length) :: A ++ post))[pre.length]? = some (p, p + (c :: l).length) := at_pre
      have en : pre.length + ((p, p + (c :: l).length) :: A).length = (pre ++ [(p, p + (c :: l).length)]).length + A.length := by simp; omega
      have g2 := hG s _ hs2 (by simp [hq]; omega) (pre ++ [(p, p + (c :: l).length)]) post o (by omega) (by rw [← eM, ← en]; exact hk) (fun _ => by rw [← eM, ← en]; exact hf rfl)
      rw [← eM] at g2
      obtain ⟨_, k2, hy⟩ := g2
      have el : (pre ++ [(p, p + (c :: l).length)]).length = pre.length + 1 := by simp
      rw [el] at hy k2
      have hfin := PX.one pre.length o _ _ (by rw [fB_tok hL, t1]; exact hF.role) hy
      rw [tokAt_tok hL, t1] at hfin
      rw [en, el]
      refine ⟨(fun h => by cases h), fun i hi => ?_, hfin⟩
      by_cases h0 : i = 0
      · subst h0
        rw [Nat.add_zero, kB_tok hL, t1, hF.kind]
        decide
      · have := k2 (i - 1) (by simp at hi; omega)
        rw [show pre.length + i = pre.length + 1 + (i - 1) by omega]
        exact this
/-- a text of x, and no more, has the tree x -/
theorem tw_tree {d : Nat} {x : Ex} {t : List UInt8} (h : Tw d false 0 x t) (hs : t.length ≤ 200) (hd : d ≤ 8) : parseP ⟨t.toArray⟩ = (0, 0) ∧ nameP ⟨t.toArray⟩ = ⟨#[]⟩ ∧ TreeOf ⟨t.toArray⟩ x := by
  obtain ⟨A, hA, hG⟩ := tw_gives h [] (fun h => by cases h) (fun _ => Or.inl rfl)
  have hl : lexR ⟨t.toArray⟩ = (A, -1) := lx_lexR (by simpa using hA.whole rfl)
  obtain ⟨h1, h0, hx⟩ := hG ⟨t.toArray⟩ [] (by simp) rfl [] [] 0 (by omega) (kB_out (by rw [toks_len]; simp) 0) (fun _ => fB_out (by rw [toks_len]; simp) 2)
  simp only [List.nil_append, List.append_nil, List.length_nil, Nat.zero_add] at h1 h0 hx
  have hk : kB (kr (toks ⟨t.toArray⟩ A)) 1 2 = false := by
    by_cases hl1 : 1 < A.length
    · exact h0 1 hl1
    · exact kB_out (by rw [toks_len]; omega) 2
  have hb : beg (tks ⟨t.toArray⟩ A) = 0 := by unfold beg; rw [← kr_toks, hk, Bool.and_false]; rfl
  obtain ⟨e1, e2⟩ := parse_tree (s := ⟨t.toArray⟩) (by simpa [ByteArray.size] using hs) hl (by rw [hb]; exact hx)
  refine ⟨e1, ?_, e2⟩
  unfold nameP
  rw [e1, if_pos rfl, hl]
  unfold nameS
  simp only []
  rw [hk, Bool.and_false]
  rfl
/-- a line that makes a name -/
theorem tw_is {d : Nat} {x : Ex} {n t : List UInt8} (hn : NameT n) (h : Tw d false (n.length + 4) x t) (hs : n.length + 4 + t.length ≤ 200) (hd : d ≤ 8) : parseP ⟨(n ++ ([32, 105, 115, 32] ++ t)).toArray⟩ = (0, 0) ∧ nameP ⟨(n ++ ([32, 105, 115, 32] ++ t)).toArray⟩ = ⟨n.toArray⟩ ∧ TreeOf ⟨(n ++ ([32, 105, 115, 32] ++ t)).toArray⟩ x := by
  obtain ⟨A, hA, hG⟩ := tw_gives h [] (fun h => by cases h) (fun _ => Or.inl rfl)
  obtain ⟨c, l, rfl, hc, _⟩ := hn.hd
  have hst : StopN ([32, 105, 115, 32] ++ t) := by intro c hc; simp at hc; subst hc; decide
  have hAll : LY 0 ((c :: l) ++ ([32, 105, 115, 32] ++ t)) [] ((0, (c :: l).length) :: ((c :: l).length + 1, (c :: l).length + 1 + 2) :: A) := by
    have h1 : LY 0 (c :: l) (([32, 105, 115, 32] ++ t) ++ []) [(0, 0 + (l.length + 1))] := LY.one hc (by have := hn.tl _ hst; simpa using this)
    have h2 := h1.append (l2 := [32, 105, 115, 32] ++ t) (r := []) (B := ((c :: l).length + 1, (c :: l).length + 1 + 2) :: A) rfl ?_
    · simpa using h2
    · rw [Nat.zero_add]
      refine LY.blank _ _ _ _ ?_
      refine LY.tok ((c :: l).length + 1) 2 105 ([115, 32] ++ t) [] A (by decide) rfl (by simp) ?_
      refine LY.blank _ _ _ _ ?_
      exact hA
  obtain ⟨S, hS⟩ : ∃ S : ByteArray, (⟨((c :: l) ++ ([32, 105, 115, 32] ++ t)).toArray⟩ : ByteArray) = S := ⟨_, rfl⟩
  have hSd : S.data.toList = (c :: l) ++ ([32, 105, 115, 32] ++ t) := by rw [← hS]
  have hSs : S.size ≤ 200 := by rw [← hS]; simp [ByteArray.size] at hs ⊢; omega
  rw [hS]
  have hl : lexR S = ((0, (c :: l).length) :: ((c :: l).length + 1, (c :: l).length + 1 + 2) :: A, -1) := lx_lexR (by rw [hSd]; exact hAll.whole rfl)
  obtain ⟨B, hB⟩ : ∃ B, (0, (c :: l).length) :: ((c :: l).length + 1, (c :: l).length + 1 + 2) :: A = B := ⟨_, rfl⟩
  have g := hG S ((c :: l) ++ [32, 105, 115, 32]) (by rw [hSd]; simp) (by simp) [(0, (c :: l).length), ((c :: l).length + 1, (c :: l).length + 1 + 2)] [] 0 (by omega) (kB_out (by rw [toks_len]; simp; omega) 0) (fun _ => fB_out (by rw [toks_len]; simp; omega) 2)
  obtain ⟨_, _, hx⟩ := g
  simp only [List.append_nil, List.cons_append, List.nil_append] at hx
  rw [hB] at hx hl
  have t0 : S.extract 0 (c :: l).length = ⟨(c :: l).toArray⟩ := by
    have := ext_mid (s := S) (q := []) (t := c :: l) (r := [32, 105, 115, 32] ++ t) (p := 0) (by rw [hSd]; simp) rfl
    simpa using this
  have t1 : S.extract ((c :: l).length + 1) ((c :: l).length + 1 + 2) = ⟨#[105, 115]⟩ := ext_mid (s := S) (q := (c :: l) ++ [32]) (t := [105, 115]) (r := [32] ++ t) (by rw [hSd]; simp) (by simp)
  have b0 : B[0]? = some (0, (c :: l).length) := by rw [← hB]; rfl
  have b1 : B[1]? = some ((c :: l).length + 1, (c :: l).length + 1 + 2) := by rw [← hB]; rfl
  have k0 : kB (kr (toks S B)) 0 1 = true := by rw [kB_tok b0, t0, hn.kind]; rfl
  have k1 : kB (kr (toks S B)) 1 2 = true := by rw [kB_tok b1, t1]; decide +kernel
  have hb : beg (tks S B) = 2 := by unfold beg; rw [← kr_toks, k0, k1]; rfl
  have hlen : B.length = 2 + A.length := by rw [← hB]; simp; omega
  obtain ⟨e1, e2⟩ := parse_tree (s := S) hSs hl (by rw [hb, hlen]; simpa using hx)
  refine ⟨e1, ?_, e2⟩
  unfold nameP
  rw [e1, if_pos rfl, hl]
  unfold nameS
  simp only []
  rw [k0, k1, tokAt_tok b0, t0]
  rfl
end Go.Proofs.YtjobgpahajhbnaaGreatDoor
