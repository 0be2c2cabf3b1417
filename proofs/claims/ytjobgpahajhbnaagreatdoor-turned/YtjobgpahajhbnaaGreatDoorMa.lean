import Derived.Test.YtjobgpahajhbnaaGreatDoorUa
import Derived.Test.YtjobgpahajhbnaaGreatDoorYc
import Derived.Maps.Views
import Derived.StringKeys
import Derived.Deep.RegionHeld3
namespace Go.Proofs.YtjobgpahajhbnaaGreatDoor
open Go.RowKit

/-- numbers with blanks between -/
inductive NmRow : List Int → List UInt8 → Prop where
  | one (n : Int) (t : List UInt8) : Nm n t → NmRow [n] t
  | more (n : Int) (t : List UInt8) (ns : List Int) (u : List UInt8) : Nm n t → NmRow ns u → NmRow (n :: ns) (t ++ (32 :: u))
theorem stop_blank (r : List UInt8) : Stop (32 :: r) := by intro c hc; simp at hc; subst hc; decide
theorem row_toks {ns : List Int} {t : List UInt8} (h : NmRow ns t) : ∀ (p : Nat) (r : List UInt8), Stop r → ∃ A : List (Nat × Nat), LY p t r A ∧ A.length = ns.length ∧
    ∀ (s : ByteArray) (q : List UInt8), s.data.toList = q ++ (t ++ r) → q.length = p → ∀ i, (hi : i < ns.length) → ∃ x y, A[i]? = some (x, y) ∧ kindT (s.extract x y) = 0 ∧ roleT (s.extract x y) = 0 ∧ worthT (s.extract x y) = ns[i] := by
  induction h with
  | one n t hn =>
    intro p r hr
    refine ⟨[(p, p + t.length)], nm_ly hn hr p, rfl, ?_⟩
    intro s q hs hq i hi
    have : i = 0 := by simpa using hi
    subst this
    obtain ⟨k1, k2, k3⟩ := nm_tok hn
    have ht := ext_mid hs hq
    exact ⟨p, p + t.length, rfl, by rw [ht, k1], by rw [ht, k2], by rw [ht, k3]; rfl⟩
  | more n t ns u hn hu ih =>
    intro p r hr
    obtain ⟨A, hA, hl, hf⟩ := ih (p + t.length + 1) r hr
    refine ⟨(p, p + t.length) :: A, ?_, by simp [hl], ?_⟩
    · have h1 := nm_ly hn (stop_blank (u ++ r)) p
      exact h1.append (l2 := 32 :: u) (r := r) (by simp) (LY.blank _ _ _ _ hA)
    · intro s q hs hq i hi
      match i, hi with
      | 0, _ =>
        obtain ⟨k1, k2, k3⟩ := nm_tok hn
        have ht := ext_mid (t := t) (r := (32 :: u) ++ r) (by rw [hs]; simp) hq
        exact ⟨p, p + t.length, rfl, by rw [ht, k1], by rw [ht, k2], by rw [ht, k3]; rfl⟩
      | i + 1, hi =>
        obtain ⟨x, y, h1, h2⟩ := hf s (q ++ t ++ [32]) (by rw [hs]; simp) (by simp [hq]; omega) i (by simpa using hi)
        exact ⟨x, y, by simpa using h1, by simpa using h2⟩
theorem row_head {ns : List Int} {t : List UInt8} (h : NmRow ns t) : ∃ c l, t = c :: l ∧ tailU c = false := by
  cases h with
  | one n t hn => exact tx_head (Tx.lit n t hn)
  | more n t ns u hn hu =>
    obtain ⟨c, l, e, hc⟩ := tx_head (Tx.lit n t hn)
    subst e
    exact ⟨c, _, rfl, hc⟩
theorem row_pos {ns : List Int} {t : List UInt8} (h : NmRow ns t) : 0 < ns.length := by cases h <;> simp
/-- a function of two arrays, with blanks round it -/
structure Fn2 (f : List UInt8) : Prop where
  hd : ∃ c l, f = c :: l ∧ c ≠ 32
  tl : ∀ r, tl (f ++ (32 :: r)) = some f.length
  kind : kindT ⟨f.toArray⟩ = 3
  role : roleB (roleT ⟨f.toArray⟩) 2 = true
/-- what may come behind a name -/
def StopN (r : List UInt8) : Prop := ∀ c, r.head? = some c → lU c = false
/-- a name -/
structure NameT (t : List UInt8) : Prop where
  hd : ∃ c l, t = c :: l ∧ c ≠ 32 ∧ tailU c = false
  tl : ∀ r, StopN r → tl (t ++ r) = some t.length
  kind : kindT ⟨t.toArray⟩ = 1
  role : roleT ⟨t.toArray⟩ = 0
/-- a text at place p, its tree; brackets so deep at most; true: it is a THING -/
inductive Tw : Nat → Bool → Nat → Ex → List UInt8 → Prop where
  | row (d p : Nat) (ns : List Int) (t : List UInt8) : NmRow ns t → Tw d true p (.num ns) t
  | name (d p : Nat) (t : List UInt8) : NameT t → Tw d true p (.name ⟨t.toArray⟩ p) t
  | br (d p : Nat) (x : Ex) (t : List UInt8) : Tw d false (p + 1) x t → Tw (d + 1) true p x (40 :: (t ++ [41]))
  | only (d p : Nat) (x : Ex) (t : List UInt8) : Tw d true p x t → Tw d false p x t
  | two (d p : Nat) (f : List UInt8) (l r : Ex) (a b : List UInt8) : Fn2 f → Tw d true p l a → Tw d false (p + a.length + 1 + f.length + 1) r b → Tw d false p (.two ⟨f.toArray⟩ (p + a.length + 1) l r) (a ++ (32 :: (f ++ (32 :: b))))
  | one (d p : Nat) (f : List UInt8) (r : Ex) (b : List UInt8) : Fn1 f → Tw d false (p + f.length + 1) r b → Tw d false p (.one ⟨f.toArray⟩ p r) (f ++ (32 :: b))
/-- the tokens A of a text t at place p give the tree x, wherever they stand, and none of them is 'is' -/
def GivesW (d : Nat) (b : Bool) (x : Ex) (t : List UInt8) (p : Nat) (r : List UInt8) (A : List (Nat × Nat)) : Prop :=
  ∀ (s : ByteArray) (q : List UInt8), s.data.toList = q ++ (t ++ r) → q.length = p → ∀ (pre post : List (Nat × Nat)) (o : Nat), d + o ≤ 8 →
    kB (kr (toks s (pre ++ (A ++ post)))) (pre.length + A.length) 0 = false → (b = false → fB (kr (toks s (pre ++ (A ++ post)))) (pre.length + A.length) 2 = false) →
    (b = true → fB (kr (toks s (pre ++ (A ++ post)))) pre.length 1 = false) ∧ (∀ i, i < A.length → kB (kr (toks s (pre ++ (A ++ post)))) (pre.length + i) 2 = false) ∧ PX (toks s (pre ++ (A ++ post))) b pre.length o x (pre.length + A.length)
theorem at_in {pre A post : List (Nat × Nat)} {i : Nat} {z : Nat × Nat} (h : A[i]? = some z) : (pre ++ (A ++ post))[pre.length + i]? = some z := by
  rw [List.getElem?_append_right (by omega), Nat.add_sub_cancel_left, List.getElem?_append_left (List.getElem?_eq_some_iff.1 h).1]
  exact h
theorem worths_row {s : ByteArray} {pre A post : List (Nat × Nat)} {ns : List Int} (hl : A.length = ns.length) (h : ∀ i, (hi : i < ns.length) → ∃ x y, A[i]? = some (x, y) ∧ worthT (s.extract x y) = ns[i]) : worths (toks s (pre ++ (A ++ post))) pre.length (pre.length + A.length) = ns := by
  apply List.ext_getElem
  · rw [worths_len _ _ _ (by rw [toks_len]; simp)]; omega
  · intro i h1 h2
    obtain ⟨x, y, e1, e2⟩ := h i h2
    have e3 := at_in (pre := pre) (post := post) e1
    have hlt : pre.length + i < (pre ++ (A ++ post)).length := (List.getElem?_eq_some_iff.1 e3).1
    have e4 : (pre ++ (A ++ post))[pre.length + i] = (x, y) := by rw [List.getElem?_eq_getElem hlt] at e3; exact Option.some.inj e3
    simp only [worths, toks, List.getElem_map, List.getElem_drop, List.getElem_take]
    rw [e4]
    exact e2
end Go.Proofs.YtjobgpahajhbnaaGreatDoor
namespace Go.Proofs.YtjobgpahajhbnaaGreatDoor
open Go.RowKit

theorem tw_head {d : Nat} {b : Bool} {p : Nat} {x : Ex} {t : List UInt8} (h : Tw d b p x t) : ∃ c l, t = c :: l ∧ tailU c = false := by
  induction h with
  | row d p ns t hn => exact row_head hn
  | name d p t hn => obtain ⟨c, l, e, _, hc⟩ := hn.hd; exact ⟨c, l, e, hc⟩
  | br d p x t h ih => exact ⟨40, t ++ [41], rfl, by decide⟩
  | only d p x t h ih => exact ih
  | two d p f l r a b hf h1 h2 ih1 ih2 =>
    obtain ⟨c, m, e, hc⟩ := ih1
    subst e
    exact ⟨c, _, rfl, hc⟩
  | one d p f r b hf h ih =>
    obtain ⟨c, l, e, _, hc⟩ := hf.hd
    subst e
    exact ⟨c, _, rfl, hc⟩
/-- what may come behind a THING -/
def StopB (r : List UInt8) : Prop := r = [] ∨ (∃ r', r = 32 :: r') ∨ ∃ r', r = 41 :: r'
theorem StopB.dig {r : List UInt8} (h : StopB r) : Stop r := by
  rcases h with rfl | ⟨r', rfl⟩ | ⟨r', rfl⟩ <;> intro c hc <;> simp at hc <;> subst hc <;> decide
theorem StopB.let_ {r : List UInt8} (h : StopB r) : StopN r := by
  rcases h with rfl | ⟨r', rfl⟩ | ⟨r', rfl⟩ <;> intro c hc <;> simp at hc <;> subst hc <;> decide
set_option maxHeartbeats 1000000 in
theorem tw_gives {d : Nat} {b : Bool} {p0 : Nat} {x : Ex} {t : List UInt8} (h : Tw d b p0 x t) : ∀ (r : List UInt8), (b = true → StopB r) → (b = false → r = [] ∨ ∃ r', r = 41 :: r') → ∃ A, LY p0 t r A ∧ GivesW d b x t p0 r A := by
  induction h with
  | row d p ns t hn =>
    intro r hr _
    obtain ⟨A, hA, hl, hf⟩ := row_toks hn p r (hr rfl).dig
    refine ⟨A, hA, ?_⟩
    intro s q hs hq pre post o hd hk _
    have hf' := hf s q hs hq
    have hpos := row_pos hn
    have hkb : ∀ i, i < A.length → ∀ m, kB (kr (toks s (pre ++ (A ++ post)))) (pre.length + i) m = ((0 : Int) == m) := fun i hi m => by
      obtain ⟨x, y, e1, e2, _, _⟩ := hf' i (by omega)
      rw [kB_tok (at_in e1), e2]
    refine ⟨fun _ => ?_, fun i hi => by rw [hkb i hi]; decide, ?_⟩
    · obtain ⟨x, y, e1, _, e3, _⟩ := hf' 0 hpos
      have := fB_tok (s := s) (at_in (pre := pre) (post := post) e1) 1
      rw [Nat.add_zero] at this
      rw [this, e3]
      decide
    · have hx := PX.nums (S := toks s (pre ++ (A ++ post))) pre.length o (pre.length + A.length) (by omega) (by rw [toks_len]; simp) (by
        intro i h1 h2
        have := hkb (i - pre.length) (by omega) 0
        rw [show pre.length + (i - pre.length) = i by omega] at this
        rw [this]; rfl) hk
      rw [worths_row hl (fun i hi => by obtain ⟨x, y, e1, _, _, e4⟩ := hf' i hi; exact ⟨x, y, e1, e4⟩)] at hx
      exact hx
  | name d p t hn =>
    intro r hr _
    obtain ⟨c, l, rfl, hc, _⟩ := hn.hd
    refine ⟨[(p, p + (c :: l).length)], LY.one hc (by have := hn.tl r (hr rfl).let_; simpa using this), ?_⟩
    intro s q hs hq pre post o hd hk _
    have hL : (pre ++ ([(p, p + (c :: l).length)] ++ post))[pre.length]? = some (p, p + (c :: l).length) := at_pre
    have ht := ext_mid hs hq
    refine ⟨fun _ => by rw [fB_tok hL, ht, hn.role]; decide, fun i hi => ?_, ?_⟩
    · have : i = 0 := by simpa using hi
      subst this
      rw [Nat.add_zero, kB_tok hL, ht, hn.kind]
      decide
    · have hx := PX.name (S := toks s (pre ++ ([(p, p + (c :: l).length)] ++ post))) pre.length o (by rw [kB_tok hL, ht, hn.kind]; rfl)
      rw [tokAt_tok hL, ht] at hx
      exact hx
  | br d p x t h ih =>
    intro r hr _
    obtain ⟨A, hA, hG⟩ := ih ([41] ++ r) (fun h => by cases h) (fun _ => Or.inr ⟨r, rfl⟩)
    refine ⟨(p, p + 1) :: (A ++ [(p + 1 + t.length, p + 1 + t.length + 1)]), ?_, ?_⟩
    · refine LY.tok p 1 40 (t ++ [41]) r _ (by decide) rfl (by omega) ?_
      refine hA.append rfl ?_
      exact LY.one (l := []) (by decide) rfl
    · intro s q hs hq pre post o hd hk _
      have hs1 : s.data.toList = q ++ ([40] ++ ((t ++ [41]) ++ r)) := by rw [hs]; simp
      have hs2 : s.data.toList = (q ++ [40]) ++ (t ++ ([41] ++ r)) := by rw [hs]; simp
      have hs3 : s.data.toList = (q ++ [40] ++ t) ++ ([41] ++ r) := by rw [hs]; simp
      have t1 : s.extract p (p + 1) = ⟨#[40]⟩ := ext_mid (t := [40]) hs1 hq
      have t2 : s.extract (p + 1 + t.length) (p + 1 + t.length + 1) = ⟨#[41]⟩ := ext_mid (t := [41]) hs3 (by simp [hq]; omega)
      obtain ⟨b1, b2, b3, b4⟩ := br_tok
      have eL : pre ++ ((p, p + 1) :: (A ++ [(p + 1 + t.length, p + 1 + t.length + 1)]) ++ post) = (pre ++ [(p, p + 1)]) ++ (A ++ ((p + 1 + t.length, p + 1 + t.length + 1) :: post)) := by simp
      have hL1 : (pre ++ ((p, p + 1) :: (A ++ [(p + 1 + t.length, p + 1 + t.length + 1)]) ++ post))[pre.length]? = some (p, p + 1) := at_pre
      have hL2 : ((pre ++ [(p, p + 1)]) ++ (A ++ ((p + 1 + t.length, p + 1 + t.length + 1) :: post)))[(pre ++ [(p, p + 1)]).length + A.length]? = some (p + 1 + t.length, p + 1 + t.length + 1) := by
        rw [← List.append_assoc, ← List.length_append]; exact at_pre
      have g1 := hG s (q ++ [40]) hs2 (by simp [hq]) (pre ++ [(p, p + 1)]) ((p + 1 + t.length, p + 1 + t.length + 1) :: post) (o + 1) (by omega) (by rw [kB_tok hL2, t2, b3]; rfl) (fun _ => by rw [fB_tok hL2, t2, b4]; decide)
      obtain ⟨_, hi, hx⟩ := g1
      have e5 : ∀ m, kB (kr (toks s ((pre ++ [(p, p + 1)]) ++ (A ++ ((p + 1 + t.length, p + 1 + t.length + 1) :: post))))) ((pre ++ [(p, p + 1)]).length + A.length) m = ((5 : Int) == m) := fun m => by rw [kB_tok hL2, t2, b3]
      rw [← eL] at hx e5 hi
      have el : (pre ++ [(p, p + 1)]).length = pre.length + 1 := by simp
      refine ⟨fun _ => by rw [fB_tok hL1, t1, b2]; decide, ?_, ?_⟩
      · intro i hil
        by_cases h0 : i = 0
        · subst h0
          change kB (kr (toks s (pre ++ ((p, p + 1) :: (A ++ [(p + 1 + t.length, p + 1 + t.length + 1)]) ++ post)))) pre.length 2 = false
          rw [kB_tok hL1, t1, b1]
          decide
        · by_cases h1 : i = A.length + 1
          · have := e5 2
            rw [el] at this
            rw [show pre.length + i = pre.length + 1 + A.length by omega, this]
            decide
          · have := hi (i - 1) (by simp at hil; omega)
            rw [el] at this
            rw [show pre.length + i = pre.length + 1 + (i - 1) by omega]
            exact this
      · have hfin := PX.paren (S := toks s (pre ++ ((p, p + 1) :: (A ++ [(p + 1 + t.length, p + 1 + t.length + 1)]) ++ post))) pre.length o x ((pre ++ [(p, p + 1)]).length + A.length) (by rw [kB_tok hL1, t1, b1]; rfl) (by omega) (by simpa using hx) (by rw [e5 5]; rfl)
        have en : pre.length + ((p, p + 1) :: (A ++ [(p + 1 + t.length, p + 1 + t.length + 1)])).length = (pre ++ [(p, p + 1)]).length + A.length + 1 := by simp; omega
        rw [en]
        exact hfin
  | only d p x t h ih =>
    intro r _ hr
    have hst : StopB r := by
      rcases hr rfl with rfl | ⟨r', rfl⟩
      · exact Or.inl rfl
      · exact Or.inr (Or.inr ⟨r', rfl⟩)
    obtain ⟨A, hA, hG⟩ := ih r (fun _ => hst) (fun h => by cases h)
    refine ⟨A, hA, ?_⟩
    intro s q hs hq pre post o hd hk hf
    obtain ⟨h1, h0, hx⟩ := hG s q hs hq pre post o hd hk (fun h => by cases h)
    exact ⟨(fun h => by cases h), h0, PX.only _ _ _ _ (h1 rfl) hx (hf rfl)⟩
  | two d p f l r2 a b hF h1 h2 ih1 ih2 =>
    intro r _ hr
    obtain ⟨fc, fl, rfl, hfc⟩ := hF.hd
    obtain ⟨A1, hA1, hG1⟩ := ih1 (32 :: ((fc :: fl) ++ (32 :: b)) ++ r) (fun _ => Or.inr (Or.inl ⟨_, rfl⟩)) (fun h => by cases h)
    obtain ⟨A2, hA2, hG2⟩ := ih2 r (fun h => by cases h) (fun _ => hr rfl)
    refine ⟨A1 ++ ((p + a.length + 1, p + a.length + 1 + (fc :: fl).length) :: A2), ?_, ?_⟩
    · refine hA1.append rfl ?_
      refine LY.blank _ _ _ _ ?_
      refine LY.tok (p + a.length + 1) (fc :: fl).length fc (fl ++ (32 :: b)) r A2 hfc ?_ (by simp) ?_
      · have := hF.tl (b ++ r)
        simpa using this
      · have e : List.drop (fc :: fl).length (fc :: (fl ++ (32 :: b))) = 32 :: b := by
          rw [← List.cons_append, List.drop_append_of_le_length (Nat.le_refl _)]
          simp
        rw [e]
        exact LY.blank _ _ _ _ hA2
    · intro s q hs hq pre post o hd hk hf
      have hs1 : s.data.toList = q ++ (a ++ ((32 :: ((fc :: fl) ++ (32 :: b))) ++ r)) := by rw [hs]; simp
      have hs2 : s.data.toList = (q ++ a ++ [32]) ++ ((fc :: fl) ++ ((32 :: b) ++ r)) := by rw [hs]; simp
      have hs3 : s.data.toList = (q ++ a ++ [32] ++ (fc :: fl) ++ [32]) ++ (b ++ r) := by rw [hs]; simp
      have t2 : s.extract (p + a.length + 1) (p + a.length + 1 + (fc :: fl).length) = ⟨(fc :: fl).toArray⟩ := ext_mid (t := fc :: fl) hs2 (by simp [hq]; omega)
      obtain ⟨z, hz⟩ : ∃ z, (p + a.length + 1, p + a.length + 1 + (fc :: fl).length) = z := ⟨_, rfl⟩
      have hz1 : z.1 = p + a.length + 1 := by rw [← hz]
      have hz2 : s.extract z.1 z.2 = ⟨(fc :: fl).toArray⟩ := by rw [← hz]; exact t2
      rw [hz] at hk hf ⊢
      have eL : pre ++ (A1 ++ (z :: A2) ++ post) = pre ++ (A1 ++ ((z :: A2) ++ post)) := by simp
      have eM : pre ++ (A1 ++ (z :: A2) ++ post) = (pre ++ A1 ++ [z]) ++ (A2 ++ post) := by simp
      have hL : (pre ++ (A1 ++ (z :: A2) ++ post))[pre.length + A1.length]? = some (z.1, z.2) := by
        have : pre ++ (A1 ++ (z :: A2) ++ post) = (pre ++ A1) ++ (z :: (A2 ++ post)) := by simp
        rw [this, ← List.length_append]; exact at_pre
      have en : pre.length + (A1 ++ (z :: A2)).length = (pre ++ A1 ++ [z]).length + A2.length := by simp; omega
      have g1 := hG1 s q hs1 hq pre ((z :: A2) ++ post) o (by omega) (by rw [← eL, kB_tok hL, hz2, hF.kind]; rfl) (fun h => by cases h)
      rw [← eL] at g1
      obtain ⟨k1, k0, hx⟩ := g1
      have g2 := hG2 s _ hs3 (by simp [hq]; omega) (pre ++ A1 ++ [z]) post o (by omega) (by rw [← eM, ← en]; exact hk) (fun _ => by rw [← eM, ← en]; exact hf rfl)
      rw [← eM] at g2
      obtain ⟨_, k2, hy⟩ := g2
      have el : (pre ++ A1 ++ [z]).length = pre.length + A1.length + 1 := by simp; omega
      rw [el] at hy k2
      have hfin := PX.two pre.length o _ (pre.length + A1.length) _ _ (k1 rfl) hx (by rw [fB_tok hL, hz2]; exact hF.role) hy
      rw [tokAt_tok hL, hz2, hz1] at hfin
      rw [en, el]
      refine ⟨(fun h => by cases h), fun i hi => ?_, hfin⟩
      by_cases i1 : i < A1.length
      · exact k0 i i1
      · by_cases i2 : i = A1.length
        · subst i2
          rw [kB_tok hL, hz2, hF.kind]
          decide
        · have := k2 (i - A1.length - 1) (by simp at hi; omega)
          rw [show pre.length + i = pre.length + A1.length + 1 + (i - A1.length - 1) by omega]
          exact this
  | one d p f r2 b hF h ih =>
    intro r _ hr
    obtain ⟨c, l, rfl, hc, _⟩ := hF.hd
    obtain ⟨A, hA, hG⟩ := ih r (fun h => by cases h) (fun _ => hr rfl)
    refine ⟨(p, p + (c :: l).length) :: A, ?_, ?_⟩
    · refine LY.tok p (c :: l).length c (l ++ (32 :: b)) r A hc ?_ (by simp) ?_
      · have := hF.tl (b ++ r)
        simpa using this
      · have e : List.drop (c :: l).length (c :: (l ++ (32 :: b))) = 32 :: b := by
          rw [← List.cons_append, List.drop_append_of_le_length (Nat.le_refl _)]
          simp
        rw [e]
        exact LY.blank _ _ _ _ hA
    · intro s q hs hq pre post o hd hk hf
      have hs1 : s.data.toList = q ++ ((c :: l) ++ ((32 :: b) ++ r)) := by rw [hs]; simp
      have hs2 : s.data.toList = (q ++ (c :: l) ++ [32]) ++ (b ++ r) := by rw [hs]; simp
      have t1 : s.extract p (p + (c :: l).length) = ⟨(c :: l).toArray⟩ := ext_mid hs1 hq
      have eM : pre ++ ((p, p + (c :: l).length) :: A ++ post) = (pre ++ [(p, p + (c :: l).length)]) ++ (A ++ post) := by simp
      have hL : (pre ++ ((p, p + (c :: l).length) :: A ++ post))[pre.length]? = some (p, p + (c :: l).length) := at_pre
      have en : pre.length + ((p, p + (c :: l).length) :: A).length = (pre ++ [(p, p + (c :: l).length)]).length + A.length := by simp; omega
      have g2 := hG s _ hs2 (by simp [hq]; omega) (pre ++ [(p, p + (c :: l).length)]) post o (by omega) (by rw [← eM, ← en]; exact hk) (fun _ => by rw [← eM, ← en]; exact hf rfl)
      rw [← eM] at g2
      obtain ⟨_, k2, hy⟩ := g2
      have el : (pre ++ [(p, p + (c :: l).length)]).length = pre.length + 1 := by simp
      rw [el] at hy k2
      have hfin := PX.one pre.length o _ _ (by rw [fB_tok hL, t1]; exact hF.role) hy
      rw [tokAt_tok hL, t1] at hfin
      rw [en, el]
      refine ⟨(fun h => by cases h), fun i hi => ?_, hfin⟩
      by_cases h0 : i = 0
      · subst h0
        rw [Nat.add_zero, kB_tok hL, t1, hF.kind]
        decide
      · have := k2 (i - 1) (by simp at hi; omega)
        rw [show pre.length + i = pre.length + 1 + (i - 1) by omega]
        exact this
/-- a text of x, and no more, has the tree x -/
theorem tw_tree {d : Nat} {x : Ex} {t : List UInt8} (h : Tw d false 0 x t) (hs : t.length ≤ 200) (hd : d ≤ 8) : parseP ⟨t.toArray⟩ = (0, 0) ∧ nameP ⟨t.toArray⟩ = ⟨#[]⟩ ∧ TreeOf ⟨t.toArray⟩ x := by
  obtain ⟨A, hA, hG⟩ := tw_gives h [] (fun h => by cases h) (fun _ => Or.inl rfl)
  have hl : lexR ⟨t.toArray⟩ = (A, -1) := lx_lexR (by simpa using hA.whole rfl)
  obtain ⟨h1, h0, hx⟩ := hG ⟨t.toArray⟩ [] (by simp) rfl [] [] 0 (by omega) (kB_out (by rw [toks_len]; simp) 0) (fun _ => fB_out (by rw [toks_len]; simp) 2)
  simp only [List.nil_append, List.append_nil, List.length_nil, Nat.zero_add] at h1 h0 hx
  have hk : kB (kr (toks ⟨t.toArray⟩ A)) 1 2 = false := by
    by_cases hl1 : 1 < A.length
    · exact h0 1 hl1
    · exact kB_out (by rw [toks_len]; omega) 2
  have hb : beg (tks ⟨t.toArray⟩ A) = 0 := by unfold beg; rw [← kr_toks, hk, Bool.and_false]; rfl
  obtain ⟨e1, e2⟩ := parse_tree (s := ⟨t.toArray⟩) (by simpa [ByteArray.size] using hs) hl (by rw [hb]; exact hx)
  refine ⟨e1, ?_, e2⟩
  unfold nameP
  rw [e1, if_pos rfl, hl]
  unfold nameS
  simp only []
  rw [hk, Bool.and_false]
  rfl
/-- a line that makes a name -/
theorem tw_is {d : Nat} {x : Ex} {n t : List UInt8} (hn : NameT n) (h : Tw d false (n.length + 4) x t) (hs : n.length + 4 + t.length ≤ 200) (hd : d ≤ 8) : parseP ⟨(n ++ ([32, 105, 115, 32] ++ t)).toArray⟩ = (0, 0) ∧ nameP ⟨(n ++ ([32, 105, 115, 32] ++ t)).toArray⟩ = ⟨n.toArray⟩ ∧ TreeOf ⟨(n ++ ([32, 105, 115, 32] ++ t)).toArray⟩ x := by
  obtain ⟨A, hA, hG⟩ := tw_gives h [] (fun h => by cases h) (fun _ => Or.inl rfl)
  obtain ⟨c, l, rfl, hc, _⟩ := hn.hd
  have hst : StopN ([32, 105, 115, 32] ++ t) := by intro c hc; simp at hc; subst hc; decide
  have hAll : LY 0 ((c :: l) ++ ([32, 105, 115, 32] ++ t)) [] ((0, (c :: l).length) :: ((c :: l).length + 1, (c :: l).length + 1 + 2) :: A) := by
    have h1 : LY 0 (c :: l) (([32, 105, 115, 32] ++ t) ++ []) [(0, 0 + (l.length + 1))] := LY.one hc (by have := hn.tl _ hst; simpa using this)
    have h2 := h1.append (l2 := [32, 105, 115, 32] ++ t) (r := []) (B := ((c :: l).length + 1, (c :: l).length + 1 + 2) :: A) rfl ?_
    · simpa using h2
    · rw [Nat.zero_add]
      refine LY.blank _ _ _ _ ?_
      refine LY.tok ((c :: l).length + 1) 2 105 ([115, 32] ++ t) [] A (by decide) rfl (by simp) ?_
      refine LY.blank _ _ _ _ ?_
      exact hA
  obtain ⟨S, hS⟩ : ∃ S : ByteArray, (⟨((c :: l) ++ ([32, 105, 115, 32] ++ t)).toArray⟩ : ByteArray) = S := ⟨_, rfl⟩
  have hSd : S.data.toList = (c :: l) ++ ([32, 105, 115, 32] ++ t) := by rw [← hS]
  have hSs : S.size ≤ 200 := by rw [← hS]; simp [ByteArray.size] at hs ⊢; omega
  rw [hS]
  have hl : lexR S = ((0, (c :: l).length) :: ((c :: l).length + 1, (c :: l).length + 1 + 2) :: A, -1) := lx_lexR (by rw [hSd]; exact hAll.whole rfl)
  obtain ⟨B, hB⟩ : ∃ B, (0, (c :: l).length) :: ((c :: l).length + 1, (c :: l).length + 1 + 2) :: A = B := ⟨_, rfl⟩
  have g := hG S ((c :: l) ++ [32, 105, 115, 32]) (by rw [hSd]; simp) (by simp) [(0, (c :: l).length), ((c :: l).length + 1, (c :: l).length + 1 + 2)] [] 0 (by omega) (kB_out (by rw [toks_len]; simp; omega) 0) (fun _ => fB_out (by rw [toks_len]; simp; omega) 2)
  obtain ⟨_, _, hx⟩ := g
  simp only [List.append_nil, List.cons_append, List.nil_append] at hx
  rw [hB] at hx hl
  have t0 : S.extract 0 (c :: l).length = ⟨(c :: l).toArray⟩ := by
    have := ext_mid (s := S) (q := []) (t := c :: l) (r := [32, 105, 115, 32] ++ t) (p := 0) (by rw [hSd]; simp) rfl
    simpa using this
  have t1 : S.extract ((c :: l).length + 1) ((c :: l).length + 1 + 2) = ⟨#[105, 115]⟩ := ext_mid (s := S) (q := (c :: l) ++ [32]) (t := [105, 115]) (r := [32] ++ t) (by rw [hSd]; simp) (by simp)
  have b0 : B[0]? = some (0, (c :: l).length) := by rw [← hB]; rfl
  have b1 : B[1]? = some ((c :: l).length + 1, (c :: l).length + 1 + 2) := by rw [← hB]; rfl
  have k0 : kB (kr (toks S B)) 0 1 = true := by rw [kB_tok b0, t0, hn.kind]; rfl
  have k1 : kB (kr (toks S B)) 1 2 = true := by rw [kB_tok b1, t1]; decide +kernel
  have hb : beg (tks S B) = 2 := by unfold beg; rw [← kr_toks, k0, k1]; rfl
  have hlen : B.length = 2 + A.length := by rw [← hB]; simp; omega
  obtain ⟨e1, e2⟩ := parse_tree (s := S) hSs hl (by rw [hb, hlen]; simpa using hx)
  refine ⟨e1, ?_, e2⟩
  unfold nameP
  rw [e1, if_pos rfl, hl]
  unfold nameS
  simp only []
  rw [k0, k1, tokAt_tok b0, t0]
  rfl
end Go.Proofs.YtjobgpahajhbnaaGreatDoor
namespace Go.Proofs.YtjobgpahajhbnaaGreatDoor
open Go.RowKit Go.Proofs Go.Maps
attribute [local go_sem ↓] Go.wp_at_zero Go.wp_at_succ

/-- all is kept but blocks of which S holds -/
structure Bs (S : Nat → Prop) (w w' : World) : Prop where
  os : w'.os = w.os
  tape : w'.tape = w.tape
  output : w'.output = w.output
  size : w.heap.size ≤ w'.heap.size
  block : ∀ k, k < w.heap.size → ¬ S k → w'.heap[k]? = w.heap[k]?
theorem Bs.of {S : Nat → Prop} {w w' : World} (h : Below w.heap.size w w') : Bs S w w' := ⟨h.os, h.tape, h.output, h.size, fun k hk _ => h.block k hk⟩
theorem Bs.trans {S S' : Nat → Prop} {w w1 w2 : World} (h : Bs S w w1) (h' : Bs S' w1 w2) (hs : ∀ k, k < w.heap.size → S' k → S k) : Bs S w w2 :=
  ⟨h'.os.trans h.os, h'.tape.trans h.tape, h'.output.trans h.output, Nat.le_trans h.size h'.size, fun k hk hn => (h'.block k (Nat.lt_of_lt_of_le hk h.size) (fun hs' => hn (hs k hk hs'))).trans (h.block k hk hn)⟩
theorem Bs.cell {S : Nat → Prop} {w w' : World} (h : Bs S w w') {b o : Nat} (hb : b < w.heap.size) (hn : ¬ S b) : w'.cell? ⟨b, o, none⟩ = w.cell? ⟨b, o, none⟩ := World.cell?_of_block (h.block b hb hn)
theorem Bs.frozen {S : Nat → Prop} {w w' : World} (h : Bs S w w') {b o : Nat} (hb : b < w.heap.size) (hn : ¬ S b) : w'.frozen? ⟨b, o, none⟩ = w.frozen? ⟨b, o, none⟩ := World.frozen?_of_block (a := ⟨b, o, none⟩) (h.block b hb hn)
def keyT (t : ByteArray) : Lit := .string t.data.toList
theorem key_of {t : ByteArray} (ht : t.size ≤ 200) : keyOf Tryz.prog 9 (.string t) = some (keyT t) := Go.WideMaps.keyOf_string_mk Tryz.underlying9 (by unfold maxLen; omega)
theorem keyT_inj {t u : ByteArray} (h : keyT t = keyT u) : t = u := by
  unfold keyT at h
  injection h with h
  exact ba_ext h
/-- what is held of a map of names -/
def Holds (D : DataW Value) (P : Nat → Prop) (W : World) (env : ByteArray → Option Arr) : Prop :=
  IsMap D ∧ ∀ t : ByteArray, match env t with
    | none => Maps.has D (keyT t) = false
    | some a => ∃ v, Maps.has D (keyT t) = true ∧ (∀ z, D.atKey (keyT t) z = .held v) ∧ IsArr P W v a
theorem owns_later {W w : World} {mb n : Nat} {D : DataW Value} (h : W.ownsMap Tryz.prog 9 selfE mb n D) (hb : Below W.heap.size W w) : w.ownsMap Tryz.prog 9 selfE mb n D := by
  obtain ⟨es, clock, h1, r⟩ := h
  refine ⟨es, clock, (hb.block mb ?_).trans h1, r⟩
  exact (Array.getElem?_eq_some_iff.1 h1).1
theorem look_of {P : Nat → Prop} {W : World} {mb n : Nat} {D : DataW Value} {env : ByteArray → Option Arr} (hO : W.ownsMap Tryz.prog 9 selfE mb n D) (hH : Holds D P W env) : Look P W (.map (some mb)) env := by
  intro t ht
  have h := hH.2 t
  cases he : env t with
  | none =>
    rw [he] at h
    refine ⟨zArr, fun w hw => ?_, rfl⟩
    exact look_self Tryz.underlying87 (Tryz.zero89 w) (owns_later hO hw) (key_of ht) h (atKey_of_not_has h _)
  | some a =>
    rw [he] at h
    obtain ⟨v, h1, h2, h3⟩ := h
    exact ⟨v, fun w hw => look_self Tryz.underlying87 (Tryz.zero89 w) (owns_later hO hw) (key_of ht) h1 (h2 _), h3⟩
/-- a name more, or made anew -/
def upd (env : ByteArray → Option Arr) (nm : ByteArray) (a : Arr) : ByteArray → Option Arr := fun t => if t = nm then some a else env t
theorem Holds.put {D : DataW Value} {P P' : Nat → Prop} {W W' : World} {env : ByteArray → Option Arr} (h : Holds D P W env) (nm : ByteArray) (hk : WideAt.IsKeyLit (keyT nm)) {v : Value} {a : Arr} (hv : IsArr P' W' v a) (hold : ∀ u b, IsArr P W u b → IsArr P' W' u b) : Holds (D.put (keyT nm) (.held v)) P' W' (upd env nm a) := by
  refine ⟨h.1.put _ _, fun t => ?_⟩
  unfold upd
  by_cases e : t = nm
  · subst e
    rw [if_pos rfl]
    exact ⟨v, has_put_same h.1 hk _, fun z => atKey_put_same h.1 hk _ _, hv⟩
  · rw [if_neg e]
    have hne : keyT t ≠ keyT nm := fun h => e (keyT_inj h)
    have ho := h.2 t
    cases he : env t with
    | none => rw [he] at ho; exact (has_put_other hne _).trans ho
    | some b =>
      rw [he] at ho
      obtain ⟨u, h1, h2, h3⟩ := ho
      exact ⟨u, (has_put_other hne _).trans h1, fun z => (atKey_put_other hne _ _).trans (h2 z), hold _ _ h3⟩
set_option maxHeartbeats 400000 in
theorem clone_any (s : ByteArray) (w : World) (hlim : s.size ≤ 200) : Calls Tryz.prog 78 #[.string s] w fun e w' => e = .returned (.string s) ∧ Below w.heap.size w w' := by
  have HC := hide (Tryz.stringslite_Clone s w (by omega))
  clear hlim
  go_enter Tryz.func78, Tryz.ntmps78
  go_wp2_with (go_at_call 112; refine (unhide HC).mono ?_; rintro e w' ⟨rfl, hb⟩; have HB := hide hb; clear hb)
  exact bodyPost_ret (v := .string s) (by simp [results, Tryz.results78, go_sem]) rfl ⟨rfl, unhide HB⟩
end Go.Proofs.YtjobgpahajhbnaaGreatDoor
namespace Go.Proofs.YtjobgpahajhbnaaGreatDoor
open Go.RowKit Go.Proofs Go.Maps
attribute [local go_sem ↓] Go.wp_at_zero Go.wp_at_succ

theorem Tryz.map_some (b : Nat) (w : World) : (binOp .eql 87 (.map (some b)) (.map none)).run Tryz.prog w = .ok (.bool false) w := by kernel_rfl
theorem Tryz.map_none (w : World) : (binOp .eql 87 (.map none) (.map none)).run Tryz.prog w = .ok (.bool true) w := by kernel_rfl
set_option maxHeartbeats 2000000 in
set_option maxRecDepth 20000 in
theorem keep_old (db : Nat) (w : World) (mb n : Nat) (D : DataW Value) (nm : ByteArray) (hnm : nm.size ≤ 200) (so : Option Addr) (sn sc : Nat) (co : Option Addr) (cn cc : Nat) (hdb : db < w.heap.size) (c1 : w.cell? ⟨db, 1, none⟩ = some (.map (some mb))) (hO : w.ownsMap Tryz.prog 9 selfE mb n D) (hn : n < 1000000) (hdm : db ≠ mb) :
    Calls Tryz.prog 61 #[.pointer (some ⟨db, 0, none⟩), .string nm, .agg #[.slice so sn sc, .slice co cn cc]] w fun e w' => e = .returned (.tuple #[]) ∧ w'.ownsMap Tryz.prog 9 selfE mb (n + 1) (D.put (keyT nm) (.held (.agg #[.slice so sn sc, .slice co cn cc]))) ∧ Bs (fun b => b = mb) w w' := by
  have hmb : mb < w.heap.size := by
    obtain ⟨es, clock, h1, _⟩ := hO
    exact (Array.getElem?_eq_some_iff.1 h1).1
  have hb0 : Below w.heap.size w (w.alloc (.cells #[.slice so sn sc, .slice co cn cc] 89)) := (Below.refl _ _).alloc (Nat.le_refl _) _
  obtain ⟨W0, hW0⟩ : ∃ W0, w.alloc (.cells #[.slice so sn sc, .slice co cn cc] 89) = W0 := ⟨_, rfl⟩
  have z0 : W0.cell? ⟨w.heap.size, 0, none⟩ = some (.slice so sn sc) := by rw [← hW0]; exact (World.cell?_alloc_at _ _ _ _ rfl).trans rfl
  have z1 : W0.cell? ⟨w.heap.size, 1, none⟩ = some (.slice co cn cc) := by rw [← hW0]; exact (World.cell?_alloc_at _ _ _ _ rfl).trans rfl
  have zs : w.heap.size < W0.heap.size := by rw [← hW0]; simp
  rw [hW0] at hb0
  have HS : Hid (∀ w', Below W0.heap.size W0 w' → w'.cell? ⟨db, 1, none⟩ = some (.map (some mb)) ∧ w'.cell? ⟨w.heap.size, 0, none⟩ = some (.slice so sn sc) ∧ w'.cell? ⟨w.heap.size, 1, none⟩ = some (.slice co cn cc)) := hide (fun w' hb => ⟨((hb0.trans (hb.mono hb0.size)).cell (p := ⟨db, 1, none⟩) hdb).trans c1, (hb.cell (p := ⟨w.heap.size, 0, none⟩) zs).trans z0, (hb.cell (p := ⟨w.heap.size, 1, none⟩) zs).trans z1⟩)
  have HU : Hid (∀ w', Below W0.heap.size W0 w' → ∃ w'', (Instr.mapUpdate 87 (.map (some mb)) (.string nm) (.agg #[.slice so sn sc, .slice co cn cc])).run Tryz.prog w' = .ok () w'' ∧ w''.ownsMap Tryz.prog 9 selfE mb (n + 1) (D.put (keyT nm) (.held (.agg #[.slice so sn sc, .slice co cn cc]))) ∧ w'.grownBy w'' (some mb)) := hide (fun w' hb => (owns_later hO (hb0.trans (hb.mono hb0.size))).update Tryz.law9 Tryz.underlying87 (by unfold maxLen; omega) (key_of hnm) (show selfE (.agg #[.slice so sn sc, .slice co cn cc]) = some (.held (.agg #[.slice so sn sc, .slice co cn cc]), []) from rfl))
  have HC := hide (fun w' => clone_any nm w' hnm)
  have HB0 := hide hb0
  have hdb1 : db < W0.heap.size := by omega
  have c1' := (unhide HS W0 (Below.refl _ _)).1
  have hwm : w.heap.size ≠ mb := by omega
  clear hO c1 hn hnm z0 z1 hb0
  have hms := Tryz.map_some mb
  go_enter Tryz.func61, Tryz.ntmps61
  go_wp2_with fail
  try rw [hW0]
  clear hW0
  go_region_held3 (fun w' => w'.cell? ⟨db, 1, none⟩ = some (.map (some mb)) ∧ w'.cell? ⟨w.heap.size, 0, none⟩ = some (.slice so sn sc) ∧ w'.cell? ⟨w.heap.size, 1, none⟩ = some (.slice co cn cc))
    (first
      | exact unhide HS _ (Below.refl _ _).drew
      | exact unhide HS _ (unhide HB1)
      | exact unhide HS2
      | (trace_state; fail))
    ((go_at_call 78; refine (unhide HC _).mono ?_; rintro e w1 ⟨rfl, hb1⟩; have HB1 : Hid (Below W0.heap.size W0 w1) := hide ((Below.refl _ _).drew.trans hb1); obtain ⟨w2, hrun, ho2, hg2⟩ := unhide HU w1 (unhide HB1); have HO2 := hide ho2; have HG2 := hide hg2; have HS2 : Hid (w2.cell? ⟨db, 1, none⟩ = some (.map (some mb)) ∧ w2.cell? ⟨w.heap.size, 0, none⟩ = some (.slice so sn sc) ∧ w2.cell? ⟨w.heap.size, 1, none⟩ = some (.slice co cn cc)) := hide (by have h := unhide HS w1 (unhide HB1); have hsz := (unhide HB1).size; rw [World.cell?_of_block (a := ⟨db, 1, none⟩) (hg2.block db (by omega) (fun e => hdm (Option.some.inj e))), World.cell?_of_block (a := ⟨w.heap.size, 0, none⟩) (hg2.block w.heap.size (by omega) (fun e => hwm (Option.some.inj e))), World.cell?_of_block (a := ⟨w.heap.size, 1, none⟩) (hg2.block w.heap.size (by omega) (fun e => hwm (Option.some.inj e)))]; exact h); clear hb1 ho2 hg2))
  have hfin : Bs (fun b => b = mb) w w2 := by
    have h1 := (unhide HB0).trans ((unhide HB1).mono (unhide HB0).size)
    have h2 := unhide HG2
    exact (Bs.of h1).trans ⟨h2.os, h2.tape, h2.output, h2.size, fun k hk hn => h2.block k hk (fun e => hn (Option.some.inj e))⟩ (fun k _ h => h)
  have HFin := hide hfin
  clear hfin
  go_wp2_with fail
  exact bodyPost_end (v := .tuple #[]) (by simp [results, Tryz.results61, go_sem]) rfl ⟨rfl, unhide HO2, unhide HFin⟩
set_option maxHeartbeats 2000000 in
set_option maxRecDepth 20000 in
theorem keep_new (db : Nat) (w : World) (nm : ByteArray) (hnm : nm.size ≤ 200) (so : Option Addr) (sn sc : Nat) (co : Option Addr) (cn cc : Nat) (hdb : db < w.heap.size) (c1 : w.cell? ⟨db, 1, none⟩ = some (.map none)) (f1 : w.frozen? ⟨db, 1, none⟩ = false) :
    Calls Tryz.prog 61 #[.pointer (some ⟨db, 0, none⟩), .string nm, .agg #[.slice so sn sc, .slice co cn cc]] w fun e w' => e = .returned (.tuple #[]) ∧ w'.cell? ⟨db, 1, none⟩ = some (.map (some (w.heap.size + 1))) ∧ w'.cell? ⟨db, 0, none⟩ = w.cell? ⟨db, 0, none⟩ ∧ w'.frozen? ⟨db, 1, none⟩ = false ∧ w'.ownsMap Tryz.prog 9 selfE (w.heap.size + 1) 1 ((DataW.map []).put (keyT nm) (.held (.agg #[.slice so sn sc, .slice co cn cc]))) ∧ Bs (fun b => b = db) w w' := by
  obtain ⟨W0, hW0⟩ : ∃ W0, ((w.alloc (.cells #[.slice so sn sc, .slice co cn cc] 89)).alloc (.map #[] 0)).setCell ⟨db, 1, none⟩ (.map (some (w.heap.size + 1))) = W0 := ⟨_, rfl⟩
  have hsz : W0.heap.size = w.heap.size + 1 + 1 := by rw [← hW0]; simp
  have hbl : ∀ k, k < w.heap.size → k ≠ db → W0.heap[k]? = w.heap[k]? := fun k hk hn => by
    rw [← hW0, RowKit.Below.heap_setCell _ _ _ _ (fun e => hn e), RowKit.Below.heap_alloc _ _ _ (by simp; omega), RowKit.Below.heap_alloc _ _ _ (by simpa using hk)]
  have z0 : W0.cell? ⟨w.heap.size, 0, none⟩ = some (.slice so sn sc) := by
    rw [← hW0, World.cell?_setCell_other _ _ _ _ (by intro e; injection e; omega), World.cell?_alloc_past _ _ _ (by simp)]
    exact (World.cell?_alloc_at _ _ _ _ rfl).trans rfl
  have z1 : W0.cell? ⟨w.heap.size, 1, none⟩ = some (.slice co cn cc) := by
    rw [← hW0, World.cell?_setCell_other _ _ _ _ (by intro e; injection e; omega), World.cell?_alloc_past _ _ _ (by simp)]
    exact (World.cell?_alloc_at _ _ _ _ rfl).trans rfl
  have z2 : W0.cell? ⟨db, 1, none⟩ = some (.map (some (w.heap.size + 1))) := by
    rw [← hW0]
    exact World.cell?_setCell_same _ _ _ (u := .map none) (by rw [World.cell?_alloc_past _ _ _ (by simp; omega), World.cell?_alloc_past _ _ _ (by simpa using hdb)]; exact c1)
  have z3 : W0.cell? ⟨db, 0, none⟩ = w.cell? ⟨db, 0, none⟩ := by
    rw [← hW0, World.cell?_setCell_other _ _ _ _ (by simp), World.cell?_alloc_past _ _ _ (by simp; omega), World.cell?_alloc_past _ _ _ (by simpa using hdb)]
  have z4 : W0.frozen? ⟨db, 1, none⟩ = false := by
    rw [← hW0, World.frozen?_setCell, World.frozen?_of_block (a := ⟨db, 1, none⟩) (RowKit.Below.heap_alloc _ _ _ (by simp; omega)), World.frozen?_of_block (a := ⟨db, 1, none⟩) (RowKit.Below.heap_alloc _ _ _ (by simpa using hdb))]
    exact f1
  have hO : W0.ownsMap Tryz.prog 9 selfE (w.heap.size + 1) 0 (.map []) := by
    have h := World.ownsMap_made (w.alloc (.cells #[.slice so sn sc, .slice co cn cc] 89)) Tryz.prog 9 selfE
    obtain ⟨es, clock, h1, r⟩ := h
    refine ⟨es, clock, ?_, r⟩
    rw [← hW0, RowKit.Below.heap_setCell _ _ _ _ (by simp; omega)]
    simpa using h1
  have hbs0 : Bs (fun b => b = db) w W0 := by
    refine ⟨?_, ?_, ?_, by omega, fun k hk hn => hbl k hk hn⟩ <;> (rw [← hW0]; rfl)
  have HS : Hid (∀ w', Below W0.heap.size W0 w' → w'.cell? ⟨db, 1, none⟩ = some (.map (some (w.heap.size + 1))) ∧ w'.cell? ⟨w.heap.size, 0, none⟩ = some (.slice so sn sc) ∧ w'.cell? ⟨w.heap.size, 1, none⟩ = some (.slice co cn cc)) := hide (fun w' hb => ⟨(hb.cell (p := ⟨db, 1, none⟩) (by show db < W0.heap.size; omega)).trans z2, (hb.cell (p := ⟨w.heap.size, 0, none⟩) (by show w.heap.size < W0.heap.size; omega)).trans z0, (hb.cell (p := ⟨w.heap.size, 1, none⟩) (by show w.heap.size < W0.heap.size; omega)).trans z1⟩)
  have HU : Hid (∀ w', Below W0.heap.size W0 w' → ∃ w'', (Instr.mapUpdate 87 (.map (some (w.heap.size + 1))) (.string nm) (.agg #[.slice so sn sc, .slice co cn cc])).run Tryz.prog w' = .ok () w'' ∧ w''.ownsMap Tryz.prog 9 selfE (w.heap.size + 1) (0 + 1) ((DataW.map []).put (keyT nm) (.held (.agg #[.slice so sn sc, .slice co cn cc]))) ∧ w'.grownBy w'' (some (w.heap.size + 1))) := hide (fun w' hb => (owns_later hO hb).update Tryz.law9 Tryz.underlying87 (by unfold maxLen; omega) (key_of hnm) (show selfE (.agg #[.slice so sn sc, .slice co cn cc]) = some (.held (.agg #[.slice so sn sc, .slice co cn cc]), []) from rfl))
  have HC := hide (fun w' => clone_any nm w' hnm)
  have HBs0 := hide hbs0
  have HZ3 := hide z3
  have HZ5 := hide z4
  have hms := Tryz.map_none
  have hmm := @run_makeMap Tryz.prog
  have hdm : db ≠ w.heap.size + 1 := by omega
  have hdb1 : db < w.heap.size + 1 := by omega
  have hdb2 : db < w.heap.size + 1 + 1 := by omega
  clear hO hnm z0 z1 z2 z3 z4 hbs0 hbl
  go_enter Tryz.func61, Tryz.ntmps61
  go_wp2_with fail
  try rw [hW0]
  clear hW0
  go_region_held3 (fun w' => w'.cell? ⟨db, 1, none⟩ = some (.map (some (w.heap.size + 1))) ∧ w'.cell? ⟨w.heap.size, 0, none⟩ = some (.slice so sn sc) ∧ w'.cell? ⟨w.heap.size, 1, none⟩ = some (.slice co cn cc))
    (first
      | exact unhide HS _ (Below.refl _ _).drew
      | exact unhide HS _ (unhide HB1)
      | exact unhide HS2
      | (trace_state; fail))
    ((go_at_call 78; refine (unhide HC _).mono ?_; rintro e w1 ⟨rfl, hb1⟩; have HB1 : Hid (Below W0.heap.size W0 w1) := hide ((Below.refl _ _).drew.trans hb1); obtain ⟨w2, hrun, ho2, hg2⟩ := unhide HU w1 (unhide HB1); have HO2 := hide ho2; have HG2 := hide hg2; have HS2 : Hid (w2.cell? ⟨db, 1, none⟩ = some (.map (some (w.heap.size + 1))) ∧ w2.cell? ⟨w.heap.size, 0, none⟩ = some (.slice so sn sc) ∧ w2.cell? ⟨w.heap.size, 1, none⟩ = some (.slice co cn cc)) := hide (by have h := unhide HS w1 (unhide HB1); have hsz1 := (unhide HB1).size; rw [World.cell?_of_block (a := ⟨db, 1, none⟩) (hg2.block db (by omega) (fun e => hdm (Option.some.inj e))), World.cell?_of_block (a := ⟨w.heap.size, 0, none⟩) (hg2.block w.heap.size (by omega) (fun e => absurd (Option.some.inj e) (by omega))), World.cell?_of_block (a := ⟨w.heap.size, 1, none⟩) (hg2.block w.heap.size (by omega) (fun e => absurd (Option.some.inj e) (by omega)))]; exact h); have HZ4 : Hid (w2.cell? ⟨db, 0, none⟩ = w.cell? ⟨db, 0, none⟩) := hide (by have hsz1 := (unhide HB1).size; rw [World.cell?_of_block (a := ⟨db, 0, none⟩) (hg2.block db (by omega) (fun e => hdm (Option.some.inj e))), (unhide HB1).cell (p := ⟨db, 0, none⟩) (by show db < W0.heap.size; omega)]; exact unhide HZ3); have HZ6 : Hid (w2.frozen? ⟨db, 1, none⟩ = false) := hide (by have hsz1 := (unhide HB1).size; rw [World.frozen?_of_block (a := ⟨db, 1, none⟩) (hg2.block db (by omega) (fun e => hdm (Option.some.inj e))), (unhide HB1).frozen (p := ⟨db, 1, none⟩) (by show db < W0.heap.size; omega)]; exact unhide HZ5); clear hb1 ho2 hg2))
  have hfin : Bs (fun b => b = db) w w2 := by
    have h1 := (unhide HBs0).trans (Bs.of (S := fun _ => False) (unhide HB1)) (fun _ _ h => absurd h id)
    have h2 := unhide HG2
    exact h1.trans (S' := fun b => b = w.heap.size + 1) ⟨h2.os, h2.tape, h2.output, h2.size, fun k hk hn => h2.block k hk (fun e => hn (Option.some.inj e))⟩ (fun k hk h => absurd h (by omega))
  have HFin := hide hfin
  clear hfin
  go_wp2_with fail
  exact bodyPost_end (v := .tuple #[]) (by simp [results, Tryz.results61, go_sem]) rfl ⟨rfl, (unhide HS2).1, unhide HZ4, unhide HZ6, unhide HO2, unhide HFin⟩
end Go.Proofs.YtjobgpahajhbnaaGreatDoor
namespace Go.Proofs.YtjobgpahajhbnaaGreatDoor
open Go.RowKit Go.Proofs Go.Maps
attribute [local go_sem ↓] Go.wp_at_zero Go.wp_at_succ

section
variable {W3 w5 : World} {s0 s1 : Value} {a : Arr} {X : Nat → Prop} {e0 e1 : Int}
theorem afx_1 (hb : Below W3.heap.size W3 w5) (hA : IsArr X w5 (.agg #[s0, s1]) a) :
    AftX W3 ((w5.alloc (.cells #[s0, s1] 89)).alloc (.cells #[.int .i64 e0, .int .i64 e1] 117)) w5.heap.size (w5.heap.size + 1) s0 s1 e0 e1 ∧ IsArr (fun b => Not2 w5.heap.size (w5.heap.size + 1) b ∧ X b) ((w5.alloc (.cells #[s0, s1] 89)).alloc (.cells #[.int .i64 e0, .int .i64 e1] 117)) (.agg #[s0, s1]) a := by
  have h := hb.size
  exact ⟨⟨(hb.alloc hb.size _).alloc (by simp; omega) _, h, by omega, by simp; omega, by simp, by simp, by simp, by simp, by simp⟩, (hA.imp (fun b hb hl => ⟨⟨by omega, by omega⟩, hb⟩)).below (((Below.refl _ _).alloc (Nat.le_refl _) _).alloc (by simp) _)⟩
theorem afx_2 (hb : Below W3.heap.size W3 w5) (hA : IsArr X w5 (.agg #[s0, s1]) a) :
    AftX W3 ((w5.alloc (.cells #[.int .i64 e0, .int .i64 e1] 117)).alloc (.cells #[s0, s1] 89)) (w5.heap.size + 1) w5.heap.size s0 s1 e0 e1 ∧ IsArr (fun b => Not2 (w5.heap.size + 1) w5.heap.size b ∧ X b) ((w5.alloc (.cells #[.int .i64 e0, .int .i64 e1] 117)).alloc (.cells #[s0, s1] 89)) (.agg #[s0, s1]) a := by
  have h := hb.size
  exact ⟨⟨(hb.alloc hb.size _).alloc (by simp; omega) _, by omega, h, by simp, by simp; omega, by simp, by simp, by simp, by simp⟩, (hA.imp (fun b hb hl => ⟨⟨by omega, by omega⟩, hb⟩)).below (((Below.refl _ _).alloc (Nat.le_refl _) _).alloc (by simp) _)⟩
theorem afx_3 {k : Nat} {u0 u1 : Value} (hb : Below W3.heap.size W3 w5) (hA : IsArr (fun b => (b < W3.heap.size ∨ k ≤ b) ∧ X b) w5 (.agg #[s0, s1]) a) (hk : W3.heap.size < k) (hl : W3.heap.size < w5.heap.size) (c0 : w5.cell? ⟨W3.heap.size, 0, none⟩ = some u0) (c1 : w5.cell? ⟨W3.heap.size, 1, none⟩ = some u1) :
    AftX W3 (((w5.setCell ⟨W3.heap.size, 0, none⟩ s0).setCell ⟨W3.heap.size, 1, none⟩ s1).alloc (.cells #[.int .i64 e0, .int .i64 e1] 117)) W3.heap.size w5.heap.size s0 s1 e0 e1 ∧ IsArr (fun b => Not2 W3.heap.size w5.heap.size b ∧ X b) (((w5.setCell ⟨W3.heap.size, 0, none⟩ s0).setCell ⟨W3.heap.size, 1, none⟩ s1).alloc (.cells #[.int .i64 e0, .int .i64 e1] 117)) (.agg #[s0, s1]) a := by
  have h := hb.size
  have hno : ¬ (fun b => (b < W3.heap.size ∨ k ≤ b) ∧ X b) W3.heap.size := by rintro ⟨h | h, _⟩ <;> omega
  have hn : ((w5.setCell ⟨W3.heap.size, 0, none⟩ s0).setCell ⟨W3.heap.size, 1, none⟩ s1).heap.size = w5.heap.size := by simp
  refine ⟨⟨((hb.setCell (Nat.le_refl _) _).setCell (Nat.le_refl _) _).alloc (by rw [hn]; exact h) _, Nat.le_refl _, h, by simp; omega, by simp, ?_, ?_, ?_, ?_⟩, ?_⟩
  · rw [World.cell?_alloc_past _ _ _ (by simp; omega)]; exact set2_same0 c0
  · rw [World.cell?_alloc_past _ _ _ (by simp; omega)]; exact set2_same1 c1
  · exact (World.cell?_alloc_at _ _ _ _ hn.symm).trans rfl
  · exact (World.cell?_alloc_at _ _ _ _ hn.symm).trans rfl
  · refine IsArr.below ?_ ((Below.refl _ _).alloc (Nat.le_refl _) _)
    refine IsArr.imp ((hA.set hno 0 _).set hno 1 _) (fun b hb hl => ?_)
    rw [hn] at hl
    exact ⟨⟨by rcases hb.1 with h | h <;> omega, by omega⟩, hb.2⟩
theorem afx_5 {k : Nat} {u0 u1 : Value} (hb : Below W3.heap.size W3 w5) (hA : IsArr (fun b => (b < W3.heap.size ∨ k ≤ b) ∧ X b) w5 (.agg #[s0, s1]) a) (hk : W3.heap.size < k) (hl : W3.heap.size < w5.heap.size) (c0 : w5.cell? ⟨W3.heap.size, 0, none⟩ = some u0) (c1 : w5.cell? ⟨W3.heap.size, 1, none⟩ = some u1) :
    AftX W3 (((w5.setCell ⟨W3.heap.size, 0, none⟩ (.int .i64 e0)).setCell ⟨W3.heap.size, 1, none⟩ (.int .i64 e1)).alloc (.cells #[s0, s1] 89)) w5.heap.size W3.heap.size s0 s1 e0 e1 ∧ IsArr (fun b => Not2 w5.heap.size W3.heap.size b ∧ X b) (((w5.setCell ⟨W3.heap.size, 0, none⟩ (.int .i64 e0)).setCell ⟨W3.heap.size, 1, none⟩ (.int .i64 e1)).alloc (.cells #[s0, s1] 89)) (.agg #[s0, s1]) a := by
  have h := hb.size
  have hno : ¬ (fun b => (b < W3.heap.size ∨ k ≤ b) ∧ X b) W3.heap.size := by rintro ⟨h | h, _⟩ <;> omega
  have hn : ((w5.setCell ⟨W3.heap.size, 0, none⟩ (.int .i64 e0)).setCell ⟨W3.heap.size, 1, none⟩ (.int .i64 e1)).heap.size = w5.heap.size := by simp
  refine ⟨⟨((hb.setCell (Nat.le_refl _) _).setCell (Nat.le_refl _) _).alloc (by rw [hn]; exact h) _, h, Nat.le_refl _, by simp, by simp; omega, ?_, ?_, ?_, ?_⟩, ?_⟩
  · exact (World.cell?_alloc_at _ _ _ _ hn.symm).trans rfl
  · exact (World.cell?_alloc_at _ _ _ _ hn.symm).trans rfl
  · rw [World.cell?_alloc_past _ _ _ (by simp; omega)]; exact set2_same0 c0
  · rw [World.cell?_alloc_past _ _ _ (by simp; omega)]; exact set2_same1 c1
  · refine IsArr.below ?_ ((Below.refl _ _).alloc (Nat.le_refl _) _)
    refine IsArr.imp ((hA.set hno 0 _).set hno 1 _) (fun b hb hl => ?_)
    rw [hn] at hl
    exact ⟨⟨by omega, by rcases hb.1 with h | h <;> omega⟩, hb.2⟩
theorem afx_4 {k p q : Nat} {u0 u1 u2 u3 : Value} (hb : Below W3.heap.size W3 w5) (hA : IsArr (fun b => (b < W3.heap.size ∨ k ≤ b) ∧ X b) w5 (.agg #[s0, s1]) a) (hp : W3.heap.size ≤ p ∧ p < k ∧ p < w5.heap.size) (hq : W3.heap.size ≤ q ∧ q < k ∧ q < w5.heap.size) (hpq : p ≠ q) (c0 : w5.cell? ⟨p, 0, none⟩ = some u0) (c1 : w5.cell? ⟨p, 1, none⟩ = some u1) (c2 : w5.cell? ⟨q, 0, none⟩ = some u2) (c3 : w5.cell? ⟨q, 1, none⟩ = some u3) :
    AftX W3 ((((w5.setCell ⟨p, 0, none⟩ s0).setCell ⟨p, 1, none⟩ s1).setCell ⟨q, 0, none⟩ (.int .i64 e0)).setCell ⟨q, 1, none⟩ (.int .i64 e1)) p q s0 s1 e0 e1 ∧ IsArr (fun b => Not2 p q b ∧ X b) ((((w5.setCell ⟨p, 0, none⟩ s0).setCell ⟨p, 1, none⟩ s1).setCell ⟨q, 0, none⟩ (.int .i64 e0)).setCell ⟨q, 1, none⟩ (.int .i64 e1)) (.agg #[s0, s1]) a := by
  have np : ¬ (fun b => (b < W3.heap.size ∨ k ≤ b) ∧ X b) p := by rintro ⟨h | h, _⟩ <;> omega
  have nq : ¬ (fun b => (b < W3.heap.size ∨ k ≤ b) ∧ X b) q := by rintro ⟨h | h, _⟩ <;> omega
  refine ⟨⟨(((hb.setCell hp.1 _).setCell hp.1 _).setCell hq.1 _).setCell hq.1 _, hp.1, hq.1, by simp; omega, by simp; omega, ?_, ?_, ?_, ?_⟩, ?_⟩
  · rw [set2_other hpq]; exact set2_same0 c0
  · rw [set2_other hpq]; exact set2_same1 c1
  · exact set2_same0 (u := u2) (by rw [set2_other (Ne.symm hpq)]; exact c2)
  · exact set2_same1 (u := u3) (by rw [set2_other (Ne.symm hpq)]; exact c3)
  · exact IsArr.imp ((((hA.set np 0 _).set np 1 _).set nq 0 _).set nq 1 _) (fun b hb hl => ⟨⟨by rcases hb.1 with h | h <;> omega, by rcases hb.1 with h | h <;> omega⟩, hb.2⟩)
end
/-- a desk with names; their arrays lie in blocks of which X holds -/
structure DskN (X : Nat → Prop) (db : Nat) (fuel : Int) (env : ByteArray → Option Arr) (N : Nat) (mo : Option Nat) (w : World) : Prop where
  lt : db < w.heap.size
  low : 6 ≤ db
  evs : Evs w
  c0 : w.cell? ⟨db, 0, none⟩ = some (.int .i64 fuel)
  c1 : w.cell? ⟨db, 1, none⟩ = some (.map mo)
  fr : w.frozen? ⟨db, 1, none⟩ = false
  out : ¬ X db
  map : match mo with
    | none => env = fun _ => none
    | some mb => mb ≠ db ∧ 6 ≤ mb ∧ ¬ X mb ∧ ∃ D, w.ownsMap Tryz.prog 9 selfE mb N D ∧ Holds D X w env
theorem Holds.later {D : DataW Value} {P P' : Nat → Prop} {W W' : World} {env : ByteArray → Option Arr} (h : Holds D P W env) (hk : ∀ u b, IsArr P W u b → IsArr P' W' u b) : Holds D P' W' env := by
  refine ⟨h.1, fun t => ?_⟩
  have := h.2 t
  cases he : env t with
  | none => rw [he] at this; exact this
  | some a =>
    rw [he] at this
    obtain ⟨v, h1, h2, h3⟩ := this
    exact ⟨v, h1, h2, hk _ _ h3⟩
theorem DskN.below {X : Nat → Prop} {db : Nat} {fuel : Int} {env : ByteArray → Option Arr} {N : Nat} {mo : Option Nat} {w w' : World} (h : DskN X db fuel env N mo w) (hb : Below w.heap.size w w') : DskN X db fuel env N mo w' := by
  refine ⟨Nat.lt_of_lt_of_le h.lt hb.size, h.low, h.evs.below hb h.evs.1, (hb.cell (p := ⟨db, 0, none⟩) h.lt).trans h.c0, (hb.cell (p := ⟨db, 1, none⟩) h.lt).trans h.c1, (hb.frozen (p := ⟨db, 1, none⟩) h.lt).trans h.fr, h.out, ?_⟩
  have hm := h.map
  cases mo with
  | none => exact hm
  | some mb =>
    obtain ⟨h1, h2, h3, D, h4, h5⟩ := hm
    exact ⟨h1, h2, h3, D, owns_later h4 hb, h5.later (fun _ _ h => h.below hb)⟩
/-- a block that is none of the desk's is written -/
theorem DskN.set {X : Nat → Prop} {db : Nat} {fuel : Int} {env : ByteArray → Option Arr} {N : Nat} {mo : Option Nat} {w : World} (h : DskN X db fuel env N mo w) {r : Nat} (hr : ¬ X r) (h6 : 6 ≤ r) (hd : r ≠ db) (hm : mo ≠ some r) (i : Nat) (u : Value) : DskN X db fuel env N mo (w.setCell ⟨r, i, none⟩ u) := by
  have hbl : ∀ k, k ≠ r → (w.setCell ⟨r, i, none⟩ u).heap[k]? = w.heap[k]? := fun k hk => RowKit.Below.heap_setCell _ _ _ _ (fun e => hk e)
  refine ⟨by simpa using h.lt, h.low, ?_, ?_, ?_, ?_, h.out, ?_⟩
  · exact h.evs.below (B := 6) ⟨rfl, rfl, rfl, by simp, fun k hk => hbl k (by omega)⟩ (Nat.le_refl _)
  · exact (World.cell?_of_block (a := ⟨db, 0, none⟩) (hbl db (Ne.symm hd))).trans h.c0
  · exact (World.cell?_of_block (a := ⟨db, 1, none⟩) (hbl db (Ne.symm hd))).trans h.c1
  · exact (World.frozen?_of_block (a := ⟨db, 1, none⟩) (hbl db (Ne.symm hd))).trans h.fr
  · have hmm := h.map
    cases mo with
    | none => exact hmm
    | some mb =>
      obtain ⟨h1, h2, h3, D, ⟨es, clock, g1, g2⟩, h5⟩ := hmm
      exact ⟨h1, h2, h3, D, ⟨es, clock, (hbl mb (fun e => hm (by rw [e]))).trans g1, g2⟩, h5.later (fun _ _ h => h.set hr i u)⟩
theorem DskN.imp {X X' : Nat → Prop} {db : Nat} {fuel : Int} {env : ByteArray → Option Arr} {N : Nat} {mo : Option Nat} {w : World} (h : DskN X db fuel env N mo w) (hx : ∀ b, X b → b < w.heap.size → X' b) (hd : ¬ X' db) (hm : ∀ mb, mo = some mb → ¬ X' mb) : DskN X' db fuel env N mo w := by
  refine ⟨h.lt, h.low, h.evs, h.c0, h.c1, h.fr, hd, ?_⟩
  have hmm := h.map
  cases mo with
  | none => exact hmm
  | some mb =>
    obtain ⟨h1, h2, h3, D, h4, h5⟩ := hmm
    exact ⟨h1, h2, hm mb rfl, D, h4, h5.later (fun _ _ h => h.imp hx)⟩
theorem DskN.look {X : Nat → Prop} {db : Nat} {fuel : Int} {env : ByteArray → Option Arr} {N : Nat} {mo : Option Nat} {w : World} (h : DskN X db fuel env N mo w) : Look X w (.map mo) env := by
  have hm := h.map
  cases mo with
  | none =>
    have hm : env = fun _ => none := hm
    subst hm
    exact look_none X w
  | some mb =>
    obtain ⟨_, _, _, D, h4, h5⟩ := hm
    exact look_of h4 h5
/-- the desk's own blocks -/
def Own (db : Nat) (mo : Option Nat) (b : Nat) : Prop := b = db ∨ mo = some b
theorem keep_any (X : Nat → Prop) (db : Nat) (fuel : Int) (env : ByteArray → Option Arr) (N : Nat) (mo : Option Nat) (w : World) (h : DskN X db fuel env N mo w) (hN : N < 1000) (nm : ByteArray) (hnm : nm.size ≤ 200) (so : Option Addr) (sn sc : Nat) (co : Option Addr) (cn cc : Nat) (a : Arr) (hA : IsArr X w (.agg #[.slice so sn sc, .slice co cn cc]) a) (hx : ¬ X (w.heap.size + 1)) :
    Calls Tryz.prog 61 #[.pointer (some ⟨db, 0, none⟩), .string nm, .agg #[.slice so sn sc, .slice co cn cc]] w fun e w' => e = .returned (.tuple #[]) ∧ (∃ mo', DskN X db fuel (upd env nm a) (N + 1) mo' w' ∧ ∀ b, b < w.heap.size → mo' = some b → mo = some b) ∧ Bs (Own db mo) w w' := by
  have hkl : WideAt.IsKeyLit (keyT nm) := trivial
  have hm := h.map
  cases mo with
  | none =>
    have hm : env = fun _ => none := hm
    subst hm
    refine (keep_new db w nm hnm so sn sc co cn cc h.lt h.c1 h.fr).mono ?_
    rintro e w' ⟨rfl, g1, g2, g5, g3, g4⟩
    have hsz := g4.size
    have hmb : w.heap.size + 1 < w'.heap.size := by
      obtain ⟨es, clock, q, _⟩ := g3
      exact (Array.getElem?_eq_some_iff.1 q).1
    have hkk : ∀ u b, IsArr X w u b → IsArr X w' u b := fun u b hu => hu.keep hsz (fun k hk hl => g4.block k hl (fun e => h.out (by rw [← e]; exact hk)))
    have hE0 : Holds (DataW.map []) X w (fun _ => none) := ⟨isMap_empty, fun t => rfl⟩
    refine ⟨rfl, ⟨some (w.heap.size + 1), ⟨Nat.lt_of_lt_of_le h.lt hsz, h.low, ?_, g2.trans h.c0, g1, ?_, h.out, ?_⟩, fun b hb e => absurd (Option.some.inj e) (by omega)⟩, ⟨g4.os, g4.tape, g4.output, hsz, fun k hk hn => g4.block k hk (fun e => hn (Or.inl e))⟩⟩
    · exact h.evs.below (B := 6) ⟨g4.os, g4.tape, g4.output, hsz, fun k hk => g4.block k (by have := h.lt; have := h.low; omega) (by have := h.low; omega)⟩ (Nat.le_refl _)
    · exact g5
    · refine ⟨by have := h.lt; omega, by have := h.lt; have := h.low; omega, hx, _, ?_, hE0.put nm hkl (hkk _ _ hA) hkk⟩
      obtain ⟨es, clock, q, r1, r2, r3⟩ := g3
      exact ⟨es, clock, q, r1, by omega, r3⟩
  | some mb =>
    obtain ⟨h1, h2, h3, D, h4, h5⟩ := hm
    refine (keep_old db w mb N D nm hnm so sn sc co cn cc h.lt h.c1 h4 (by omega) (Ne.symm h1)).mono ?_
    rintro e w' ⟨rfl, g3, g4⟩
    have hsz := g4.size
    have hkk : ∀ u b, IsArr X w u b → IsArr X w' u b := fun u b hu => hu.keep hsz (fun k hk hl => g4.block k hl (fun e => h3 (by rw [← e]; exact hk)))
    have hdb : w'.heap[db]? = w.heap[db]? := g4.block db h.lt (fun e => h1 e.symm)
    refine ⟨rfl, ⟨some mb, ⟨Nat.lt_of_lt_of_le h.lt hsz, h.low, ?_, (World.cell?_of_block (a := ⟨db, 0, none⟩) hdb).trans h.c0, (World.cell?_of_block (a := ⟨db, 1, none⟩) hdb).trans h.c1, (World.frozen?_of_block (a := ⟨db, 1, none⟩) hdb).trans h.fr, h.out, ?_⟩, fun b _ e => e⟩, ⟨g4.os, g4.tape, g4.output, hsz, fun k hk hn => g4.block k hk (fun e => hn (Or.inr (by rw [e])))⟩⟩
    · exact h.evs.below (B := 6) ⟨g4.os, g4.tape, g4.output, hsz, fun k hk => g4.block k (by have := h.lt; have := h.low; omega) (by omega)⟩ (Nat.le_refl _)
    · exact ⟨h1, h2, h3, _, g3, h5.put nm hkl (hkk _ _ hA) hkk⟩
end Go.Proofs.YtjobgpahajhbnaaGreatDoor
namespace Go.Proofs.YtjobgpahajhbnaaGreatDoor
open Go.RowKit Go.Proofs Go.Maps
attribute [local go_sem ↓] Go.wp_at_zero Go.wp_at_succ

theorem DskN.moLt {X : Nat → Prop} {db : Nat} {fuel : Int} {env : ByteArray → Option Arr} {N : Nat} {mo : Option Nat} {w : World} (h : DskN X db fuel env N mo w) : ∀ mb, mo = some mb → mb < w.heap.size := by
  intro mb e
  subst e
  obtain ⟨_, _, _, D, ⟨es, clock, g1, _⟩, _⟩ := h.map
  exact (Array.getElem?_eq_some_iff.1 g1).1
theorem not_own {db b : Nat} {mo : Option Nat} (h1 : b ≠ db) (h2 : mo ≠ some b) : ¬ Own db mo b := fun h => h.elim h1 h2
/-- where arrays may lie while a line is worked out -/
structure Xr (X0 : Nat → Prop) (db : Nat) (mo : Option Nat) (n b : Nat) : Prop where
  old : X0 b ∨ n ≤ b
  nd : b ≠ db
  nm : mo ≠ some b
  nr : b ≠ n
/-- what reply leaves where a line makes a name -/
def RepN (X0 : Nat → Prop) (db : Nat) (fuel : Int) (env : ByteArray → Option Arr) (N : Nat) (mo : Option Nat) (w : World) (nm : ByteArray) (a : Arr) (cost : Int) (e : Ending) (w' : World) : Prop :=
  ∃ so sn sc co cn cc, e = .returned (.agg #[.int .i64 0, .int .i64 0, .slice so sn sc, .slice co cn cc, .int .i64 cost]) ∧ Nums (fun b => w.heap.size ≤ b) w' (.slice so sn sc) (a.shape.map Int.ofNat) ∧ Nums (fun b => w.heap.size ≤ b) w' (.slice co cn cc) a.cells ∧
    (∃ mo', DskN (fun b => X0 b ∨ (w.heap.size ≤ b ∧ mo' ≠ some b)) db fuel (upd env nm a) (N + 1) mo' w' ∧ ∀ b, b < w.heap.size → mo' = some b → mo = some b) ∧ Bs (Own db mo) w w'

set_option maxHeartbeats 2000000 in
set_option maxRecDepth 20000 in
theorem reply_named (X0 : Nat → Prop) (env : ByteArray → Option Arr) (fuel : Int) (f1 : ByteArray → Arr → Arr × Int) (f2 : ByteArray → Arr → Arr → Arr × Int) (db : Nat) (w : World) (mr : Option Nat) (N : Nat) (hN : N < 1000) (s : ByteArray) (hs : s.size ≤ 9223372036854775807) (hD0 : DskN X0 db fuel env N mr w) (hx0 : ∀ b, X0 b → b < w.heap.size) (h0 : 0 ≤ fuel) (hfl : fuel ≤ 1000) (he : ∀ t a, env t = some a → a.ok)
    (hp : (parseP s).1 = 0) (hp2 : (parseP s).2 = 0) (nm : ByteArray) (hn : nameP s = nm) (hne : 0 < nm.size) (hnl : nm.size ≤ 200) (hg : ∀ x, TreeOf s x → Good f1 f2 x) (a : Arr) (c : Nat) (hev : ∀ x, TreeOf s x → evalE env fuel f1 f2 x 0 = .inr (a, c)) (hl1 : a.shape.length ≤ 200) (hl2 : a.cells.length ≤ 200) :
    Calls Tryz.prog 42 #[.pointer (some ⟨db, 0, none⟩), .string s] w (RepN X0 db fuel env N mr w nm a c) := by
  have hmo := hD0.moLt
  have hX0d := hD0.out
  have hX0m : ∀ mb, mr = some mb → ¬ X0 mb := by
    intro mb e
    subst e
    exact hD0.map.2.2.1
  have hD : DskN (Xr X0 db mr w.heap.size) db fuel env N mr w := hD0.imp (fun b hb hl => ⟨Or.inl hb, fun e => hX0d (by rw [← e]; exact hb), fun e => hX0m b e hb, by omega⟩) (fun h => h.nd rfl) (fun mb e h => h.nm e)
  have hlow := hD0.low
  have hw1 : Below w.heap.size w (w.alloc (.cells #[.int .i64 0, .int .i64 0, .slice none 0 0, .slice none 0 0, .int .i64 0] 47)) := (Below.refl _ _).alloc (Nat.le_refl _) _
  have HRead := hide (gread_any s _ (hD.below hw1).evs hs)
  have HEx := hide (fun x (hx : TreeOf s x) B W q hi P hP hl => expr_top env fuel f1 f2 B W (.map mr) ⟨_, rfl⟩ h0 hfl he x (hg x hx) q hi P hP hl)
  have HEv := hide hev
  obtain ⟨C, hC⟩ : ∃ C : Int, (c : Int) = C := ⟨_, rfl⟩
  rw [hC]
  have HC := hide hC
  have HDk := hide hD
  have HL := hide hD.look
  have HW1 := hide hw1
  have HP1 := hide hp
  have HP2 := hide hp2
  have HN := hide hn
  have hdb := hD.lt
  clear hp hp2 hn hC hD hD0 hw1 h0 hfl he hg hev hs
  go_enter Tryz.func42, Tryz.ntmps42
  go_wp2_with (go_at_call 59; refine (unhide HRead).mono ?_; rintro e w2 ⟨q, rfl, hb2, hx⟩; obtain ⟨x, ht, hx⟩ := hx (unhide HP1); rw [unhide HP1, unhide HP2, unhide HN]; have HB2 : Hid (Below w.heap.size w w2) := hide ((unhide HW1).trans (hb2.mono (unhide HW1).size)); have HT := hide ht; have HX := hide hx; have hb2' := hide hb2; clear hb2 ht hx)
  have HB3 : Hid (Below w2.heap.size w2 (w2.alloc (.cells #[.string nm, .pointer q] 113))) := hide ((Below.refl _ _).alloc (Nat.le_refl _) _)
  have z1 : (w2.alloc (.cells #[.string nm, .pointer q] 113)).cell? ⟨w2.heap.size, 1, none⟩ = some (.pointer q) := (World.cell?_alloc_at _ _ _ _ rfl).trans rfl
  have z0 : (w2.alloc (.cells #[.string nm, .pointer q] 113)).cell? ⟨w2.heap.size, 0, none⟩ = some (.string nm) := (World.cell?_alloc_at _ _ _ _ rfl).trans rfl
  have zs : w2.heap.size < (w2.alloc (.cells #[.string nm, .pointer q] 113)).heap.size := by simp
  obtain ⟨W3, hW3⟩ : ∃ W3, w2.alloc (.cells #[.string nm, .pointer q] 113) = W3 := ⟨_, rfl⟩
  rw [hW3] at HB3 z1 z0 zs ⊢
  have HBW3 : Hid (Below w.heap.size w W3) := hide ((unhide HB2).trans ((unhide HB3).mono (unhide HB2).size))
  have HDk3 := hide ((unhide HDk).below (unhide HBW3))
  have HZ1 := hide z1
  have HZ0 := hide z0
  clear hW3 z1 z0
  have HEx3 : Hid (∀ w', Below W3.heap.size W3 w' → Calls Tryz.prog 60 #[.pointer q, .map mr, .int .i64 fuel] w' fun e w'' => Below w'.heap.size w' w'' ∧ Below W3.heap.size W3 w'' ∧ ∃ so sn sc co cn cc, e = .returned (.tuple #[.agg #[.slice so sn sc, .slice co cn cc], .int .i64 C, .agg #[.int .i64 0, .int .i64 0]]) ∧ IsArr (fun b => (b < W3.heap.size ∨ w'.heap.size ≤ b) ∧ Xr X0 db mr w.heap.size b) w'' (.agg #[.slice so sn sc, .slice co cn cc]) a) := hide (fun w' hb => by
    have hb3 := (unhide HB3).trans (hb.mono (unhide HB3).size)
    have hbw := (unhide HBW3).trans (hb.mono (unhide HBW3).size)
    refine (unhide HEx x (unhide HT) _ w' q ((unhide HX).keep (Behind.of_below hb3)) (fun b => (b < W3.heap.size ∨ w'.heap.size ≤ b) ∧ Xr X0 db mr w.heap.size b) (fun b h => ⟨.inr h, by have h1 := hb3.size; have h2 := hbw.size; have h3 := (unhide HW1).size; have h4 := (unhide hb2').size; simp at h4; have h5 := (unhide HB3).size; have h6 := hb.size; exact ⟨Or.inr (by omega), by omega, fun e => by have := hmo b e; omega, by omega⟩⟩) ((unhide HL).later hbw (fun b hb hl => ⟨.inl (Nat.lt_of_lt_of_le hl (unhide HBW3).size), hb⟩))).mono ?_
    rintro e w'' ⟨h1, h2⟩
    rw [unhide HEv x (unhide HT)] at h2
    simp only [unhide HC] at h2
    exact ⟨h1, hb.trans (h1.mono hb.size), h2⟩)
  have HS : Hid (∀ w', Below W3.heap.size W3 w' → w'.cell? ⟨w2.heap.size, 1, none⟩ = some (.pointer q) ∧ w'.cell? ⟨db, 1, none⟩ = some (.map mr) ∧ w'.cell? ⟨db, 0, none⟩ = some (.int .i64 fuel)) := by
    intro w' hb
    have h := (unhide HDk3).below hb
    exact ⟨(hb.cell (p := ⟨w2.heap.size, 1, none⟩) zs).trans (unhide HZ1), h.c1, h.c0⟩
  clear HEx HRead HL HEv
  go_upto_region 4 with fail
  go_cut [8, 9, 10] from 22 to 36 (fun v8 v9 v10 wx => v9 = .int .i64 C ∧ ∃ p q so sn sc co cn cc, v8 = .pointer (some ⟨p, 0, none⟩) ∧ v10 = .pointer (some ⟨q, 0, none⟩) ∧ AftX W3 wx p q (.slice so sn sc) (.slice co cn cc) 0 0 ∧ IsArr (fun b => Not2 p q b ∧ Xr X0 db mr w.heap.size b) wx (.agg #[.slice so sn sc, .slice co cn cc]) a)
  case first =>
    go_region_held3 (fun w' => w'.cell? ⟨w2.heap.size, 1, none⟩ = some (.pointer q) ∧ w'.cell? ⟨db, 1, none⟩ = some (.map mr) ∧ w'.cell? ⟨db, 0, none⟩ = some (.int .i64 fuel))
      (exact unhide HS _ (by repeat' (first | exact Below.refl _ _ | refine Below.drew ?_ | refine Below.alloc ?_ ?_ _ | refine Below.setCell ?_ ?_ _ | (show _ ≤ _; first | omega | (simp; done) | (simp; omega)) | exact unhide HB5)
                             done))
      ((go_at_call 60; refine (unhide HEx3 _ ?_).mono ?_; (first | exact (Below.refl _ _).drew | exact ((Below.refl _ _).alloc (Nat.le_refl _) _).drew | exact (((Below.refl _ _).alloc (Nat.le_refl _) _).alloc (by simp) _).drew); rintro e w5 ⟨hb5, hb6, so, sn, sc, co, cn, cc, rfl, ha5⟩; have HB5 := hide hb6; have hs5 := hb6.size; have hs6 := hb5.size; (try simp at hs6); (try have hs7 : W3.heap.size < w5.heap.size := by omega); (try have hs8 : W3.heap.size + 1 < w5.heap.size := by omega); (try have hs9 : W3.heap.size ≠ w5.heap.size := by omega); (try have hs10 : W3.heap.size + 1 ≠ w5.heap.size := by omega); have HA5 := hide ha5; obtain ⟨hc5, hf5⟩ := bcell hb5; clear hb5 hb6 ha5))
    all_goals go_wp2_with fail
    all_goals go_meet
    case rel => exact ⟨rfl, _, _, so, sn, sc, co, cn, cc, rfl, rfl, afx_1 (unhide HB5) ((unhide HA5).imp (fun b h _ => h.2))⟩
    case rel => exact ⟨rfl, _, _, so, sn, sc, co, cn, cc, rfl, rfl, afx_2 (unhide HB5) ((unhide HA5).imp (fun b h _ => h.2))⟩
    case rel => exact ⟨rfl, _, _, so, sn, sc, co, cn, cc, rfl, rfl, afx_3 (u0 := .slice none 0 0) (u1 := .slice none 0 0) (unhide HB5) (unhide HA5) (by simp) hs7 ((hc5 _ 0 (by simp)).trans (by simp)) ((hc5 _ 1 (by simp)).trans (by simp))⟩
    case rel => exact ⟨rfl, _, _, so, sn, sc, co, cn, cc, rfl, rfl, afx_4 (u0 := .slice none 0 0) (u1 := .slice none 0 0) (u2 := .int .i64 0) (u3 := .int .i64 0) (unhide HB5) (unhide HA5) ⟨by omega, (by simp <;> omega), by omega⟩ ⟨by omega, (by simp <;> omega), by omega⟩ (by omega) ((hc5 _ 0 (by simp <;> omega)).trans (by simp)) ((hc5 _ 1 (by simp <;> omega)).trans (by simp)) ((hc5 _ 0 (by simp <;> omega)).trans (by simp)) ((hc5 _ 1 (by simp <;> omega)).trans (by simp))⟩
    case rel => exact ⟨rfl, _, _, so, sn, sc, co, cn, cc, rfl, rfl, afx_5 (u0 := .int .i64 0) (u1 := .int .i64 0) (unhide HB5) (unhide HA5) (by simp) hs7 ((hc5 _ 0 (by simp)).trans (by simp)) ((hc5 _ 1 (by simp)).trans (by simp))⟩
    case rel => exact ⟨rfl, _, _, so, sn, sc, co, cn, cc, rfl, rfl, afx_4 (u0 := .slice none 0 0) (u1 := .slice none 0 0) (u2 := .int .i64 0) (u3 := .int .i64 0) (unhide HB5) (unhide HA5) ⟨by omega, (by simp <;> omega), by omega⟩ ⟨by omega, (by simp <;> omega), by omega⟩ (by omega) ((hc5 _ 0 (by simp <;> omega)).trans (by simp)) ((hc5 _ 1 (by simp <;> omega)).trans (by simp)) ((hc5 _ 0 (by simp <;> omega)).trans (by simp)) ((hc5 _ 1 (by simp <;> omega)).trans (by simp))⟩
  case rest =>
    obtain ⟨rfl, p, qf, so, sn, sc, co, cn, cc, rfl, rfl, hX, hA⟩ := hcut
    have bel := hX.bel
    have yf := hX.f0
    have yn : wc.cell? ⟨w2.heap.size, 0, none⟩ = some (.string nm) := (bel.cell (p := ⟨w2.heap.size, 0, none⟩) zs).trans (unhide HZ0)
    have ya0 := hX.a0
    have ya1 := hX.a1
    have hpl := hX.hp
    have hql := hX.hq
    have hbc : Below (w.heap.size + 1) (w.alloc (.cells #[.int .i64 0, .int .i64 0, .slice none 0 0, .slice none 0 0, .int .i64 0] 47)) wc := by
      have h1 := unhide hb2'
      simp only [World.size_alloc] at h1
      have h2 := (unhide HB3).size
      have h3 := h1.size
      simp at h3
      exact (h1.trans ((unhide HB3).mono (by omega))).trans (bel.mono (by omega))
    have hwc : w.heap.size + 1 ≤ wc.heap.size := by have := hbc.size; simp at this; omega
    have hpr : p ≠ w.heap.size ∧ w.heap.size < p := by
      have h2 := hX.lp
      have h3 := (unhide hb2').size
      have h4 := (unhide HB3).size
      simp at h3
      omega
    have hDc := (unhide HDk3).below bel
    have HDc := hide (hDc.imp (X' := fun b => Xr X0 db mr w.heap.size b ∧ b < wc.heap.size) (fun b h hl => ⟨h, hl⟩) (fun h => h.1.nd rfl) (fun mb e h => h.1.nm e))
    have HK := hide (keep_any (fun b => Xr X0 db mr w.heap.size b ∧ b < wc.heap.size) db fuel env N mr wc (unhide HDc) hN nm hnl so sn sc co cn cc a (hA.imp (fun b h hl => ⟨h.2, hl⟩)) (fun h => by have := h.2; omega))
    have HA := hide hA
    have hnb : nm.toList.isEmpty = false := ne1 nm hne
    have HBc : Hid (Below w.heap.size w wc) := hide ((unhide HBW3).trans (bel.mono (unhide HBW3).size))
    have HZ := hide hX
    have HBC := hide hbc
    clear hX hA bel hDc hbc HEx3 HS HN
    go_wp2_with fail
    refine (unhide HK).mono ?_
    rintro e wk ⟨rfl, ⟨mo', hDk, hmo'⟩, hbs⟩
    have hwk := hbs.size
    have hno1 : ¬ Own db mr p := not_own (by omega) (fun e => by have := hmo p e; omega)
    have hno2 : ¬ Own db mr w.heap.size := not_own (by omega) (fun e => by have := hmo _ e; omega)
    have hcp := fun i => hbs.cell (b := p) (o := i) (unhide HZ).hp hno1
    have xa0 := (hcp 0).trans (unhide HZ).a0
    have xa1 := (hcp 1).trans (unhide HZ).a1
    have hpk : p < wk.heap.size := by omega
    have hrk : w.heap.size < wk.heap.size := by omega
    obtain ⟨n1, n2⟩ := isArr_nums (unhide HA)
    have m1 := n1.keep hwk (fun b hb hl => hbs.block b hl (not_own hb.2.nd hb.2.nm))
    have m2 := n2.keep hwk (fun b hb hl => hbs.block b hl (not_own hb.2.nd hb.2.nm))
    have HR : Hid (∀ w', Below wk.heap.size wk w' → (∀ i, w'.cell? ⟨w.heap.size, i, none⟩ = (w.alloc (.cells #[.int .i64 0, .int .i64 0, .slice none 0 0, .slice none 0 0, .int .i64 0] 47)).cell? ⟨w.heap.size, i, none⟩) ∧ (∀ i, w'.frozen? ⟨w.heap.size, i, none⟩ = false)) := hide (fun w' hb => by
      refine ⟨fun i => ?_, fun i => ?_⟩
      · rw [hb.cell (p := ⟨w.heap.size, i, none⟩) hrk, hbs.cell (b := w.heap.size) (o := i) (by omega) hno2]
        exact (unhide HBC).cell (p := ⟨w.heap.size, i, none⟩) (by show w.heap.size < w.heap.size + 1; omega)
      · rw [hb.frozen (p := ⟨w.heap.size, i, none⟩) hrk, hbs.frozen (b := w.heap.size) (o := i) (by omega) hno2, (unhide HBC).frozen (p := ⟨w.heap.size, i, none⟩) (by show w.heap.size < w.heap.size + 1; omega)]
        exact World.frozen?_alloc_at _ _ _ _ rfl)
    have HSh : Hid (∀ w', Below wk.heap.size wk w' → Calls Tryz.prog 62 #[.agg #[.slice so sn sc, .slice co cn cc]] w' fun e w'' => ∃ so sn sc, e = .returned (.slice so sn sc) ∧ Nums (fun b => wk.heap.size ≤ b) w'' (.slice so sn sc) (a.shape.map Int.ofNat) ∧ Below w'.heap.size w' w'' ∧ Below wk.heap.size wk w'') := hide (fun w' hb => (shape_any (fun b => wk.heap.size ≤ b) w' (fun b h => Nat.le_trans hb.size h) so sn sc co cn cc _ (m1.below hb) (by simpa using hl1)).mono (fun e w'' ⟨x1, x2, x3, h1, h2, h3⟩ => ⟨x1, x2, x3, h1, h2, h3, hb.trans (h3.mono hb.size)⟩))
    have HCe : Hid (∀ w', Below wk.heap.size wk w' → Calls Tryz.prog 63 #[.agg #[.slice so sn sc, .slice co cn cc]] w' fun e w'' => ∃ so sn sc, e = .returned (.slice so sn sc) ∧ Nums (fun b => wk.heap.size ≤ b) w'' (.slice so sn sc) a.cells ∧ Below w'.heap.size w' w'' ∧ Below wk.heap.size wk w'') := hide (fun w' hb => (cells_any (fun b => wk.heap.size ≤ b) w' (fun b h => Nat.le_trans hb.size h) so sn sc co cn cc _ (m2.below hb) hl2).mono (fun e w'' ⟨x1, x2, x3, h1, h2, h3⟩ => ⟨x1, x2, x3, h1, h2, h3, hb.trans (h3.mono hb.size)⟩))
    have HS9 : Hid (∀ w', Below wk.heap.size wk w' → w'.cell? ⟨p, 0, none⟩ = some (.slice so sn sc) ∧ w'.cell? ⟨p, 1, none⟩ = some (.slice co cn cc)) := hide (fun w' hb => ⟨(hb.cell (p := ⟨p, 0, none⟩) hpk).trans xa0, (hb.cell (p := ⟨p, 1, none⟩) hpk).trans xa1⟩)
    have HDK := hide hDk
    have HBS := hide hbs
    have HMO := hide hmo'
    have hpr1 := hpr.1
    clear n1 n2 m1 m2 hl1 hl2 hcp hDk hbs hmo' yf yn ya0 ya1 hmo hpr HK
    go_wp2_with fail
    go_region_held3 (fun w' => w'.cell? ⟨p, 0, none⟩ = some (.slice so sn sc) ∧ w'.cell? ⟨p, 1, none⟩ = some (.slice co cn cc))
      (first
        | exact unhide HS9 _ (Below.refl _ _).drew
        | exact unhide HS9 _ (unhide HB6)
        | exact unhide HS9 _ (unhide HB7)
        | (refine ⟨?_, ?_⟩ <;> rw [World.cell?_setCell_other _ _ _ _ (by intro e; injection e; omega), World.cell?_setCell_other _ _ _ _ (by intro e; injection e; omega), World.cell?_setCell_other _ _ _ _ (by intro e; injection e; omega), World.cell?_setCell_other _ _ _ _ (by intro e; injection e; omega), World.cell?_setCell_other _ _ _ _ (by intro e; injection e; omega)]; exact (unhide HS9 _ (unhide HB7)).1; exact (unhide HS9 _ (unhide HB7)).2)
        | (trace_state; fail))
      (first
        | (go_at_call 62; refine (unhide HSh _ ?_).mono ?_; (first | exact (Below.refl _ _).drew | exact unhide HB7 | exact Below.refl _ _); rintro e w6 ⟨so1, sn1, sc1, rfl, hn6, hb6, hc6⟩; have HN6 := hide hn6; have HB6 := hide hc6; have HL6 := hide hb6; obtain ⟨d6, f6⟩ := unhide HR _ hc6; clear hn6 hb6 hc6)
        | (go_at_call 63; refine (unhide HCe _ ?_).mono ?_; (first | exact (Below.refl _ _).drew | exact unhide HB6 | exact Below.refl _ _); rintro e w7 ⟨co1, cn1, cc1, rfl, hn7, hb7, hc7⟩; have HN7 := hide hn7; have HB7 := hide hc7; have HL7 := hide hb7; obtain ⟨d7, f7⟩ := unhide HR _ hc7; clear hn7 hb7 hc7))
    have e0 := (d7 0).trans ((World.cell?_alloc_at _ _ _ _ rfl).trans rfl)
    have e1 := (d7 1).trans ((World.cell?_alloc_at _ _ _ _ rfl).trans rfl)
    have e2 := (d7 2).trans ((World.cell?_alloc_at _ _ _ _ rfl).trans rfl)
    have e3 := (d7 3).trans ((World.cell?_alloc_at _ _ _ _ rfl).trans rfl)
    have e4 := (d7 4).trans ((World.cell?_alloc_at _ _ _ _ rfl).trans rfl)
    have hno : ¬ (fun b => wk.heap.size ≤ b) w.heap.size := by show ¬ wk.heap.size ≤ w.heap.size; omega
    have M1 := hide ((((((unhide HN6).below (unhide HL7)).set hno 0 (.int .i64 0)).set hno 1 (.int .i64 0)).set hno 2 (.slice so1 sn1 sc1)).set hno 3 (.slice co1 cn1 cc1) |>.set hno 4 (.int .i64 C))
    have M2 := hide ((((((unhide HN7)).set hno 0 (.int .i64 0)).set hno 1 (.int .i64 0)).set hno 2 (.slice so1 sn1 sc1)).set hno 3 (.slice co1 cn1 cc1) |>.set hno 4 (.int .i64 C))
    have hwl : w.heap.size ≤ wk.heap.size := by omega
    have hx9 : ¬ (fun b => Xr X0 db mr w.heap.size b ∧ b < wc.heap.size) w.heap.size := fun h => h.1.nr rfl
    have hmr : mo' ≠ some w.heap.size := fun e => hno2 (Or.inr (unhide HMO _ (by omega) e))
    have h6 : 6 ≤ w.heap.size := by omega
    have hdr : w.heap.size ≠ db := by omega
    have M4 := hide (((((((unhide HDK).below (unhide HB7)).set hx9 h6 hdr hmr 0 (.int .i64 0)).set hx9 h6 hdr hmr 1 (.int .i64 0)).set hx9 h6 hdr hmr 2 (.slice so1 sn1 sc1)).set hx9 h6 hdr hmr 3 (.slice co1 cn1 cc1)).set hx9 h6 hdr hmr 4 (.int .i64 C))
    have M5 : Hid (Bs (Own db mr) w w7) := hide (((Bs.of (S := Own db mr) (unhide HBc)).trans (unhide HBS) (fun _ _ h => h)).trans (Bs.of (S := fun _ => False) (unhide HB7)) (fun _ _ h => absurd h id))
    have HX9 : Hid (∀ b, (Xr X0 db mr w.heap.size b ∧ b < wc.heap.size) → (X0 b ∨ (w.heap.size ≤ b ∧ mo' ≠ some b))) := hide (fun b h => h.1.old.elim Or.inl (fun hle => Or.inr ⟨hle, fun e => h.1.nm (unhide HMO b h.2 e)⟩))
    have HXD : Hid (¬ (X0 db ∨ (w.heap.size ≤ db ∧ mo' ≠ some db))) := hide (by rintro (h | h); exact hX0d h; omega)
    have HXM : Hid (∀ mb, mo' = some mb → ¬ (X0 mb ∨ (w.heap.size ≤ mb ∧ mo' ≠ some mb))) := hide (by rintro mb e (h | h); exact hX0m mb (unhide HMO mb (by have := hx0 mb h; omega) e) h; exact h.2 e)
    clear d6 d7 HR HSh HCe HS9 HDk HDk3
    go_wp2_with fail
    refine bodyPost_ret (v := .agg #[.int .i64 0, .int .i64 0, .slice so1 sn1 sc1, .slice co1 cn1 cc1, .int .i64 C]) (by simp [results, Tryz.results42, go_sem, e0, e1, e2, e3, e4]) rfl ⟨so1, sn1, sc1, co1, cn1, cc1, rfl, (unhide M1).imp (fun b h _ => Nat.le_trans hwl h), (unhide M2).imp (fun b h _ => Nat.le_trans hwl h), ⟨mo', (unhide M4).imp (fun b h _ => unhide HX9 b h) (unhide HXD) (unhide HXM), fun b hb e => unhide HMO b (by omega) e⟩, ?_⟩
    have h5 := unhide M5
    refine ⟨h5.os, h5.tape, h5.output, by simpa using h5.size, fun k hk hn => ?_⟩
    rw [RowKit.Below.heap_setCell _ _ _ _ (by simp; omega), RowKit.Below.heap_setCell _ _ _ _ (by simp; omega), RowKit.Below.heap_setCell _ _ _ _ (by simp; omega), RowKit.Below.heap_setCell _ _ _ _ (by simp; omega), RowKit.Below.heap_setCell _ _ _ _ (by simp; omega)]
    exact h5.block k hk hn
end Go.Proofs.YtjobgpahajhbnaaGreatDoor
