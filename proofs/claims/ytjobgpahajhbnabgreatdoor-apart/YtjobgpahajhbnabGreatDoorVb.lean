import Derived.Test.YtjobgpahajhbnabGreatDoorTd
import Derived.Test.YtjobgpahajhbnabGreatDoorXq
import Derived.Deep.Slices
import Derived.Test.YtjobgpahajhbnabGreatDoorSh
import Derived.Test.YtjobgpahajhbnabGreatDoorEd
namespace Go.Proofs.YtjobgpahajhbnabGreatDoor
open Go.RowKit Go.Proofs
attribute [local go_sem ↓] Go.wp_at_zero Go.wp_at_succ
def Jiz (w : World) (ao : Option Addr) (xs : List Int) : Prop :=
  (∀ c ∈ xs, Jf c) ∧ (0 < xs.length → ∃ b off, ao = some ⟨b, off, none⟩ ∧ ∀ i, (h : i < xs.length) → w.cell? ⟨b, off + i, none⟩ = some (.int .i64 xs[i]))
end Go.Proofs.YtjobgpahajhbnabGreatDoor
namespace Go.Proofs.YtjobgpahajhbnabGreatDoor
open Go.ChangeShapes Go.WideShapes Go.ChangeAt Go.WideMaps Go.WideElems Go.RowKit
theorem Jlw {H : Type} {enc : TypeId × Value → H} {W : World} {ao : Option Addr} {len cap : Nat} {d : DataW H} {p : List MemPlace} (h : DataW.Trod enc Tryz.prog W 0 (fun _ => true) true 31 (.slice ao len cap) d p) :
    ∃ xs : List Int, xs.length = len ∧ Jiz W ao xs ∧ len ≤ 9223372036854775807 ∧ (0 < len → ∀ b off, ao = some ⟨b, off, none⟩ → b < W.heap.size) := by
  obtain ⟨fuel, hf⟩ := h; rcases Deep.open_slice1 Tryz.underlying31 Tryz.cells3 hf with ⟨hcs, _⟩ | ⟨a, len', cap', m, n, V, D, Pl, hcs, _, hl, hm, hmm, _, hel⟩
  · have hcs : [Value.slice ao len cap] = [.slice none 0 0] := hcs; obtain ⟨rfl, rfl, rfl⟩ : ao = none ∧ len = 0 ∧ cap = 0 := by simpa using hcs
    exact ⟨[], rfl, ⟨(fun _ h => by cases h), fun h => absurd h (by simp)⟩, by omega, fun h => absurd h (by omega)⟩
  · have hcs : [Value.slice ao len cap] = [.slice (some a) len' cap'] := hcs; obtain ⟨rfl, rfl, rfl⟩ : ao = some a ∧ len = len' ∧ cap = cap' := by simpa using hcs
    have hlm : len ≤ m := by rw [hmm]; split <;> omega
    have hlb : len ≤ 9223372036854775807 := by unfold maxLen at hm; omega
    obtain ⟨X, hX⟩ := Deep.choose_lt (n := len) (p := fun i (x : Int) => W.cell? (a.add i) = some (.int .i64 x) ∧ Jf x) (fun i hi => by
      obtain ⟨h1, h2⟩ := hel i (by omega); obtain ⟨x, ex, _, hw⟩ := DataW.trod_int Tryz.underlying3 h2; have ex : V i = .int .i64 x := by simpa using ex
      exact ⟨x, by rw [h1, ex], Jo0 hw⟩)
    obtain ⟨b, off, spot⟩ := a; by_cases hz : len = 0
    · subst hz; exact ⟨[], rfl, ⟨(fun _ h => by cases h), fun h => absurd h (by simp)⟩, by omega, fun h => absurd h (by omega)⟩
    have hspot : spot = none := by simpa [Addr.add] using World.cell?_spot (hX 0 (by omega)).1
    subst hspot; refine ⟨(List.range len).map X, by simp, ⟨?_, fun _ => ⟨b, off, rfl, ?_⟩⟩, hlb, ?_⟩
    · intro c hc; simp only [List.mem_map, List.mem_range] at hc; obtain ⟨i, hi, rfl⟩ := hc; exact (hX i hi).2
    · intro i hi; simp only [List.length_map, List.length_range] at hi; have := (hX i hi).1; rw [add_plain] at this; simpa using this
    · intro _ b' off' e; have e : b = b' := by injection e with e; injection e
      subst e; have := (hX 0 (by omega)).1; exact Vp (o := off) (by simpa [Addr.add] using this)
end Go.Proofs.YtjobgpahajhbnabGreatDoor
namespace Go.Proofs.YtjobgpahajhbnabGreatDoor
open Go.RowKit
structure Fn1 (f : List UInt8) : Prop where
  hd : ∃ c l, f = c :: l ∧ c ≠ 32 ∧ Qp c = false
  tl : ∀ r, tl (f ++ (32 :: r)) = some f.length
  kind : Ys ⟨f.toArray⟩ = 3
  role : Yr (Yg ⟨f.toArray⟩) 1 = true
theorem Jja (r : List UInt8) : tl ([114, 97, 118, 101, 108] ++ (32 :: r)) = some 5 := by
  have h : ([114, 97, 118, 101, 108] ++ (32 :: r)).takeWhile lU = [114, 97, 118, 101, 108] := rfl; have hf : isFn [114, 97, 118, 101, 108] = true := by decide +kernel
  show wrdE ([114, 97, 118, 101, 108] ++ (32 :: r)) = some 5; unfold wrdE; rw [h]; simp [hf]
theorem Jh4 : Fn1 [114, 97, 118, 101, 108] := ⟨⟨114, [97, 118, 101, 108], rfl, by decide, by decide⟩, Jja, by decide +kernel, by decide +kernel⟩
end Go.Proofs.YtjobgpahajhbnabGreatDoor
namespace Go.Proofs.YtjobgpahajhbnabGreatDoor
open Go.RowKit
inductive NmRow : List Int → List UInt8 → Prop where
  | one (n : Int) (t : List UInt8) : Nm n t → NmRow [n] t
  | more (n : Int) (t : List UInt8) (ns : List Int) (u : List UInt8) : Nm n t → NmRow ns u → NmRow (n :: ns) (t ++ (32 :: u))
theorem Jdv (r : List UInt8) : Stop (32 :: r) := by intro c hc; simp at hc; subst hc; decide
theorem Jjp {ns : List Int} {t : List UInt8} (h : NmRow ns t) : ∀ (p : Nat) (r : List UInt8), Stop r → ∃ A : List (Nat × Nat), LY p t r A ∧ A.length = ns.length ∧
    ∀ (s : ByteArray) (q : List UInt8), s.data.toList = q ++ (t ++ r) → q.length = p → ∀ i, (hi : i < ns.length) → ∃ x y, A[i]? = some (x, y) ∧ Ys (s.extract x y) = 0 ∧ Yg (s.extract x y) = 0 ∧ J5 (s.extract x y) = ns[i] := by
  induction h with
  | one n t hn =>
    intro p r hr; refine ⟨[(p, p + t.length)], Jon hn hr p, rfl, ?_⟩; intro s q hs hq i hi; have : i = 0 := by simpa using hi
    subst this; obtain ⟨k1, k2, k3⟩ := Jlz hn; have ht := Kn hs hq; exact ⟨p, p + t.length, rfl, by rw [ht, k1], by rw [ht, k2], by rw [ht, k3]; rfl⟩
  | more n t ns u hn hu ih =>
    intro p r hr; obtain ⟨A, hA, hl, hf⟩ := ih (p + t.length + 1) r hr; refine ⟨(p, p + t.length) :: A, ?_, by simp [hl], ?_⟩
    · have h1 := Jon hn (Jdv (u ++ r)) p; exact h1.append (l2 := 32 :: u) (r := r) (by simp) (LY.blank _ _ _ _ hA)
    · intro s q hs hq i hi; match i, hi with
      | 0, _ =>
        obtain ⟨k1, k2, k3⟩ := Jlz hn; have ht := Kn (t := t) (r := (32 :: u) ++ r) (by rw [hs]; simp) hq; exact ⟨p, p + t.length, rfl, by rw [ht, k1], by rw [ht, k2], by rw [ht, k3]; rfl⟩
      | i + 1, hi =>
        obtain ⟨x, y, h1, h2⟩ := hf s (q ++ t ++ [32]) (by rw [hs]; simp) (by simp [hq]; omega) i (by simpa using hi); exact ⟨x, y, by simpa using h1, by simpa using h2⟩
theorem Jf6 {ns : List Int} {t : List UInt8} (h : NmRow ns t) : 0 < ns.length := by cases h <;> simp
structure Fn2 (f : List UInt8) : Prop where
  hd : ∃ c l, f = c :: l ∧ c ≠ 32
  tl : ∀ r, tl (f ++ (32 :: r)) = some f.length
  kind : Ys ⟨f.toArray⟩ = 3
  role : Yr (Yg ⟨f.toArray⟩) 2 = true
def Jlr (r : List UInt8) : Prop := ∀ c, r.head? = some c → lU c = false
structure NameT (t : List UInt8) : Prop where
  hd : ∃ c l, t = c :: l ∧ c ≠ 32 ∧ Qp c = false
  tl : ∀ r, Jlr r → tl (t ++ r) = some t.length
  kind : Ys ⟨t.toArray⟩ = 1
  role : Yg ⟨t.toArray⟩ = 0
inductive Tw : Nat → Bool → Nat → Ex → List UInt8 → Prop where
  | row (d p : Nat) (ns : List Int) (t : List UInt8) : NmRow ns t → Tw d true p (.num ns) t
  | name (d p : Nat) (t : List UInt8) : NameT t → Tw d true p (.name ⟨t.toArray⟩ p) t
  | br (d p : Nat) (x : Ex) (t : List UInt8) : Tw d false (p + 1) x t → Tw (d + 1) true p x (40 :: (t ++ [41]))
  | only (d p : Nat) (x : Ex) (t : List UInt8) : Tw d true p x t → Tw d false p x t
  | two (d p : Nat) (f : List UInt8) (l r : Ex) (a b : List UInt8) : Fn2 f → Tw d true p l a → Tw d false (p + a.length + 1 + f.length + 1) r b → Tw d false p (.two ⟨f.toArray⟩ (p + a.length + 1) l r) (a ++ (32 :: (f ++ (32 :: b))))
  | one (d p : Nat) (f : List UInt8) (r : Ex) (b : List UInt8) : Fn1 f → Tw d false (p + f.length + 1) r b → Tw d false p (.one ⟨f.toArray⟩ p r) (f ++ (32 :: b))
def Jpr (d : Nat) (b : Bool) (x : Ex) (t : List UInt8) (p : Nat) (r : List UInt8) (A : List (Nat × Nat)) : Prop :=
  ∀ (s : ByteArray) (q : List UInt8), s.data.toList = q ++ (t ++ r) → q.length = p → ∀ (pre post : List (Nat × Nat)) (o : Nat), d + o ≤ 8 →
    kB (kr (toks s (pre ++ (A ++ post)))) (pre.length + A.length) 0 = false → (b = false → fB (kr (toks s (pre ++ (A ++ post)))) (pre.length + A.length) 2 = false) →
    (b = true → fB (kr (toks s (pre ++ (A ++ post)))) pre.length 1 = false) ∧ (∀ i, i < A.length → kB (kr (toks s (pre ++ (A ++ post)))) (pre.length + i) 2 = false) ∧ PX (toks s (pre ++ (A ++ post))) b pre.length o x (pre.length + A.length)
theorem Jn1 {pre A post : List (Nat × Nat)} {i : Nat} {z : Nat × Nat} (h : A[i]? = some z) : (pre ++ (A ++ post))[pre.length + i]? = some z := by
  rw [List.getElem?_append_right (by omega), Nat.add_sub_cancel_left, List.getElem?_append_left (List.getElem?_eq_some_iff.1 h).1]; exact h
theorem Jdm {s : ByteArray} {pre A post : List (Nat × Nat)} {ns : List Int} (hl : A.length = ns.length) (h : ∀ i, (hi : i < ns.length) → ∃ x y, A[i]? = some (x, y) ∧ J5 (s.extract x y) = ns[i]) : Zg (toks s (pre ++ (A ++ post))) pre.length (pre.length + A.length) = ns := by
  apply List.ext_getElem
  · rw [Z4 _ _ _ (by rw [Yj]; simp)]; omega
  · intro i h1 h2; obtain ⟨x, y, e1, e2⟩ := h i h2; have e3 := Jn1 (pre := pre) (post := post) e1; have hlt : pre.length + i < (pre ++ (A ++ post)).length := (List.getElem?_eq_some_iff.1 e3).1; have e4 : (pre ++ (A ++ post))[pre.length + i] = (x, y) := by rw [List.getElem?_eq_getElem hlt] at e3; exact Option.some.inj e3
    simp only [Zg, toks, List.getElem_map, List.getElem_drop, List.getElem_take]; rw [e4]; exact e2
end Go.Proofs.YtjobgpahajhbnabGreatDoor
namespace Go.Proofs.YtjobgpahajhbnabGreatDoor
open Go.RowKit
def StopB (r : List UInt8) : Prop := r = [] ∨ (∃ r', r = 32 :: r') ∨ ∃ r', r = 41 :: r'
theorem StopB.dig {r : List UInt8} (h : StopB r) : Stop r := by
  rcases h with rfl | ⟨r', rfl⟩ | ⟨r', rfl⟩ <;> intro c hc <;> simp at hc <;> subst hc <;> decide
theorem StopB.let_ {r : List UInt8} (h : StopB r) : Jlr r := by
  rcases h with rfl | ⟨r', rfl⟩ | ⟨r', rfl⟩ <;> intro c hc <;> simp at hc <;> subst hc <;> decide
set_option maxHeartbeats 1000000 in
theorem Ji7 {d : Nat} {b : Bool} {p0 : Nat} {x : Ex} {t : List UInt8} (h : Tw d b p0 x t) : ∀ (r : List UInt8), (b = true → StopB r) → (b = false → r = [] ∨ ∃ r', r = 41 :: r') → ∃ A, LY p0 t r A ∧ Jpr d b x t p0 r A := by
  induction h with
  | row d p ns t hn =>
    intro r hr _; obtain ⟨A, hA, hl, hf⟩ := Jjp hn p r (hr rfl).dig; refine ⟨A, hA, ?_⟩; intro s q hs hq pre post o hd hk _; have hf' := hf s q hs hq; have hpos := Jf6 hn; have hkb : ∀ i, i < A.length → ∀ m, kB (kr (toks s (pre ++ (A ++ post)))) (pre.length + i) m = ((0 : Int) == m) := fun i hi m => by
      obtain ⟨x, y, e1, e2, _, _⟩ := hf' i (by omega); rw [Ko (Jn1 e1), e2]
    refine ⟨fun _ => ?_, fun i hi => by rw [hkb i hi]; decide, ?_⟩
    · obtain ⟨x, y, e1, _, e3, _⟩ := hf' 0 hpos; have := G6 (s := s) (Jn1 (pre := pre) (post := post) e1) 1; rw [Nat.add_zero] at this; rw [this, e3]; decide
    · have hx := PX.nums (S := toks s (pre ++ (A ++ post))) pre.length o (pre.length + A.length) (by omega) (by rw [Yj]; simp) (by
        intro i h1 h2; have := hkb (i - pre.length) (by omega) 0; rw [show pre.length + (i - pre.length) = i by omega] at this; rw [this]; rfl) hk
      rw [Jdm hl (fun i hi => by obtain ⟨x, y, e1, _, _, e4⟩ := hf' i hi; exact ⟨x, y, e1, e4⟩)] at hx; exact hx
  | name d p t hn =>
    intro r hr _; obtain ⟨c, l, rfl, hc, _⟩ := hn.hd; refine ⟨[(p, p + (c :: l).length)], LY.one hc (by have := hn.tl r (hr rfl).let_; simpa using this), ?_⟩; intro s q hs hq pre post o hd hk _; have hL : (pre ++ ([(p, p + (c :: l).length)] ++ post))[pre.length]? = some (p, p + (c :: l).length) := Ja0; have ht := Kn hs hq; refine ⟨fun _ => by rw [G6 hL, ht, hn.role]; decide, fun i hi => ?_, ?_⟩
    · have : i = 0 := by simpa using hi
      subst this; rw [Nat.add_zero, Ko hL, ht, hn.kind]; decide
    · have hx := PX.name (S := toks s (pre ++ ([(p, p + (c :: l).length)] ++ post))) pre.length o (by rw [Ko hL, ht, hn.kind]; rfl); rw [Qt hL, ht] at hx; exact hx
  | br d p x t h ih =>
    intro r hr _; obtain ⟨A, hA, hG⟩ := ih ([41] ++ r) (fun h => by cases h) (fun _ => Or.inr ⟨r, rfl⟩); refine ⟨(p, p + 1) :: (A ++ [(p + 1 + t.length, p + 1 + t.length + 1)]), ?_, ?_⟩
    · refine LY.tok p 1 40 (t ++ [41]) r _ (by decide) rfl (by omega) ?_; refine hA.append rfl ?_; exact LY.one (l := []) (by decide) rfl
    · intro s q hs hq pre post o hd hk _; have hs1 : s.data.toList = q ++ ([40] ++ ((t ++ [41]) ++ r)) := by rw [hs]; simp
      have hs2 : s.data.toList = (q ++ [40]) ++ (t ++ ([41] ++ r)) := by rw [hs]; simp
      have hs3 : s.data.toList = (q ++ [40] ++ t) ++ ([41] ++ r) := by rw [hs]; simp
      have t1 : s.extract p (p + 1) = ⟨#[40]⟩ := Kn (t := [40]) hs1 hq; have t2 : s.extract (p + 1 + t.length) (p + 1 + t.length + 1) = ⟨#[41]⟩ := Kn (t := [41]) hs3 (by simp [hq]; omega); obtain ⟨b1, b2, b3, b4⟩ := Jpd; have eL : pre ++ ((p, p + 1) :: (A ++ [(p + 1 + t.length, p + 1 + t.length + 1)]) ++ post) = (pre ++ [(p, p + 1)]) ++ (A ++ ((p + 1 + t.length, p + 1 + t.length + 1) :: post)) := by simp
      have hL1 : (pre ++ ((p, p + 1) :: (A ++ [(p + 1 + t.length, p + 1 + t.length + 1)]) ++ post))[pre.length]? = some (p, p + 1) := Ja0; have hL2 : ((pre ++ [(p, p + 1)]) ++ (A ++ ((p + 1 + t.length, p + 1 + t.length + 1) :: post)))[(pre ++ [(p, p + 1)]).length + A.length]? = some (p + 1 + t.length, p + 1 + t.length + 1) := by
        rw [← List.append_assoc, ← List.length_append]; exact Ja0
      have g1 := hG s (q ++ [40]) hs2 (by simp [hq]) (pre ++ [(p, p + 1)]) ((p + 1 + t.length, p + 1 + t.length + 1) :: post) (o + 1) (by omega) (by rw [Ko hL2, t2, b3]; rfl) (fun _ => by rw [G6 hL2, t2, b4]; decide); obtain ⟨_, hi, hx⟩ := g1; have e5 : ∀ m, kB (kr (toks s ((pre ++ [(p, p + 1)]) ++ (A ++ ((p + 1 + t.length, p + 1 + t.length + 1) :: post))))) ((pre ++ [(p, p + 1)]).length + A.length) m = ((5 : Int) == m) := fun m => by rw [Ko hL2, t2, b3]
      rw [← eL] at hx e5 hi; have el : (pre ++ [(p, p + 1)]).length = pre.length + 1 := by simp
      refine ⟨fun _ => by rw [G6 hL1, t1, b2]; decide, ?_, ?_⟩
      · intro i hil; by_cases h0 : i = 0
        · subst h0; change kB (kr (toks s (pre ++ ((p, p + 1) :: (A ++ [(p + 1 + t.length, p + 1 + t.length + 1)]) ++ post)))) pre.length 2 = false; rw [Ko hL1, t1, b1]; decide
        · by_cases h1 : i = A.length + 1
          · have := e5 2; rw [el] at this; rw [show pre.length + i = pre.length + 1 + A.length by omega, this]; decide
          · have := hi (i - 1) (by simp at hil; omega); rw [el] at this; rw [show pre.length + i = pre.length + 1 + (i - 1) by omega]; exact this
      · have hfin := PX.paren (S := toks s (pre ++ ((p, p + 1) :: (A ++ [(p + 1 + t.length, p + 1 + t.length + 1)]) ++ post))) pre.length o x ((pre ++ [(p, p + 1)]).length + A.length) (by rw [Ko hL1, t1, b1]; rfl) (by omega) (by simpa using hx) (by rw [e5 5]; rfl); have en : pre.length + ((p, p + 1) :: (A ++ [(p + 1 + t.length, p + 1 + t.length + 1)])).length = (pre ++ [(p, p + 1)]).length + A.length + 1 := by simp; omega
        rw [en]; exact hfin
  | only d p x t h ih =>
    intro r _ hr; have hst : StopB r := by
      rcases hr rfl with rfl | ⟨r', rfl⟩
      · exact Or.inl rfl
      · exact Or.inr (Or.inr ⟨r', rfl⟩)
    obtain ⟨A, hA, hG⟩ := ih r (fun _ => hst) (fun h => by cases h); refine ⟨A, hA, ?_⟩; intro s q hs hq pre post o hd hk hf; obtain ⟨h1, h0, hx⟩ := hG s q hs hq pre post o hd hk (fun h => by cases h); exact ⟨(fun h => by cases h), h0, PX.only _ _ _ _ (h1 rfl) hx (hf rfl)⟩
  | two d p f l r2 a b hF h1 h2 ih1 ih2 =>
    intro r _ hr; obtain ⟨fc, fl, rfl, hfc⟩ := hF.hd; obtain ⟨A1, hA1, hG1⟩ := ih1 (32 :: ((fc :: fl) ++ (32 :: b)) ++ r) (fun _ => Or.inr (Or.inl ⟨_, rfl⟩)) (fun h => by cases h); obtain ⟨A2, hA2, hG2⟩ := ih2 r (fun h => by cases h) (fun _ => hr rfl); refine ⟨A1 ++ ((p + a.length + 1, p + a.length + 1 + (fc :: fl).length) :: A2), ?_, ?_⟩
    · refine hA1.append rfl ?_; refine LY.blank _ _ _ _ ?_; refine LY.tok (p + a.length + 1) (fc :: fl).length fc (fl ++ (32 :: b)) r A2 hfc ?_ (by simp) ?_
      · have := hF.tl (b ++ r); simpa using this
      · have e : List.drop (fc :: fl).length (fc :: (fl ++ (32 :: b))) = 32 :: b := by
          rw [← List.cons_append, List.drop_append_of_le_length (Nat.le_refl _)]; simp
        rw [e]; exact LY.blank _ _ _ _ hA2
    · intro s q hs hq pre post o hd hk hf; have hs1 : s.data.toList = q ++ (a ++ ((32 :: ((fc :: fl) ++ (32 :: b))) ++ r)) := by rw [hs]; simp
      have hs2 : s.data.toList = (q ++ a ++ [32]) ++ ((fc :: fl) ++ ((32 :: b) ++ r)) := by rw [hs]; simp
      have hs3 : s.data.toList = (q ++ a ++ [32] ++ (fc :: fl) ++ [32]) ++ (b ++ r) := by rw [hs]; simp
      have t2 : s.extract (p + a.length + 1) (p + a.length + 1 + (fc :: fl).length) = ⟨(fc :: fl).toArray⟩ := Kn (t := fc :: fl) hs2 (by simp [hq]; omega); obtain ⟨z, hz⟩ : ∃ z, (p + a.length + 1, p + a.length + 1 + (fc :: fl).length) = z := ⟨_, rfl⟩; have hz1 : z.1 = p + a.length + 1 := by rw [← hz]
      have hz2 : s.extract z.1 z.2 = ⟨(fc :: fl).toArray⟩ := by rw [← hz]; exact t2
      rw [hz] at hk hf ⊢; have eL : pre ++ (A1 ++ (z :: A2) ++ post) = pre ++ (A1 ++ ((z :: A2) ++ post)) := by simp
      have eM : pre ++ (A1 ++ (z :: A2) ++ post) = (pre ++ A1 ++ [z]) ++ (A2 ++ post) := by simp
      have hL : (pre ++ (A1 ++ (z :: A2) ++ post))[pre.length + A1.length]? = some (z.1, z.2) := by
        have : pre ++ (A1 ++ (z :: A2) ++ post) = (pre ++ A1) ++ (z :: (A2 ++ post)) := by simp
        rw [this, ← List.length_append]; exact Ja0
      have en : pre.length + (A1 ++ (z :: A2)).length = (pre ++ A1 ++ [z]).length + A2.length := by simp; omega
      have g1 := hG1 s q hs1 hq pre ((z :: A2) ++ post) o (by omega) (by rw [← eL, Ko hL, hz2, hF.kind]; rfl) (fun h => by cases h); rw [← eL] at g1; obtain ⟨k1, k0, hx⟩ := g1; have g2 := hG2 s _ hs3 (by simp [hq]; omega) (pre ++ A1 ++ [z]) post o (by omega) (by rw [← eM, ← en]; exact hk) (fun _ => by rw [← eM, ← en]; exact hf rfl); rw [← eM] at g2; obtain ⟨_, k2, hy⟩ := g2; have el : (pre ++ A1 ++ [z]).length = pre.length + A1.length + 1 := by simp; omega
      rw [el] at hy k2; have hfin := PX.two pre.length o _ (pre.length + A1.length) _ _ (k1 rfl) hx (by rw [G6 hL, hz2]; exact hF.role) hy; rw [Qt hL, hz2, hz1] at hfin; rw [en, el]; refine ⟨(fun h => by cases h), fun i hi => ?_, hfin⟩; by_cases i1 : i < A1.length
      · exact k0 i i1
      · by_cases i2 : i = A1.length
        · subst i2; rw [Ko hL, hz2, hF.kind]; decide
        · have := k2 (i - A1.length - 1) (by simp at hi; omega); rw [show pre.length + i = pre.length + A1.length + 1 + (i - A1.length - 1) by omega]; exact this
  | one d p f r2 b hF h ih =>
    intro r _ hr; obtain ⟨c, l, rfl, hc, _⟩ := hF.hd; obtain ⟨A, hA, hG⟩ := ih r (fun h => by cases h) (fun _ => hr rfl); refine ⟨(p, p + (c :: l).length) :: A, ?_, ?_⟩
    · refine LY.tok p (c :: l).length c (l ++ (32 :: b)) r A hc ?_ (by simp) ?_
      · have := hF.tl (b ++ r); simpa using this
      · have e : List.drop (c :: l).length (c :: (l ++ (32 :: b))) = 32 :: b := by
          rw [← List.cons_append, List.drop_append_of_le_length (Nat.le_refl _)]; simp
        rw [e]; exact LY.blank _ _ _ _ hA
    · intro s q hs hq pre post o hd hk hf; have hs1 : s.data.toList = q ++ ((c :: l) ++ ((32 :: b) ++ r)) := by rw [hs]; simp
      have hs2 : s.data.toList = (q ++ (c :: l) ++ [32]) ++ (b ++ r) := by rw [hs]; simp
      have t1 : s.extract p (p + (c :: l).length) = ⟨(c :: l).toArray⟩ := Kn hs1 hq; have eM : pre ++ ((p, p + (c :: l).length) :: A ++ post) = (pre ++ [(p, p + (c :: l).length)]) ++ (A ++ post) := by simp
      have hL : (pre ++ ((p, p + (c :: l).length) :: A ++ post))[pre.length]? = some (p, p + (c :: l).length) := Ja0; have en : pre.length + ((p, p + (c :: l).length) :: A).length = (pre ++ [(p, p + (c :: l).length)]).length + A.length := by simp; omega
      have g2 := hG s _ hs2 (by simp [hq]; omega) (pre ++ [(p, p + (c :: l).length)]) post o (by omega) (by rw [← eM, ← en]; exact hk) (fun _ => by rw [← eM, ← en]; exact hf rfl); rw [← eM] at g2; obtain ⟨_, k2, hy⟩ := g2; have el : (pre ++ [(p, p + (c :: l).length)]).length = pre.length + 1 := by simp
      rw [el] at hy k2; have hfin := PX.one pre.length o _ _ (by rw [G6 hL, t1]; exact hF.role) hy; rw [Qt hL, t1] at hfin; rw [en, el]; refine ⟨(fun h => by cases h), fun i hi => ?_, hfin⟩; by_cases h0 : i = 0
      · subst h0; rw [Nat.add_zero, Ko hL, t1, hF.kind]; decide
      · have := k2 (i - 1) (by simp at hi; omega); rw [show pre.length + i = pre.length + 1 + (i - 1) by omega]; exact this
theorem Jpw {d : Nat} {x : Ex} {n t : List UInt8} (hn : NameT n) (h : Tw d false (n.length + 4) x t) (hs : n.length + 4 + t.length ≤ 200) (hd : d ≤ 8) : Ju ⟨(n ++ ([32, 105, 115, 32] ++ t)).toArray⟩ = (0, 0) ∧ Yp ⟨(n ++ ([32, 105, 115, 32] ++ t)).toArray⟩ = ⟨n.toArray⟩ ∧ Jw ⟨(n ++ ([32, 105, 115, 32] ++ t)).toArray⟩ x := by
  obtain ⟨A, hA, hG⟩ := Ji7 h [] (fun h => by cases h) (fun _ => Or.inl rfl); obtain ⟨c, l, rfl, hc, _⟩ := hn.hd; have hst : Jlr ([32, 105, 115, 32] ++ t) := by intro c hc; simp at hc; subst hc; decide
  have hAll : LY 0 ((c :: l) ++ ([32, 105, 115, 32] ++ t)) [] ((0, (c :: l).length) :: ((c :: l).length + 1, (c :: l).length + 1 + 2) :: A) := by
    have h1 : LY 0 (c :: l) (([32, 105, 115, 32] ++ t) ++ []) [(0, 0 + (l.length + 1))] := LY.one hc (by have := hn.tl _ hst; simpa using this); have h2 := h1.append (l2 := [32, 105, 115, 32] ++ t) (r := []) (B := ((c :: l).length + 1, (c :: l).length + 1 + 2) :: A) rfl ?_
    · simpa using h2
    · rw [Nat.zero_add]; refine LY.blank _ _ _ _ ?_; refine LY.tok ((c :: l).length + 1) 2 105 ([115, 32] ++ t) [] A (by decide) rfl (by simp) ?_; refine LY.blank _ _ _ _ ?_; exact hA
  obtain ⟨S, hS⟩ : ∃ S : ByteArray, (⟨((c :: l) ++ ([32, 105, 115, 32] ++ t)).toArray⟩ : ByteArray) = S := ⟨_, rfl⟩; have hSd : S.data.toList = (c :: l) ++ ([32, 105, 115, 32] ++ t) := by rw [← hS]
  have hSs : S.size ≤ 200 := by rw [← hS]; simp [ByteArray.size] at hs ⊢; omega
  rw [hS]; have hl : lexR S = ((0, (c :: l).length) :: ((c :: l).length + 1, (c :: l).length + 1 + 2) :: A, -1) := Jm5 (by rw [hSd]; exact hAll.whole rfl); obtain ⟨B, hB⟩ : ∃ B, (0, (c :: l).length) :: ((c :: l).length + 1, (c :: l).length + 1 + 2) :: A = B := ⟨_, rfl⟩; have g := hG S ((c :: l) ++ [32, 105, 115, 32]) (by rw [hSd]; simp) (by simp) [(0, (c :: l).length), ((c :: l).length + 1, (c :: l).length + 1 + 2)] [] 0 (by omega) (Jc7 (by rw [Yj]; simp; omega) 0) (fun _ => Jl4 (by rw [Yj]; simp; omega) 2); obtain ⟨_, _, hx⟩ := g; simp only [List.append_nil, List.cons_append, List.nil_append] at hx; rw [hB] at hx hl; have t0 : S.extract 0 (c :: l).length = ⟨(c :: l).toArray⟩ := by
    have := Kn (s := S) (q := []) (t := c :: l) (r := [32, 105, 115, 32] ++ t) (p := 0) (by rw [hSd]; simp) rfl; simpa using this
  have t1 : S.extract ((c :: l).length + 1) ((c :: l).length + 1 + 2) = ⟨#[105, 115]⟩ := Kn (s := S) (q := (c :: l) ++ [32]) (t := [105, 115]) (r := [32] ++ t) (by rw [hSd]; simp) (by simp); have b0 : B[0]? = some (0, (c :: l).length) := by rw [← hB]; rfl
  have b1 : B[1]? = some ((c :: l).length + 1, (c :: l).length + 1 + 2) := by rw [← hB]; rfl
  have k0 : kB (kr (toks S B)) 0 1 = true := by rw [Ko b0, t0, hn.kind]; rfl
  have k1 : kB (kr (toks S B)) 1 2 = true := by rw [Ko b1, t1]; decide +kernel
  have hb : beg (tks S B) = 2 := by unfold beg; rw [← Zc, k0, k1]; rfl
  have hlen : B.length = 2 + A.length := by rw [← hB]; simp; omega
  obtain ⟨e1, e2⟩ := Jd8 (s := S) hSs hl (by rw [hb, hlen]; simpa using hx); refine ⟨e1, ?_, e2⟩; unfold Yp; rw [e1, if_pos rfl, hl]; unfold Ky; simp only []; rw [k0, k1, Qt b0, t0]; rfl
end Go.Proofs.YtjobgpahajhbnabGreatDoor
namespace Go.Proofs.YtjobgpahajhbnabGreatDoor
open Go.RowKit Go.Proofs
attribute [local go_sem ↓] Go.wp_at_zero Go.wp_at_succ
set_option maxHeartbeats 400000 in
theorem Joo (fuel : Int) (h : 0 ≤ fuel ∧ fuel ≤ 1000) (w : World) : Calls Tryz.prog 15 #[.int .i64 fuel] w fun e w' => e = .returned (.tuple #[.pointer (some ⟨w.heap.size, 0, none⟩), .int .i64 0]) ∧ w' = w.alloc (.cells #[.int .i64 fuel, .map none] 59) := by
  have h1 : ¬ fuel < 0 := by omega
  have h2 : ¬ 1000 < fuel := by omega
  go_enter Tryz.func15, Tryz.ntmps15; go_wp2
  exact bodyPost_ret (v := .tuple #[.pointer (some ⟨w.heap.size, 0, none⟩), .int .i64 0]) (by simp [results, Tryz.results15, go_sem]) rfl ⟨rfl, rfl⟩
set_option maxHeartbeats 400000 in
theorem Jk9 (w : World) : Calls Tryz.prog 6 #[] w fun e w' => e = .returned (.tuple #[.pointer (some ⟨w.heap.size, 0, none⟩), .bool true]) ∧ w' = w.alloc (.cells #[.int .i64 1000, .map none] 59) := by
  go_enter Tryz.func6, Tryz.ntmps6; go_wp2_with (go_at_call 15; refine (Joo 1000 (by decide) _).mono ?_; rintro e w' ⟨rfl, rfl⟩); exact bodyPost_ret (v := .tuple #[.pointer (some ⟨w.heap.size, 0, none⟩), .bool true]) (by simp [results, Tryz.results6, go_sem]) rfl ⟨rfl, rfl⟩
end Go.Proofs.YtjobgpahajhbnabGreatDoor
namespace Go.Proofs.YtjobgpahajhbnabGreatDoor
open Go.RowKit Go.Proofs
attribute [local go_sem ↓] Go.wp_at_zero Go.wp_at_succ
theorem Z7 {W0 w w1 : World} (hlt : W0.heap.size < w.heap.size) (hk : Kp W0 ((w.alloc (.cells #[.slice none 0 0, .slice none 0 0] 57)).alloc (.cells #[.int .i64 0, .int .i64 0] 67)) w1) :
    (w1.cell? ⟨w.heap.size, 0, none⟩ = some (.slice none 0 0) ∧ w1.cell? ⟨w.heap.size, 1, none⟩ = some (.slice none 0 0) ∧ w1.cell? ⟨w.heap.size + 1, 0, none⟩ = some (.int .i64 0) ∧ w1.cell? ⟨w.heap.size + 1, 1, none⟩ = some (.int .i64 0)) ∧
    (w1.frozen? ⟨w.heap.size, 0, none⟩ = false ∧ w1.frozen? ⟨w.heap.size, 1, none⟩ = false ∧ w1.frozen? ⟨w.heap.size + 1, 0, none⟩ = false ∧ w1.frozen? ⟨w.heap.size + 1, 1, none⟩ = false) := by
  have h1 := fun i => hk.cell (b := w.heap.size) (by simp; omega) (by omega) i
  have h2 := fun i => hk.cell (b := w.heap.size + 1) (by simp) (by omega) i
  have f1 := fun i => hk.frozen (b := w.heap.size) (by simp; omega) (by omega) i
  have f2 := fun i => hk.frozen (b := w.heap.size + 1) (by simp) (by omega) i
  rw [h1, h1, h2, h2, f1, f1, f2, f2]; simp
def But (P : Nat → Prop) (n : Nat) (b : Nat) : Prop := P b ∧ b ≠ n ∧ b ≠ n + 1
theorem Jb9 {P : Nat → Prop} {w : World} (hP : ∀ b, w.heap.size ≤ b → P b) {o1 o2 : Obj} : ∀ b, ((w.alloc o1).alloc o2).heap.size ≤ b → But P w.heap.size b := by
  intro b h; simp at h; exact ⟨hP b (by omega), by omega, by omega⟩
theorem Jca {P : Nat → Prop} {w : World} {n : Nat} {v : Value} {a : Arr} (h : IsArr (But P n) w v a) (v0 v1 v2 v3 : Value) : IsArr P ((((w.setCell ⟨n, 0, none⟩ v0).setCell ⟨n, 1, none⟩ v1).setCell ⟨n + 1, 0, none⟩ v2).setCell ⟨n + 1, 1, none⟩ v3) v a :=
  ((((h.set (fun h => h.2.1 rfl) 0 _).set (fun h => h.2.1 rfl) 1 _).set (fun h => h.2.2 rfl) 0 _).set (fun h => h.2.2 rfl) 1 _).imp (fun _ h _ => h.1)
theorem Vf {P : Nat → Prop} {W0 : World} {mv : Value} {env : ByteArray → Option Arr} (h : Look P W0 mv env) {n : Nat} (hn : W0.heap.size ≤ n) : Look (But P n) W0 mv env := h.imp (fun _ hb hl => ⟨hb, by omega, by omega⟩)
theorem Gs {P : Nat → Prop} {W0 w w' : World} {mv : Value} {fuel : Int} {k : Nat} {er : Int} {p : Nat} (h1 : Kp W0 w w') (h2 : Wk W0 mv fuel k w') (hn : er ≠ 0) : Gh P W0 mv fuel w (.inl (er, p)) (.returned (.tuple #[zArr, .agg #[.int .i64 er, .int .i64 p]])) w' := ⟨h1, rfl, hn, k, h2⟩
theorem Je6 {P : Nat → Prop} {W0 w w' : World} {mv : Value} {fuel : Int} {k : Nat} {a : Arr} {v : Value} (h1 : Kp W0 w w') (h2 : Wk W0 mv fuel k w') (h3 : IsArr P w' v a) (hf : (k : Int) ≤ fuel) : Gh P W0 mv fuel w (.inr (a, k)) (.returned (.tuple #[v, .agg #[.int .i64 0, .int .i64 0]])) w' := ⟨h1, v, rfl, h3, h2, hf⟩
theorem Vy {W0 w w1 : World} {o1 o2 : Obj} (h : Kp W0 ((w.alloc o1).alloc o2) w1) : Kp W0 w w1 := (((Kp.refl W0 w).alloc o1).alloc o2).trans h
set_option maxHeartbeats 1000000 in
theorem Jnp (env : ByteArray → Option Arr) (fuel : Int) (f1 : ByteArray → Arr → Arr × Int) (f2 : ByteArray → Arr → Arr → Arr × Int) (B : Nat) (W0 : World) (mv : Value) (t : ByteArray) (ht : t.size ≤ 200) (p : Nat) : ExC env fuel f1 f2 B W0 mv (.name t p) := by
  intro P w c q hw hc hP hR hL hx; obtain ⟨b, rr, xx, rfl, h1, h2, c0, c1, c2, c3, c4⟩ := hx; have hlt := hw.lt; have hb := hw.below; have d0 := (hb.cell (p := ⟨b, 0, none⟩) h2).trans c0; have d1 := (hb.cell (p := ⟨b, 1, none⟩) h2).trans c1; have d2 := (hb.cell (p := ⟨b, 2, none⟩) h2).trans c2; have d3 := (hb.cell (p := ⟨b, 3, none⟩) h2).trans c3; have d4 := (hb.cell (p := ⟨b, 4, none⟩) h2).trans c4; have hbl : b < w.heap.size := Nat.lt_of_lt_of_le h2 hb.size; have hbl1 : b < w.heap.size + 1 := by omega
  have HCall := hide (fun w' hw' => Je9 (But P w.heap.size) W0 mv fuel c w' hw' 1 rr xx t ht p env (Vf hL (by omega)) (fun h => hR h.1) hc); have HW := hide hw; clear hw hP hL c0 c1 c2 c3 c4 hb h2; go_enter Tryz.func35, Tryz.ntmps35; go_wp2_with fail; refine (Ja HCall _ (((Ja HW).alloc _).alloc _)).mono ?_; intro e w1 hl; cases he : env t with
  | none =>
    rw [he] at hl; have HEV : Hid (Js env fuel f1 f2 (.name t p) c = .inl (4, p)) := hide (by simp [Js, he]); obtain ⟨hk, rfl, _, c', hw'⟩ := hl; obtain ⟨⟨e0, e1, e2, e3⟩, g0, g1, g2, g3⟩ := Z7 hlt hk; have HK := hide (Vy hk); have HW' := hide hw'; clear hk hw'; unfold zArr; go_wp2_with fail; refine bodyPost_ret (v := .tuple #[zArr, .agg #[.int .i64 4, .int .i64 p]]) (by simp [results, Tryz.results35, go_sem, zArr, e0, e1, e2, e3]) rfl ?_; rw [Ja HEV]; exact Gs ((Ja HK).four (Nat.le_refl _) _ _ _ _) ((Ja HW').four hlt _ _ _ _) (by decide)
  | some a =>
    rw [he] at hl; have HEV : Hid (Js env fuel f1 f2 (.name t p) c = .inr (a, c)) := hide (by simp [Js, he]); obtain ⟨hk, v, rfl, ha, hw', hf⟩ := hl; obtain ⟨⟨e0, e1, e2, e3⟩, g0, g1, g2, g3⟩ := Z7 hlt hk; have HK := hide (Vy hk); have HW' := hide hw'; have HA := hide ha; obtain ⟨so, sn, sc, co, cn, cc, rfl, _, _⟩ := ha; clear hk hw'; go_wp2_with fail; refine bodyPost_ret (v := .tuple #[.agg #[.slice so sn sc, .slice co cn cc], .agg #[.int .i64 0, .int .i64 0]]) (by simp [results, Tryz.results35, go_sem, e0, e1, e2, e3]) rfl ?_; rw [Ja HEV]; exact Je6 ((Ja HK).four (Nat.le_refl _) _ _ _ _) ((Ja HW').four hlt _ _ _ _) (Jca (Ja HA) _ _ _ _) hf
end Go.Proofs.YtjobgpahajhbnabGreatDoor
