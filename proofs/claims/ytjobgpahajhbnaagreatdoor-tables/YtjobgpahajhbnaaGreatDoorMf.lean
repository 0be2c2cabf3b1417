import Derived.Test.YtjobgpahajhbnaaGreatDoorKg
import Derived.Test.YtjobgpahajhbnaaGreatDoorVg
import Derived.Maps.Views
import Derived.StringKeys
import Derived.Deep.RegionHeld3
namespace Go.Proofs.YtjobgpahajhbnaaGreatDoor
open Go.RowKit

/-- what may come behind a THING -/
def StopB (r : List UInt8) : Prop := r = [] ∨ (∃ r', r = 32 :: r') ∨ ∃ r', r = 41 :: r'
theorem StopB.dig {r : List UInt8} (h : StopB r) : Stop r := by
  rcases h with rfl | ⟨r', rfl⟩ | ⟨r', rfl⟩ <;> intro c hc <;> simp at hc <;> subst hc <;> decide
theorem StopB.let_ {r : List UInt8} (h : StopB r) : StopN r := by
  rcases h with rfl | ⟨r', rfl⟩ | ⟨r', rfl⟩ <;> intro c hc <;> simp at hc <;> subst hc <;> decide
set_option maxHeartbeats 1000000 in
theorem tw_gives {d : Nat} {b : Bool} {p0 : Nat} {x : Ex} {t : List UInt8} (h : Tw d b p0 x t) : ∀ (r : List UInt8), (b = true → StopB r) → (b = false → r = [] ∨ ∃ r', r = 41 :: r') → ∃ A, LY p0 t r A ∧ GivesW d b x t p0 r A := by
  induction h with
  | row d p ns t hn =>
    intro r hr _
    obtain ⟨A, hA, hl, hf⟩ := row_toks hn p r (hr rfl).dig
    refine ⟨A, hA, ?_⟩
    intro s q hs hq pre post o hd hk _
    have hf' := hf s q hs hq
    have hpos := row_pos hn
    have hkb : ∀ i, i < A.length → ∀ m, kB (kr (toks s (pre ++ (A ++ post)))) (pre.length + i) m = ((0 : Int) == m) := fun i hi m => by
      obtain ⟨x, y, e1, e2, _, _⟩ := hf' i (by omega)
      rw [kB_tok (at_in e1), e2]
    refine ⟨fun _ => ?_, fun i hi => by rw [hkb i hi]; decide, ?_⟩
    · obtain ⟨x, y, e1, _, e3, _⟩ := hf' 0 hpos
      have := fB_tok (s := s) (at_in (pre := pre) (post := post) e1) 1
      rw [Nat.add_zero] at this
      rw [this, e3]
      decide
    · have hx := PX.nums (S := toks s (pre ++ (A ++ post))) pre.length o (pre.length + A.length) (by omega) (by rw [toks_len]; simp) (by
        intro i h1 h2
        have := hkb (i - pre.length) (by omega) 0
        rw [show pre.length + (i - pre.length) = i by omega] at this
        rw [this]; rfl) hk
      rw [worths_row hl (fun i hi => by obtain ⟨x, y, e1, _, _, e4⟩ := hf' i hi; exact ⟨x, y, e1, e4⟩)] at hx
      exact hx
  | name d p t hn =>
    intro r hr _
    obtain ⟨c, l, rfl, hc, _⟩ := hn.hd
    refine ⟨[(p, p + (c :: l).length)], LY.one hc (by have := hn.tl r (hr rfl).let_; simpa using this), ?_⟩
    intro s q hs hq pre post o hd hk _
    have hL : (pre ++ ([(p, p + (c :: l).length)] ++ post))[pre.length]? = some (p, p + (c :: l).length) := at_pre
    have ht := ext_mid hs hq
    refine ⟨fun _ => by rw [fB_tok hL, ht, hn.role]; decide, fun i hi => ?_, ?_⟩
    · have : i = 0 := by simpa using hi
      subst this
      rw [Nat.add_zero, kB_tok hL, ht, hn.kind]
      decide
    · have hx := PX.name (S := toks s (pre ++ ([(p, p + (c :: l).length)] ++ post))) pre.length o (by rw [kB_tok hL, ht, hn.kind]; rfl)
      rw [tokAt_tok hL, ht] at hx
      exact hx
  | br d p x t h ih =>
    intro r hr _
    obtain ⟨A, hA, hG⟩ := ih ([41] ++ r) (fun h => by cases h) (fun _ => Or.inr ⟨r, rfl⟩)
    refine ⟨(p, p + 1) :: (A ++ [(p + 1 + t.length, p + 1 + t.length + 1)]), ?_, ?_⟩
    · refine LY.tok p 1 40 (t ++ [41]) r _ (by decide) rfl (by omega) ?_
      refine hA.append rfl ?_
      exact LY.one (l := []) (by decide) rfl
    · intro s q hs hq pre post o hd hk _
      have hs1 : s.data.toList = q ++ ([40] ++ ((t ++ [41]) ++ r)) := by rw [hs]; simp
      have hs2 : s.data.toList = (q ++ [40]) ++ (t ++ ([41] ++ r)) := by rw [hs]; simp
      have hs3 : s.data.toList = (q ++ [40] ++ t) ++ ([41] ++ r) := by rw [hs]; simp
      have t1 : s.extract p (p + 1) = ⟨#[40]⟩ := ext_mid (t := [40]) hs1 hq
      have t2 : s.extract (p + 1 + t.length) (p + 1 + t.length + 1) = ⟨#[41]⟩ := ext_mid (t := [41]) hs3 (by simp [hq]; omega)
      obtain ⟨b1, b2, b3, b4⟩ := br_tok
      have eL : pre ++ ((p, p + 1) :: (A ++ [(p + 1 + t.length, p + 1 + t.length + 1)]) ++ post) = (pre ++ [(p, p + 1)]) ++ (A ++ ((p + 1 + t.length, p + 1 + t.length + 1) :: post)) := by simp
      have hL1 : (pre ++ ((p, p + 1) :: (A ++ [(p + 1 + t.length, p + 1 + t.length + 1)]) ++ post))[pre.length]? = some (p, p + 1) := at_pre
      have hL2 : ((pre ++ [(p, p + 1)]) ++ (A ++ ((p + 1 + t.length, p + 1 + t.length + 1) :: post)))[(pre ++ [(p, p + 1)]).length + A.length]? = some (p + 1 + t.length, p + 1 + t.length + 1) := by
        rw [← List.append_assoc, ← List.length_append]; exact at_pre
      have g1 := hG s (q ++ [40]) hs2 (by simp [hq]) (pre ++ [(p, p + 1)]) ((p + 1 + t.length, p + 1 + t.length + 1) :: post) (o + 1) (by omega) (by rw [kB_tok hL2, t2, b3]; rfl) (fun _ => by rw [fB_tok hL2, t2, b4]; decide)
      obtain ⟨_, hi, hx⟩ := g1
      have e5 : ∀ m, kB (kr (toks s ((pre ++ [(p, p + 1)]) ++ (A ++ ((p + 1 + t.length, p + 1 + t.length + 1) :: post))))) ((pre ++ [(p, p + 1)]).length + A.length) m = ((5 : Int) == m) := fun m => by rw [kB_tok hL2, t2, b3]
      rw [← eL] at hx e5 hi
      have el : (pre ++ [(p, p + 1)]).length = pre.length + 1 := by simp
      refine ⟨fun _ => by rw [fB_tok hL1, t1, b2]; decide, ?_, ?_⟩
      · intro i hil
        by_cases h0 : i = 0
        · subst h0
          change kB (kr (toks s (pre ++ ((p, p + 1) :: (A ++ [(p + 1 + t.length, p + 1 + t.length + 1)]) ++ post)))) pre.length 2 = false
          rw [kB_tok hL1, t1, b1]
          decide
        · by_cases h1 : i = A.length + 1
          · have := e5 2
            rw [el] at this
            rw [show pre.length + i = pre.length + 1 + A.length by omega, this]
            decide
          · have := hi (i - 1) (by simp at hil; omega)
            rw [el] at this
            rw [show pre.length + i = pre.length + 1 + (i - 1) by omega]
            exact this
      · have hfin := PX.paren (S := toks s (pre ++ ((p, p + 1) :: (A ++ [(p + 1 + t.length, p + 1 + t.length + 1)]) ++ post))) pre.length o x ((pre ++ [(p, p + 1)]).length + A.length) (by rw [kB_tok hL1, t1, b1]; rfl) (by omega) (by simpa using hx) (by rw [e5 5]; rfl)
        have en : pre.length + ((p, p + 1) :: (A ++ [(p + 1 + t.length, p + 1 + t.length + 1)])).length = (pre ++ [(p, p + 1)]).length + A.length + 1 := by simp; omega
        rw [en]
        exact hfin
  | only d p x t h ih =>
    intro r _ hr
    have hst : StopB r := by
      rcases hr rfl with rfl | ⟨r', rfl⟩
      · exact Or.inl rfl
      · exact Or.inr (Or.inr ⟨r', rfl⟩)
    obtain ⟨A, hA, hG⟩ := ih r (fun _ => hst) (fun h => by cases h)
    refine ⟨A, hA, ?_⟩
    intro s q hs hq pre post o hd hk hf
    obtain ⟨h1, h0, hx⟩ := hG s q hs hq pre post o hd hk (fun h => by cases h)
    exact ⟨(fun h => by cases h), h0, PX.only _ _ _ _ (h1 rfl) hx (hf rfl)⟩
  | two d p f l r2 a b hF h1 h2 ih1 ih2 =>
    intro r _ hr
    obtain ⟨fc, fl, rfl, hfc⟩ := hF.hd
    obtain ⟨A1, hA1, hG1⟩ := ih1 (32 :: ((fc :: fl) ++ (32 :: b)) ++ r) (fun _ => Or.inr (Or.inl ⟨_, rfl⟩)) (fun h => by cases h)
    obtain ⟨A2, hA2, hG2⟩ := ih2 r (fun h => by cases h) (fun _ => hr rfl)
    refine ⟨A1 ++ ((p + a.length + 1, p + a.length + 1 + (fc :: fl).length) :: A2), ?_, ?_⟩
    · refine hA1.append rfl ?_
      refine LY.blank _ _ _ _ ?_
      refine LY.tok (p + a.length + 1) (fc :: fl).length fc (fl ++ (32 :: b)) r A2 hfc ?_ (by simp) ?_
      · have := hF.tl (b ++ r)
        simpa using this
      · have e : List.drop (fc :: fl).length (fc :: (fl ++ (32 :: b))) = 32 :: b := by
          rw [← List.cons_append, List.drop_append_of_le_length (Nat.le_refl _)]
          simp
        rw [e]
        exact LY.blank _ _ _ _ hA2
    · intro s q hs hq pre post o hd hk hf
      have hs1 : s.data.toList = q ++ (a ++ ((32 :: ((fc :: fl) ++ (32 :: b))) ++ r)) := by rw [hs]; simp
      have hs2 : s.data.toList = (q ++ a ++ [32]) ++ ((fc :: fl) ++ ((32 :: b) ++ r)) := by rw [hs]; simp
      have hs3 : s.data.toList = (q ++ a ++ [32] ++ (fc :: fl) ++ [32]) ++ (b ++ r) := by rw [hs]; simp
      have t2 : s.extract (p + a.length + 1) (p + a.length + 1 + (fc :: fl).length) = ⟨(fc :: fl).toArray⟩ := ext_mid (t := fc :: fl) hs2 (by simp [hq]; omega)
      obtain ⟨z, hz⟩ : ∃ z, (p + a.length + 1, p + a.length + 1 + (fc :: fl).length) = z := ⟨_, rfl⟩
      have hz1 : z.1 = p + a.length + 1 := by rw [← hz]
      have hz2 : s.extract z.1 z.2 = ⟨(fc :: fl).toArray⟩ := by rw [← hz]; exact t2
      rw [hz] at hk hf ⊢
      have eL : pre ++ (A1 ++ (z :: A2) ++ post) = pre ++ (A1 ++ ((z :: A2) ++ post)) := by simp
      have eM : pre ++ (A1 ++ (z :: A2) ++ post) = (pre ++ A1 ++ [z]) ++ (A2 ++ post) := by simp
      have hL : (pre ++ (A1 ++ (z :: A2) ++ post))[pre.length + A1.length]? = some (z.1, z.2) := by
        have : pre ++ (A1 ++ (z :: A2) ++ post) = (pre ++ A1) ++ (z :: (A2 ++ post)) := by simp
        rw [this, ← List.length_append]; exact at_pre
      have en : pre.length + (A1 ++ (z :: A2)).length = (pre ++ A1 ++ [z]).length + A2.length := by simp; omega
      have g1 := hG1 s q hs1 hq pre ((z :: A2) ++ post) o (by omega) (by rw [← eL, kB_tok hL, hz2, hF.kind]; rfl) (fun h => by cases h)
      rw [← eL] at g1
      obtain ⟨k1, k0, hx⟩ := g1
      have g2 := hG2 s _ hs3 (by simp [hq]; omega) (pre ++ A1 ++ [z]) post o (by omega) (by rw [← eM, ← en]; exact hk) (fun _ => by rw [← eM, ← en]; exact hf rfl)
      rw [← eM] at g2
      obtain ⟨_, k2, hy⟩ := g2
      have el : (pre ++ A1 ++ [z]).length = pre.length + A1.length + 1 := by simp; omega
      rw [el] at hy k2
      have hfin := PX.two pre.length o _ (pre.length + A1.length) _ _ (k1 rfl) hx (by rw [fB_tok hL, hz2]; exact hF.role) hy
      rw [tokAt_tok hL, hz2, hz1] at hfin
      rw [en, el]
      refine ⟨(fun h => by cases h), fun i hi => ?_, hfin⟩
      by_cases i1 : i < A1.length
      · exact k0 i i1
      · by_cases i2 : i = A1.length
        · subst i2
          rw [kB_tok hL, hz2, hF.kind]
          decide
        · have := k2 (i - A1.length - 1) (by simp at hi; omega)
          rw [show pre.length + i = pre.length + A1.length + 1 + (i - A1.length - 1) by omega]
          exact this
  | one d p f r2 b hF h ih =>
    intro r _ hr
    obtain ⟨c, l, rfl, hc, _⟩ := hF.hd
    obtain ⟨A, hA, hG⟩ := ih r (fun h => by cases h) (fun _ => hr rfl)
    refine ⟨(p, p + (c :: l).length) :: A, ?_, ?_⟩
    · refine LY.tok p (c :: l).length c (l ++ (32 :: b)) r A hc ?_ (by simp) ?_
      · have := hF.tl (b ++ r)
        simpa using this
      · have e : List.drop (c :: l).length (c :: (l ++ (32 :: b))) = 32 :: b := by
          rw [← List.cons_append, List.drop_append_of_le_length (Nat.le_refl _)]
          simp
        rw [e]
        exact LY.blank _ _ _ _ hA
    · intro s q hs hq pre post o hd hk hf
      have hs1 : s.data.toList = q ++ ((c :: l) ++ ((32 :: b) ++ r)) := by rw [hs]; simp
      have hs2 : s.data.toList = (q ++ (c :: l) ++ [32]) ++ (b ++ r) := by rw [hs]; simp
      have t1 : s.extract p (p + (c :: l).length) = ⟨(c :: l).toArray⟩ := ext_mid hs1 hq
      have eM : pre ++ ((p, p + (c :: l).length) :: A ++ post) = (pre ++ [(p, p + (c :: l).length)]) ++ (A ++ post) := by simp
      have hL : (pre ++ ((p, p + (c :: l).length) :: A ++ post))[pre.length]? = some (p, p + (c :: l).length) := at_pre
      have en : pre.length + ((p, p + (c :: l).length) :: A).length = (pre ++ [(p, p + (c :: l).length)]).length + A.length := by simp; omega
      have g2 := hG s _ hs2 (by simp [hq]; omega) (pre ++ [(p, p + (c :: l).length)]) post o (by omega) (by rw [← eM, ← en]; exact hk) (fun _ => by rw [← eM, ← en]; exact hf rfl)
      rw [← eM] at g2
      obtain ⟨_, k2, hy⟩ := g2
      have el : (pre ++ [(p, p + (c :: l).length)]).length = pre.length + 1 := by simp
      rw [el] at hy k2
      have hfin := PX.one pre.length o _ _ (by rw [fB_tok hL, t1]; exact hF.role) hy
      rw [tokAt_tok hL, t1] at hfin
      rw [en, el]
      refine ⟨(fun h => by cases h), fun i hi => ?_, hfin⟩
      by_cases h0 : i = 0
      · subst h0
        rw [Nat.add_zero, kB_tok hL, t1, hF.kind]
        decide
      · have := k2 (i - 1) (by simp at hi; omega)
        rw [show pre.length + i = pre.length + 1 + (i - 1) by omega]
        exact this
/-- a text of x, and no more, has the tree x -/
theorem tw_tree {d : Nat} {x : Ex} {t : List UInt8} (h : Tw d false 0 x t) (hs : t.length ≤ 200) (hd : d ≤ 8) : parseP ⟨t.toArray⟩ = (0, 0) ∧ nameP ⟨t.toArray⟩ = ⟨#[]⟩ ∧ TreeOf ⟨t.toArray⟩ x := by
  obtain ⟨A, hA, hG⟩ := tw_gives h [] (fun h => by cases h) (fun _ => Or.inl rfl)
  have hl : lexR ⟨t.toArray⟩ = (A, -1) := lx_lexR (by simpa using hA.whole rfl)
  obtain ⟨h1, h0, hx⟩ := hG ⟨t.toArray⟩ [] (by simp) rfl [] [] 0 (by omega) (kB_out (by rw [toks_len]; simp) 0) (fun _ => fB_out (by rw [toks_len]; simp) 2)
  simp only [List.nil_append, List.append_nil, List.length_nil, Nat.zero_add] at h1 h0 hx
  have hk : kB (kr (toks ⟨t.toArray⟩ A)) 1 2 = false := by
    by_cases hl1 : 1 < A.length
    · exact h0 1 hl1
    · exact kB_out (by rw [toks_len]; omega) 2
  have hb : beg (tks ⟨t.toArray⟩ A) = 0 := by unfold beg; rw [← kr_toks, hk, Bool.and_false]; rfl
  obtain ⟨e1, e2⟩ := parse_tree (s := ⟨t.toArray⟩) (by simpa [ByteArray.size] using hs) hl (by rw [hb]; exact hx)
  refine ⟨e1, ?_, e2⟩
  unfold nameP
  rw [e1, if_pos rfl, hl]
  unfold nameS
  simp only []
  rw [hk, Bool.and_false]
  rfl
/-- a line that makes a name -/
theorem tw_is {d : Nat} {x : Ex} {n t : List UInt8} (hn : NameT n) (h : Tw d false (n.length + 4) x t) (hs : n.length + 4 + t.length ≤ 200) (hd : d ≤ 8) : parseP ⟨(n ++ ([32, 105, 115, 32] ++ t)).toArray⟩ = (0, 0) ∧ nameP ⟨(n ++ ([32, 105, 115, 32] ++ t)).toArray⟩ = ⟨n.toArray⟩ ∧ TreeOf ⟨(n ++ ([32, 105, 115, 32] ++ t)).toArray⟩ x := by
  obtain ⟨A, hA, hG⟩ := tw_gives h [] (fun h => by cases h) (fun _ => Or.inl rfl)
  obtain ⟨c, l, rfl, hc, _⟩ := hn.hd
  have hst : StopN ([32, 105, 115, 32] ++ t) := by intro c hc; simp at hc; subst hc; decide
  have hAll : LY 0 ((c :: l) ++ ([32, 105, 115, 32] ++ t)) [] ((0, (c :: l).length) :: ((c :: l).length + 1, (c :: l).length + 1 + 2) :: A) := by
    have h1 : LY 0 (c :: l) (([32, 105, 115, 32] ++ t) ++ []) [(0, 0 + (l.length + 1))] := LY.one hc (by have := hn.tl _ hst; simpa using this)
    have h2 := h1.append (l2 := [32, 105, 115, 32] ++ t) (r := []) (B := ((c :: l).length + 1, (c :: l).length + 1 + 2) :: A) rfl ?_
    · simpa using h2
    · rw [Nat.zero_add]
      refine LY.blank _ _ _ _ ?_
      refine LY.tok ((c :: l).length + 1) 2 105 ([115, 32] ++ t) [] A (by decide) rfl (by simp) ?_
      refine LY.blank _ _ _ _ ?_
      exact hA
  obtain ⟨S, hS⟩ : ∃ S : ByteArray, (⟨((c :: l) ++ ([32, 105, 115, 32] ++ t)).toArray⟩ : ByteArray) = S := ⟨_, rfl⟩
  have hSd : S.data.toList = (c :: l) ++ ([32, 105, 115, 32] ++ t) := by rw [← hS]
  have hSs : S.size ≤ 200 := by rw [← hS]; simp [ByteArray.size] at hs ⊢; omega
  rw [hS]
  have hl : lexR S = ((0, (c :: l).length) :: ((c :: l).length + 1, (c :: l).length + 1 + 2) :: A, -1) := lx_lexR (by rw [hSd]; exact hAll.whole rfl)
  obtain ⟨B, hB⟩ : ∃ B, (0, (c :: l).length) :: ((c :: l).length + 1, (c :: l).length + 1 + 2) :: A = B := ⟨_, rfl⟩
  have g := hG S ((c :: l) ++ [32, 105, 115, 32]) (by rw [hSd]; simp) (by simp) [(0, (c :: l).length), ((c :: l).length + 1, (c :: l).length + 1 + 2)] [] 0 (by omega) (kB_out (by rw [toks_len]; simp; omega) 0) (fun _ => fB_out (by rw [toks_len]; simp; omega) 2)
  obtain ⟨_, _, hx⟩ := g
  simp only [List.append_nil, List.cons_append, List.nil_append] at hx
  rw [hB] at hx hl
  have t0 : S.extract 0 (c :: l).length = ⟨(c :: l).toArray⟩ := by
    have := ext_mid (s := S) (q := []) (t := c :: l) (r := [32, 105, 115, 32] ++ t) (p := 0) (by rw [hSd]; simp) rfl
    simpa using this
  have t1 : S.extract ((c :: l).length + 1) ((c :: l).length + 1 + 2) = ⟨#[105, 115]⟩ := ext_mid (s := S) (q := (c :: l) ++ [32]) (t := [105, 115]) (r := [32] ++ t) (by rw [hSd]; simp) (by simp)
  have b0 : B[0]? = some (0, (c :: l).length) := by rw [← hB]; rfl
  have b1 : B[1]? = some ((c :: l).length + 1, (c :: l).length + 1 + 2) := by rw [← hB]; rfl
  have k0 : kB (kr (toks S B)) 0 1 = true := by rw [kB_tok b0, t0, hn.kind]; rfl
  have k1 : kB (kr (toks S B)) 1 2 = true := by rw [kB_tok b1, t1]; decide +kernel
  have hb : beg (tks S B) = 2 := by unfold beg; rw [← kr_toks, k0, k1]; rfl
  have hlen : B.length = 2 + A.length := by rw [← hB]; simp; omega
  obtain ⟨e1, e2⟩ := parse_tree (s := S) hSs hl (by rw [hb, hlen]; simpa using hx)
  refine ⟨e1, ?_, e2⟩
  unfold nameP
  rw [e1, if_pos rfl, hl]
  unfold nameS
  simp only []
  rw [k0, k1, tokAt_tok b0, t0]
  rfl
end Go.Proofs.YtjobgpahajhbnaaGreatDoor
namespace Go.Proofs.YtjobgpahajhbnaaGreatDoor
open Go.RowKit Go.Proofs
attribute [local go_sem ↓] Go.wp_at_zero Go.wp_at_succ

/-- what Run of one line leaves -/
structure RunV (w : World) (er at_ : Int) (sh cs : List Int) (cost : Int) (rb : Nat) (w' : World) (so : Option Addr) (sn sc : Nat) (co : Option Addr) (cn cc : Nat) : Prop where
  q0 : w'.cell? ⟨rb, 0, none⟩ = some (.int .i64 er)
  q1 : w'.cell? ⟨rb, 1, none⟩ = some (.int .i64 at_)
  q2 : w'.cell? ⟨rb, 2, none⟩ = some (.slice so sn sc)
  q3 : w'.cell? ⟨rb, 3, none⟩ = some (.slice co cn cc)
  q4 : w'.cell? ⟨rb, 4, none⟩ = some (.int .i64 cost)
  sh : Nums (fun b => w.heap.size ≤ b) w' (.slice so sn sc) sh
  cs : Nums (fun b => w.heap.size ≤ b) w' (.slice co cn cc) cs
  lo : w.heap.size ≤ rb
  hi : rb < w'.heap.size
  bel : Below w.heap.size w w'
def RunL (w : World) (er at_ : Int) (sh cs : List Int) (cost : Int) (e : Ending) (w' : World) : Prop :=
  ∃ rb rc so sn sc co cn cc, e = .returned (.slice (some ⟨rb, 0, none⟩) 1 rc) ∧ RunV w er at_ sh cs cost rb w' so sn sc co cn cc

theorem runV_mk {w w1 : World} {er at_ cost : Int} {sh cs : List Int} {so : Option Addr} {sn sc : Nat} {co : Option Addr} {cn cc : Nat} (o : Obj) (Z : Array Value)
    (hb : Below w.heap.size w w1) (hsh : Nums (fun b => w.heap.size ≤ b) w1 (.slice so sn sc) sh) (hcs : Nums (fun b => w.heap.size ≤ b) w1 (.slice co cn cc) cs) :
    RunV w er at_ sh cs cost (w1.heap.size + 1) ((w1.alloc o).alloc (.cells (#[.int .i64 er, .int .i64 at_, .slice so sn sc, .slice co cn cc, .int .i64 cost] ++ Z) 47)).drew so sn sc co cn cc := by
  have hbw : Below w1.heap.size w1 ((w1.alloc o).alloc (.cells (#[.int .i64 er, .int .i64 at_, .slice so sn sc, .slice co cn cc, .int .i64 cost] ++ Z) 47)).drew := (((Below.refl _ _).alloc (Nat.le_refl _) _).alloc (by simp) _).drew
  have hc : ∀ i, i < 5 → ((w1.alloc o).alloc (.cells (#[.int .i64 er, .int .i64 at_, .slice so sn sc, .slice co cn cc, .int .i64 cost] ++ Z) 47)).drew.cell? ⟨w1.heap.size + 1, i, none⟩ = #[Value.int .i64 er, .int .i64 at_, .slice so sn sc, .slice co cn cc, .int .i64 cost][i]? := by
    intro i hi
    show ((w1.alloc o).alloc (.cells (#[.int .i64 er, .int .i64 at_, .slice so sn sc, .slice co cn cc, .int .i64 cost] ++ Z) 47)).cell? ⟨w1.heap.size + 1, i, none⟩ = _
    rw [World.cell?_alloc_at _ _ _ _ (by simp), Array.getElem?_append_left (by simpa using hi)]
  have h1 := hb.size
  exact ⟨(hc 0 (by omega)).trans rfl, (hc 1 (by omega)).trans rfl, (hc 2 (by omega)).trans rfl, (hc 3 (by omega)).trans rfl, (hc 4 (by omega)).trans rfl, hsh.below hbw, hcs.below hbw, by omega, by simp, hb.trans (hbw.mono h1)⟩

set_option maxHeartbeats 1000000 in
set_option maxRecDepth 20000 in
theorem run_one (w : World) (db lb cap : Nat) (s : ByteArray) (er at_ : Int) (sh cs : List Int) (cost : Int) (hc : w.cell? ⟨lb, 0, none⟩ = some (.string s)) (hl : lb < w.heap.size)
    (hrep : Calls Tryz.prog 42 #[.pointer (some ⟨db, 0, none⟩), .string s] w (RepL w er at_ sh cs cost)) :
    Calls Tryz.prog 33 #[.pointer (some ⟨db, 0, none⟩), .slice (some ⟨lb, 0, none⟩) 1 cap] w (RunL w er at_ sh cs cost) := by
  have HR := hide hrep
  clear hrep
  go_enter Tryz.func33, Tryz.ntmps33
  go_wp2_with fail
  go_loopw [5, 17] (fun v i wr => (i = .int .i64 0 ∧ v = .slice none 0 0 ∧ wr = w) ∨ (i = .int .i64 1 ∧ ∃ rb rc so sn sc co cn cc, v = .slice (some ⟨rb, 0, none⟩) 1 rc ∧ RunV w er at_ sh cs cost rb wr so sn sc co cn cc)) (fun _ i _ => 1 - (intOf i).toNat)
  case atStart => exact Or.inl ⟨rfl, rfl, rfl⟩
  case round =>
    rcases hrel with ⟨rfl, rfl, rfl⟩ | ⟨rfl, rb, rc, so, sn, sc, co, cn, cc, rfl, hv⟩
    · go_wp2_with (go_at_call 42; refine (unhide HR).mono ?_; rintro e w1 ⟨so, sn, sc, co, cn, cc, rfl, hsh, hcs, hb⟩; have HSH := hide hsh; have HCS := hide hcs; have HB := hide hb; clear hsh hcs hb)
      exact ⟨Or.inr ⟨rfl, _, _, so, sn, sc, co, cn, cc, rfl, runV_mk _ _ (unhide HB) (unhide HSH) (unhide HCS)⟩, by simp [intOf]⟩
    · have HV := hide hv
      clear hv
      go_wp2_with fail
      exact bodyPost_ret (v := .slice (some ⟨rb, 0, none⟩) 1 rc) (by simp [results, Tryz.results33, go_sem]) rfl ⟨rb, rc, so, sn, sc, co, cn, cc, rfl, unhide HV⟩
end Go.Proofs.YtjobgpahajhbnaaGreatDoor
namespace Go.Proofs.YtjobgpahajhbnaaGreatDoor
open Go.RowKit Go.Proofs
attribute [local go_sem ↓] Go.wp_at_zero Go.wp_at_succ

/-- what a line is answered on a desk -/
def Says (D : World → Prop) (db : Nat) (s : ByteArray) (er at_ : Int) (sh cs : List Int) (cost : Int) : Prop :=
  ∀ w, D w → Calls Tryz.prog 42 #[.pointer (some ⟨db, 0, none⟩), .string s] w (RepL w er at_ sh cs cost)
/-- what is held of a desk outlives what is new -/
def Lasts (D : World → Prop) : Prop := ∀ w w', D w → Below w.heap.size w w' → D w'
theorem nums_at {P : Nat → Prop} {w : World} {so : Option Addr} {sn sc : Nat} {xs : List Int} (h : Nums P w (.slice so sn sc) xs) : sn = xs.length ∧ xs.length ≤ sc ∧ (0 < xs.length → ∃ b off, so = some ⟨b, off, none⟩ ∧ b < w.heap.size ∧ ∀ i, (h : i < xs.length) → w.cell? ⟨b, off + i, none⟩ = some (.int .i64 xs[i])) := by
  obtain ⟨ao, cap, hv, hc, h1, _⟩ := h
  injection hv with e1 e2 e3
  subst e1 e2 e3
  exact ⟨rfl, hc, fun h0 => by obtain ⟨b, off, ha, _, hl, hc⟩ := h1 h0; exact ⟨b, off, ha, hl, hc⟩⟩

set_option maxHeartbeats 1000000 in
set_option maxRecDepth 20000 in
theorem one_gen (D : World → Prop) (hkeep : Lasts D) (db : Nat) (s : ByteArray) (sh cs : List Int) (cost : Int) (hs : Says D db s 0 0 sh cs cost) (w : World) (hD : D w) :
    Calls Tryz.prog 29 #[.pointer (some ⟨db, 0, none⟩), .string s] w fun e w' => ∃ so sn sc co cn cc, e = .returned (.tuple #[.agg #[.int .i64 0, .int .i64 0, .slice so sn sc, .slice co cn cc, .int .i64 cost], .bool true]) ∧ Nums (fun b => w.heap.size < b) w' (.slice so sn sc) sh ∧ Nums (fun b => w.heap.size < b) w' (.slice co cn cc) cs ∧ Below w.heap.size w w' := by
  have hw0 : Below w.heap.size w ((w.alloc (.cells #[.int .i64 0, .int .i64 0, .slice none 0 0, .slice none 0 0, .int .i64 0] 47)).alloc (.cells #[.string s] 9)) := ((Below.refl _ _).alloc (Nat.le_refl _) _).alloc (by simp) _
  have HC := hide (run_one _ db (w.heap.size + 1) 1 s 0 0 sh cs cost (by simp) (by simp) (hs _ (hkeep w _ hD hw0)))
  clear hs hD hkeep
  go_enter Tryz.func29, Tryz.ntmps29
  go_wp2_with fail
  refine (unhide HC).mono ?_
  rintro e w1 ⟨rb, rc, so, sn, sc, co, cn, cc, rfl, hv⟩
  have q0 := hv.q0
  have q1 := hv.q1
  have q2 := hv.q2
  have q3 := hv.q3
  have q4 := hv.q4
  have h1 := hv.lo
  have h2 := hv.hi
  simp at h1
  obtain ⟨hc, hfz⟩ := bcell hv.bel
  have d : ∀ i, w1.cell? ⟨w.heap.size, i, none⟩ = (w.alloc (.cells #[.int .i64 0, .int .i64 0, .slice none 0 0, .slice none 0 0, .int .i64 0] 47)).cell? ⟨w.heap.size, i, none⟩ := fun i => by rw [hc w.heap.size i (by simp; omega), World.cell?_alloc_past _ _ _ (by simp)]
  have d0 := (d 0).trans ((World.cell?_alloc_at _ _ _ _ rfl).trans rfl)
  have d1 := (d 1).trans ((World.cell?_alloc_at _ _ _ _ rfl).trans rfl)
  have d2 := (d 2).trans ((World.cell?_alloc_at _ _ _ _ rfl).trans rfl)
  have d3 := (d 3).trans ((World.cell?_alloc_at _ _ _ _ rfl).trans rfl)
  have d4 := (d 4).trans ((World.cell?_alloc_at _ _ _ _ rfl).trans rfl)
  have f : ∀ i, w1.frozen? ⟨w.heap.size, i, none⟩ = false := fun i => by
    rw [hfz w.heap.size i (by simp; omega), World.frozen?_of_block (a := ⟨w.heap.size, i, none⟩) (RowKit.Below.heap_alloc _ _ _ (by simp))]
    exact World.frozen?_alloc_at _ _ _ _ rfl
  have g0 := f 0
  have g1 := f 1
  have g2 := f 2
  have g3 := f 3
  have g4 := f 4
  have HBe : Hid (Below w.heap.size w w1) := hide (hw0.trans (hv.bel.mono (by simp; omega)))
  have n1 : rb ≠ w.heap.size := by omega
  have hno : ¬ (fun b => w.heap.size < b) w.heap.size := by show ¬ w.heap.size < w.heap.size; omega
  have NS := hide (hv.sh.imp (Q := fun b => w.heap.size < b) (fun b h _ => by simp at h; omega))
  have NC := hide (hv.cs.imp (Q := fun b => w.heap.size < b) (fun b h _ => by simp at h; omega))
  clear d f hc hfz hw0 hv HC
  go_wp2_with fail
  go_region
  go_wp2_with fail
  refine bodyPost_ret (v := .tuple #[.agg #[.int .i64 0, .int .i64 0, .slice so sn sc, .slice co cn cc, .int .i64 cost], .bool true]) (by simp [results, Tryz.results29, go_sem, d0, d1, d2, d3, d4]) rfl ⟨so, sn, sc, co, cn, cc, rfl, ?_, ?_, ?_⟩
  · exact (((((((unhide NS).set hno 0 _).set hno 1 _).set hno 2 _).set hno 3 _).set hno 4 _)).below (Below.refl _ _).drew
  · exact (((((((unhide NC).set hno 0 _).set hno 1 _).set hno 2 _).set hno 3 _).set hno 4 _)).below (Below.refl _ _).drew
  · exact ((((((unhide HBe).setCell (p := ⟨w.heap.size, 0, none⟩) (Nat.le_refl _) _).setCell (p := ⟨w.heap.size, 1, none⟩) (Nat.le_refl _) _).setCell (p := ⟨w.heap.size, 2, none⟩) (Nat.le_refl _) _).setCell (p := ⟨w.heap.size, 3, none⟩) (Nat.le_refl _) _).setCell (p := ⟨w.heap.size, 4, none⟩) (Nat.le_refl _) _).drew

set_option maxHeartbeats 1000000 in
set_option maxRecDepth 20000 in
theorem is_gen (D : World → Prop) (hkeep : Lasts D) (db : Nat) (s : ByteArray) (sh cs : List Int) (cost : Int) (hs : Says D db s 0 0 sh cs cost) (w : World) (hD : D w) {Q : Nat → Prop} (vo : Option Addr) (vn vc : Nat) (ko : Option Addr) (kn kc : Nat) (hsh : Nums Q w (.slice vo vn vc) sh) (hcs : Nums Q w (.slice ko kn kc) cs) (hl1 : sh.length ≤ 200) (hl2 : cs.length ≤ 200) :
    Calls Tryz.prog 28 #[.pointer (some ⟨db, 0, none⟩), .string s, .slice vo vn vc, .slice ko kn kc] w fun e w' => e = .returned (.bool true) ∧ Below w.heap.size w w' := by
  have HC := hide (one_gen D hkeep db s sh cs cost hs w hD)
  have HV := hide hsh
  have HK := hide hcs
  obtain ⟨rfl, hvc, _⟩ := nums_at hsh
  obtain ⟨rfl, hkc, _⟩ := nums_at hcs
  clear hs hD hkeep hsh hcs
  go_enter Tryz.func28, Tryz.ntmps28
  go_wp2_with fail
  refine (unhide HC).mono ?_
  rintro e w1 ⟨so, sn, sc, co, cn, cc, rfl, n1, n2, hb1⟩
  obtain ⟨rfl, hsc, _⟩ := nums_at n1
  obtain ⟨rfl, hcc, _⟩ := nums_at n2
  obtain ⟨W2, hW2⟩ : ∃ W2, w1.alloc (.cells #[.int .i64 0, .int .i64 0, .slice so sh.length sc, .slice co cs.length cc, .int .i64 cost] 47) = W2 := ⟨_, rfl⟩
  have hbW : Below w1.heap.size w1 W2 := by rw [← hW2]; exact (Below.refl _ _).alloc (Nat.le_refl _) _
  have z2 : W2.cell? ⟨w1.heap.size, 2, none⟩ = some (.slice so sh.length sc) := by rw [← hW2]; exact (World.cell?_alloc_at _ _ _ _ rfl).trans rfl
  have z3 : W2.cell? ⟨w1.heap.size, 3, none⟩ = some (.slice co cs.length cc) := by rw [← hW2]; exact (World.cell?_alloc_at _ _ _ _ rfl).trans rfl
  have zs : w1.heap.size < W2.heap.size := by rw [← hW2]; simp
  have HBW : Hid (Below w.heap.size w W2) := hide (hb1.trans (hbW.mono hb1.size))
  have N1 := hide (n1.below hbW)
  have N2 := hide (n2.below hbW)
  have M1 := hide (((unhide HV).below hb1).below hbW)
  have M2 := hide (((unhide HK).below hb1).below hbW)
  clear n1 n2 hb1 hbW HC HV HK
  go_wp2_with fail
  try rw [hW2]
  clear hW2
  go_loopw [11] (fun v wr => ∃ k : Nat, v = .int .i64 k ∧ k ≤ sh.length ∧ Below W2.heap.size W2 wr) (fun v _ => sh.length - (intOf v).toNat)
  case atStart => exact ⟨0, rfl, by omega, Below.refl _ _⟩
  case round =>
    obtain ⟨k, rfl, hk, hbe⟩ := hrel
    by_cases hkl : k < sh.length
    · obtain ⟨_, _, hA⟩ := nums_at (unhide N1)
      obtain ⟨_, _, hB⟩ := nums_at (unhide M1)
      obtain ⟨b1, o1, rfl, l1, c1⟩ := hA (by omega)
      obtain ⟨b2, o2, rfl, l2, c2⟩ := hB (by omega)
      have y1 := (hbe.cell (p := ⟨b1, o1 + k, none⟩) l1).trans (c1 k hkl)
      have y2 := (hbe.cell (p := ⟨b2, o2 + k, none⟩) l2).trans (c2 k hkl)
      have y0 := (hbe.cell (p := ⟨w1.heap.size, 2, none⟩) zs).trans z2
      obtain ⟨x, hx⟩ : ∃ x, sh[k] = x := ⟨_, rfl⟩
      rw [hx] at y1 y2
      have HBe := hide hbe
      have hk0 : (0 : Int) ≤ (k : Int) := by omega
      have hk1 : (k : Int) < (sh.length : Int) := by omega
      clear hA hB c1 c2 hbe hx
      go_wp2_with fail
      go_region
      go_wp2_with fail
      go_roundw
      case rel => exact ⟨k + 1, by go_num, by omega, (unhide HBe).drew⟩
      case measure => simp [intOf]; omega
    · have hke : k = sh.length := by omega
      subst hke
      have HBe := hide hbe
      clear hbe
      go_wp2_with fail
      go_loopw [12] (fun v wx => ∃ k : Nat, v = .int .i64 k ∧ k ≤ cs.length ∧ Below W2.heap.size W2 wx) (fun v _ => cs.length - (intOf v).toNat)
      case atStart => exact ⟨0, rfl, by omega, unhide HBe⟩
      case round =>
        obtain ⟨k, rfl, hk, hbe⟩ := hrel
        by_cases hkl : k < cs.length
        · obtain ⟨_, _, hA⟩ := nums_at (unhide N2)
          obtain ⟨_, _, hB⟩ := nums_at (unhide M2)
          obtain ⟨b1, o1, rfl, l1, c1⟩ := hA (by omega)
          obtain ⟨b2, o2, rfl, l2, c2⟩ := hB (by omega)
          have y1 := (hbe.cell (p := ⟨b1, o1 + k, none⟩) l1).trans (c1 k hkl)
          have y2 := (hbe.cell (p := ⟨b2, o2 + k, none⟩) l2).trans (c2 k hkl)
          have y0 := (hbe.cell (p := ⟨w1.heap.size, 3, none⟩) zs).trans z3
          obtain ⟨x, hx⟩ : ∃ x, cs[k] = x := ⟨_, rfl⟩
          rw [hx] at y1 y2
          have HBe2 := hide hbe
          have hk0 : (0 : Int) ≤ (k : Int) := by omega
          have hk1 : (k : Int) < (cs.length : Int) := by omega
          clear hA hB c1 c2 hbe hx
          go_wp2_with fail
          go_region
          go_wp2_with fail
          go_roundw
          case rel => exact ⟨k + 1, by go_num, by omega, (unhide HBe2).drew⟩
          case measure => simp [intOf]; omega
        · have hke : k = cs.length := by omega
          subst hke
          have HBe2 := hide hbe
          clear hbe
          go_wp2_with fail
          exact bodyPost_ret (v := .bool true) (by simp [results, Tryz.results28, go_sem]) rfl ⟨rfl, (unhide HBW).trans ((unhide HBe2).mono (unhide HBW).size)⟩
end Go.Proofs.YtjobgpahajhbnaaGreatDoor
namespace Go.Proofs.YtjobgpahajhbnaaGreatDoor
open Go.RowKit Go.Proofs Go.Maps
attribute [local go_sem ↓] Go.wp_at_zero Go.wp_at_succ

/-- all is kept but blocks of which S holds -/
structure Bs (S : Nat → Prop) (w w' : World) : Prop where
  os : w'.os = w.os
  tape : w'.tape = w.tape
  output : w'.output = w.output
  size : w.heap.size ≤ w'.heap.size
  block : ∀ k, k < w.heap.size → ¬ S k → w'.heap[k]? = w.heap[k]?
theorem Bs.of {S : Nat → Prop} {w w' : World} (h : Below w.heap.size w w') : Bs S w w' := ⟨h.os, h.tape, h.output, h.size, fun k hk _ => h.block k hk⟩
theorem Bs.trans {S S' : Nat → Prop} {w w1 w2 : World} (h : Bs S w w1) (h' : Bs S' w1 w2) (hs : ∀ k, k < w.heap.size → S' k → S k) : Bs S w w2 :=
  ⟨h'.os.trans h.os, h'.tape.trans h.tape, h'.output.trans h.output, Nat.le_trans h.size h'.size, fun k hk hn => (h'.block k (Nat.lt_of_lt_of_le hk h.size) (fun hs' => hn (hs k hk hs'))).trans (h.block k hk hn)⟩
theorem Bs.cell {S : Nat → Prop} {w w' : World} (h : Bs S w w') {b o : Nat} (hb : b < w.heap.size) (hn : ¬ S b) : w'.cell? ⟨b, o, none⟩ = w.cell? ⟨b, o, none⟩ := World.cell?_of_block (h.block b hb hn)
theorem Bs.frozen {S : Nat → Prop} {w w' : World} (h : Bs S w w') {b o : Nat} (hb : b < w.heap.size) (hn : ¬ S b) : w'.frozen? ⟨b, o, none⟩ = w.frozen? ⟨b, o, none⟩ := World.frozen?_of_block (a := ⟨b, o, none⟩) (h.block b hb hn)
def keyT (t : ByteArray) : Lit := .string t.data.toList
theorem key_of {t : ByteArray} (ht : t.size ≤ 200) : keyOf Tryz.prog 9 (.string t) = some (keyT t) := Go.WideMaps.keyOf_string_mk Tryz.underlying9 (by unfold maxLen; omega)
theorem keyT_inj {t u : ByteArray} (h : keyT t = keyT u) : t = u := by
  unfold keyT at h
  injection h with h
  exact ba_ext h
/-- what is held of a map of names -/
def Holds (D : DataW Value) (P : Nat → Prop) (W : World) (env : ByteArray → Option Arr) : Prop :=
  IsMap D ∧ ∀ t : ByteArray, match env t with
    | none => Maps.has D (keyT t) = false
    | some a => ∃ v, Maps.has D (keyT t) = true ∧ (∀ z, D.atKey (keyT t) z = .held v) ∧ IsArr P W v a
theorem owns_later {W w : World} {mb n : Nat} {D : DataW Value} (h : W.ownsMap Tryz.prog 9 selfE mb n D) (hb : Below W.heap.size W w) : w.ownsMap Tryz.prog 9 selfE mb n D := by
  obtain ⟨es, clock, h1, r⟩ := h
  refine ⟨es, clock, (hb.block mb ?_).trans h1, r⟩
  exact (Array.getElem?_eq_some_iff.1 h1).1
theorem look_of {P : Nat → Prop} {W : World} {mb n : Nat} {D : DataW Value} {env : ByteArray → Option Arr} (hO : W.ownsMap Tryz.prog 9 selfE mb n D) (hH : Holds D P W env) : Look P W (.map (some mb)) env := by
  intro t ht
  have h := hH.2 t
  cases he : env t with
  | none =>
    rw [he] at h
    refine ⟨zArr, fun w hw => ?_, rfl⟩
    exact look_self Tryz.underlying87 (Tryz.zero89 w) (owns_later hO hw) (key_of ht) h (atKey_of_not_has h _)
  | some a =>
    rw [he] at h
    obtain ⟨v, h1, h2, h3⟩ := h
    exact ⟨v, fun w hw => look_self Tryz.underlying87 (Tryz.zero89 w) (owns_later hO hw) (key_of ht) h1 (h2 _), h3⟩
/-- a name more, or made anew -/
def upd (env : ByteArray → Option Arr) (nm : ByteArray) (a : Arr) : ByteArray → Option Arr := fun t => if t = nm then some a else env t
theorem Holds.put {D : DataW Value} {P P' : Nat → Prop} {W W' : World} {env : ByteArray → Option Arr} (h : Holds D P W env) (nm : ByteArray) (hk : WideAt.IsKeyLit (keyT nm)) {v : Value} {a : Arr} (hv : IsArr P' W' v a) (hold : ∀ u b, IsArr P W u b → IsArr P' W' u b) : Holds (D.put (keyT nm) (.held v)) P' W' (upd env nm a) := by
  refine ⟨h.1.put _ _, fun t => ?_⟩
  unfold upd
  by_cases e : t = nm
  · subst e
    rw [if_pos rfl]
    exact ⟨v, has_put_same h.1 hk _, fun z => atKey_put_same h.1 hk _ _, hv⟩
  · rw [if_neg e]
    have hne : keyT t ≠ keyT nm := fun h => e (keyT_inj h)
    have ho := h.2 t
    cases he : env t with
    | none => rw [he] at ho; exact (has_put_other hne _).trans ho
    | some b =>
      rw [he] at ho
      obtain ⟨u, h1, h2, h3⟩ := ho
      exact ⟨u, (has_put_other hne _).trans h1, fun z => (atKey_put_other hne _ _).trans (h2 z), hold _ _ h3⟩
set_option maxHeartbeats 400000 in
theorem clone_any (s : ByteArray) (w : World) (hlim : s.size ≤ 200) : Calls Tryz.prog 78 #[.string s] w fun e w' => e = .returned (.string s) ∧ Below w.heap.size w w' := by
  have HC := hide (Tryz.stringslite_Clone s w (by omega))
  clear hlim
  go_enter Tryz.func78, Tryz.ntmps78
  go_wp2_with (go_at_call 112; refine (unhide HC).mono ?_; rintro e w' ⟨rfl, hb⟩; have HB := hide hb; clear hb)
  exact bodyPost_ret (v := .string s) (by simp [results, Tryz.results78, go_sem]) rfl ⟨rfl, unhide HB⟩
end Go.Proofs.YtjobgpahajhbnaaGreatDoor
