import Derived.Test.YtjobgpahajhbnaaGreatDoorSi
namespace Go.Proofs.YtjobgpahajhbnaaGreatDoor
open Go.RowKit

theorem kB_same {T : List (Int × Int)} {j : Nat} {a b : Int} (h : kB T j a = true) (h' : kB T j b = true) : a = b := by
  obtain ⟨hj, e⟩ := kB_lt h
  obtain ⟨_, e'⟩ := kB_lt h'
  rw [← e, ← e']
theorem PX.uniq {S : List Tok} {b : Bool} {j o : Nat} {x : Ex} {k : Nat} (h : PX S b j o x k) : ∀ {x' : Ex} {k' : Nat}, PX S b j o x' k' → x = x' ∧ k = k' := by
  induction h with
  | nums j o k h1 h2 h3 h4 =>
    intro x' k' h'
    cases h' with
    | nums _ _ k2 g1 g2 g3 g4 =>
      have : k = k' := by
        rcases Nat.lt_trichotomy k k' with h | h | h
        · rw [g3 k (by omega) h] at h4; cases h4
        · exact h
        · rw [h3 k' (by omega) h] at g4; cases g4
      subst this
      exact ⟨rfl, rfl⟩
    | name _ _ g1 => exact absurd (kB_same (h3 j (Nat.le_refl _) h1) g1) (by decide)
    | paren _ _ e k2 g1 g2 g3 g4 => exact absurd (kB_same (h3 j (Nat.le_refl _) h1) g1) (by decide)
  | name j o h1 =>
    intro x' k' h'
    cases h' with
    | nums _ _ k2 g1 g2 g3 g4 => exact absurd (kB_same (g3 j (Nat.le_refl _) g1) h1) (by decide)
    | name _ _ g1 => exact ⟨rfl, rfl⟩
    | paren _ _ e k2 g1 g2 g3 g4 => exact absurd (kB_same h1 g1) (by decide)
  | paren j o e k h1 h2 h3 h4 ih =>
    intro x' k' h'
    cases h' with
    | nums _ _ k2 g1 g2 g3 g4 => exact absurd (kB_same (g3 j (Nat.le_refl _) g1) h1) (by decide)
    | name _ _ g1 => exact absurd (kB_same h1 g1) (by decide)
    | paren _ _ e k2 g1 g2 g3 g4 =>
      obtain ⟨r1, r2⟩ := ih g3
      exact ⟨r1, by omega⟩
  | one j o r k h1 h2 ih =>
    intro x' k' h'
    cases h' with
    | one _ _ r2 k2 g1 g2 =>
      obtain ⟨r1, r2⟩ := ih g2
      exact ⟨by rw [r1], r2⟩
    | only _ _ l k2 g1 g2 g3 => rw [h1] at g1; cases g1
    | two _ _ l k2 r2 m g1 g2 g3 g4 => rw [h1] at g1; cases g1
  | only j o l k h1 h2 h3 ih =>
    intro x' k' h'
    cases h' with
    | one _ _ r2 k2 g1 g2 => rw [h1] at g1; cases g1
    | only _ _ l k2 g1 g2 g3 => exact ih g2
    | two _ _ l k2 r2 m g1 g2 g3 g4 =>
      obtain ⟨_, e⟩ := ih g2
      subst e
      rw [h3] at g3; cases g3
  | two j o l k r m h1 h2 h3 h4 ih1 ih2 =>
    intro x' k' h'
    cases h' with
    | one _ _ r2 k2 g1 g2 => rw [h1] at g1; cases g1
    | only _ _ l k2 g1 g2 g3 =>
      obtain ⟨_, e⟩ := ih1 g2
      subst e
      rw [h3] at g3; cases g3
    | two _ _ l k2 r2 m g1 g2 g3 g4 =>
      obtain ⟨e1, e⟩ := ih1 g2
      subst e
      obtain ⟨e2, e3⟩ := ih2 g4
      exact ⟨by rw [e1, e2], e3⟩
theorem PX.scan {S : List Tok} {b : Bool} {j o : Nat} {x : Ex} {k : Nat} (h : PX S b j o x k) (hw : Wf (kr S)) : j < k ∧ k ≤ S.length ∧ ∃ st, (st = 1 ∨ st = 2) ∧ sc (kr S) j 0 o = sc (kr S) k st o := by
  induction h with
  | nums j o k h1 h2 h3 h4 =>
    refine ⟨h1, h2, 1, Or.inl rfl, ?_⟩
    obtain ⟨n, rfl⟩ : ∃ n, k = j + (n + 1) := ⟨k - j - 1, by omega⟩
    exact sc_nums o n j h3
  | name j o h1 =>
    obtain ⟨a, b⟩ := sc_name (op := o) h1
    rw [kr_len] at a
    exact ⟨Nat.lt_succ_self _, a, 2, Or.inr rfl, b⟩
  | paren j o e k h1 h2 h3 h4 ih =>
    obtain ⟨i1, i2, st, hst, e1⟩ := ih
    obtain ⟨a, b⟩ := sc_open (op := o) h1 h2
    obtain ⟨c, d⟩ := sc_close (op := o) (st := st) (by omega) h4
    rw [kr_len] at c
    exact ⟨by omega, c, 2, Or.inr rfl, by rw [b, e1, d]⟩
  | one j o r k h1 h2 ih =>
    obtain ⟨i1, i2, st, hst, e1⟩ := ih
    obtain ⟨a, b⟩ := sc_ahead (op := o) hw h1
    exact ⟨by omega, i2, st, hst, by rw [b, e1]⟩
  | only j o l k h1 h2 h3 ih => exact ih
  | two j o l k r m h1 h2 h3 h4 ih1 ih2 =>
    obtain ⟨i1, i2, st, hst, e1⟩ := ih1
    obtain ⟨j1, j2, st2, hst2, e2⟩ := ih2
    obtain ⟨a, b⟩ := sc_between (op := o) (st := st) hw (by omega) h3
    exact ⟨by omega, j2, st2, hst2, by rw [e1, b, e2]⟩
/-- a text with a tree may be -/
theorem parse_tree {s : ByteArray} {A : List (Nat × Nat)} {x : Ex} (hs : s.size ≤ 200) (hl : lexR s = (A, -1)) (hx : PX (toks s A) false (beg (tks s A)) 0 x A.length) : parseP s = (0, 0) ∧ TreeOf s x := by
  have ht : TreeOf s x := by unfold TreeOf; rw [hl]; exact hx
  refine ⟨?_, ht⟩
  obtain ⟨_, _, st, hst, e⟩ := hx.scan (by rw [kr_toks]; exact wf_tks s A)
  rw [kr_toks] at e
  have e2 : sc (tks s A) A.length st 0 = (A.length, st, 0) := sc_end (by rw [tks_len]; exact Nat.le_refl _)
  unfold parseP
  rw [if_neg (by omega), hl, if_pos rfl]
  simp only []
  rw [e, e2]
  unfold pFin
  rw [if_pos ⟨rfl, by simp only []; omega, rfl⟩]
theorem tree_uniq {s : ByteArray} {x y : Ex} (h : TreeOf s x) (h' : TreeOf s y) : x = y := (PX.uniq h h').1

/-- the tokens of a list of bytes, from place p on -/
inductive LX : Nat → List UInt8 → List (Nat × Nat) → Prop where
  | done (p : Nat) : LX p [] []
  | blank (p : Nat) (l : List UInt8) (A : List (Nat × Nat)) : LX (p + 1) l A → LX p (32 :: l) A
  | tok (p n : Nat) (c : UInt8) (l : List UInt8) (A : List (Nat × Nat)) : c ≠ 32 → tl (c :: l) = some n → LX (p + n) ((c :: l).drop n) A → LX p (c :: l) ((p, p + n) :: A)
theorem lx_lex {s : ByteArray} {p : Nat} {l : List UInt8} {A : List (Nat × Nat)} (h : LX p l A) : ∀ (f : Nat) (B : List (Nat × Nat)), s.data.toList.drop p = l → p ≤ s.size → s.size - p ≤ f → lexS s f p B = (B ++ A, -1) := by
  have hsz : s.data.toList.length = s.size := rfl
  induction h with
  | done p =>
    intro f B hd hp hf
    have : s.size ≤ p := by have := congrArg List.length hd; simp [hsz] at this; omega
    rw [lex_end s f p B this]; simp
  | blank p l A hl ih =>
    intro f B hd hp hf
    have hp2 : p < s.size := by have := congrArg List.length hd; simp [hsz] at this; omega
    rw [drop_cons s p hp2] at hd
    injection hd with h1 h2
    obtain ⟨f, rfl⟩ : ∃ g, f = g + 1 := ⟨f - 1, by omega⟩
    rw [lex_blank s f p B hp2 (by rw [h1]; rfl)]
    exact ih f B h2 hp2 (by omega)
  | tok p n c l A hc ht hl ih =>
    intro f B hd hp hf
    have hp2 : p < s.size := by have := congrArg List.length hd; simp [hsz] at this; omega
    have hd' := hd
    rw [drop_cons s p hp2] at hd
    injection hd with h1 h2
    obtain ⟨f, rfl⟩ : ∃ g, f = g + 1 := ⟨f - 1, by omega⟩
    have hb := tl_bd ht
    have hlen : p + n ≤ s.size := by
      have := congrArg List.length hd'
      have h3 := hb.2
      rw [← this, len_drop] at h3
      omega
    have hne : ((s[p].toNat : Int) == 32) = false := by
      rw [h1]
      refine beq_eq_false_iff_ne.2 (fun e => hc ?_)
      have h32 : c.toNat = (32 : UInt8).toNat := by
        have : (32 : UInt8).toNat = 32 := rfl
        omega
      exact UInt8.toNat_inj.1 h32
    rw [lex_tok s f p n B hp2 hne (by rw [hd']; exact ht)]
    rw [ih f (B ++ [(p, p + n)]) (by rw [← hd', List.drop_drop]) hlen (by omega)]
    simp
theorem lx_lexR {s : ByteArray} {A : List (Nat × Nat)} (h : LX 0 s.data.toList A) : lexR s = (A, -1) := by
  unfold lexR
  rw [lx_lex h s.size [] (by simp) (by omega) (by omega)]
  simp
end Go.Proofs.YtjobgpahajhbnaaGreatDoor
namespace Go.Proofs.YtjobgpahajhbnaaGreatDoor
open Go.RowKit

/-- the tokens of l, where r comes behind it -/
inductive LY : Nat → List UInt8 → List UInt8 → List (Nat × Nat) → Prop where
  | done (p : Nat) (r : List UInt8) : LY p [] r []
  | blank (p : Nat) (l r : List UInt8) (A : List (Nat × Nat)) : LY (p + 1) l r A → LY p (32 :: l) r A
  | tok (p n : Nat) (c : UInt8) (l r : List UInt8) (A : List (Nat × Nat)) : c ≠ 32 → tl (c :: (l ++ r)) = some n → n ≤ l.length + 1 → LY (p + n) ((c :: l).drop n) r A → LY p (c :: l) r ((p, p + n) :: A)
theorem LY.append {p : Nat} {l r' : List UInt8} {A : List (Nat × Nat)} (h : LY p l r' A) : ∀ {l2 r : List UInt8} {B : List (Nat × Nat)}, r' = l2 ++ r → LY (p + l.length) l2 r B → LY p (l ++ l2) r (A ++ B) := by
  induction h with
  | done p r' => intro l2 r B _ h2; simpa using h2
  | blank p l r' A h ih =>
    intro l2 r B e h2
    exact LY.blank _ _ _ _ (ih e (by simpa [Nat.add_assoc, Nat.add_comm 1] using h2))
  | tok p n c l r' A hc ht hn h ih =>
    intro l2 r B e h2
    subst e
    have hn' : n ≤ (c :: l).length := by simpa using hn
    refine LY.tok p n c (l ++ l2) r (A ++ B) hc (by rw [List.append_assoc]; exact ht) (by simp; omega) ?_
    have e1 : List.drop n (c :: (l ++ l2)) = List.drop n (c :: l) ++ l2 := by
      rw [← List.cons_append, List.drop_append_of_le_length hn']
    rw [e1]
    refine ih rfl ?_
    have e2 : p + n + (List.drop n (c :: l)).length = p + (c :: l).length := by simp; omega
    rw [e2]
    exact h2
theorem LY.whole {p : Nat} {l r : List UInt8} {A : List (Nat × Nat)} (h : LY p l r A) : r = [] → LX p l A := by
  induction h with
  | done p r => intro _; exact LX.done p
  | blank p l r A h ih => intro e; exact LX.blank _ _ _ (ih e)
  | tok p n c l r A hc ht hn h ih =>
    intro e
    subst e
    exact LX.tok p n c l A hc (by simpa using ht) (ih rfl)
theorem LY.blanks (p : Nat) (r : List UInt8) : ∀ k : Nat, LY p (List.replicate k 32) r [] := by
  intro k
  induction k generalizing p with
  | zero => exact LY.done p r
  | succ k ih => exact LY.blank _ _ _ _ (ih (p + 1))
/-- one token -/
theorem LY.one {p : Nat} {c : UInt8} {l r : List UInt8} (hc : c ≠ 32) (ht : tl (c :: (l ++ r)) = some (l.length + 1)) : LY p (c :: l) r [(p, p + (l.length + 1))] :=
  LY.tok p (l.length + 1) c l r [] hc ht (Nat.le_refl _) (by rw [List.drop_eq_nil_of_le (by simp)]; exact LY.done _ _)

/-- a number as it is written -/
inductive Nm : Int → List UInt8 → Prop where
  | pos (D : List UInt8) : D.all dU = true → 1 ≤ D.length → D.length ≤ 19 → val D ≤ 9223372036854775807 → Nm (val D : Int) D
  | neg (D : List UInt8) : D.all dU = true → 1 ≤ D.length → D.length ≤ 19 → val D ≤ 9223372036854775807 → Nm (-(val D : Int)) (95 :: D)
/-- what may come behind a number -/
def Stop (r : List UInt8) : Prop := ∀ c, r.head? = some c → dU c = false
theorem tw_dig {D r : List UInt8} (h : D.all dU = true) (hr : Stop r) : (D ++ r).takeWhile dU = D := by
  have h1 := tw_stop (l := D ++ r) (j := D.length) (p := dU) (by simpa using h) (by intro c hc; rw [List.getElem?_append_right (Nat.le_refl _)] at hc; simp at hc; exact hr c (by rw [List.head?_eq_getElem?]; exact hc))
  rw [h1]; simp
theorem numE_dig {D r : List UInt8} (k : Nat) (h : D.all dU = true) (h1 : 1 ≤ D.length) (h2 : D.length ≤ 19) (h3 : val D ≤ 9223372036854775807) (hr : Stop r) : numE k (D ++ r) = some (k + D.length) := by
  unfold numE
  simp only [tw_dig h hr]
  rw [if_neg (by omega)]
theorem dU_facts {c : UInt8} (h : dU c = true) : c ≠ 32 := by
  rintro rfl
  exact absurd h (by decide)
theorem nm_ly {n : Int} {t r : List UInt8} (h : Nm n t) (hr : Stop r) (p : Nat) : LY p t r [(p, p + t.length)] := by
  cases h with
  | pos _ a b c d =>
    match t, a, b, c, d with
    | x :: D, a, b, c, d =>
      have hx : dU x = true := by simp at a; exact a.1
      refine LY.one (dU_facts hx) ?_
      have := numE_dig 0 a b c d hr
      simp only [tl, hx, cond_true]
      rw [← List.cons_append, this]
      simp
  | neg D a b c d =>
    refine LY.one (by decide) ?_
    have h5 : dU 95 = false := by decide
    simp only [tl, h5, cond_false, beq_self_eq_true, cond_true]
    rw [numE_dig 1 a b c d hr, Nat.add_comm]
theorem ba_ext {a b : ByteArray} (h : a.data.toList = b.data.toList) : a = b := by
  cases a; cases b
  simp at h
  rw [h]
theorem nm_tok {n : Int} {t : List UInt8} (h : Nm n t) : kindT ⟨t.toArray⟩ = 0 ∧ roleT ⟨t.toArray⟩ = 0 ∧ worthT ⟨t.toArray⟩ = n := by
  cases h with
  | pos _ a b c d =>
    match t, a, b, c, d with
    | x :: D, a, b, c, d =>
      have hx : dU x = true := by simp at a; exact a.1
      have hd1 : hd ⟨(x :: D).toArray⟩ = (x.toNat : Int) := rfl
      have hb : digB (x.toNat : Int) = true := hx
      obtain ⟨f1, f2, f3⟩ := dig_facts _ hb
      refine ⟨?_, ?_, ?_⟩
      · simp only [kindT, hd1, f1, f2, f3, hb, cond_false, Bool.false_or, cond_true]
      · simp only [roleT, hd1, f1, f2, f3, hb, cond_false, Bool.false_or, cond_true]
      · simp only [worthT, hd1, f3, hb, cond_false, cond_true]
  | neg D a b c d =>
    have hd1 : hd ⟨(95 :: D).toArray⟩ = 95 := rfl
    refine ⟨?_, ?_, ?_⟩
    · simp [kindT, hd1]
    · simp [roleT, hd1]
    · simp [worthT, hd1]
end Go.Proofs.YtjobgpahajhbnaaGreatDoor
namespace Go.Proofs.YtjobgpahajhbnaaGreatDoor
open Go.RowKit

/-- numbers, brackets, and SIGNs between -/
inductive Gr where
  | lit (n : Int)
  | br (g : Gr)
  | two (sg : UInt8) (l r : Gr)
def Gr.deep : Gr → Nat
  | .lit _ => 0
  | .br g => g.deep + 1
  | .two _ l r => max l.deep r.deep
/-- a text of it, with blanks or without round a SIGN; true: it is a THING -/
inductive Tx : Bool → Gr → List UInt8 → Prop where
  | lit (n : Int) (t : List UInt8) : Nm n t → Tx true (.lit n) t
  | br (g : Gr) (t : List UInt8) : Tx false g t → Tx true (.br g) (40 :: (t ++ [41]))
  | only (g : Gr) (t : List UInt8) : Tx true g t → Tx false g t
  | two (sg : UInt8) (l r : Gr) (a b : List UInt8) (i k : Nat) : gU sg = true → Tx true l a → Tx false r b → Tx false (.two sg l r) (a ++ (List.replicate i 32 ++ (sg :: (List.replicate k 32 ++ b))))
/-- a tree of it -/
def IsG : Gr → Ex → Prop
  | .lit n, .num ws => ws = [n]
  | .br g, x => IsG g x
  | .two sg l r, .two t _ a b => t = ⟨#[sg]⟩ ∧ IsG l a ∧ IsG r b
  | _, _ => False
theorem kB_tok {s : ByteArray} {L : List (Nat × Nat)} {i a b : Nat} (h : L[i]? = some (a, b)) (k : Int) : kB (kr (toks s L)) i k = (kindT (s.extract a b) == k) := by
  unfold kB
  rw [kr_toks]
  simp [tks, h]
theorem fB_tok {s : ByteArray} {L : List (Nat × Nat)} {i a b : Nat} (h : L[i]? = some (a, b)) (k : Int) : fB (kr (toks s L)) i k = roleB (roleT (s.extract a b)) k := by
  unfold fB
  rw [kr_toks]
  simp [tks, h]
theorem tokAt_tok {s : ByteArray} {L : List (Nat × Nat)} {i a b : Nat} (h : L[i]? = some (a, b)) : tokAt (toks s L) i = ⟨kindT (s.extract a b), roleT (s.extract a b), worthT (s.extract a b), s.extract a b, a⟩ := by
  unfold tokAt toks
  simp [List.getD_eq_getElem?_getD, h]
theorem ext_mid {s : ByteArray} {q t r : List UInt8} {p : Nat} (h : s.data.toList = q ++ (t ++ r)) (hq : q.length = p) : s.extract p (p + t.length) = ⟨t.toArray⟩ := by
  apply ba_ext
  rw [ext_list, h, ← hq]
  simp
theorem at_pre {pre post : List (Nat × Nat)} {z : Nat × Nat} : (pre ++ (z :: post))[pre.length]? = some z := by
  rw [List.getElem?_append_right (Nat.le_refl _)]; simp
theorem sg_facts {sg : UInt8} (h : gU sg = true) : sg ≠ 32 ∧ dU sg = false ∧ (sg == 95) = false ∧ lU sg = false ∧ (sg == 40 || sg == 41) = false := by
  have hm := (sgn_mem sg).1 h
  simp at hm
  rcases hm with rfl | rfl | rfl | rfl | rfl | rfl | rfl | rfl | rfl <;> decide
theorem sg_tok {sg : UInt8} (h : gU sg = true) : kindT ⟨#[sg]⟩ = 3 ∧ roleB (roleT ⟨#[sg]⟩) 2 = true := by
  have hm := (sgn_mem sg).1 h
  simp at hm
  rcases hm with rfl | rfl | rfl | rfl | rfl | rfl | rfl | rfl | rfl <;> decide
theorem br_tok : kindT ⟨#[40]⟩ = 4 ∧ roleT ⟨#[40]⟩ = 0 ∧ kindT ⟨#[41]⟩ = 5 ∧ roleT ⟨#[41]⟩ = 0 := by decide
theorem tl_sign {sg : UInt8} {r : List UInt8} (h : gU sg = true) (hr : ∀ c, r.head? = some c → tailU c = false) : tl (sg :: r) = some 1 := by
  obtain ⟨_, a, b, c, d⟩ := sg_facts h
  simp only [tl, a, b, c, d, h, cond_false, cond_true]
  congr 1
  match r, hr with
  | [], _ => rfl
  | x :: r, hr => simp only [sgnE]; rw [if_neg]; rw [hr x rfl]; decide
theorem tx_head {b : Bool} {g : Gr} {t : List UInt8} (h : Tx b g t) : ∃ c l, t = c :: l ∧ tailU c = false := by
  induction h with
  | lit n t hn =>
    cases hn with
    | pos _ a b c d =>
      match t, a, b, c, d with
      | x :: D, a, b, c, d =>
        have hx : dU x = true := by simp at a; exact a.1
        refine ⟨x, D, rfl, ?_⟩
        cases ht : tailU x
        · rfl
        · have := (tail_mem x).1 ht
          simp at this
          rcases this with rfl | rfl | rfl <;> exact absurd hx (by decide)
    | neg D a b c d => exact ⟨95, D, rfl, by decide⟩
  | br g t h ih => exact ⟨40, t ++ [41], rfl, by decide⟩
  | only g t h ih => exact ih
  | two sg l r a b i k hg h1 h2 ih1 ih2 =>
    obtain ⟨c, m, e, hc⟩ := ih1
    subst e
    exact ⟨c, _, rfl, hc⟩
theorem head_blanks {k : Nat} {r : List UInt8} {p : UInt8 → Bool} (h32 : p 32 = false) (hr : ∀ c, r.head? = some c → p c = false) : ∀ c, (List.replicate k (32 : UInt8) ++ r).head? = some c → p c = false := by
  intro c hc
  match k, hc with
  | 0, hc => exact hr c (by simpa using hc)
  | k + 1, hc => simp [List.replicate_succ] at hc; rw [← hc]; exact h32
end Go.Proofs.YtjobgpahajhbnaaGreatDoor
namespace Go.Proofs.YtjobgpahajhbnaaGreatDoor
open Go.RowKit

/-- the tokens A of a text t at place p give a tree of g, wherever they stand -/
def Gives (b : Bool) (g : Gr) (t : List UInt8) (p : Nat) (r : List UInt8) (A : List (Nat × Nat)) : Prop :=
  ∀ (s : ByteArray) (q : List UInt8), s.data.toList = q ++ (t ++ r) → q.length = p → ∀ (pre post : List (Nat × Nat)) (o : Nat), g.deep + o ≤ 8 →
    kB (kr (toks s (pre ++ (A ++ post)))) (pre.length + A.length) 0 = false → (b = false → fB (kr (toks s (pre ++ (A ++ post)))) (pre.length + A.length) 2 = false) →
    fB (kr (toks s (pre ++ (A ++ post)))) pre.length 1 = false ∧ kB (kr (toks s (pre ++ (A ++ post)))) pre.length 1 = false ∧ ∃ x, PX (toks s (pre ++ (A ++ post))) b pre.length o x (pre.length + A.length) ∧ IsG g x
set_option maxHeartbeats 1000000 in
theorem tx_gives {b : Bool} {g : Gr} {t : List UInt8} (h : Tx b g t) : ∀ (p : Nat) (r : List UInt8), (b = true → Stop r) → (b = false → r = [] ∨ ∃ r', r = 41 :: r') → ∃ A, LY p t r A ∧ Gives b g t p r A := by
  induction h with
  | lit n t hn =>
    intro p r hr _
    refine ⟨[(p, p + t.length)], nm_ly hn (hr rfl) p, ?_⟩
    intro s q hs hq pre post o hd hk _
    have hL : (pre ++ ([(p, p + t.length)] ++ post))[pre.length]? = some (p, p + t.length) := at_pre
    have ht := ext_mid hs hq
    obtain ⟨k1, k2, k3⟩ := nm_tok hn
    refine ⟨by rw [fB_tok hL, ht, k2]; decide, by rw [kB_tok hL, ht, k1]; decide, _, PX.nums pre.length o (pre.length + 1) (Nat.lt_succ_self _) (by rw [toks_len]; simp) ?_ hk, ?_⟩
    · intro i h1 h2
      have : i = pre.length := by omega
      subst this
      rw [kB_tok hL, ht, k1]; rfl
    · rw [worths_one _ _ (by rw [toks_len]; simp), tokAt_tok hL, ht, k3]
      rfl
  | br g t h ih =>
    intro p r hr _
    obtain ⟨A, hA, hG⟩ := ih (p + 1) ([41] ++ r) (fun h => by cases h) (fun _ => Or.inr ⟨r, rfl⟩)
    refine ⟨(p, p + 1) :: (A ++ [(p + 1 + t.length, p + 1 + t.length + 1)]), ?_, ?_⟩
    · refine LY.tok p 1 40 (t ++ [41]) r _ (by decide) rfl (by omega) ?_
      refine hA.append rfl ?_
      exact LY.one (l := []) (by decide) rfl
    · intro s q hs hq pre post o hd hk _
      simp only [Gr.deep] at hd
      have hs1 : s.data.toList = q ++ ([40] ++ ((t ++ [41]) ++ r)) := by rw [hs]; simp
      have hs2 : s.data.toList = (q ++ [40]) ++ (t ++ ([41] ++ r)) := by rw [hs]; simp
      have hs3 : s.data.toList = (q ++ [40] ++ t) ++ ([41] ++ r) := by rw [hs]; simp
      have t1 : s.extract p (p + 1) = ⟨#[40]⟩ := ext_mid (t := [40]) hs1 hq
      have t2 : s.extract (p + 1 + t.length) (p + 1 + t.length + 1) = ⟨#[41]⟩ := ext_mid (t := [41]) hs3 (by simp [hq]; omega)
      obtain ⟨b1, b2, b3, b4⟩ := br_tok
      have eL : pre ++ ((p, p + 1) :: (A ++ [(p + 1 + t.length, p + 1 + t.length + 1)]) ++ post) = (pre ++ [(p, p + 1)]) ++ (A ++ ((p + 1 + t.length, p + 1 + t.length + 1) :: post)) := by simp
      have hL1 : (pre ++ ((p, p + 1) :: (A ++ [(p + 1 + t.length, p + 1 + t.length + 1)]) ++ post))[pre.length]? = some (p, p + 1) := at_pre
      have hL2 : ((pre ++ [(p, p + 1)]) ++ (A ++ ((p + 1 + t.length, p + 1 + t.length + 1) :: post)))[(pre ++ [(p, p + 1)]).length + A.length]? = some (p + 1 + t.length, p + 1 + t.length + 1) := by
        rw [← List.append_assoc, ← List.length_append]; exact at_pre
      have g1 := hG s (q ++ [40]) hs2 (by simp [hq]) (pre ++ [(p, p + 1)]) ((p + 1 + t.length, p + 1 + t.length + 1) :: post) (o + 1) (by omega) (by rw [kB_tok hL2, t2, b3]; rfl) (fun _ => by rw [fB_tok hL2, t2, b4]; decide)
      obtain ⟨_, _, x, hx, hi⟩ := g1
      have e5 : kB (kr (toks s ((pre ++ [(p, p + 1)]) ++ (A ++ ((p + 1 + t.length, p + 1 + t.length + 1) :: post))))) ((pre ++ [(p, p + 1)]).length + A.length) 5 = true := by rw [kB_tok hL2, t2, b3]; rfl
      rw [← eL] at hx e5
      refine ⟨by rw [fB_tok hL1, t1, b2]; decide, by rw [kB_tok hL1, t1, b1]; decide, x, ?_, hi⟩
      have hfin := PX.paren (S := toks s (pre ++ ((p, p + 1) :: (A ++ [(p + 1 + t.length, p + 1 + t.length + 1)]) ++ post))) pre.length o x ((pre ++ [(p, p + 1)]).length + A.length) (by rw [kB_tok hL1, t1, b1]; rfl) (by omega) (by simpa using hx) e5
      have en : pre.length + ((p, p + 1) :: (A ++ [(p + 1 + t.length, p + 1 + t.length + 1)])).length = (pre ++ [(p, p + 1)]).length + A.length + 1 := by simp; omega
      rw [en]
      exact hfin
  | only g t h ih =>
    intro p r _ hr
    have hst : Stop r := by
      rcases hr rfl with rfl | ⟨r', rfl⟩
      · intro c hc; cases hc
      · intro c hc; simp at hc; subst hc; decide
    obtain ⟨A, hA, hG⟩ := ih p r (fun _ => hst) (fun h => by cases h)
    refine ⟨A, hA, ?_⟩
    intro s q hs hq pre post o hd hk hf
    obtain ⟨h1, h0, x, hx, hi⟩ := hG s q hs hq pre post o hd hk (fun h => by cases h)
    exact ⟨h1, h0, x, PX.only _ _ _ _ h1 hx (hf rfl), hi⟩
  | two sg l g2 a b i k hg h1 h2 ih1 ih2 =>
    intro p r _ hr
    obtain ⟨cb, lb, rfl, hcb⟩ := tx_head h2
    obtain ⟨f1, f2, f3, f4, f5⟩ := sg_facts hg
    obtain ⟨A1, hA1, hG1⟩ := ih1 p (List.replicate i 32 ++ (sg :: (List.replicate k 32 ++ (cb :: lb))) ++ r) (fun _ => by
      rw [List.append_assoc]
      exact head_blanks (by decide) (by intro c hc; simp at hc; subst hc; exact f2)) (fun h => by cases h)
    obtain ⟨A2, hA2, hG2⟩ := ih2 (p + a.length + i + 1 + k) r (fun h => by cases h) (fun _ => hr rfl)
    refine ⟨A1 ++ ((p + a.length + i, p + a.length + i + 1) :: A2), ?_, ?_⟩
    · refine hA1.append rfl ?_
      have hb1 := LY.blanks (p + a.length) (sg :: (List.replicate k 32 ++ (cb :: lb)) ++ r) i
      have := hb1.append (B := (p + a.length + i, p + a.length + i + 1) :: A2) rfl ?_
      · simpa using this
      · rw [List.length_replicate]
        refine LY.tok (p + a.length + i) 1 sg _ r A2 f1 (tl_sign hg ?_) (by omega) ?_
        · rw [List.append_assoc]
          exact head_blanks (by decide) (by intro c hc; simp at hc; subst hc; exact hcb)
        · have hb2 := LY.blanks (p + a.length + i + 1) ((cb :: lb) ++ r) k
          have := hb2.append (B := A2) rfl (by rw [List.length_replicate]; exact hA2)
          simpa using this
    · intro s q hs hq pre post o hd hk hf
      simp only [Gr.deep] at hd
      obtain ⟨s1, s2⟩ := sg_tok hg
      have hs1 : s.data.toList = q ++ (a ++ ((List.replicate i 32 ++ (sg :: (List.replicate k 32 ++ (cb :: lb)))) ++ r)) := by rw [hs]; simp
      have hs2 : s.data.toList = (q ++ a ++ List.replicate i 32) ++ ([sg] ++ ((List.replicate k 32 ++ (cb :: lb)) ++ r)) := by rw [hs]; simp
      have hs3 : s.data.toList = (q ++ a ++ List.replicate i 32 ++ [sg] ++ List.replicate k 32) ++ ((cb :: lb) ++ r) := by rw [hs]; simp
      have t2 : s.extract (p + a.length + i) (p + a.length + i + 1) = ⟨#[sg]⟩ := ext_mid (t := [sg]) hs2 (by simp [hq]; omega)
      have eL : pre ++ (A1 ++ ((p + a.length + i, p + a.length + i + 1) :: A2) ++ post) = pre ++ (A1 ++ (((p + a.length + i, p + a.length + i + 1) :: A2) ++ post)) := by simp
      have eM : pre ++ (A1 ++ ((p + a.length + i, p + a.length + i + 1) :: A2) ++ post) = (pre ++ A1 ++ [(p + a.length + i, p + a.length + i + 1)]) ++ (A2 ++ post) := by simp
      have hL : (pre ++ (A1 ++ ((p + a.length + i, p + a.length + i + 1) :: A2) ++ post))[pre.length + A1.length]? = some (p + a.length + i, p + a.length + i + 1) := by
        have : pre ++ (A1 ++ ((p + a.length + i, p + a.length + i + 1) :: A2) ++ post) = (pre ++ A1) ++ ((p + a.length + i, p + a.length + i + 1) :: (A2 ++ post)) := by simp
        rw [this, ← List.length_append]; exact at_pre
      have en : pre.length + (A1 ++ ((p + a.length + i, p + a.length + i + 1) :: A2)).length = (pre ++ A1 ++ [(p + a.length + i, p + a.length + i + 1)]).length + A2.length := by simp; omega
      have g1 := hG1 s q hs1 hq pre (((p + a.length + i, p + a.length + i + 1) :: A2) ++ post) o (by omega) (by rw [← eL, kB_tok hL, t2, s1]; rfl) (fun h => by cases h)
      rw [← eL] at g1
      obtain ⟨k1, k0, x, hx, hi⟩ := g1
      have g2 := hG2 s _ hs3 (by simp [hq]; omega) (pre ++ A1 ++ [(p + a.length + i, p + a.length + i + 1)]) post o (by omega) (by rw [← eM, ← en]; exact hk) (fun _ => by rw [← eM, ← en]; exact hf rfl)
      rw [← eM] at g2
      obtain ⟨_, _, y, hy, hj⟩ := g2
      have el : (pre ++ A1 ++ [(p + a.length + i, p + a.length + i + 1)]).length = pre.length + A1.length + 1 := by simp; omega
      rw [el] at hy
      have hfin := PX.two pre.length o x (pre.length + A1.length) y _ k1 hx (by rw [fB_tok hL, t2]; exact s2) hy
      rw [en, el]
      exact ⟨k1, k0, _, hfin, by rw [tokAt_tok hL, t2]; exact ⟨rfl, hi, hj⟩⟩
/-- a text of g, and no more, has a tree of g -/
theorem tx_tree {g : Gr} {t : List UInt8} (h : Tx false g t) (hs : t.length ≤ 200) (hd : g.deep ≤ 8) : parseP ⟨t.toArray⟩ = (0, 0) ∧ nameP ⟨t.toArray⟩ = ⟨#[]⟩ ∧ ∃ x, TreeOf ⟨t.toArray⟩ x ∧ IsG g x := by
  obtain ⟨A, hA, hG⟩ := tx_gives h 0 [] (fun h => by cases h) (fun _ => Or.inl rfl)
  have hl : lexR ⟨t.toArray⟩ = (A, -1) := lx_lexR (by simpa using hA.whole rfl)
  obtain ⟨h1, h0, x, hx, hi⟩ := hG ⟨t.toArray⟩ [] (by simp) rfl [] [] 0 (by omega) (kB_out (by rw [toks_len]; simp) 0) (fun _ => fB_out (by rw [toks_len]; simp) 2)
  simp only [List.nil_append, List.append_nil, List.length_nil, Nat.zero_add] at h1 h0 hx
  have hb : beg (tks ⟨t.toArray⟩ A) = 0 := by unfold beg; rw [← kr_toks, h0]; rfl
  obtain ⟨e1, e2⟩ := parse_tree (s := ⟨t.toArray⟩) (by simpa [ByteArray.size] using hs) hl (by rw [hb]; exact hx)
  refine ⟨e1, ?_, x, e2, hi⟩
  unfold nameP
  rw [e1, if_pos rfl, hl]
  unfold nameS
  simp only []
  rw [h0]
  rfl
end Go.Proofs.YtjobgpahajhbnaaGreatDoor
namespace Go.Proofs.YtjobgpahajhbnaaGreatDoor
open Go.RowKit

/-- a function of one array, as it is written ahead of a blank -/
structure Fn1 (f : List UInt8) : Prop where
  hd : ∃ c l, f = c :: l ∧ c ≠ 32 ∧ tailU c = false
  tl : ∀ r, tl (f ++ (32 :: r)) = some f.length
  kind : kindT ⟨f.toArray⟩ = 3
  role : roleB (roleT ⟨f.toArray⟩) 1 = true
/-- a text at place p, its tree; brackets so deep at most; true: it is a THING -/
inductive Ty : Nat → Bool → Nat → Ex → List UInt8 → Prop where
  | lit (d p : Nat) (n : Int) (t : List UInt8) : Nm n t → Ty d true p (.num [n]) t
  | br (d p : Nat) (x : Ex) (t : List UInt8) : Ty d false (p + 1) x t → Ty (d + 1) true p x (40 :: (t ++ [41]))
  | only (d p : Nat) (x : Ex) (t : List UInt8) : Ty d true p x t → Ty d false p x t
  | two (d p : Nat) (sg : UInt8) (l r : Ex) (a b : List UInt8) (i k : Nat) : gU sg = true → Ty d true p l a → Ty d false (p + a.length + i + 1 + k) r b → Ty d false p (.two ⟨#[sg]⟩ (p + a.length + i) l r) (a ++ (List.replicate i 32 ++ (sg :: (List.replicate k 32 ++ b))))
  | one (d p : Nat) (f : List UInt8) (r : Ex) (b : List UInt8) : Fn1 f → Ty d false (p + f.length + 1) r b → Ty d false p (.one ⟨f.toArray⟩ p r) (f ++ (32 :: b))
theorem ty_head {d : Nat} {b : Bool} {p : Nat} {x : Ex} {t : List UInt8} (h : Ty d b p x t) : ∃ c l, t = c :: l ∧ tailU c = false := by
  induction h with
  | lit d p n t hn => exact tx_head (Tx.lit n t hn)
  | br d p x t h ih => exact ⟨40, t ++ [41], rfl, by decide⟩
  | only d p x t h ih => exact ih
  | two d p sg l r a b i k hg h1 h2 ih1 ih2 =>
    obtain ⟨c, m, e, hc⟩ := ih1
    subst e
    exact ⟨c, _, rfl, hc⟩
  | one d p f r b hf h ih =>
    obtain ⟨c, l, e, _, hc⟩ := hf.hd
    subst e
    exact ⟨c, _, rfl, hc⟩
/-- the tokens A of a text t at place p give the tree x, wherever they stand -/
def GivesX (d : Nat) (b : Bool) (x : Ex) (t : List UInt8) (p : Nat) (r : List UInt8) (A : List (Nat × Nat)) : Prop :=
  ∀ (s : ByteArray) (q : List UInt8), s.data.toList = q ++ (t ++ r) → q.length = p → ∀ (pre post : List (Nat × Nat)) (o : Nat), d + o ≤ 8 →
    kB (kr (toks s (pre ++ (A ++ post)))) (pre.length + A.length) 0 = false → (b = false → fB (kr (toks s (pre ++ (A ++ post)))) (pre.length + A.length) 2 = false) →
    (b = true → fB (kr (toks s (pre ++ (A ++ post)))) pre.length 1 = false) ∧ kB (kr (toks s (pre ++ (A ++ post)))) pre.length 1 = false ∧ PX (toks s (pre ++ (A ++ post))) b pre.length o x (pre.length + A.length)
set_option maxHeartbeats 1000000 in
theorem ty_gives {d : Nat} {b : Bool} {p0 : Nat} {x : Ex} {t : List UInt8} (h : Ty d b p0 x t) : ∀ (r : List UInt8), (b = true → Stop r) → (b = false → r = [] ∨ ∃ r', r = 41 :: r') → ∃ A, LY p0 t r A ∧ GivesX d b x t p0 r A := by
  induction h with
  | lit d p n t hn =>
    intro r hr _
    refine ⟨[(p, p + t.length)], nm_ly hn (hr rfl) p, ?_⟩
    intro s q hs hq pre post o hd hk _
    have hL : (pre ++ ([(p, p + t.length)] ++ post))[pre.length]? = some (p, p + t.length) := at_pre
    have ht := ext_mid hs hq
    obtain ⟨k1, k2, k3⟩ := nm_tok hn
    refine ⟨fun _ => by rw [fB_tok hL, ht, k2]; decide, by rw [kB_tok hL, ht, k1]; decide, ?_⟩
    have hx := PX.nums (S := toks s (pre ++ ([(p, p + t.length)] ++ post))) pre.length o (pre.length + 1) (Nat.lt_succ_self _) (by rw [toks_len]; simp) (by
      intro i h1 h2
      have : i = pre.length := by omega
      subst this
      rw [kB_tok hL, ht, k1]; rfl) hk
    rw [worths_one _ _ (by rw [toks_len]; simp), tokAt_tok hL, ht, k3] at hx
    exact hx
  | br d p x t h ih =>
    intro r hr _
    obtain ⟨A, hA, hG⟩ := ih ([41] ++ r) (fun h => by cases h) (fun _ => Or.inr ⟨r, rfl⟩)
    refine ⟨(p, p + 1) :: (A ++ [(p + 1 + t.length, p + 1 + t.length + 1)]), ?_, ?_⟩
    · refine LY.tok p 1 40 (t ++ [41]) r _ (by decide) rfl (by omega) ?_
      refine hA.append rfl ?_
      exact LY.one (l := []) (by decide) rfl
    · intro s q hs hq pre post o hd hk _
      have hs1 : s.data.toList = q ++ ([40] ++ ((t ++ [41]) ++ r)) := by rw [hs]; simp
      have hs2 : s.data.toList = (q ++ [40]) ++ (t ++ ([41] ++ r)) := by rw [hs]; simp
      have hs3 : s.data.toList = (q ++ [40] ++ t) ++ ([41] ++ r) := by rw [hs]; simp
      have t1 : s.extract p (p + 1) = ⟨#[40]⟩ := ext_mid (t := [40]) hs1 hq
      have t2 : s.extract (p + 1 + t.length) (p + 1 + t.length + 1) = ⟨#[41]⟩ := ext_mid (t := [41]) hs3 (by simp [hq]; omega)
      obtain ⟨b1, b2, b3, b4⟩ := br_tok
      have eL : pre ++ ((p, p + 1) :: (A ++ [(p + 1 + t.length, p + 1 + t.length + 1)]) ++ post) = (pre ++ [(p, p + 1)]) ++ (A ++ ((p + 1 + t.length, p + 1 + t.length + 1) :: post)) := by simp
      have hL1 : (pre ++ ((p, p + 1) :: (A ++ [(p + 1 + t.length, p + 1 + t.length + 1)]) ++ post))[pre.length]? = some (p, p + 1) := at_pre
      have hL2 : ((pre ++ [(p, p + 1)]) ++ (A ++ ((p + 1 + t.length, p + 1 + t.length + 1) :: post)))[(pre ++ [(p, p + 1)]).length + A.length]? = some (p + 1 + t.length, p + 1 + t.length + 1) := by
        rw [← List.append_assoc, ← List.length_append]; exact at_pre
      have g1 := hG s (q ++ [40]) hs2 (by simp [hq]) (pre ++ [(p, p + 1)]) ((p + 1 + t.length, p + 1 + t.length + 1) :: post) (o + 1) (by omega) (by rw [kB_tok hL2, t2, b3]; rfl) (fun _ => by rw [fB_tok hL2, t2, b4]; decide)
      obtain ⟨_, _, hx⟩ := g1
      have e5 : kB (kr (toks s ((pre ++ [(p, p + 1)]) ++ (A ++ ((p + 1 + t.length, p + 1 + t.length + 1) :: post))))) ((pre ++ [(p, p + 1)]).length + A.length) 5 = true := by rw [kB_tok hL2, t2, b3]; rfl
      rw [← eL] at hx e5
      refine ⟨fun _ => by rw [fB_tok hL1, t1, b2]; decide, by rw [kB_tok hL1, t1, b1]; decide, ?_⟩
      have hfin := PX.paren (S := toks s (pre ++ ((p, p + 1) :: (A ++ [(p + 1 + t.length, p + 1 + t.length + 1)]) ++ post))) pre.length o x ((pre ++ [(p, p + 1)]).length + A.length) (by rw [kB_tok hL1, t1, b1]; rfl) (by omega) (by simpa using hx) e5
      have en : pre.length + ((p, p + 1) :: (A ++ [(p + 1 + t.length, p + 1 + t.length + 1)])).length = (pre ++ [(p, p + 1)]).length + A.length + 1 := by simp; omega
      rw [en]
      exact hfin
  | only d p x t h ih =>
    intro r _ hr
    have hst : Stop r := by
      rcases hr rfl with rfl | ⟨r', rfl⟩
      · intro c hc; cases hc
      · intro c hc; simp at hc; subst hc; decide
    obtain ⟨A, hA, hG⟩ := ih r (fun _ => hst) (fun h => by cases h)
    refine ⟨A, hA, ?_⟩
    intro s q hs hq pre post o hd hk hf
    obtain ⟨h1, h0, hx⟩ := hG s q hs hq pre post o hd hk (fun h => by cases h)
    exact ⟨(fun h => by cases h), h0, PX.only _ _ _ _ (h1 rfl) hx (hf rfl)⟩
  | two d p sg l r2 a b i k hg h1 h2 ih1 ih2 =>
    intro r _ hr
    obtain ⟨cb, lb, rfl, hcb⟩ := ty_head h2
    obtain ⟨f1, f2, f3, f4, f5⟩ := sg_facts hg
    obtain ⟨A1, hA1, hG1⟩ := ih1 (List.replicate i 32 ++ (sg :: (List.replicate k 32 ++ (cb :: lb))) ++ r) (fun _ => by
      rw [List.append_assoc]
      exact head_blanks (by decide) (by intro c hc; simp at hc; subst hc; exact f2)) (fun h => by cases h)
    obtain ⟨A2, hA2, hG2⟩ := ih2 r (fun h => by cases h) (fun _ => hr rfl)
    refine ⟨A1 ++ ((p + a.length + i, p + a.length + i + 1) :: A2), ?_, ?_⟩
    · refine hA1.append rfl ?_
      have hb1 := LY.blanks (p + a.length) (sg :: (List.replicate k 32 ++ (cb :: lb)) ++ r) i
      have := hb1.append (B := (p + a.length + i, p + a.length + i + 1) :: A2) rfl ?_
      · simpa using this
      · rw [List.length_replicate]
        refine LY.tok (p + a.length + i) 1 sg _ r A2 f1 (tl_sign hg ?_) (by omega) ?_
        · rw [List.append_assoc]
          exact head_blanks (by decide) (by intro c hc; simp at hc; subst hc; exact hcb)
        · have hb2 := LY.blanks (p + a.length + i + 1) ((cb :: lb) ++ r) k
          have := hb2.append (B := A2) rfl (by rw [List.length_replicate]; exact hA2)
          simpa using this
    · intro s q hs hq pre post o hd hk hf
      obtain ⟨s1, s2⟩ := sg_tok hg
      have hs1 : s.data.toList = q ++ (a ++ ((List.replicate i 32 ++ (sg :: (List.replicate k 32 ++ (cb :: lb)))) ++ r)) := by rw [hs]; simp
      have hs2 : s.data.toList = (q ++ a ++ List.replicate i 32) ++ ([sg] ++ ((List.replicate k 32 ++ (cb :: lb)) ++ r)) := by rw [hs]; simp
      have hs3 : s.data.toList = (q ++ a ++ List.replicate i 32 ++ [sg] ++ List.replicate k 32) ++ ((cb :: lb) ++ r) := by rw [hs]; simp
      have t2 : s.extract (p + a.length + i) (p + a.length + i + 1) = ⟨#[sg]⟩ := ext_mid (t := [sg]) hs2 (by simp [hq]; omega)
      have eL : pre ++ (A1 ++ ((p + a.length + i, p + a.length + i + 1) :: A2) ++ post) = pre ++ (A1 ++ (((p + a.length + i, p + a.length + i + 1) :: A2) ++ post)) := by simp
      have eM : pre ++ (A1 ++ ((p + a.length + i, p + a.length + i + 1) :: A2) ++ post) = (pre ++ A1 ++ [(p + a.length + i, p + a.length + i + 1)]) ++ (A2 ++ post) := by simp
      have hL : (pre ++ (A1 ++ ((p + a.length + i, p + a.length + i + 1) :: A2) ++ post))[pre.length + A1.length]? = some (p + a.length + i, p + a.length + i + 1) := by
        have : pre ++ (A1 ++ ((p + a.length + i, p + a.length + i + 1) :: A2) ++ post) = (pre ++ A1) ++ ((p + a.length + i, p + a.length + i + 1) :: (A2 ++ post)) := by simp
        rw [this, ← List.length_append]; exact at_pre
      have en : pre.length + (A1 ++ ((p + a.length + i, p + a.length + i + 1) :: A2)).length = (pre ++ A1 ++ [(p + a.length + i, p + a.length + i + 1)]).length + A2.length := by simp; omega
      have g1 := hG1 s q hs1 hq pre (((p + a.length + i, p + a.length + i + 1) :: A2) ++ post) o (by omega) (by rw [← eL, kB_tok hL, t2, s1]; rfl) (fun h => by cases h)
      rw [← eL] at g1
      obtain ⟨k1, k0, hx⟩ := g1
      have g2 := hG2 s _ hs3 (by simp [hq]; omega) (pre ++ A1 ++ [(p + a.length + i, p + a.length + i + 1)]) post o (by omega) (by rw [← eM, ← en]; exact hk) (fun _ => by rw [← eM, ← en]; exact hf rfl)
      rw [← eM] at g2
      obtain ⟨_, _, hy⟩ := g2
      have el : (pre ++ A1 ++ [(p + a.length + i, p + a.length + i + 1)]).length = pre.length + A1.length + 1 := by simp; omega
      rw [el] at hy
      have hfin := PX.two pre.length o _ (pre.length + A1.length) _ _ (k1 rfl) hx (by rw [fB_tok hL, t2]; exact s2) hy
      rw [tokAt_tok hL, t2] at hfin
      rw [en, el]
      exact ⟨(fun h => by cases h), k0, hfin⟩
  | one d p f r2 b hF h ih =>
    intro r _ hr
    obtain ⟨c, l, rfl, hc, _⟩ := hF.hd
    obtain ⟨A, hA, hG⟩ := ih r (fun h => by cases h) (fun _ => hr rfl)
    refine ⟨(p, p + (c :: l).length) :: A, ?_, ?_⟩
    · refine LY.tok p (c :: l).length c (l ++ (32 :: b)) r A hc ?_ (by simp) ?_
      · have := hF.tl (b ++ r)
        simpa using this
      · have e : List.drop (c :: l).length (c :: (l ++ (32 :: b))) = 32 :: b := by
          rw [← List.cons_append, List.drop_append_of_le_length (Nat.le_refl _)]
          simp
        rw [e]
        exact LY.blank _ _ _ _ hA
    · intro s q hs hq pre post o hd hk hf
      have hs1 : s.data.toList = q ++ ((c :: l) ++ ((32 :: b) ++ r)) := by rw [hs]; simp
      have hs2 : s.data.toList = (q ++ (c :: l) ++ [32]) ++ (b ++ r) := by rw [hs]; simp
      have t1 : s.extract p (p + (c :: l).length) = ⟨(c :: l).toArray⟩ := ext_mid hs1 hq
      have eM : pre ++ ((p, p + (c :: l).length) :: A ++ post) = (pre ++ [(p, p + (c :: l).length)]) ++ (A ++ post) := by simp
      have hL : (pre ++ ((p, p + (c :: l).length) :: A ++ post))[pre.length]? = some (p, p + (c :: l).length) := at_pre
      have en : pre.length + ((p, p + (c :: l).length) :: A).length = (pre ++ [(p, p + (c :: l).length)]).length + A.length := by simp; omega
      have g2 := hG s _ hs2 (by simp [hq]; omega) (pre ++ [(p, p + (c :: l).length)]) post o (by omega) (by rw [← eM, ← en]; exact hk) (fun _ => by rw [← eM, ← en]; exact hf rfl)
      rw [← eM] at g2
      obtain ⟨_, _, hy⟩ := g2
      have el : (pre ++ [(p, p + (c :: l).length)]).length = pre.length + 1 := by simp
      rw [el] at hy
      have hfin := PX.one pre.length o _ _ (by rw [fB_tok hL, t1]; exact hF.role) hy
      rw [tokAt_tok hL, t1] at hfin
      rw [en, el]
      exact ⟨fun h => (by cases h), by rw [kB_tok hL, t1, hF.kind]; rfl, hfin⟩
/-- a text of x, and no more, has the tree x -/
theorem ty_tree {d : Nat} {x : Ex} {t : List UInt8} (h : Ty d false 0 x t) (hs : t.length ≤ 200) (hd : d ≤ 8) : parseP ⟨t.toArray⟩ = (0, 0) ∧ nameP ⟨t.toArray⟩ = ⟨#[]⟩ ∧ TreeOf ⟨t.toArray⟩ x := by
  obtain ⟨A, hA, hG⟩ := ty_gives h [] (fun h => by cases h) (fun _ => Or.inl rfl)
  have hl : lexR ⟨t.toArray⟩ = (A, -1) := lx_lexR (by simpa using hA.whole rfl)
  obtain ⟨h1, h0, hx⟩ := hG ⟨t.toArray⟩ [] (by simp) rfl [] [] 0 (by omega) (kB_out (by rw [toks_len]; simp) 0) (fun _ => fB_out (by rw [toks_len]; simp) 2)
  simp only [List.nil_append, List.append_nil, List.length_nil, Nat.zero_add] at h1 h0 hx
  have hb : beg (tks ⟨t.toArray⟩ A) = 0 := by unfold beg; rw [← kr_toks, h0]; rfl
  obtain ⟨e1, e2⟩ := parse_tree (s := ⟨t.toArray⟩) (by simpa [ByteArray.size] using hs) hl (by rw [hb]; exact hx)
  refine ⟨e1, ?_, e2⟩
  unfold nameP
  rw [e1, if_pos rfl, hl]
  unfold nameS
  simp only []
  rw [h0]
  rfl
theorem fn1_plus : Fn1 [43] := ⟨⟨43, [], rfl, by decide, by decide⟩, fun _ => rfl, by decide, by decide⟩
theorem fn1_minus : Fn1 [45] := ⟨⟨45, [], rfl, by decide, by decide⟩, fun _ => rfl, by decide, by decide⟩
theorem fn1_star : Fn1 [42] := ⟨⟨42, [], rfl, by decide, by decide⟩, fun _ => rfl, by decide, by decide⟩
theorem fn1_bar : Fn1 [124] := ⟨⟨124, [], rfl, by decide, by decide⟩, fun _ => rfl, by decide, by decide⟩
theorem tl_ravel (r : List UInt8) : tl ([114, 97, 118, 101, 108] ++ (32 :: r)) = some 5 := by
  have h : ([114, 97, 118, 101, 108] ++ (32 :: r)).takeWhile lU = [114, 97, 118, 101, 108] := rfl
  have hf : isFn [114, 97, 118, 101, 108] = true := by decide +kernel
  show wrdE ([114, 97, 118, 101, 108] ++ (32 :: r)) = some 5
  unfold wrdE
  rw [h]
  simp [hf]
theorem fn1_ravel : Fn1 [114, 97, 118, 101, 108] := ⟨⟨114, [97, 118, 101, 108], rfl, by decide, by decide⟩, tl_ravel, by decide +kernel, by decide +kernel⟩
end Go.Proofs.YtjobgpahajhbnaaGreatDoor
