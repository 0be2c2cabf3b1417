import Derived.Test.YtjobgpahajhbnaaGreatDoorHe
import Derived.Test.YtjobgpahajhbnaaGreatDoorLa
import Derived.Test.YtjobgpahajhbnaaGreatDoorYe
namespace Go.Proofs.YtjobgpahajhbnaaGreatDoor
open Go.RowKit Go.Proofs
attribute [local go_sem ↓] Go.wp_at_zero Go.wp_at_succ

set_option maxHeartbeats 400000 in
theorem lit_two (n : Int) (hn : fit64 n) (w : World) (hT : Tab w) : Calls Tryz.prog 16 #[.int .i64 n] w fun e w' => (∃ t, e = .returned (.string ⟨List.toArray t⟩) ∧ ((n ≠ -9223372036854775808 ∧ Nm n t ∧ t.length ≤ 20) ∨ (n = -9223372036854775808 ∧ t = minT))) ∧ Below w.heap.size w w' := by
  by_cases hm : n = -9223372036854775808
  · subst hm
    clear hT hn
    go_enter Tryz.func16, Tryz.ntmps16
    go_wp2
    exact bodyPost_ret (v := .string ⟨minT.toArray⟩) (by simp [results, Tryz.results16, go_sem, minT]) rfl ⟨⟨minT, rfl, Or.inr ⟨(by first | exact trivial | rfl), rfl⟩⟩, Below.refl _ _⟩
  · have hm' : (n == -9223372036854775808) = false := by simpa using hm
    have HN := hide (num_all n (by unfold fit64 at hn; omega) w hT)
    have HM := hide hm
    clear hT hn hm
    go_enter Tryz.func16, Tryz.ntmps16
    go_wp2_with (go_at_call 26; refine (unhide HN).mono ?_; rintro e w' ⟨⟨t, rfl, h1, h2⟩, hb⟩; have H1 := hide h1; have HB := hide hb; clear h1 hb)
    exact bodyPost_ret (v := .string ⟨t.toArray⟩) (by simp [results, Tryz.results16, go_sem]) rfl ⟨⟨t, rfl, Or.inl ⟨unhide HM, unhide H1, h2⟩⟩, unhide HB⟩
theorem tl_rev (r : List UInt8) : tl ([114, 101, 118] ++ (32 :: r)) = some 3 := by
  have h : ([114, 101, 118] ++ (32 :: r)).takeWhile lU = [114, 101, 118] := rfl
  have hf : isFn [114, 101, 118] = true := by decide +kernel
  show wrdE ([114, 101, 118] ++ (32 :: r)) = some 3
  unfold wrdE
  rw [h]
  simp [hf]
theorem fn1_rev : Fn1 [114, 101, 118] := ⟨⟨114, [101, 118], rfl, by decide, by decide⟩, tl_rev, by decide +kernel, by decide +kernel⟩
theorem fn2_rev : Fn2 [114, 101, 118] := ⟨⟨114, [101, 118], rfl, by decide⟩, tl_rev, by decide +kernel, by decide +kernel⟩
theorem fn2_minus : Fn2 [45] := ⟨⟨45, [], rfl, by decide⟩, fun _ => rfl, by decide +kernel, by decide +kernel⟩
def f1T (t : ByteArray) : Arr → Arr × Int := if t.data.toList.headD 0 = 45 then fun a => (⟨a.shape, a.cells.map negatedF⟩, 0) else revP
def f2T (t : ByteArray) : Arr → Arr → Arr × Int := if t.data.toList.headD 0 = 114 then turnP else if t.data.toList.headD 0 = 99 then catP else if t.data.toList.headD 0 = 100 then dropP else if t.data.toList.headD 0 = 116 then takeP else pairP minusF
theorem turn_rows (y : Int) (l : List Int) : turnP (arrOf [y]) (rowA l) = (rowA (rotL l (startOf l.length y)), 0) := by
  unfold turnP
  rw [if_neg (by simp [arrOf]), if_neg (by simp [rowA])]
  have h : turnC (rowA l).cells (lastN (rowA l).shape) ((arrOf [y]).cells.headD 0) = rotL l (startOf l.length y) := turnC_row l y
  rw [h]
  unfold rowA
  rw [rotL_len]
theorem rev_rows (l : List Int) : revP (rowA l) = (rowA l.reverse, 0) := by
  unfold revP
  rw [if_neg (by simp [rowA])]
  have h : revC (rowA l).cells (lastN (rowA l).shape) = l.reverse := revC_row l
  rw [h]
  simp [rowA]
theorem take_row {k : Int} (hk : ¬ (64 < k ∨ k < -64)) (l : List Int) : takeP (arrOf [k]) (rowA l) = (rowA (takeL k l), 0) := by
  unfold takeP
  rw [if_neg (by rw [rowed_row]; simp [arrOf, rowA]), if_neg (show ¬ (64 < (arrOf [k]).cells.headD 0 ∨ (arrOf [k]).cells.headD 0 < -64) from hk)]
  rfl
theorem drop_row (k : Int) (l : List Int) : dropP (arrOf [k]) (rowA l) = (rowA (dropL k l), 0) := by
  unfold dropP
  rw [if_neg (by rw [rowed_row]; simp [arrOf, rowA])]
  rfl
/-- what a text of a number comes to, wherever it stands -/
structure AtX (X : Ex) (y : Int) : Prop where
  good : Good f1T f2T X
  ev : ∀ env c, c ≤ 700 → ∃ c', c' ≤ c + 2 ∧ evalE env 1000 f1T f2T X c = .inr (arrOf [y], c')
def AtT (y : Int) (t : List UInt8) : Prop := t.length ≤ 40 ∧ ∀ d p, ∃ X, Tw (d + 1) true p X t ∧ AtX X y
theorem at_num {y : Int} {t : List UInt8} (h : Nm y t) (hf : fit64 y) (hl : t.length ≤ 40) : AtT y t :=
  ⟨hl, fun d p => ⟨.num [y], Tw.row (d + 1) p [y] t (NmRow.one y t h), ⟨by simp, by simp, by intro c hc; simp at hc; subst hc; exact hf⟩, fun env c _ => ⟨c, by omega, ev_num⟩⟩⟩
theorem minus_sc (x y : Int) : pairP minusF (arrOf [x]) (arrOf [y]) = (arrOf [wrap64 (x - y)], 0) := rfl
theorem at_minus {x y v : Int} {tx ty : List UInt8} (hx : Nm x tx) (hy : Nm y ty) (fx : fit64 x) (fy : fit64 y) (hv : wrap64 (x - y) = v) (hl : tx.length + ty.length ≤ 35) : AtT v (40 :: ((tx ++ (32 :: ([45] ++ (32 :: ty)))) ++ [41])) :=
  ⟨by simp; omega, fun d p => ⟨.two ⟨#[45]⟩ (p + 1 + tx.length + 1) (.num [x]) (.num [y]), Tw.br d p _ _ (Tw.two d (p + 1) [45] _ _ tx ty fn2_minus (Tw.row d _ [x] tx (NmRow.one x tx hx)) (Tw.only _ _ _ _ (Tw.row d _ [y] ty (NmRow.one y ty hy)))), ⟨minus_two, ⟨by simp, by simp, by intro c hc; simp at hc; subst hc; exact fx⟩, ⟨by simp, by simp, by intro c hc; simp at hc; subst hc; exact fy⟩⟩, fun env c hc => ⟨c + (1 + 1), by omega, by
    rw [ev_bin ev_num ev_num]
    have : f2T ⟨#[45]⟩ = pairP minusF := rfl
    rw [this, minus_sc, hv, pay_more rfl (by simp [arrOf]) (by omega)]
    rfl⟩⟩⟩
theorem at_lit {y : Int} {t : List UInt8} (hf : fit64 y) (h : (y ≠ -9223372036854775808 ∧ Nm y t ∧ t.length ≤ 20) ∨ (y = -9223372036854775808 ∧ t = minT)) : AtT y t := by
  rcases h with ⟨_, h1, h2⟩ | ⟨rfl, rfl⟩
  · exact at_num h1 hf (by omega)
  · exact at_minus nm_max nm_one (by unfold fit64; omega) (by unfold fit64; omega) (by decide +kernel) (by decide)
theorem at_neg {k : Nat} {t : List UInt8} (hk : k ≤ 30) (h : Nm (k : Int) t) (hl : t.length ≤ 20) : AtT (-(k : Int)) (40 :: (([45] ++ (32 :: t)) ++ [41])) :=
  ⟨by simp; omega, fun d p => ⟨.one ⟨#[45]⟩ (p + 1) (.num [(k : Int)]), Tw.br d p _ _ (Tw.one d (p + 1) [45] _ t fn1_minus (Tw.only _ _ _ _ (Tw.row d _ [(k : Int)] t (NmRow.one _ t h)))), ⟨negated_one, ⟨by simp, by simp, by intro c hc; simp at hc; subst hc; unfold fit64; omega⟩⟩, fun env c hc => ⟨c + (1 + 1), by omega, by
    have hv : f1T ⟨#[45]⟩ (arrOf [(k : Int)]) = (arrOf [-(k : Int)], 0) := by
      show ((⟨[], [negatedF (k : Int)]⟩ : Arr), (0 : Int)) = _
      have : negatedF (k : Int) = -(k : Int) := by unfold negatedF wrap64; omega
      rw [this]
      rfl
    simp only [evalE]
    rw [hv, pay_more rfl (by simp [arrOf]) (by omega)]
    rfl⟩⟩⟩
/-- what a text of a row comes to, wherever it stands -/
structure RowX (env : ByteArray → Option Arr) (X : Ex) (cs : List Int) (b : Nat) : Prop where
  good : Good f1T f2T X
  ev : ∀ c, c + b ≤ 700 → ∃ c', c' ≤ c + b ∧ evalE env 1000 f1T f2T X c = .inr (rowA cs, c')
def RowW (env : ByteArray → Option Arr) (t : List UInt8) (cs : List Int) (b : Nat) : Prop := ∀ d p, ∃ X, Tw (d + 1) false p X t ∧ RowX env X cs b
section
variable {env : ByteArray → Option Arr}
theorem w_x {l : List Int} (hx : env xT = some (rowA l)) : RowW env [120] l 0 := fun d p =>
  ⟨.name xT p, Tw.only _ _ _ _ (Tw.name (d + 1) p [120] name_x), by simp [Good, xT, ByteArray.size], fun c _ => ⟨c, by omega, ev_name hx⟩⟩
theorem w_rev {t : List UInt8} {l : List Int} {b : Nat} (h : RowW env t l b) (hl : l.length ≤ 64) : RowW env ([114, 101, 118] ++ (32 :: t)) l.reverse (b + 65) := fun d p => by
  obtain ⟨X, h1, h2, h3⟩ := h d (p + 3 + 1)
  refine ⟨.one ⟨#[114, 101, 118]⟩ p X, Tw.one (d + 1) p [114, 101, 118] X t fn1_rev h1, ⟨round_one, h2⟩, fun c hc => ?_⟩
  obtain ⟨c1, e1, e2⟩ := h3 c (by omega)
  refine ⟨c1 + (1 + l.reverse.length), by simp; omega, ?_⟩
  simp only [evalE, e2]
  have : f1T ⟨#[114, 101, 118]⟩ = revP := rfl
  rw [this, rev_rows, pay_more rfl (by simp [rowA]; omega) (by omega)]
  rfl
theorem w_two {f : List UInt8} {F : Arr → Arr → Arr × Int} {ta t : List UInt8} {y : Int} {l m : List Int} {b : Nat} (hf : Fn2 f) (hF : f2T ⟨f.toArray⟩ = F) (hC : TwoC ⟨f.toArray⟩ F) (ha : AtT y ta) (h : RowW env t l b) (hv : F (arrOf [y]) (rowA l) = (rowA m, 0)) (hl : m.length ≤ 64) : RowW env (ta ++ (32 :: (f ++ (32 :: t)))) m (b + 67) := fun d p => by
  obtain ⟨A, a1, a2, a3⟩ := ha.2 d p
  obtain ⟨X, h1, h2, h3⟩ := h d (p + ta.length + 1 + f.length + 1)
  refine ⟨.two ⟨f.toArray⟩ (p + ta.length + 1) A X, Tw.two (d + 1) p f A X ta t hf a1 h1, ⟨by rw [hF]; exact hC, a2, h2⟩, fun c hc => ?_⟩
  obtain ⟨c1, e1, e2⟩ := h3 c (by omega)
  obtain ⟨c2, e3, e4⟩ := a3 env c1 (by omega)
  refine ⟨c2 + (1 + m.length), by omega, ?_⟩
  rw [ev_bin e2 e4, hF, hv, pay_more rfl (by simp [rowA]; omega) (by omega)]
  rfl
theorem w_cat {s t : List UInt8} {l m : List Int} {b c0 : Nat} (h : RowW env s l b) (h' : RowW env t m c0) (hl : l.length + m.length ≤ 64) : ∀ d p, ∃ X, Tw (d + 2) false p X ((40 :: (s ++ [41])) ++ (32 :: ([99, 97, 116] ++ (32 :: t)))) ∧ RowX env X (l ++ m) (b + c0 + 65) := fun d p => by
  obtain ⟨A, a1, a2, a3⟩ := h d (p + 1)
  obtain ⟨X, h1, h2, h3⟩ := h' (d + 1) (p + (40 :: (s ++ [41])).length + 1 + 3 + 1)
  refine ⟨.two ⟨#[99, 97, 116]⟩ (p + (40 :: (s ++ [41])).length + 1) A X, Tw.two (d + 2) p [99, 97, 116] A X _ t fn2_cat (Tw.br (d + 1) p A s a1) h1, ⟨cat_two, a2, h2⟩, fun c hc => ?_⟩
  obtain ⟨c1, e1, e2⟩ := h3 c (by omega)
  obtain ⟨c2, e3, e4⟩ := a3 c1 (by omega)
  refine ⟨c2 + (1 + (l ++ m).length), by simp; omega, ?_⟩
  have : f2T ⟨#[99, 97, 116]⟩ = catP := rfl
  rw [ev_bin e2 e4, this, cat_rows hl, pay_more rfl (by simp [rowA]; omega) (by omega)]
  rfl
theorem says_w {t : List UInt8} {cs : List Int} {b : Nat} (he : EnvOk env) (h : RowW env t cs b) (hb : b ≤ 700) (ht : t.length ≤ 200) (hl : cs.length ≤ 64) : RowSays env t cs := by
  obtain ⟨X, h1, h2, h3⟩ := h 0 0
  obtain ⟨c, _, hc⟩ := h3 0 (by omega)
  exact rowSays_any h1 ht (by decide) he h2 hc hl
end
set_option maxHeartbeats 1000000 in
set_option maxRecDepth 20000 in
/-- two lines that come to the same, neither of which makes a name -/
theorem like_plain {env : ByteArray → Option Arr} {s t : List UInt8} {cs : List Int} (hs : RowSays env s cs) (ht : RowSays env t cs) {S : Nat → Prop} {db N : Nat} {w : World} (hD : DkE S db env N w) (hl : cs.length ≤ 64) :
    Calls Tryz.prog 24 #[.pointer (some ⟨db, 0, none⟩), .string ⟨s.toArray⟩, .string ⟨t.toArray⟩] w fun e w' => e = .returned (.bool true) ∧ Below w.heap.size w w' := by
  obtain ⟨cost, ht⟩ := ht
  obtain ⟨cost', hs⟩ := hs
  have HO := hide (one_gen (DkE S db env N) (DkE.lasts S db env N) db _ _ cs cost (ht S db N) w hD)
  have HI : Hid (∀ w2 so sn sc co cn cc, Below w.heap.size w w2 → Nums (fun b => w.heap.size < b) w2 (.slice so sn sc) [(cs.length : Int)] → Nums (fun b => w.heap.size < b) w2 (.slice co cn cc) cs → Calls Tryz.prog 28 #[.pointer (some ⟨db, 0, none⟩), .string ⟨s.toArray⟩, .slice so sn sc, .slice co cn cc] w2 fun e w' => e = .returned (.bool true) ∧ Below w2.heap.size w2 w') := hide (by
    intro w2 so sn sc co cn cc hb hsh hcs
    exact is_gen (DkE S db env N) (DkE.lasts S db env N) db _ _ cs cost' (hs S db N) w2 (hD.below hb) so sn sc co cn cc hsh hcs (by simp) (by omega))
  clear hs ht hD
  go_enter Tryz.func24, Tryz.ntmps24
  go_wp2_with (go_at_call 29; refine (unhide HO).mono ?_; rintro e w1 ⟨so, sn, sc, co, cn, cc, rfl, h1, h2, hb⟩; have H1 := hide h1; have H2 := hide h2; have HB := hide hb; clear h1 h2 hb)
  have hbw : Below w1.heap.size w1 (w1.alloc (.cells #[.int .i64 0, .int .i64 0, .slice so sn sc, .slice co cn cc, .int .i64 cost] 47)) := (Below.refl _ _).alloc (Nat.le_refl _) _
  have HBW := hide (below2' (unhide HB) hbw)
  refine (unhide HI _ so sn sc co cn cc (below2' (unhide HB) hbw) ((unhide H1).below hbw) ((unhide H2).below hbw)).mono ?_
  rintro e w3 ⟨rfl, hb3⟩
  have HB3 := hide (below2' (unhide HBW) hb3)
  clear hb3 hbw
  go_wp2_with fail
  exact bodyPost_ret (v := .bool true) (by simp [results, Tryz.results24, go_sem]) rfl ⟨rfl, unhide HB3⟩
end Go.Proofs.YtjobgpahajhbnaaGreatDoor
namespace Go.Proofs.YtjobgpahajhbnaaGreatDoor
open Go.RowKit Go.Proofs

theorem tmod_start {n : Nat} (h0 : 0 < n) (y : Int) : y.tmod (n : Int) = ((startOf n y : Nat) : Int) ∨ (y.tmod (n : Int) = ((startOf n y : Nat) : Int) - (n : Int) ∧ 0 < startOf n y) := by
  have h := start_lt (y := y) h0
  have e := Int.tmod_eq_emod (a := y) (b := (n : Int))
  by_cases hc : 0 ≤ y ∨ (n : Int) ∣ y
  · left
    rw [e, if_pos hc]
    omega
  · right
    have hne : y % (n : Int) ≠ 0 := fun hz => hc (Or.inr (Int.dvd_of_emod_eq_zero hz))
    rw [e, if_neg hc]
    refine ⟨by simp; omega, by omega⟩
theorem tmod_lo {a n : Int} (h0 : 0 ≤ a) (h : a < n) : a.tmod n = a := by
  rw [Int.tmod_eq_emod_of_nonneg h0, Int.emod_eq_of_lt h0 h]
theorem tmod_hi {a n : Int} (h0 : n ≤ a) (h : a < 2 * n) : a.tmod n = a - n := by
  rw [Int.tmod_eq_emod_of_nonneg (by omega), ← Int.sub_emod_right a n, Int.emod_eq_of_lt (by omega) (by omega)]
theorem tmod_ne {a n : Int} (h0 : a < 0) (h : -n < a) : a.tmod n = a := by
  have := tmod_lo (a := -a) (n := n) (by omega) (by omega)
  rw [Int.neg_tmod] at this
  omega
/-- where the cell stands that comes to place i -/
theorem rotL_at {l : List Int} {s i : Nat} (hs : s < l.length) (hi : i < l.length) : (rotL l s)[i]? = l[if i + s < l.length then i + s else i + s - l.length]? := by
  unfold rotL
  by_cases h : i + s < l.length
  · rw [if_pos h, List.getElem?_append_left (by simp; omega), List.getElem?_drop]
    congr 1
    omega
  · rw [if_neg h, List.getElem?_append_right (by simp; omega), List.length_drop, List.getElem?_take, if_pos (by omega)]
    congr 1
    omega
theorem turn_at {n i : Nat} (y : Int) (hi : i < n) (hn : n ≤ 1000) : ∃ a b : Int, ∃ j : Nat, (i : Int) + y.tmod (n : Int) = a ∧ a.tmod (n : Int) = b ∧ (b + (n : Int)).tmod (n : Int) = (j : Int) ∧ j < n ∧ -1000 ≤ a ∧ a ≤ 2000 ∧ -1000 ≤ b ∧ b ≤ 1000 ∧ -1000 ≤ y.tmod (n : Int) ∧ y.tmod (n : Int) ≤ 1000 ∧ ∀ l : List Int, l.length = n → (rotL l (startOf n y))[i]? = l[j]? := by
  have hs := start_lt (n := n) (y := y) (by omega)
  have ht := tmod_start (n := n) (by omega) y
  obtain ⟨s, es⟩ : ∃ s, startOf n y = s := ⟨_, rfl⟩
  rw [es] at hs ht ⊢
  obtain ⟨t, et⟩ : ∃ t, y.tmod (n : Int) = t := ⟨_, rfl⟩
  rw [et] at ht ⊢
  obtain ⟨j, hj⟩ : ∃ j, (if i + s < n then i + s else i + s - n) = j := ⟨_, rfl⟩
  have hat : ∀ l : List Int, l.length = n → (rotL l s)[i]? = l[j]? := fun l hl => by
    rw [rotL_at (by omega) (by omega), hl, hj]
  have hjn : j < n := by rw [← hj]; split <;> omega
  rcases ht with ht | ⟨ht, hs0⟩
  · by_cases h : i + s < n
    · rw [if_pos h] at hj
      have e1 : ((i : Int) + t).tmod (n : Int) = (i : Int) + t := tmod_lo (by omega) (by omega)
      have e2 : ((i : Int) + t + (n : Int)).tmod (n : Int) = (i : Int) + t + (n : Int) - (n : Int) := tmod_hi (by omega) (by omega)
      exact ⟨_, _, j, rfl, e1, by rw [e2]; omega, hjn, by omega, by omega, by omega, by omega, by omega, by omega, hat⟩
    · rw [if_neg h] at hj
      have e1 : ((i : Int) + t).tmod (n : Int) = (i : Int) + t - (n : Int) := tmod_hi (by omega) (by omega)
      have e2 : ((i : Int) + t - (n : Int) + (n : Int)).tmod (n : Int) = (i : Int) + t - (n : Int) + (n : Int) - (n : Int) := tmod_hi (by omega) (by omega)
      exact ⟨_, _, j, rfl, e1, by rw [e2]; omega, hjn, by omega, by omega, by omega, by omega, by omega, by omega, hat⟩
  · by_cases h : i + s < n
    · rw [if_pos h] at hj
      have e1 : ((i : Int) + t).tmod (n : Int) = (i : Int) + t := tmod_ne (by omega) (by omega)
      have e2 : ((i : Int) + t + (n : Int)).tmod (n : Int) = (i : Int) + t + (n : Int) := tmod_lo (by omega) (by omega)
      exact ⟨_, _, j, rfl, e1, by rw [e2]; omega, hjn, by omega, by omega, by omega, by omega, by omega, by omega, hat⟩
    · rw [if_neg h] at hj
      have e1 : ((i : Int) + t).tmod (n : Int) = (i : Int) + t := tmod_lo (by omega) (by omega)
      have e2 : ((i : Int) + t + (n : Int)).tmod (n : Int) = (i : Int) + t + (n : Int) - (n : Int) := tmod_hi (by omega) (by omega)
      exact ⟨_, _, j, rfl, e1, by rw [e2]; omega, hjn, by omega, by omega, by omega, by omega, by omega, by omega, hat⟩
theorem rot_back (l : List Int) (y : Int) : rotL (rotL l (startOf l.length y)) (startOf l.length (-y)) = l := by
  by_cases h0 : 0 < l.length
  · have h1 := start_lt (y := y) h0
    have h2 := start_lt (y := -y) h0
    have hs : startOf l.length y + startOf l.length (-y) = 0 ∨ startOf l.length y + startOf l.length (-y) = l.length := by
      have e : (((startOf l.length y + startOf l.length (-y) : Nat) : Int)) % (l.length : Int) = 0 := by
        rw [Int.natCast_add, h1.2, h2.2, ← Int.add_emod, Int.add_right_neg, Int.zero_emod]
      obtain ⟨q, hq⟩ := Int.dvd_of_emod_eq_zero e
      have hq0 : 0 ≤ q := by
        by_cases hq' : q < 0
        · have : (l.length : Int) * q ≤ (l.length : Int) * (-1) := Int.mul_le_mul_of_nonneg_left (by omega) (by omega)
          omega
        · omega
      have hq1 : q < 2 := by
        by_cases hq' : 2 ≤ q
        · have : (l.length : Int) * 2 ≤ (l.length : Int) * q := Int.mul_le_mul_of_nonneg_left (by omega) (by omega)
          omega
        · omega
      have : q = 0 ∨ q = 1 := by omega
      rcases this with rfl | rfl
      · left; omega
      · right; omega
    obtain ⟨s1, e1⟩ : ∃ s, startOf l.length y = s := ⟨_, rfl⟩
    obtain ⟨s2, e2⟩ : ∃ s, startOf l.length (-y) = s := ⟨_, rfl⟩
    rw [e1, e2] at hs
    rw [e1] at h1
    rw [e1, e2]
    rcases hs with hs | hs
    · have a1 : s1 = 0 := by omega
      have a2 : s2 = 0 := by omega
      subst a1 a2
      simp [rotL]
    · have a2 : s2 = l.length - s1 := by omega
      subst a2
      unfold rotL
      rw [List.drop_append_of_le_length (by simp), List.take_append_of_le_length (by simp)]
      simp
      have ht : List.take (l.length - s1) (List.drop s1 l) = List.drop s1 l := List.take_of_length_le (by simp)
      rw [hs, List.drop_length, List.nil_append, ht, List.take_append_drop]
  · have hz : l = [] := List.eq_nil_of_length_eq_zero (by omega)
    subst hz
    simp [rotL]
theorem drop_back (k : Nat) (l : List Int) : (dropL (k : Int) l.reverse).reverse = dropL (-(k : Int)) l := by
  unfold dropL
  rw [if_pos (by omega), Int.toNat_natCast]
  by_cases h : k = 0
  · subst h
    simp
  · rw [if_neg (by omega), Int.neg_neg, Int.toNat_natCast, List.drop_reverse, List.reverse_reverse]
theorem take_drop_all {k : Nat} {l : List Int} (h : k ≤ l.length) : takeL (k : Int) l ++ dropL (k : Int) l = l := by
  unfold takeL dropL
  rw [if_pos (by omega), if_pos (by omega), Int.toNat_natCast, show k - l.length = 0 by omega]
  simp
theorem takeL_lenk (k : Nat) (l : List Int) : (takeL (k : Int) l).length = k := by
  unfold takeL
  rw [if_pos (by omega)]
  simp
  omega
theorem takeL_lenn (k : Nat) (l : List Int) : (takeL (-(k : Int)) l).length = k := by
  unfold takeL
  by_cases h : k = 0
  · subst h; simp
  · rw [if_neg (by omega)]
    simp
    omega
theorem takeL_at {k i : Nat} {l : List Int} (hi : i < k) : (takeL (k : Int) l)[i]? = some (if h : i < l.length then l[i] else 0) := by
  unfold takeL
  rw [if_pos (by omega), Int.toNat_natCast]
  by_cases h : i < l.length
  · rw [dif_pos h, List.getElem?_append_left (by simp; omega), List.getElem?_take, if_pos hi, List.getElem?_eq_getElem h]
  · rw [dif_neg h, List.getElem?_append_right (by simp; omega), List.getElem?_replicate, if_pos (by simp; omega)]
theorem takeL_atn {k i : Nat} {l : List Int} (hi : i < k) : (takeL (-(k : Int)) l)[i]? = some (if h : k ≤ l.length + i then l[l.length + i - k]'(by omega) else 0) := by
  unfold takeL
  rw [if_neg (by omega), Int.neg_neg, Int.toNat_natCast]
  by_cases h : k ≤ l.length + i
  · rw [dif_pos h, List.getElem?_append_right (by simp; omega), List.length_replicate, List.getElem?_drop, List.getElem?_eq_getElem (by omega)]
    congr 2
    omega
  · rw [dif_neg h, List.getElem?_append_left (by simp; omega), List.getElem?_replicate, if_pos (by omega)]
end Go.Proofs.YtjobgpahajhbnaaGreatDoor
namespace Go.Proofs.YtjobgpahajhbnaaGreatDoor
open Go.RowKit Go.Proofs

/-- a line, said of its bytes -/
def SaysB (env : ByteArray → Option Arr) (b : ByteArray) (cs : List Int) : Prop := ∃ t : List UInt8, b = ⟨t.toArray⟩ ∧ RowSays env t cs
theorem row_b {env : ByteArray → Option Arr} {b : ByteArray} {cs : List Int} (h : SaysB env b cs) {S : Nat → Prop} {db N : Nat} {w : World} (hD : DkE S db env N w) {Q : Nat → Prop} {v : Value} (hn : Nums Q w v cs) (hl : cs.length ≤ 64) :
    Calls Tryz.prog 19 #[.pointer (some ⟨db, 0, none⟩), .string b, v] w fun e w' => e = .returned (.bool true) ∧ Below w.heap.size w w' := by
  obtain ⟨t, rfl, h⟩ := h
  exact row_line h hD hn hl
theorem like_b {env : ByteArray → Option Arr} {s t : ByteArray} {cs : List Int} (hs : SaysB env s cs) (ht : SaysB env t cs) {S : Nat → Prop} {db N : Nat} {w : World} (hD : DkE S db env N w) (hl : cs.length ≤ 64) :
    Calls Tryz.prog 24 #[.pointer (some ⟨db, 0, none⟩), .string s, .string t] w fun e w' => e = .returned (.bool true) ∧ Below w.heap.size w w' := by
  obtain ⟨s, rfl, hs⟩ := hs
  obtain ⟨t, rfl, ht⟩ := ht
  exact like_plain hs ht hD hl
/-- what a text of a number is: lit's, and num's -/
def LitT (y : Int) (t : List UInt8) : Prop := (y ≠ -9223372036854775808 ∧ Nm y t ∧ t.length ≤ 20) ∨ (y = -9223372036854775808 ∧ t = minT)
section
variable {env : ByteArray → Option Arr} {l : List Int}
theorem w_turn {y : Int} {ta t : List UInt8} {l : List Int} {b : Nat} (ha : AtT y ta) (h : RowW env t l b) (hl : l.length ≤ 64) : RowW env (ta ++ (32 :: ([114, 101, 118] ++ (32 :: t)))) (rotL l (startOf l.length y)) (b + 67) :=
  w_two fn2_rev rfl turn_two ha h (turn_rows y l) (by rw [rotL_len]; exact hl)
theorem w_drop {y : Int} {ta t : List UInt8} {l : List Int} {b : Nat} (ha : AtT y ta) (h : RowW env t l b) (hl : l.length ≤ 64) : RowW env (ta ++ (32 :: ([100, 114, 111, 112] ++ (32 :: t)))) (dropL y l) (b + 67) :=
  w_two fn2_drop rfl drop_two ha h (drop_row y l) (by have := dropL_len y l; omega)
theorem w_take {y : Int} {ta t : List UInt8} {l : List Int} {b : Nat} (ha : AtT y ta) (hy : ¬ (64 < y ∨ y < -64)) (h : RowW env t l b) : RowW env (ta ++ (32 :: ([116, 97, 107, 101] ++ (32 :: t)))) (takeL y l) (b + 67) :=
  w_two fn2_take rfl take_two ha h (take_row hy l) (takeL_len hy l)
theorem b_turn (he : EnvOk env) (hx : env xT = some (rowA l)) (hl : l.length ≤ 24) {y : Int} (hy : fit64 y) {t : List UInt8} (ht : LitT y t) : SaysB env ((⟨t.toArray⟩ : ByteArray) ++ ⟨#[32, 114, 101, 118, 32, 120]⟩) (rotL l (startOf l.length y)) := by
  have hA := at_lit hy ht
  refine ⟨_, ?_, says_w he (w_turn hA (w_x hx) (by omega)) (by omega) (by have := hA.1; simp; omega) (by rw [rotL_len]; omega)⟩
  apply ba_ext
  simp
theorem b_rev (he : EnvOk env) (hx : env xT = some (rowA l)) (hl : l.length ≤ 24) : SaysB env ⟨#[114, 101, 118, 32, 120]⟩ l.reverse :=
  ⟨_, rfl, says_w he (w_rev (w_x hx) (by omega)) (by omega) (by simp) (by simp; omega)⟩
theorem b_x (he : EnvOk env) (hx : env xT = some (rowA l)) (hl : l.length ≤ 24) : SaysB env ⟨#[120]⟩ l :=
  ⟨_, rfl, line_x he hx (by omega)⟩
theorem b_back (he : EnvOk env) (hx : env xT = some (rowA l)) (hl : l.length ≤ 24) {y : Int} (hy : fit64 y) (hm : y ≠ -9223372036854775808) {t t2 : List UInt8} (ht : LitT y t) (ht2 : LitT y t2) : SaysB env ((⟨#[40, 48, 32, 45, 32]⟩ ++ (⟨t.toArray⟩ : ByteArray)) ++ ⟨#[41, 32, 114, 101, 118, 32]⟩ ++ (⟨t2.toArray⟩ : ByteArray) ++ ⟨#[32, 114, 101, 118, 32, 120]⟩) l := by
  have hA := at_lit hy ht2
  rcases ht with ⟨_, h1, h2⟩ | ⟨h, _⟩
  · have hB : AtT (-y) (40 :: (([48] ++ (32 :: ([45] ++ (32 :: t)))) ++ [41])) := at_minus nm_zero h1 (by unfold fit64; omega) hy (by unfold fit64 at hy; unfold wrap64; omega) (by simp; omega)
    have := says_w he (w_turn hB (w_turn hA (w_x hx) (by omega)) (by rw [rotL_len]; omega)) (by omega) (by have := hA.1; simp; omega) (by rw [rotL_len, rotL_len]; omega)
    rw [rotL_len, rot_back] at this
    refine ⟨_, ?_, this⟩
    apply ba_ext
    simp
  · exact absurd h hm
variable {k : Nat} {m : List UInt8}
theorem b_take (he : EnvOk env) (hx : env xT = some (rowA l)) (hk : k ≤ 30) (hm : Nm (k : Int) m) (hml : m.length ≤ 20) : SaysB env ((⟨m.toArray⟩ : ByteArray) ++ ⟨#[32, 116, 97, 107, 101, 32, 120]⟩) (takeL (k : Int) l) := by
  have hA : AtT (k : Int) m := at_num hm (by unfold fit64; omega) (by omega)
  refine ⟨_, ?_, says_w he (w_take hA (by omega) (w_x hx)) (by omega) (by have := hA.1; simp; omega) (takeL_len (by omega) l)⟩
  apply ba_ext
  simp
theorem b_last (he : EnvOk env) (hx : env xT = some (rowA l)) (hk : k ≤ 30) (hm : Nm (k : Int) m) (hml : m.length ≤ 20) : SaysB env ((⟨#[40, 45, 32]⟩ ++ (⟨m.toArray⟩ : ByteArray)) ++ ⟨#[41, 32, 116, 97, 107, 101, 32, 120]⟩) (takeL (-(k : Int)) l) := by
  have hA := at_neg hk hm hml
  refine ⟨_, ?_, says_w he (w_take hA (by omega) (w_x hx)) (by omega) (by have := hA.1; simp; omega) (takeL_len (by omega) l)⟩
  apply ba_ext
  simp
theorem b_drop (he : EnvOk env) (hx : env xT = some (rowA l)) (hl : l.length ≤ 24) (hk : k ≤ 30) (hm : Nm (k : Int) m) (hml : m.length ≤ 20) : SaysB env ((⟨m.toArray⟩ : ByteArray) ++ ⟨#[32, 100, 114, 111, 112, 32, 120]⟩) (dropL (k : Int) l) := by
  have hA : AtT (k : Int) m := at_num hm (by unfold fit64; omega) (by omega)
  refine ⟨_, ?_, says_w he (w_drop hA (w_x hx) (by omega)) (by omega) (by have := hA.1; simp; omega) (by have := dropL_len (k : Int) l; omega)⟩
  apply ba_ext
  simp
theorem b_drop1 (he : EnvOk env) (hx : env xT = some (rowA l)) (hl : l.length ≤ 24) (hk : k ≤ 30) (hm : Nm (k : Int) m) (hml : m.length ≤ 20) : SaysB env ((⟨#[40, 45, 32]⟩ ++ (⟨m.toArray⟩ : ByteArray)) ++ ⟨#[41, 32, 100, 114, 111, 112, 32, 120]⟩) (dropL (-(k : Int)) l) := by
  have hA := at_neg hk hm hml
  refine ⟨_, ?_, says_w he (w_drop hA (w_x hx) (by omega)) (by omega) (by have := hA.1; simp; omega) (by have := dropL_len (-(k : Int)) l; omega)⟩
  apply ba_ext
  simp
theorem b_drop2 (he : EnvOk env) (hx : env xT = some (rowA l)) (hl : l.length ≤ 24) (hk : k ≤ 30) (hm : Nm (k : Int) m) (hml : m.length ≤ 20) : SaysB env ((⟨#[114, 101, 118, 32]⟩ ++ (⟨m.toArray⟩ : ByteArray)) ++ ⟨#[32, 100, 114, 111, 112, 32, 114, 101, 118, 32, 120]⟩) (dropL (-(k : Int)) l) := by
  have hA : AtT (k : Int) m := at_num hm (by unfold fit64; omega) (by omega)
  have hle : (dropL (k : Int) l.reverse).length ≤ 64 := by have := dropL_len (k : Int) l.reverse; simp at this; omega
  have := says_w he (w_rev (w_drop hA (w_rev (w_x hx) (by omega)) (by simp; omega)) hle) (by omega) (by have := hA.1; simp; omega) (by rw [List.length_reverse]; exact hle)
  rw [drop_back] at this
  refine ⟨_, ?_, this⟩
  apply ba_ext
  simp
theorem b_both (he : EnvOk env) (hx : env xT = some (rowA l)) (hl : l.length ≤ 24) (hk : k ≤ l.length) (hm : Nm (k : Int) m) (hml : m.length ≤ 20) : SaysB env ((⟨#[40]⟩ ++ (⟨m.toArray⟩ : ByteArray)) ++ ⟨#[32, 116, 97, 107, 101, 32, 120, 41, 32, 99, 97, 116, 32]⟩ ++ (⟨m.toArray⟩ : ByteArray) ++ ⟨#[32, 100, 114, 111, 112, 32, 120]⟩) l := by
  have hA : AtT (k : Int) m := at_num hm (by unfold fit64; omega) (by omega)
  have h1 : RowW env _ (takeL (k : Int) l) (0 + 67) := w_take hA (by omega) (w_x hx)
  have h2 : RowW env _ (dropL (k : Int) l) (0 + 67) := w_drop hA (w_x hx) (by omega)
  have hd := dropL_len (k : Int) l
  have ht := takeL_lenk k l
  obtain ⟨X, h1, h2, h3⟩ := w_cat h1 h2 (by omega) 0 0
  obtain ⟨c, _, hc⟩ := h3 0 (by omega)
  rw [take_drop_all hk] at hc
  refine ⟨_, ?_, rowSays_any h1 (by simp; omega) (by decide) he h2 hc (by omega)⟩
  apply ba_ext
  simp
end
end Go.Proofs.YtjobgpahajhbnaaGreatDoor
namespace Go.Proofs.YtjobgpahajhbnaaGreatDoor
open Go.RowKit Go.Proofs
attribute [local go_sem ↓] Go.wp_at_zero Go.wp_at_succ

theorem take_more {l : List Int} {i : Nat} {x : Int} (h : l[i]? = some x) : l.take (i + 1) = l.take i ++ [x] := by
  rw [List.take_add_one, h]
  rfl
theorem wrap_few {a : Int} (h : -100000 ≤ a) (h' : a ≤ 100000) : wrap64 a = a := by
  unfold wrap64
  omega
set_option maxHeartbeats 4000000 in
set_option maxRecDepth 20000 in
theorem turned_law (ao : Option Addr) (n cap : Nat) (xs : List Int) (y z : Int) (w : World) (hE : Evs w) (hT : Tab w) (hy : fit64 y) (hz : fit64 z) (hr : RawIn w ao xs) (hn : xs.length = n) (hlt : 0 < n → ∀ b off, ao = some ⟨b, off, none⟩ → b < w.heap.size) :
    Calls Tryz.prog 7 #[.slice ao n cap, .int .i64 y, .int .i64 z] w fun e w' => e = .returned (.bool true) ∧ Below w.heap.size w w' := by
  have HD1 := hide (desk_new hE)
  obtain ⟨W1, hW1⟩ : ∃ W1, w.alloc (.cells #[.int .i64 1000, .map none] 91) = W1 := ⟨_, rfl⟩
  have hb1 : Below w.heap.size w W1 := by rw [← hW1]; exact (Below.refl _ _).alloc (Nat.le_refl _) _
  rw [hW1] at HD1
  have hr1 : RawIn W1 ao xs := ⟨hr.1, fun h0 => by
    obtain ⟨b, off, e, hc⟩ := hr.2 h0
    exact ⟨b, off, e, fun i hi => (hb1.cell (p := ⟨b, off + i, none⟩) (hlt (by omega) b off e)).trans (hc i hi)⟩⟩
  have HS1 := hide (small_any ao n cap xs 24 (by decide) W1 hr1 hn (fun h0 b off e => Nat.lt_of_lt_of_le (hlt h0 b off e) hb1.size))
  have HB1 := hide hb1
  have HLit : Hid (∀ w', Below w.heap.size w w' → Calls Tryz.prog 16 #[.int .i64 y] w' fun e w'' => (∃ t, e = .returned (.string ⟨List.toArray t⟩) ∧ LitT y t) ∧ Below w'.heap.size w' w'') := hide (fun w' hb => lit_two y hy w' (hT.below hb))
  have HP := hide (fun w' => pick_any z 30 hz (by decide) w')
  have HY := hide hy
  clear hE hr hn hlt hr1 hb1 hT hy hz
  go_enter Tryz.func7, Tryz.ntmps7
  go_wp2_with (go_at_call 15; refine (desk_any _).mono ?_; rintro e w' ⟨rfl, rfl⟩)
  try rw [hW1]
  clear hW1
  refine (unhide HS1).mono ?_
  rintro e w2 ⟨v1, rfl, l, hl1, hl2, hl3, hb2⟩
  obtain ⟨lo, lc, rfl⟩ := hl1.shape
  have HL3 := hide hl3
  have HB2 : Hid (Below w.heap.size w w2) := hide ((unhide HB1).trans (hb2.mono (unhide HB1).size))
  have HDk := hide ((unhide HD1).more hb2)
  obtain ⟨S, hS⟩ : ∃ S, (fun b => (6 ≤ b ∧ b < w.heap.size) ∨ (W1.heap.size ≤ b ∧ b < w2.heap.size)) = S := ⟨_, rfl⟩
  have hSl : ∀ b, 6 ≤ b → b < w.heap.size → S b := fun b h1 h2 => by rw [← hS]; exact Or.inl ⟨h1, h2⟩
  rw [hS] at HDk
  have HNL : Hid (Nums S w2 (.slice lo l.length lc) l) := hide (hl1.nums.imp (Q := S) (fun b h _ => by rw [← hS]; exact Or.inr ⟨h.1, h.2⟩))
  have HSl := hide hSl
  obtain ⟨db, hdb⟩ : ∃ db, w.heap.size = db := ⟨_, rfl⟩
  rw [hdb] at HDk
  have HDB := hide hdb
  have hfl := few_fit (unhide HL3)
  have HOX := hide (envX_ok (l := l) (by omega) hfl)
  clear hl1 hl3 hb2 HS1 hS hSl HD1 hfl
  rw [hdb] at HB2 HSl HLit ⊢
  clear HB1
  go_wp2_with fail
  clear hdb
  refine (set_any S db env0 0 [120] name_x (by decide) w2 (unhide HDk) (by decide) env0_ok lo l.length lc l (unhide HNL) (by omega) (unhide HL3)).mono ?_
  rintro e w3 ⟨rfl, hd3, hk3⟩
  have HD3 : Hid (DkE S db (envX l) 1 w3) := hide hd3
  have HB3 : Hid (Below db w w3) := hide ((unhide HB2).trans (hk3.whole (by have := (unhide HDk).low; omega) (unhide HSl)))
  have HNL3 := hide (hk3.nums (unhide HNL) (fun _ h => h))
  clear hd3 hk3 HDk HB2 HNL HSl
  go_wp2_with (go_at_call 25; refine (unhide HP _).mono ?_; rintro e wS ⟨⟨r, rfl, hr0, hr1⟩, rfl⟩)
  obtain ⟨k, rfl⟩ : ∃ k : Nat, r = k := ⟨r.toNat, by omega⟩
  have hk30 : k < 30 := by omega
  clear hr0 hr1 HP
  go_wp2_with fail
  go_loopw [12, 13, 14] (fun v12 v13 v14 wr => ∃ i : Nat, v14 = .int .i64 i ∧ i ≤ l.length ∧ Three wS wr v12 v13 (.slice none 0 0) ((rotL l (startOf l.length y)).take i) (l.reverse.take i) []) (fun _ _ v14 _ => l.length - (intOf v14).toNat)
  case atStart => exact ⟨0, rfl, by omega, Three.start wS⟩
  case round =>
    obtain ⟨i, rfl, hi, h3⟩ := hrel
    have H3 := hide h3
    by_cases hil : i < l.length
    · obtain ⟨_, _, hA⟩ := nums_at (unhide HNL3)
      obtain ⟨lb, lof, rfl, hlb, hlc⟩ := hA (by omega)
      have HLC : Hid (∀ m, (hm : m < l.length) → ∀ w', Below wS.heap.size wS w' → w'.cell? ⟨lb, lof + m, none⟩ = some (.int .i64 l[m])) := hide (fun m hm w' hb => (hb.cell (p := ⟨lb, lof + m, none⟩) hlb).trans (hlc m hm))
      obtain ⟨a, b, j, e1, e2, e3, hj, b1, b2, b3, b4, b5, b6, hat⟩ := turn_at (n := l.length) (i := i) y hil (by omega)
      have hat := hat l rfl
      rw [List.getElem?_eq_getElem hj] at hat
      have hS1 := take_more hat
      obtain ⟨q, hq⟩ : ∃ q, l.length - 1 - i = q := ⟨_, rfl⟩
      have hql : q < l.length := by omega
      have hS2 : l.reverse.take (i + 1) = l.reverse.take i ++ [l[q]] := by
        refine take_more ?_
        rw [List.getElem?_reverse (by omega), hq, List.getElem?_eq_getElem hql]
      have cx := unhide HLC j hj wr h3.bel
      have HCY : Hid (∀ w', Below wS.heap.size wS w' → w'.cell? ⟨lb, lof + (l.length - 1 - i), none⟩ = some (.int .i64 l[q])) := hide (fun w' hb => by rw [hq]; exact unhide HLC q hql w' hb)
      obtain ⟨x, hx⟩ : ∃ x, l[j] = x := ⟨_, rfl⟩
      obtain ⟨x2, hx2⟩ : ∃ x, l[q] = x := ⟨_, rfl⟩
      rw [hx] at cx hS1
      rw [hx2] at HCY hS2
      have HS1 := hide hS1
      have HS2 := hide hS2
      have g0 : ((l.length : Int) == 0) = false := beq_false_of_ne (by omega)
      have g1 : wrap64 ((i : Int) + y.tmod (l.length : Int)) = a := by rw [e1]; exact wrap_few (by omega) (by omega)
      have g3 : wrap64 (b + (l.length : Int)) = b + (l.length : Int) := wrap_few (by omega) (by omega)
      have i0 : (0 : Int) ≤ (i : Int) := by omega
      have i1 : (i : Int) < (l.length : Int) := by omega
      have j0 : (0 : Int) ≤ (j : Int) := by omega
      have j1 : (j : Int) < (l.length : Int) := by omega
      have hq1 : ((rotL l (startOf l.length y)).take i).length ≤ 24 := by simp; omega
      have hq2 : (l.reverse.take i).length ≤ 24 := by simp; omega
      have HQ1 := hide hq1
      have HQ2 := hide hq2
      clear hA hlc hx hx2 hS1 hS2 h3 e1 b1 b2 b3 b4 b5 b6 hat hq HLC hq1 hq2 hql
      go_wp2_with (at_builtin; refine wpList_app1 rfl _ _ rfl (unhide H3).o1 (by have := unhide HQ1; omega) (unhide H3).bel.size x rfl rfl ?_)
      intro v' w4 ho4 hg4
      have H4 := hide ((unhide H3).grow1 ho4 hg4)
      have cy := unhide HCY w4 (unhide H4).bel
      clear ho4 hg4 H3 cx
      go_wp2_with (at_builtin; refine wpList_app1 rfl _ _ rfl (unhide H4).o2 (by have := unhide HQ2; omega) (unhide H4).bel.size x2 rfl rfl ?_)
      intro v2' w5 ho5 hg5
      have H5 := hide ((unhide H4).grow2 ho5 hg5)
      clear ho5 hg5 H4 cy
      go_wp2_with fail
      go_roundw
      case rel => exact ⟨i + 1, by go_num, by omega, by rw [unhide HS1, unhide HS2]; exact unhide H5⟩
      case measure => simp [intOf]; omega
    · have hie : i = l.length := by omega
      have hT1 : (rotL l (startOf l.length y)).take i = rotL l (startOf l.length y) := List.take_of_length_le (by rw [rotL_len]; omega)
      have hT2 : l.reverse.take i = l.reverse := List.take_of_length_le (by simp; omega)
      rw [hT1, hT2] at H3
      have i1 : ¬ (i : Int) < (l.length : Int) := by omega
      clear h3 hT1 hT2 hie
      rename World => wL
      have H1 := hide (Three.start wL)
      have HNL4 := hide ((unhide HNL3).below (unhide H3).bel)
      go_wp2_with fail
      go_loopw [15, 16, 18] (fun v15 v16 v18 wx => ∃ i : Nat, v18 = .int .i64 i ∧ i ≤ k ∧ Three wL wx v15 v16 (.slice none 0 0) ((takeL (k : Int) l).take i) ((takeL (-(k : Int)) l).take i) []) (fun _ _ v18 _ => k - (intOf v18).toNat)
      case atStart => exact ⟨0, rfl, by omega, unhide H1⟩
      case round =>
        obtain ⟨i2, rfl, hi2, h2⟩ := hrel
        have H2 := hide h2
        by_cases hik : i2 < k
        · have hq1 : ((takeL (k : Int) l).take i2).length ≤ 30 := by simp; omega
          have hq2 : ((takeL (-(k : Int)) l).take i2).length ≤ 30 := by simp; omega
          have hS1 := take_more (takeL_at (l := l) hik)
          have hS2 := take_more (takeL_atn (l := l) hik)
          have HQ1 := hide hq1
          have HQ2 := hide hq2
          have HS1 := hide hS1
          have HS2 := hide hS2
          have n0 : (0 : Int) ≤ (i2 : Int) := by omega
          have n1 : (i2 : Int) < (k : Int) := by omega
          clear hq1 hq2 hS1 hS2 h2
          by_cases hc1 : i2 < l.length
          · by_cases hc2 : k ≤ l.length + i2
            · skip
              obtain ⟨_, _, hA⟩ := nums_at (unhide HNL4)
              obtain ⟨lb, lof, rfl, hlb, hlc⟩ := hA (by omega)
              rw [dif_pos hc1] at HS1
              have cx := ((unhide H2).bel.cell (p := ⟨lb, lof + i2, none⟩) hlb).trans (hlc i2 hc1)
              obtain ⟨x, hx⟩ : ∃ x, l[i2] = x := ⟨_, rfl⟩
              rw [hx] at cx HS1
              have m1 : (i2 : Int) < (l.length : Int) := by omega
              rw [dif_pos hc2] at HS2
              have hj : l.length + i2 - k < l.length := by omega
              have HCY : Hid (∀ w', Below wL.heap.size wL w' → w'.cell? ⟨lb, lof + ((l.length : Int) - (k : Int) + (i2 : Int)).toNat, none⟩ = some (.int .i64 l[l.length + i2 - k])) := hide (fun w' hb => by rw [show ((l.length : Int) - (k : Int) + (i2 : Int)).toNat = l.length + i2 - k by omega]; exact (hb.cell (p := ⟨lb, lof + (l.length + i2 - k), none⟩) hlb).trans (hlc _ hj))
              obtain ⟨x2, hx2⟩ : ∃ x, l[l.length + i2 - k] = x := ⟨_, rfl⟩
              rw [hx2] at HCY HS2
              have m2 : (0 : Int) ≤ (l.length : Int) - (k : Int) + (i2 : Int) := by omega
              have m3 : (l.length : Int) - (k : Int) + (i2 : Int) < (l.length : Int) := by omega
              clear hA hlc hx hx2 hj
              go_wp2_with (at_builtin; refine wpList_app1 rfl _ _ rfl (unhide H2).o1 (by have := unhide HQ1; omega) (unhide H2).bel.size x rfl rfl ?_)
              intro v' w4 ho4 hg4
              have H4 := hide ((unhide H2).grow1 ho4 hg4)
              clear ho4 hg4 H2
              clear cx
              have cy := unhide HCY w4 (unhide H4).bel
              go_wp2_with (at_builtin; refine wpList_app1 rfl _ _ rfl (unhide H4).o2 (by have := unhide HQ2; omega) (unhide H4).bel.size x2 rfl rfl ?_)
              intro v2' w5 ho5 hg5
              have H5 := hide ((unhide H4).grow2 ho5 hg5)
              clear ho5 hg5 H4
              clear cy
              go_wp2_with fail
              go_roundw
              case rel => exact ⟨i2 + 1, by go_num, by omega, by rw [unhide HS1, unhide HS2]; exact unhide H5⟩
              case measure => simp [intOf]; omega
            · skip
              obtain ⟨_, _, hA⟩ := nums_at (unhide HNL4)
              obtain ⟨lb, lof, rfl, hlb, hlc⟩ := hA (by omega)
              rw [dif_pos hc1] at HS1
              have cx := ((unhide H2).bel.cell (p := ⟨lb, lof + i2, none⟩) hlb).trans (hlc i2 hc1)
              obtain ⟨x, hx⟩ : ∃ x, l[i2] = x := ⟨_, rfl⟩
              rw [hx] at cx HS1
              have m1 : (i2 : Int) < (l.length : Int) := by omega
              rw [dif_neg hc2] at HS2
              have m2 : ¬ (0 : Int) ≤ (l.length : Int) - (k : Int) + (i2 : Int) := by omega
              clear hA hlc hx
              go_wp2_with (at_builtin; refine wpList_app1 rfl _ _ rfl (unhide H2).o1 (by have := unhide HQ1; omega) (unhide H2).bel.size x rfl rfl ?_)
              intro v' w4 ho4 hg4
              have H4 := hide ((unhide H2).grow1 ho4 hg4)
              clear ho4 hg4 H2
              clear cx
              go_wp2_with (at_builtin; refine wpList_app1 rfl _ _ rfl (unhide H4).o2 (by have := unhide HQ2; omega) (unhide H4).bel.size 0 rfl rfl ?_)
              intro v2' w5 ho5 hg5
              have H5 := hide ((unhide H4).grow2 ho5 hg5)
              clear ho5 hg5 H4
              go_wp2_with fail
              go_roundw
              case rel => exact ⟨i2 + 1, by go_num, by omega, by rw [unhide HS1, unhide HS2]; exact unhide H5⟩
              case measure => simp [intOf]; omega
          · by_cases hc2 : k ≤ l.length + i2
            · skip
              obtain ⟨_, _, hA⟩ := nums_at (unhide HNL4)
              obtain ⟨lb, lof, rfl, hlb, hlc⟩ := hA (by omega)
              rw [dif_neg hc1] at HS1
              have m1 : ¬ (i2 : Int) < (l.length : Int) := by omega
              rw [dif_pos hc2] at HS2
              have hj : l.length + i2 - k < l.length := by omega
              have HCY : Hid (∀ w', Below wL.heap.size wL w' → w'.cell? ⟨lb, lof + ((l.length : Int) - (k : Int) + (i2 : Int)).toNat, none⟩ = some (.int .i64 l[l.length + i2 - k])) := hide (fun w' hb => by rw [show ((l.length : Int) - (k : Int) + (i2 : Int)).toNat = l.length + i2 - k by omega]; exact (hb.cell (p := ⟨lb, lof + (l.length + i2 - k), none⟩) hlb).trans (hlc _ hj))
              obtain ⟨x2, hx2⟩ : ∃ x, l[l.length + i2 - k] = x := ⟨_, rfl⟩
              rw [hx2] at HCY HS2
              have m2 : (0 : Int) ≤ (l.length : Int) - (k : Int) + (i2 : Int) := by omega
              have m3 : (l.length : Int) - (k : Int) + (i2 : Int) < (l.length : Int) := by omega
              clear hA hlc hx2 hj
              go_wp2_with (at_builtin; refine wpList_app1 rfl _ _ rfl (unhide H2).o1 (by have := unhide HQ1; omega) (unhide H2).bel.size 0 rfl rfl ?_)
              intro v' w4 ho4 hg4
              have H4 := hide ((unhide H2).grow1 ho4 hg4)
              clear ho4 hg4 H2
              have cy := unhide HCY w4 (unhide H4).bel
              go_wp2_with (at_builtin; refine wpList_app1 rfl _ _ rfl (unhide H4).o2 (by have := unhide HQ2; omega) (unhide H4).bel.size x2 rfl rfl ?_)
              intro v2' w5 ho5 hg5
              have H5 := hide ((unhide H4).grow2 ho5 hg5)
              clear ho5 hg5 H4
              clear cy
              go_wp2_with fail
              go_roundw
              case rel => exact ⟨i2 + 1, by go_num, by omega, by rw [unhide HS1, unhide HS2]; exact unhide H5⟩
              case measure => simp [intOf]; omega
            · skip
              rw [dif_neg hc1] at HS1
              have m1 : ¬ (i2 : Int) < (l.length : Int) := by omega
              rw [dif_neg hc2] at HS2
              have m2 : ¬ (0 : Int) ≤ (l.length : Int) - (k : Int) + (i2 : Int) := by omega
              go_wp2_with (at_builtin; refine wpList_app1 rfl _ _ rfl (unhide H2).o1 (by have := unhide HQ1; omega) (unhide H2).bel.size 0 rfl rfl ?_)
              intro v' w4 ho4 hg4
              have H4 := hide ((unhide H2).grow1 ho4 hg4)
              clear ho4 hg4 H2
              go_wp2_with (at_builtin; refine wpList_app1 rfl _ _ rfl (unhide H4).o2 (by have := unhide HQ2; omega) (unhide H4).bel.size 0 rfl rfl ?_)
              intro v2' w5 ho5 hg5
              have H5 := hide ((unhide H4).grow2 ho5 hg5)
              clear ho5 hg5 H4
              go_wp2_with fail
              go_roundw
              case rel => exact ⟨i2 + 1, by go_num, by omega, by rw [unhide HS1, unhide HS2]; exact unhide H5⟩
              case measure => simp [intOf]; omega
        · have hie : i2 = k := by omega
          have hT1 : (takeL (k : Int) l).take i2 = takeL (k : Int) l := List.take_of_length_le (by rw [takeL_lenk]; omega)
          have hT2 : (takeL (-(k : Int)) l).take i2 = takeL (-(k : Int)) l := List.take_of_length_le (by rw [takeL_lenn]; omega)
          rw [hT1, hT2] at H2
          have n1 : ¬ (i2 : Int) < (k : Int) := by omega
          clear h2 hT1 hT2 hie
          rename World => wM
          have H4 := hide (Three.start wM)
          have HNL5 := hide ((unhide HNL4).below (unhide H2).bel)
          go_wp2_with fail
          go_loopw [17, 20] (fun v17 v20 wx => ∃ i : Nat, v20 = .int .i64 i ∧ k ≤ i ∧ Three wM wx v17 (.slice none 0 0) (.slice none 0 0) ((l.drop k).take (i - k)) [] []) (fun _ v20 _ => l.length - (intOf v20).toNat)
          case atStart => exact ⟨k, rfl, by omega, by simpa using unhide H4⟩
          case round =>
            obtain ⟨i3, rfl, hi3, h5⟩ := hrel
            have H5 := hide h5
            by_cases hl3 : i3 < l.length
            · obtain ⟨_, _, hA⟩ := nums_at (unhide HNL5)
              obtain ⟨lb, lof, rfl, hlb, hlc⟩ := hA (by omega)
              have cx := (h5.bel.cell (p := ⟨lb, lof + i3, none⟩) hlb).trans (hlc i3 hl3)
              have hS1 : (l.drop k).take (i3 + 1 - k) = (l.drop k).take (i3 - k) ++ [l[i3]] := by
                rw [show i3 + 1 - k = i3 - k + 1 by omega]
                refine take_more ?_
                rw [List.getElem?_drop, show k + (i3 - k) = i3 by omega, List.getElem?_eq_getElem hl3]
              obtain ⟨x, hx⟩ : ∃ x, l[i3] = x := ⟨_, rfl⟩
              rw [hx] at cx hS1
              have HS1 := hide hS1
              have hq1 : ((l.drop k).take (i3 - k)).length ≤ 30 := by simp; omega
              have HQ1 := hide hq1
              have n2 : (0 : Int) ≤ (i3 : Int) := by omega
              have n3 : (i3 : Int) < (l.length : Int) := by omega
              clear hA hlc hx hS1 hq1 h5
              go_wp2_with (at_builtin; refine wpList_app1 rfl _ _ rfl (unhide H5).o1 (by have := unhide HQ1; omega) (unhide H5).bel.size x rfl rfl ?_)
              intro v' w4 ho4 hg4
              have H6 := hide ((unhide H5).grow1 ho4 hg4)
              clear ho4 hg4 H5 cx
              go_wp2_with fail
              go_roundw
              case rel => exact ⟨i3 + 1, by go_num, by omega, by rw [unhide HS1]; exact unhide H6⟩
              case measure => simp [intOf]; omega
            · have hT1 : (l.drop k).take (i3 - k) = dropL (k : Int) l := by
                unfold dropL
                rw [if_pos (by omega), Int.toNat_natCast]
                exact List.take_of_length_le (by simp; omega)
              rw [hT1] at H5
              have n3 : ¬ (i3 : Int) < (l.length : Int) := by omega
              clear h5 hT1
              rename World => wN
              have HD6 := hide ((((unhide HD3).below (unhide H3).bel).below (unhide H2).bel).below (unhide H5).bel)
              have hb6 : Below wS.heap.size wS wN := ((unhide H3).bel.trans ((unhide H2).bel.mono (unhide H3).bel.size)).trans ((unhide H5).bel.mono ((unhide H3).bel.trans ((unhide H2).bel.mono (unhide H3).bel.size)).size)
              have HB6 : Hid (Below db w wN) := hide ((unhide HB3).trans (hb6.mono (by have := (unhide HD3).low; omega)))
              have HNa6 := hide (((unhide H3).o1.nums.below (unhide H2).bel).below (unhide H5).bel)
              have HNb6 := hide (((unhide H3).o2.nums.below (unhide H2).bel).below (unhide H5).bel)
              have HNc6 := hide ((unhide H2).o1.nums.below (unhide H5).bel)
              have HNd6 := hide ((unhide H2).o2.nums.below (unhide H5).bel)
              have HNe6 := hide (unhide H5).o1.nums
              obtain ⟨hnm, hnl⟩ := numT_nm (i := k) (by omega)
              have HNUM := hide (fun w' => numT_any k (by omega) w')
              obtain ⟨m, hm⟩ : ∃ m, Lib.decDigits k = m := ⟨_, rfl⟩
              rw [hm] at hnm hnl HNUM
              have hok := unhide HOX
              have hx := envX_x l
              have HR2 := hide (b_rev hok hx hl2)
              have HRx := hide (b_x hok hx hl2)
              have HR3 := hide (b_take (l := l) hok hx (by omega : k ≤ 30) hnm (by omega))
              have HR4 := hide (b_last (l := l) hok hx (by omega : k ≤ 30) hnm (by omega))
              have HR5 := hide (b_drop hok hx hl2 (by omega : k ≤ 30) hnm (by omega))
              have HR6 := hide (b_drop1 hok hx hl2 (by omega : k ≤ 30) hnm (by omega))
              have HR7 := hide (b_drop2 hok hx hl2 (by omega : k ≤ 30) hnm (by omega))
              have HR8 : Hid (k ≤ l.length → _) := hide (fun h => b_both hok hx hl2 h hnm (by omega))
              have HR1 : Hid (∀ t, LitT y t → _) := hide (fun t ht => b_turn hok hx hl2 (unhide HY) ht)
              have HR9 : Hid (y ≠ -9223372036854775808 → ∀ t t2, LitT y t → LitT y t2 → _) := hide (fun h t t2 ht ht2 => b_back hok hx hl2 (unhide HY) h ht ht2)
              have HK1 : Hid ((rotL l (startOf l.length y)).length ≤ 64) := hide (by rw [rotL_len]; omega)
              have HK2 : Hid (l.reverse.length ≤ 64) := hide (by simp; omega)
              have HK3 : Hid ((takeL (k : Int) l).length ≤ 64) := hide (by rw [takeL_lenk]; omega)
              have HK4 : Hid ((takeL (-(k : Int)) l).length ≤ 64) := hide (by rw [takeL_lenn]; omega)
              have HK5 : Hid ((dropL (k : Int) l).length ≤ 64) := hide (by have := dropL_len (k : Int) l; omega)
              have HK6 : Hid ((dropL (-(k : Int)) l).length ≤ 64) := hide (by have := dropL_len (-(k : Int)) l; omega)
              have hz9 : l.length ≤ 64 := by omega
              have hml : m.length ≤ 40 := by omega
              clear hb6 H1 H2 H3 H4 H5 hnm hnl hm hok hx HOX HNL3 HNL4 HNL5 HD3 HB3 HL3
              go_wp2_with (go_at_call 26; refine (unhide HNUM _).mono ?_; rintro e w' ⟨rfl, rfl⟩)
              refine (unhide HLit _ (unhide HB6)).mono ?_
              rintro e w7 ⟨⟨t, rfl, ht⟩, hb7⟩
              have HT1 := hide ht
              have htl : t.length ≤ 40 := (at_lit (unhide HY) ht).1
              have HD7 := hide ((unhide HD6).below hb7)
              have HB7 : Hid (Below db w w7) := hide ((unhide HB6).trans (hb7.mono (by have := (unhide HD6).low; omega)))
              have HNa7 := hide ((unhide HNa6).below hb7)
              have HNb7 := hide ((unhide HNb6).below hb7)
              have HNc7 := hide ((unhide HNc6).below hb7)
              have HNd7 := hide ((unhide HNd6).below hb7)
              have HNe7 := hide ((unhide HNe6).below hb7)
              clear ht hb7 HD6 HB6 HNa6 HNb6 HNc6 HNd6 HNe6
              go_wp2_with fail
              refine (row_b (unhide HR1 t (unhide HT1)) (unhide HD7) (unhide HNa7) (unhide HK1)).mono ?_
              rintro e w8 ⟨rfl, hb8⟩
              have HD8 := hide ((unhide HD7).below hb8)
              have HB8 : Hid (Below db w w8) := hide ((unhide HB7).trans (hb8.mono (by have := (unhide HD7).low; omega)))
              have HNb8 := hide ((unhide HNb7).below hb8)
              have HNc8 := hide ((unhide HNc7).below hb8)
              have HNd8 := hide ((unhide HNd7).below hb8)
              have HNe8 := hide ((unhide HNe7).below hb8)
              clear hb8 HD7 HB7 HNb7 HNc7 HNd7 HNe7 HNa7 HR1 HK1 HT1
              go_wp2_with fail
              refine (row_b (unhide HR2) (unhide HD8) (unhide HNb8) (unhide HK2)).mono ?_
              rintro e w9 ⟨rfl, hb9⟩
              have HD9 := hide ((unhide HD8).below hb9)
              have HB9 : Hid (Below db w w9) := hide ((unhide HB8).trans (hb9.mono (by have := (unhide HD8).low; omega)))
              have HNc9 := hide ((unhide HNc8).below hb9)
              have HNd9 := hide ((unhide HNd8).below hb9)
              have HNe9 := hide ((unhide HNe8).below hb9)
              clear hb9 HD8 HB8 HNc8 HNd8 HNe8 HNb8 HR2 HK2
              by_cases hmin : y = -9223372036854775808
              · have hm1 : (y == -9223372036854775808) = true := by simpa using hmin
                clear hmin HR9
                go_wp2_with fail
                refine (row_b (unhide HR3) (unhide HD9) (unhide HNc9) (unhide HK3)).mono ?_
                rintro e w20 ⟨rfl, hb20⟩
                have HD20 := hide ((unhide HD9).below hb20)
                have HB20 : Hid (Below db w w20) := hide ((unhide HB9).trans (hb20.mono (by have := (unhide HD9).low; omega)))
                have HNd20 := hide ((unhide HNd9).below hb20)
                have HNe20 := hide ((unhide HNe9).below hb20)
                clear hb20 HD9 HB9 HNd9 HNe9 HNc9 HR3 HK3
                go_wp2_with fail
                refine (row_b (unhide HR4) (unhide HD20) (unhide HNd20) (unhide HK4)).mono ?_
                rintro e w21 ⟨rfl, hb21⟩
                have HD21 := hide ((unhide HD20).below hb21)
                have HB21 : Hid (Below db w w21) := hide ((unhide HB20).trans (hb21.mono (by have := (unhide HD20).low; omega)))
                have HNe21 := hide ((unhide HNe20).below hb21)
                clear hb21 HD20 HB20 HNe20 HNd20 HR4 HK4
                go_wp2_with fail
                refine (row_b (unhide HR5) (unhide HD21) (unhide HNe21) (unhide HK5)).mono ?_
                rintro e w22 ⟨rfl, hb22⟩
                have HD22 := hide ((unhide HD21).below hb22)
                have HB22 : Hid (Below db w w22) := hide ((unhide HB21).trans (hb22.mono (by have := (unhide HD21).low; omega)))
                clear hb22 HD21 HB21  HNe21 HR5 HK5
                go_wp2_with fail
                refine (like_b (unhide HR6) (unhide HR7) (unhide HD22) (unhide HK6)).mono ?_
                rintro e w23 ⟨rfl, hb23⟩
                have HD23 := hide ((unhide HD22).below hb23)
                have HB23 : Hid (Below db w w23) := hide ((unhide HB22).trans (hb23.mono (by have := (unhide HD22).low; omega)))
                clear hb23 HD22 HB22  HR6 HR7 HK6
                by_cases hkl : k ≤ l.length
                · have o1 : ¬ (l.length : Int) < (k : Int) := by omega
                  have HR10 := hide (unhide HR8 hkl)
                  clear HR8 hkl
                  go_wp2_with fail
                  refine (like_b (unhide HR10) (unhide HRx) (unhide HD23) hz9).mono ?_
                  rintro e w24 ⟨rfl, hb24⟩
                  have HB24 : Hid (Below db w w24) := hide ((unhide HB23).trans (hb24.mono (by have := (unhide HD23).low; omega)))
                  clear hb24 HD23 HB23 HR10
                  go_wp2_with fail
                  exact bodyPost_ret (v := .bool true) (by simp [results, Tryz.results7, go_sem]) rfl ⟨rfl, by rw [unhide HDB]; exact unhide HB24⟩
                · have o1 : (l.length : Int) < (k : Int) := by omega
                  clear HR8 hkl
                  go_wp2_with fail
                  exact bodyPost_ret (v := .bool true) (by simp [results, Tryz.results7, go_sem]) rfl ⟨rfl, by rw [unhide HDB]; exact unhide HB23⟩
              · have hm1 : (y == -9223372036854775808) = false := by simpa using hmin
                have HR9' := hide (unhide HR9 hmin)
                clear hmin HR9
                go_wp2_with fail
                refine (unhide HLit _ (unhide HB9)).mono ?_
                rintro e w10 ⟨⟨t2, rfl, ht⟩, hb10⟩
                have HT10 := hide ht
                have htl10 : t2.length ≤ 40 := (at_lit (unhide HY) ht).1
                have HD10 := hide ((unhide HD9).below hb10)
                have HB10 : Hid (Below db w w10) := hide ((unhide HB9).trans (hb10.mono (by have := (unhide HD9).low; omega)))
                have HNc10 := hide ((unhide HNc9).below hb10)
                have HNd10 := hide ((unhide HNd9).below hb10)
                have HNe10 := hide ((unhide HNe9).below hb10)
                clear ht hb10 HD9 HB9 HNc9 HNd9 HNe9
                go_wp2_with fail
                refine (unhide HLit _ (unhide HB10)).mono ?_
                rintro e w11 ⟨⟨t3, rfl, ht⟩, hb11⟩
                have HT11 := hide ht
                have htl11 : t3.length ≤ 40 := (at_lit (unhide HY) ht).1
                have HD11 := hide ((unhide HD10).below hb11)
                have HB11 : Hid (Below db w w11) := hide ((unhide HB10).trans (hb11.mono (by have := (unhide HD10).low; omega)))
                have HNc11 := hide ((unhide HNc10).below hb11)
                have HNd11 := hide ((unhide HNd10).below hb11)
                have HNe11 := hide ((unhide HNe10).below hb11)
                clear ht hb11 HD10 HB10 HNc10 HNd10 HNe10
                go_wp2_with fail
                refine (like_b (unhide HR9' _ _ (unhide HT10) (unhide HT11)) (unhide HRx) (unhide HD11) hz9).mono ?_
                rintro e w12 ⟨rfl, hb12⟩
                have HD12 := hide ((unhide HD11).below hb12)
                have HB12 : Hid (Below db w w12) := hide ((unhide HB11).trans (hb12.mono (by have := (unhide HD11).low; omega)))
                have HNc12 := hide ((unhide HNc11).below hb12)
                have HNd12 := hide ((unhide HNd11).below hb12)
                have HNe12 := hide ((unhide HNe11).below hb12)
                clear hb12 HD11 HB11 HNc11 HNd11 HNe11 HR9' HT10 HT11
                go_wp2_with fail
                refine (row_b (unhide HR3) (unhide HD12) (unhide HNc12) (unhide HK3)).mono ?_
                rintro e w20 ⟨rfl, hb20⟩
                have HD20 := hide ((unhide HD12).below hb20)
                have HB20 : Hid (Below db w w20) := hide ((unhide HB12).trans (hb20.mono (by have := (unhide HD12).low; omega)))
                have HNd20 := hide ((unhide HNd12).below hb20)
                have HNe20 := hide ((unhide HNe12).below hb20)
                clear hb20 HD12 HB12 HNd12 HNe12 HNc12 HR3 HK3
                go_wp2_with fail
                refine (row_b (unhide HR4) (unhide HD20) (unhide HNd20) (unhide HK4)).mono ?_
                rintro e w21 ⟨rfl, hb21⟩
                have HD21 := hide ((unhide HD20).below hb21)
                have HB21 : Hid (Below db w w21) := hide ((unhide HB20).trans (hb21.mono (by have := (unhide HD20).low; omega)))
                have HNe21 := hide ((unhide HNe20).below hb21)
                clear hb21 HD20 HB20 HNe20 HNd20 HR4 HK4
                go_wp2_with fail
                refine (row_b (unhide HR5) (unhide HD21) (unhide HNe21) (unhide HK5)).mono ?_
                rintro e w22 ⟨rfl, hb22⟩
                have HD22 := hide ((unhide HD21).below hb22)
                have HB22 : Hid (Below db w w22) := hide ((unhide HB21).trans (hb22.mono (by have := (unhide HD21).low; omega)))
                clear hb22 HD21 HB21  HNe21 HR5 HK5
                go_wp2_with fail
                refine (like_b (unhide HR6) (unhide HR7) (unhide HD22) (unhide HK6)).mono ?_
                rintro e w23 ⟨rfl, hb23⟩
                have HD23 := hide ((unhide HD22).below hb23)
                have HB23 : Hid (Below db w w23) := hide ((unhide HB22).trans (hb23.mono (by have := (unhide HD22).low; omega)))
                clear hb23 HD22 HB22  HR6 HR7 HK6
                by_cases hkl : k ≤ l.length
                · have o1 : ¬ (l.length : Int) < (k : Int) := by omega
                  have HR10 := hide (unhide HR8 hkl)
                  clear HR8 hkl
                  go_wp2_with fail
                  refine (like_b (unhide HR10) (unhide HRx) (unhide HD23) hz9).mono ?_
                  rintro e w24 ⟨rfl, hb24⟩
                  have HB24 : Hid (Below db w w24) := hide ((unhide HB23).trans (hb24.mono (by have := (unhide HD23).low; omega)))
                  clear hb24 HD23 HB23 HR10
                  go_wp2_with fail
                  exact bodyPost_ret (v := .bool true) (by simp [results, Tryz.results7, go_sem]) rfl ⟨rfl, by rw [unhide HDB]; exact unhide HB24⟩
                · have o1 : (l.length : Int) < (k : Int) := by omega
                  clear HR8 hkl
                  go_wp2_with fail
                  exact bodyPost_ret (v := .bool true) (by simp [results, Tryz.results7, go_sem]) rfl ⟨rfl, by rw [unhide HDB]; exact unhide HB23⟩
end Go.Proofs.YtjobgpahajhbnaaGreatDoor
