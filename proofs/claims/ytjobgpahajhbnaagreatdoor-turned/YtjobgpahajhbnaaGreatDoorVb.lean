import Derived.Test.YtjobgpahajhbnaaGreatDoorUe
namespace Go.Proofs.YtjobgpahajhbnaaGreatDoor
open Go.RowKit Go.Proofs
attribute [local go_sem ↓] Go.wp_at_zero Go.wp_at_succ

/-- raw numbers in memory -/
def RawIn (w : World) (ao : Option Addr) (xs : List Int) : Prop :=
  (∀ c ∈ xs, fit64 c) ∧ (0 < xs.length → ∃ b off, ao = some ⟨b, off, none⟩ ∧ ∀ i, (h : i < xs.length) → w.cell? ⟨b, off + i, none⟩ = some (.int .i64 xs[i]))
/-- what a call of expr leaves -/
def ExprR (d : Nat) (at_ : Int) (w : World) (e : Ending) (w' : World) : Prop :=
  (∃ t g, ∃ to : Nat, e = .returned (.tuple #[.string ⟨List.toArray t⟩, .int .i64 (Gr.val g), .int .i64 to]) ∧ Tx false g t ∧ g.fine ∧ g.mt ∧ g.deep ≤ d ∧ (to : Int) + 2 ≤ at_ + 3 * (2 ^ d : Nat) ∧ t.length + 5 ≤ 10 * 2 ^ d) ∧ w' = w
theorem three_tx : Tx false (.lit 3) [51] := Tx.only _ _ (Tx.lit 3 [51] (Nm.pos [51] (by decide) (by decide) (by decide) (by decide)))
theorem sumBr (t : List UInt8) : (⟨#[40]⟩ : ByteArray) ++ ⟨t.toArray⟩ ++ ⟨#[41]⟩ = ⟨(40 :: (t ++ [41])).toArray⟩ := by
  apply ba_ext
  simp
theorem sum3 (a b : List UInt8) (m : Array UInt8) : (⟨a.toArray⟩ : ByteArray) ++ ⟨m⟩ ++ ⟨b.toArray⟩ = ⟨(a ++ (m.toList ++ b)).toArray⟩ := by
  apply ba_ext
  simp
set_option maxHeartbeats 400000 in
theorem expr_base (ao : Option Addr) (N cap at_ d : Nat) (w : World) (h : N ≤ at_ ∨ d = 0) (ha : at_ + 3 * 2 ^ d ≤ 1000) (_hN : N ≤ 9223372036854775807) (hd : d ≤ 7) :
    Calls Tryz.prog 30 #[.slice ao N cap, .int .i64 at_, .int .i64 d] w (ExprR d at_ w) := by
  have hlen : ([51] : List UInt8).length + 5 ≤ 10 * 2 ^ d := by
    have := Nat.one_le_two_pow (n := d)
    simp only [List.length_cons, List.length_nil]
    omega
  have hto : ((at_ + 1 : Nat) : Int) + 2 ≤ (at_ : Int) + 3 * (2 ^ d : Nat) := by
    have := Nat.one_le_two_pow (n := d)
    omega
  have hat : at_ ≤ 1000 := by omega
  clear ha
  have e1 : wrap64 ((at_ : Int) + 1) = at_ + 1 := by unfold wrap64; omega
  go_enter Tryz.func30, Tryz.ntmps30
  by_cases hh : (N : Int) ≤ at_
  · go_wp2
    exact bodyPost_ret (v := .tuple #[.string ⟨#[51]⟩, .int .i64 3, .int .i64 ((at_ : Int) + 1)]) (by simp [results, Tryz.results30, go_sem]) rfl ⟨⟨[51], .lit 3, at_ + 1, by simp [Gr.val], three_tx, by simp [Gr.fine, fit64], trivial, Nat.zero_le _, hto, hlen⟩, rfl⟩
  · have h0 : d = 0 := by omega
    subst h0
    go_wp2
    exact bodyPost_ret (v := .tuple #[.string ⟨#[51]⟩, .int .i64 3, .int .i64 ((at_ : Int) + 1)]) (by simp [results, Tryz.results30, go_sem]) rfl ⟨⟨[51], .lit 3, at_ + 1, by simp [Gr.val], three_tx, by simp [Gr.fine, fit64], trivial, Nat.zero_le _, hto, hlen⟩, rfl⟩
set_option maxHeartbeats 1000000 in
theorem expr_step (b off N cap at_ d : Nat) (xs : List Int) (w : World) (hxl : xs.length = N) (hxf : ∀ c ∈ xs, fit64 c) (hxc : ∀ i, (h : i < xs.length) → w.cell? ⟨b, off + i, none⟩ = some (.int .i64 xs[i])) (ha : at_ < N) (hat : at_ + 3 * 2 ^ (d + 1) ≤ 1000) (hN : N ≤ 9223372036854775807) (hd : d < 7)
    (ih : ∀ at_ : Nat, at_ + 3 * 2 ^ d ≤ 1000 → Calls Tryz.prog 30 #[.slice (some ⟨b, off, none⟩) N cap, .int .i64 at_, .int .i64 d] w (ExprR d at_ w)) :
    Calls Tryz.prog 30 #[.slice (some ⟨b, off, none⟩) N cap, .int .i64 at_, .int .i64 ((d + 1 : Nat) : Int)] w (ExprR (d + 1) at_ w) := by
  have c0 := hxc at_ (by omega)
  have hf0 := hxf _ (List.getElem_mem (show at_ < xs.length by omega))
  obtain ⟨x, hx⟩ : ∃ x, xs[at_]'(by omega) = x := ⟨_, rfl⟩
  rw [hx] at c0 hf0
  have HF0 := hide hf0
  have HIH : Hid (∀ z : Int, 0 ≤ z → z + 3 * (2 ^ d : Nat) ≤ 1000 → Calls Tryz.prog 30 #[.slice (some ⟨b, off, none⟩) N cap, .int .i64 z, .int .i64 d] w (ExprR d z w)) := hide (fun z h0 h1 => by obtain ⟨m, rfl⟩ : ∃ m : Nat, z = m := ⟨z.toNat, by omega⟩; exact ih m (by omega))
  have HXF := hide hxf
  have HXC := hide hxc
  have HXL := hide hxl
  clear hx hf0 ih hxf hxc hxl
  have hp1 := Nat.one_le_two_pow (n := d)
  have hp2 : 2 ^ d ≤ 64 := Nat.pow_le_pow_right (show 0 < 2 by decide) (show d ≤ 6 by omega)
  have hp3 : 2 ^ (d + 1) = 2 * 2 ^ d := by rw [Nat.pow_succ, Nat.mul_comm]
  obtain ⟨Q, hQ⟩ : ∃ Q, 2 ^ d = Q := ⟨_, rfl⟩
  have HPow := hide hp3
  rw [hp3] at hat
  rw [hQ] at HPow hp1 hp2 hat
  have HQA : Hid (at_ + 3 * (2 * Q) ≤ 1000) := hide hat
  have ha1 : at_ ≤ 1000 := by omega
  clear hat
  have HQ := hide hQ
  clear hp3 hQ
  have e1 : wrap64 ((at_ : Int) + 1) = at_ + 1 := by unfold wrap64; omega
  have e2 : wrap64 ((at_ : Int) + 1 - 1) = at_ := by unfold wrap64; omega
  have e3 : wrap64 (((d + 1 : Nat) : Int) - 1) = d := by unfold wrap64; omega
  have n1 : ((N : Int) ≤ at_) = False := by simp; omega
  have n2 : (((d + 1 : Nat) : Int) == 0) = false := by simp; omega
  have n3 : (at_ : Int) < N := by omega
  go_enter Tryz.func30, Tryz.ntmps30
  go_wp2_with (go_at_call 25; refine (pick_any x 100 (unhide HF0) (by decide) _).mono ?_; rintro e w ⟨⟨r1, rfl, p0, p1⟩, rfl⟩; have e4 : wrap64 (r1 - 50) = r1 - 50 := by unfold wrap64; omega)
  go_at_call 26
  refine (num_any (r1 - 50) (by omega) _).mono ?_
  rintro e w ⟨⟨t1, rfl, hn1, hl1⟩, rfl⟩
  have HN1 := hide hn1
  clear hn1
  go_wp2_with (go_at_call 25; refine (pick_any x 5 (unhide HF0) (by decide) _).mono ?_; rintro e w ⟨⟨r2, rfl, q0, q1⟩, rfl⟩)
  · refine (unhide HIH ((at_ : Int) + 1) (by omega) (by rw [unhide HQ]; have := unhide HQA; omega)).mono ?_
    rintro e w ⟨⟨t2, g2, to2, rfl, ht2, hf2, hm2, hd2, hto2, hl2⟩, rfl⟩
    rw [unhide HQ] at hl2 hto2
    have hto2' : to2 ≤ 1000 := by have := unhide HQA; omega
    have HTO2 := hide hto2
    clear hto2
    have HT2 := hide ht2
    have HF2 := hide hf2
    have HM2 := hide hm2
    clear ht2 hf2 hm2
    go_wp2_with fail
    · refine bodyPost_ret (R := ExprR (d + 1) at_ w) (v := .tuple #[.string (ByteArray.mk #[40] ++ ByteArray.mk t2.toArray ++ ByteArray.mk #[41]), .int .i64 g2.val, .int .i64 to2]) (by simp [results, Tryz.results30, go_sem]) rfl ?_
      exact ⟨⟨_, .br g2, to2, by rw [sumBr]; rfl, Tx.only _ _ (Tx.br g2 t2 (unhide HT2)), unhide HF2, unhide HM2, by simp only [Gr.deep]; omega, by rw [unhide HPow]; have := unhide HTO2; omega, by rw [unhide HPow]; simp; omega⟩, rfl⟩
    · have hlt' : ((to2 : Int) : Int) < N := by omega
      have hz1 := unhide HXC (to2) (by rw [unhide HXL]; omega)
      have hz2 := unhide HXF _ (List.getElem_mem (show to2 < xs.length by rw [unhide HXL]; omega))
      obtain ⟨y, hy⟩ : ∃ y, xs[to2]'(by rw [unhide HXL]; omega) = y := ⟨_, rfl⟩
      rw [hy] at hz1 hz2
      have HY := hide hz2
      clear hz2 hy
      refine (unhide HIH ((to2 : Int) + 1) (by omega) (by rw [unhide HQ]; have := unhide HQA; have := unhide HTO2; omega)).mono ?_
      rintro e w ⟨⟨t3, g3, to3, rfl, ht3, hf3, hm3, hd3, hto3, hl3⟩, rfl⟩
      rw [unhide HQ] at hl3 hto3
      have HTO3 := hide hto3
      clear hto3
      have HT3 := hide ht3
      have HF3 := hide hf3
      have HM3 := hide hm3
      clear ht3 hf3 hm3
      go_wp2_with (go_at_call 25; refine (pick_any y 3 (unhide HY) (by decide) _).mono ?_; rintro e w ⟨⟨r3, rfl, s0, s1⟩, rfl⟩)
      · refine bodyPost_ret (R := ExprR (d + 1) at_ w) (v := .tuple #[.string ((ByteArray.mk #[40] ++ ByteArray.mk t2.toArray ++ ByteArray.mk #[41]) ++ ByteArray.mk #[32, 42, 32] ++ ByteArray.mk t3.toArray), .int .i64 (wrap64 (g2.val * g3.val)), .int .i64 to3]) (by simp [results, Tryz.results30, go_sem]) rfl ?_
        exact ⟨⟨_, .two 42 (.br g2) g3, to3, by rw [sumBr]; rw [sum3]; rfl, Tx.two 42 _ _ _ _ 1 1 (by decide) (Tx.br g2 t2 (unhide HT2)) (unhide HT3), ⟨by decide, unhide HF2, unhide HF3, rfl⟩, ⟨by decide, unhide HM2, unhide HM3⟩, by simp only [Gr.deep]; omega, by rw [unhide HPow]; have := unhide HTO3; (try have := unhide HTO2); omega, by rw [unhide HPow]; simp; omega⟩, rfl⟩
      · refine bodyPost_ret (R := ExprR (d + 1) at_ w) (v := .tuple #[.string ((ByteArray.mk #[40] ++ ByteArray.mk t2.toArray ++ ByteArray.mk #[41]) ++ ByteArray.mk #[32, 45, 32] ++ ByteArray.mk t3.toArray), .int .i64 (wrap64 (g2.val - g3.val)), .int .i64 to3]) (by simp [results, Tryz.results30, go_sem]) rfl ?_
        exact ⟨⟨_, .two 45 (.br g2) g3, to3, by rw [sumBr]; rw [sum3]; rfl, Tx.two 45 _ _ _ _ 1 1 (by decide) (Tx.br g2 t2 (unhide HT2)) (unhide HT3), ⟨by decide, unhide HF2, unhide HF3, rfl⟩, ⟨by decide, unhide HM2, unhide HM3⟩, by simp only [Gr.deep]; omega, by rw [unhide HPow]; have := unhide HTO3; (try have := unhide HTO2); omega, by rw [unhide HPow]; simp; omega⟩, rfl⟩
  · refine bodyPost_ret (R := ExprR (d + 1) at_ w) (v := .tuple #[.string ⟨t1.toArray⟩, .int .i64 (r1 - 50), .int .i64 ((at_ : Int) + 1)]) (by simp [results, Tryz.results30, go_sem]) rfl ?_
    exact ⟨⟨t1, .lit (r1 - 50), at_ + 1, by simp [Gr.val], Tx.only _ _ (Tx.lit _ _ (unhide HN1)), by simp only [Gr.fine, fit64]; omega, trivial, Nat.zero_le _, by rw [unhide HPow]; omega, by rw [unhide HPow]; omega⟩, rfl⟩
  · have hlt' : ((at_ : Int) + 1 : Int) < N := by omega
    have hz1 := unhide HXC ((at_ + 1)) (by rw [unhide HXL]; omega)
    have hz2 := unhide HXF _ (List.getElem_mem (show (at_ + 1) < xs.length by rw [unhide HXL]; omega))
    obtain ⟨y, hy⟩ : ∃ y, xs[at_ + 1]'(by rw [unhide HXL]; omega) = y := ⟨_, rfl⟩
    rw [hy] at hz1 hz2
    have HY := hide hz2
    clear hz2 hy
    refine (unhide HIH ((at_ : Int) + 1 + 1) (by omega) (by rw [unhide HQ]; have := unhide HQA; omega)).mono ?_
    rintro e w ⟨⟨t3, g3, to3, rfl, ht3, hf3, hm3, hd3, hto3, hl3⟩, rfl⟩
    rw [unhide HQ] at hl3 hto3
    have HTO3 := hide hto3
    clear hto3
    have HT3 := hide ht3
    have HF3 := hide hf3
    have HM3 := hide hm3
    clear ht3 hf3 hm3
    go_wp2_with (go_at_call 25; refine (pick_any y 3 (unhide HY) (by decide) _).mono ?_; rintro e w ⟨⟨r3, rfl, s0, s1⟩, rfl⟩)
    · refine bodyPost_ret (R := ExprR (d + 1) at_ w) (v := .tuple #[.string (ByteArray.mk t1.toArray ++ ByteArray.mk #[32, 42, 32] ++ ByteArray.mk t3.toArray), .int .i64 (wrap64 ((r1 - 50) * g3.val)), .int .i64 to3]) (by simp [results, Tryz.results30, go_sem]) rfl ?_
      exact ⟨⟨_, .two 42 (.lit (r1 - 50)) g3, to3, by rw [sum3]; rfl, Tx.two 42 _ _ _ _ 1 1 (by decide) (Tx.lit _ _ (unhide HN1)) (unhide HT3), ⟨by decide, by simp only [Gr.fine, fit64]; omega, unhide HF3, rfl⟩, ⟨by decide, trivial, unhide HM3⟩, by simp only [Gr.deep]; omega, by rw [unhide HPow]; have := unhide HTO3; (try have := unhide HTO2); omega, by rw [unhide HPow]; simp; omega⟩, rfl⟩
    · refine bodyPost_ret (R := ExprR (d + 1) at_ w) (v := .tuple #[.string (ByteArray.mk t1.toArray ++ ByteArray.mk #[32, 45, 32] ++ ByteArray.mk t3.toArray), .int .i64 (wrap64 ((r1 - 50) - g3.val)), .int .i64 to3]) (by simp [results, Tryz.results30, go_sem]) rfl ?_
      exact ⟨⟨_, .two 45 (.lit (r1 - 50)) g3, to3, by rw [sum3]; rfl, Tx.two 45 _ _ _ _ 1 1 (by decide) (Tx.lit _ _ (unhide HN1)) (unhide HT3), ⟨by decide, by simp only [Gr.fine, fit64]; omega, unhide HF3, rfl⟩, ⟨by decide, trivial, unhide HM3⟩, by simp only [Gr.deep]; omega, by rw [unhide HPow]; have := unhide HTO3; (try have := unhide HTO2); omega, by rw [unhide HPow]; simp; omega⟩, rfl⟩
end Go.Proofs.YtjobgpahajhbnaaGreatDoor
namespace Go.Proofs.YtjobgpahajhbnaaGreatDoor
open Go.RowKit Go.Proofs
attribute [local go_sem ↓] Go.wp_at_zero Go.wp_at_succ

theorem lexpr_any (ao : Option Addr) (N cap : Nat) (xs : List Int) (w : World) (hxl : xs.length = N) (hr : RawIn w ao xs) (hN : N ≤ 9223372036854775807) : ∀ (d at_ : Nat), d ≤ 7 → at_ + 3 * 2 ^ d ≤ 1000 → Calls Tryz.prog 30 #[.slice ao N cap, .int .i64 at_, .int .i64 d] w (ExprR d at_ w)
  | 0, at_, hd, ha => expr_base ao N cap at_ 0 w (Or.inr rfl) ha hN hd
  | d + 1, at_, hd, ha => by
    by_cases h : N ≤ at_
    · exact expr_base ao N cap at_ (d + 1) w (Or.inl h) ha hN hd
    · obtain ⟨b, off, rfl, hc⟩ := hr.2 (by omega)
      exact expr_step b off N cap at_ d xs w hxl hr.1 hc (by omega) ha hN (by omega) (fun at_ ha => lexpr_any _ N cap xs w hxl hr hN d at_ (by omega) ha)
theorem Od.snoc {a o : List UInt8} {c : UInt8} (h : Od a o) (hc : c ≠ 32) : Od (a ++ [c]) (o ++ [c]) := by
  induction h with
  | nil => exact Od.cons c [] [] hc Od.nil
  | cons d l m hd h ih => exact Od.cons d _ _ hd ih
  | blank k l m h ih => rw [List.append_assoc]; exact Od.blank k _ _ ih
theorem Od.snocB {a o : List UInt8} (k : Nat) (h : Od a o) : Od (a ++ [32]) (o ++ List.replicate k 32) := by
  induction h with
  | nil => have := Od.blank k [] [] Od.nil; simpa using this
  | cons d l m hd h ih => exact Od.cons d _ _ hd ih
  | blank k l m h ih => rw [List.append_assoc]; exact Od.blank k _ _ ih
theorem ext_one (s : ByteArray) (k : Nat) (h : k < s.size) : (s.extract k (k + 1)).data.toList = [s[k]] := by
  rw [ext_list, drop_cons s k h]
  simp
theorem add_one (s : ByteArray) (O : List UInt8) (k : Nat) (h : k < s.size) : (⟨O.toArray⟩ : ByteArray) ++ s.extract k (k + 1) = ⟨(O ++ [s[k]]).toArray⟩ := by
  apply ba_ext
  simp
  rw [drop_cons s k h]
  simp
theorem u8_ne {c : UInt8} {n : Nat} (hn : n < 256) (h : ((c.toNat : Int) == (n : Int)) = false) : c ≠ UInt8.ofNat n := by
  rw [u8_eq c n hn] at h
  exact beq_eq_false_iff_ne.1 h
theorem u8_is {c : UInt8} {n : Nat} (hn : n < 256) (h : ((c.toNat : Int) == (n : Int)) = true) : c = UInt8.ofNat n := by
  rw [u8_eq c n hn] at h
  exact beq_iff_eq.1 h
theorem no_sg {c : UInt8} (h45 : ((c.toNat : Int) == 45) = false) (h42 : ((c.toNat : Int) == 42) = false) : (c == 45 || c == 42) = false := by
  have h1 := u8_eq c 45 (by decide)
  have h2 := u8_eq c 42 (by decide)
  have e1 : (c == 45) = false := h1.symm.trans h45
  have e2 : (c == 42) = false := h2.symm.trans h42
  rw [e1, e2]; rfl
theorem is_sg {c : UInt8} (h : ((c.toNat : Int) == 45) = true ∨ ((c.toNat : Int) == 42) = true) : (c == 45 || c == 42) = true := by
  have h1 := u8_eq c 45 (by decide)
  have h2 := u8_eq c 42 (by decide)
  rcases h with h | h
  · have e1 : (c == 45) = true := h1.symm.trans h
    rw [e1]; rfl
  · have e2 : (c == 42) = true := h2.symm.trans h
    rw [e2, Bool.or_true]
/-- the desk and what is done on it, as far as Right asks -/
structure RightC (S : World → Prop) (D : Nat → World → Prop) : Prop where
  keep : ∀ db w w', D db w → Below w.heap.size w w' → D db w'
  desk : ∀ w, S w → Calls Tryz.prog 15 #[] w fun e w' => ∃ db, e = .returned (.tuple #[.pointer (some ⟨db, 0, none⟩), .bool true]) ∧ D db w' ∧ Below w.heap.size w w'
  one : ∀ db w g t, D db w → Tx false g t → g.fine → g.mt → g.deep ≤ 8 → t.length ≤ 200 → Calls Tryz.prog 29 #[.pointer (some ⟨db, 0, none⟩), .string ⟨List.toArray t⟩] w fun e w' => ∃ s1 s2 s3 c1 c2 c3, e = .returned (.tuple #[.agg #[.int .i64 0, .int .i64 0, .slice s1 s2 s3, .slice c1 c2 c3, .int .i64 g.cost], .bool true]) ∧ D db w' ∧ Below w.heap.size w w'
  isOne : ∀ db w g t, D db w → Tx false g t → g.fine → g.mt → g.deep ≤ 8 → t.length ≤ 200 → Calls Tryz.prog 17 #[.pointer (some ⟨db, 0, none⟩), .string ⟨List.toArray t⟩, .int .i64 g.val] w fun e w' => e = .returned (.bool true) ∧ D db w' ∧ Below w.heap.size w w'

set_option maxRecDepth 20000 in
set_option maxHeartbeats 2000000 in
theorem right_any (S : World → Prop) (D : Nat → World → Prop) (hR : RightC S D) (ao : Option Addr) (N cap : Nat) (xs : List Int) (ao2 : Option Addr) (N2 cap2 : Nat) (bs : List Int) (w : World) (hS : S w) (hx : RawIn w ao xs) (hxl : xs.length = N) (hN : N ≤ 9223372036854775807) (hb : RawIn w ao2 bs) (hbl : bs.length = N2) (hN2 : N2 ≤ 9223372036854775807) (hw1 : 0 < N → ∀ b off, ao = some ⟨b, off, none⟩ → b < w.heap.size) (hw2 : 0 < N2 → ∀ b off, ao2 = some ⟨b, off, none⟩ → b < w.heap.size) :
    Calls Tryz.prog 10 #[.slice ao N cap, .slice ao2 N2 cap2] w fun e w' => e = .returned (.bool true) ∧ Below w.heap.size w w' := by
  have HR := hide hR
  have HKeep : Hid (∀ w', Below w.heap.size w w' → RawIn w' ao xs ∧ RawIn w' ao2 bs) := by
    intro w' hb'
    refine ⟨⟨hx.1, fun h0 => ?_⟩, ⟨hb.1, fun h0 => ?_⟩⟩
    · obtain ⟨b, off, e, hc⟩ := hx.2 h0
      exact ⟨b, off, e, fun i hi => (hb'.cell (p := ⟨b, off + i, none⟩) (hw1 (by omega) b off e)).trans (hc i hi)⟩
    · obtain ⟨b, off, e, hc⟩ := hb.2 h0
      exact ⟨b, off, e, fun i hi => (hb'.cell (p := ⟨b, off + i, none⟩) (hw2 (by omega) b off e)).trans (hc i hi)⟩
  have HXL := hide hxl
  have HBL := hide hbl
  clear hR hx hb hw1 hw2 hxl hbl
  go_enter Tryz.func10, Tryz.ntmps10
  go_wp2_with (go_at_call 15; refine ((unhide HR).desk _ hS).mono ?_; rintro e w1 ⟨db, rfl, hD, hb1⟩; have HD := hide hD; have HB1 := hide hb1; clear hD hb1)
  refine (lexpr_any ao N cap xs _ (unhide HXL) (unhide HKeep _ (unhide HB1)).1 hN 7 0 (by decide) (by decide)).mono ?_
  rintro e w1 ⟨⟨t, g, to, rfl, ht, hf, hm, hd, hto, hl⟩, rfl⟩
  have HT := hide ht
  have HF := hide hf
  have HM := hide hm
  have hl' : t.length ≤ 1275 := by omega
  obtain ⟨s, hs⟩ : ∃ s : ByteArray, (⟨t.toArray⟩ : ByteArray) = s := ⟨_, rfl⟩
  have hsz : s.size = t.length := by rw [← hs]; simp [ByteArray.size]
  have hsl : s.data.toList = t := by rw [← hs]
  have HSL := hide hsl
  have HSS := hide hs
  simp only [hs]
  have HSZ := hide hsz
  clear ht hf hm hs hsl hl hsz hl'
  by_cases hlong : 150 < s.size
  · go_wp2_with fail
    exact bodyPost_ret (v := .bool true) (by simp [results, Tryz.results10, go_sem]) rfl ⟨rfl, unhide HB1⟩
  · go_wp2_with fail
    go_loop [10, 11, 12] (fun o c i => ∃ (k : Nat) (O : List UInt8), k ≤ s.size ∧ o = .string ⟨O.toArray⟩ ∧ c = .int .i64 (cnt (s.data.toList.take k)) ∧ i = .int .i64 k ∧ Od (s.data.toList.take k) O ∧ O.length + (s.size - k) ≤ 199) (fun _ _ i => s.size - (intOf i).toNat)
    case atStart => exact ⟨0, [], Nat.zero_le _, rfl, rfl, rfl, Od.nil, by simp; omega⟩
    case round =>
      obtain ⟨k, O, hk, rfl, rfl, rfl, ho, hol⟩ := hrel
      have HO := hide ho
      by_cases hkl : k < s.size
      · have hat := at_drop s 0 k (by omega)
        simp only [List.drop_zero, Nat.zero_add] at hat
        have HTk := hide (take_snoc hat)
        have hcn : cnt (s.data.toList.take k ++ [s[k]]) = cnt (s.data.toList.take k) + if (s[k] == 45 || s[k] == 42) = true then 1 else 0 := by rw [cnt_app, cnt_cons]; simp [cnt]
        have hcb : cnt (s.data.toList.take k) ≤ 200 := by
          have h1 : cnt (s.data.toList.take k) ≤ (s.data.toList.take k).length := List.countP_le_length
          have h2 : (s.data.toList.take k).length ≤ k := by simp; omega
          omega
        obtain ⟨C, hC⟩ : ∃ C, cnt (s.data.toList.take k) = C := ⟨_, rfl⟩
        rw [hC] at hcn hcb ⊢
        have HCn := hide hcn
        clear hat ho hcn hC
        have hk0 : (0 : Int) ≤ (k : Int) := by omega
        cases h32 : ((s[k].toNat : Int) == 32)
        · have HOd : Hid (Od (s.data.toList.take (k + 1)) (O ++ [s[k]])) := hide (by rw [unhide HTk]; exact (unhide HO).snoc (u8_ne (n := 32) (by decide) h32))
          cases h45 : ((s[k].toNat : Int) == 45)
          · cases h42 : ((s[k].toNat : Int) == 42)
            · have HC2 : Hid (cnt (s.data.toList.take (k + 1)) = C) := hide (by rw [unhide HTk, unhide HCn, no_sg h45 h42]; rfl)
              go_wp2_with fail
              exact ⟨⟨k + 1, O ++ [s[k]], by omega, by rw [add_one s O k hkl], by rw [unhide HC2], by simp, unhide HOd, by simp; omega⟩, by simp [intOf]; omega⟩
            · have HC2 : Hid (cnt (s.data.toList.take (k + 1)) = C + 1) := hide (by rw [unhide HTk, unhide HCn, is_sg (Or.inr h42)]; rfl)
              go_wp2_with fail
              exact ⟨⟨k + 1, O ++ [s[k]], by omega, by rw [add_one s O k hkl], by rw [unhide HC2]; rfl, by simp, unhide HOd, by simp; omega⟩, by simp [intOf]; omega⟩
          · have HC2 : Hid (cnt (s.data.toList.take (k + 1)) = C + 1) := hide (by rw [unhide HTk, unhide HCn, is_sg (Or.inl h45)]; rfl)
            go_wp2_with fail
            exact ⟨⟨k + 1, O ++ [s[k]], by omega, by rw [add_one s O k hkl], by rw [unhide HC2]; rfl, by simp, unhide HOd, by simp; omega⟩, by simp [intOf]; omega⟩
        · have hk32 : s[k] = 32 := u8_is (n := 32) (by decide) h32
          have h45 : ((s[k].toNat : Int) == 45) = false := by rw [hk32]; decide
          have h42 : ((s[k].toNat : Int) == 42) = false := by rw [hk32]; decide
          have HC2 : Hid (cnt (s.data.toList.take (k + 1)) = C) := hide (by rw [unhide HTk, unhide HCn, no_sg h45 h42]; rfl)
          have HOd : Hid (∀ m, Od (s.data.toList.take (k + 1)) (O ++ List.replicate m 32)) := hide (by intro m; rw [unhide HTk, hk32]; exact (unhide HO).snocB m)
          have HE1 : Hid ((⟨O.toArray⟩ : ByteArray) ++ s.extract k (k + 1) = ⟨(O ++ List.replicate 1 32).toArray⟩) := hide (by rw [add_one s O k hkl, hk32]; rfl)
          have HE2 : Hid ((⟨O.toArray⟩ : ByteArray) ++ s.extract k (k + 1) ++ ⟨#[32]⟩ = ⟨(O ++ List.replicate 2 32).toArray⟩) := hide (by rw [unhide HE1]; apply ba_ext; simp [List.replicate_succ])
          clear hk32
          by_cases hkb : k < N2
          · obtain ⟨bb, boff, hao, hbc⟩ := (unhide HKeep _ (unhide HB1)).2.2 (by rw [unhide HBL]; omega)
            subst hao
            have hz1 := hbc k (by rw [unhide HBL]; omega)
            obtain ⟨z, hz⟩ : ∃ z, bs[k]'(by rw [unhide HBL]; omega) = z := ⟨_, rfl⟩
            rw [hz] at hz1
            clear hbc hz
            go_wp2_with fail
            all_goals first
              | (rw [unhide HE2]; exact ⟨⟨k + 1, O ++ List.replicate 2 32, by omega, rfl, by rw [unhide HC2], by simp, unhide HOd 2, by simp; omega⟩, by simp [intOf]; omega⟩)
              | (rw [unhide HE1]; exact ⟨⟨k + 1, O ++ List.replicate 1 32, by omega, rfl, by rw [unhide HC2], by simp, unhide HOd 1, by simp; omega⟩, by simp [intOf]; omega⟩)
              | (exact ⟨⟨k + 1, O ++ List.replicate 0 32, by omega, by simp, by rw [unhide HC2], by simp, unhide HOd 0, by simp; omega⟩, by simp [intOf]; omega⟩)
          · go_wp2_with fail
            rw [unhide HE1]
            exact ⟨⟨k + 1, O ++ List.replicate 1 32, by omega, rfl, by rw [unhide HC2], by simp, unhide HOd 1, by simp; omega⟩, by simp [intOf]; omega⟩
      · have hke : k = s.size := by omega
        have hte : s.data.toList.take k = t := by rw [hke, ← unhide HSL]; exact List.take_of_length_le (Nat.le_refl _)
        rw [hte] at ho ⊢
        have hcb : cnt t ≤ 200 := by
          have h1 : cnt t ≤ t.length := List.countP_le_length
          have h2 := unhide HSZ
          omega
        have hcost := tx_cost (unhide HT) (unhide HM)
        obtain ⟨C, hC⟩ : ∃ C, cnt t = C := ⟨_, rfl⟩
        rw [hC] at hcost hcb ⊢
        have hC2 : wrap64 (2 * (C : Int)) = 2 * C := by unfold wrap64; omega
        have htl : t.length ≤ 150 := by have := unhide HSZ; omega
        have HOne : Hid (∀ w', D db w' → Calls Tryz.prog 29 #[.pointer (some ⟨db, 0, none⟩), .string s] w' fun e w'' => ∃ s1 s2 s3 c1 c2 c3, e = .returned (.tuple #[.agg #[.int .i64 0, .int .i64 0, .slice s1 s2 s3, .slice c1 c2 c3, .int .i64 (2 * (C : Int))], .bool true]) ∧ D db w'' ∧ Below w'.heap.size w' w'') := hide (fun w' hD' => by
          have := (unhide HR).one db w' g t hD' (unhide HT) (unhide HF) (unhide HM) (by omega) (by omega)
          rw [unhide HSS, hcost] at this
          simpa using this)
        have HIs1 : Hid (∀ w', D db w' → Calls Tryz.prog 17 #[.pointer (some ⟨db, 0, none⟩), .string s, .int .i64 g.val] w' fun e w'' => e = .returned (.bool true) ∧ D db w'' ∧ Below w'.heap.size w' w'') := hide (fun w' hD' => by
          have := (unhide HR).isOne db w' g t hD' (unhide HT) (unhide HF) (unhide HM) (by omega) (by omega)
          rwa [unhide HSS] at this)
        have HIs2 : Hid (∀ w', D db w' → Calls Tryz.prog 17 #[.pointer (some ⟨db, 0, none⟩), .string ⟨O.toArray⟩, .int .i64 g.val] w' fun e w'' => e = .returned (.bool true) ∧ D db w'' ∧ Below w'.heap.size w' w'') := hide (fun w' hD' => (unhide HR).isOne db w' g O hD' (tx_od (unhide HT) ho) (unhide HF) (unhide HM) (by omega) (by omega))
        have HIs3 : Hid (∀ w', D db w' → Calls Tryz.prog 17 #[.pointer (some ⟨db, 0, none⟩), .string (ByteArray.mk #[40] ++ s ++ ByteArray.mk #[41]), .int .i64 g.val] w' fun e w'' => e = .returned (.bool true) ∧ D db w'' ∧ Below w'.heap.size w' w'') := hide (fun w' hD' => by
          have := (unhide HR).isOne db w' (.br g) (40 :: (t ++ [41])) hD' (Tx.only _ _ (Tx.br g t (unhide HT))) (unhide HF) (unhide HM) (by simp only [Gr.deep]; omega) (by simp; omega)
          rw [← sumBr, unhide HSS] at this
          exact this)
        clear ho hcost hte hC htl
        go_wp2_with fail
        refine (unhide HOne _ (unhide HD)).mono ?_
        rintro e w2 ⟨s1, s2, s3, c1, c2, c3, rfl, hD2, hb2⟩
        have HD2 := hide hD2
        have HB2 : Hid (Below w.heap.size w w2) := hide ((unhide HB1).trans (hb2.mono (unhide HB1).size))
        clear hD2 hb2
        go_wp2_with fail
        refine (unhide HIs1 _ ((unhide HR).keep _ _ _ (unhide HD2) ((Below.refl _ _).alloc (Nat.le_refl _) _))).mono ?_
        rintro e w3 ⟨rfl, hD3, hb3⟩
        have HD3 := hide hD3
        have k3 : w3.cell? ⟨w2.heap.size, 4, none⟩ = some (.int .i64 (2 * (C : Int))) := (hb3.cell (p := ⟨w2.heap.size, 4, none⟩) (by simp)).trans ((World.cell?_alloc_at _ _ _ _ rfl).trans rfl)
        have hs3 : w2.heap.size < w3.heap.size := by have := hb3.size; simp at this; omega
        have HB3 : Hid (Below w.heap.size w w3) := hide (((unhide HB2).alloc (unhide HB2).size _).trans (hb3.mono (by have := (unhide HB2).size; simp; omega)))
        clear hD3 hb3
        go_wp2_with fail
        refine (unhide HIs2 _ (unhide HD3)).mono ?_
        rintro e w4 ⟨rfl, hD4, hb4⟩
        have HD4 := hide hD4
        have k4 := (hb4.cell (p := ⟨w2.heap.size, 4, none⟩) hs3).trans k3
        have hs4 : w2.heap.size < w4.heap.size := Nat.lt_of_lt_of_le hs3 hb4.size
        have HB4 : Hid (Below w.heap.size w w4) := hide ((unhide HB3).trans (hb4.mono (unhide HB3).size))
        clear hD4 hb4 k3 hs3
        go_wp2_with fail
        refine (unhide HIs3 _ (unhide HD4)).mono ?_
        rintro e w5 ⟨rfl, hD5, hb5⟩
        have k5 := (hb5.cell (p := ⟨w2.heap.size, 4, none⟩) hs4).trans k4
        have HB5 : Hid (Below w.heap.size w w5) := hide ((unhide HB4).trans (hb5.mono (unhide HB4).size))
        clear hD5 hb5 k4 hs4
        go_wp2_with fail
        exact bodyPost_ret (v := .bool true) (by simp [results, Tryz.results10, go_sem]) rfl ⟨rfl, unhide HB5⟩
end Go.Proofs.YtjobgpahajhbnaaGreatDoor
