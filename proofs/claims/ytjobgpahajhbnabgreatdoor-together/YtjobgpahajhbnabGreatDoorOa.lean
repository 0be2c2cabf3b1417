import Derived.Test.YtjobgpahajhbnabGreatDoorFa
namespace Go.Proofs.YtjobgpahajhbnabGreatDoor
open Go.RowKit Go.Proofs Go.Maps
def Gj (S : List Tok) : Nat → Nat → Nat
  | 0, j => j
  | f + 1, j => bif kB (kr S) j 0 then Gj S f (j + 1) else j
theorem Gz {S : List Tok} : ∀ (f j : Nat), S.length ≤ j + f → j ≤ S.length → j ≤ Gj S f j ∧ Gj S f j ≤ S.length ∧ (∀ i, j ≤ i → i < Gj S f j → kB (kr S) i 0 = true) ∧ kB (kr S) (Gj S f j) 0 = false
  | 0, j, h, hj => by
    unfold Gj
    exact ⟨Nat.le_refl _, hj, fun i h1 h2 => by omega, Jc1 (by omega) 0⟩
  | f + 1, j, h, hj => by
    unfold Gj
    cases hk : kB (kr S) j 0 with
    | false =>
      rw [cond_false]
      exact ⟨Nat.le_refl _, hj, fun i h1 h2 => by omega, hk⟩
    | true =>
      rw [cond_true]
      have hl : j < S.length := by
        obtain ⟨h1, _⟩ := Vw hk
        rw [Yq] at h1
        exact h1
      obtain ⟨a1, a2, a3, a4⟩ := Gz (S := S) f (j + 1) (by omega) (by omega)
      refine ⟨by omega, a2, fun i h1 h2 => ?_, a4⟩
      by_cases e : i = j
      · rw [e]; exact hk
      · exact a3 i (by omega) h2
def mkT (S : List Tok) : Nat → Bool → Nat → Nat → Option (Ex × Nat)
  | 0, _, _, _ => none
  | f + 1, true, j, o =>
    bif kB (kr S) j 0 then some (.num (Zu S j (Gj S S.length j)), Gj S S.length j)
    else bif kB (kr S) j 1 then some (.name (J5 S j).t (J5 S j).p, j + 1)
    else bif kB (kr S) j 4 && decide (o < 8) then
      match mkT S f false (j + 1) (o + 1) with
      | none => none
      | some q => bif kB (kr S) q.2 5 then some (q.1, q.2 + 1) else none
    else none
  | f + 1, false, j, o =>
    bif fB (kr S) j 1 then
      match mkT S f false (j + 1) o with
      | none => none
      | some q => some (.one (J5 S j).t (J5 S j).p q.1, q.2)
    else match mkT S f true j o with
      | none => none
      | some q => bif fB (kr S) q.2 2 then
          match mkT S f false (q.2 + 1) o with
          | none => none
          | some m => some (.two (J5 S q.2).t (J5 S q.2).p q.1 m.1, m.2)
        else some q
theorem N8 {S : List Tok} : ∀ (f : Nat) (b : Bool) (j o : Nat) (q : Ex × Nat), mkT S f b j o = some q → PX S b j o q.1 q.2
  | 0, _, _, _, _, h => by simp [mkT] at h
  | f + 1, true, j, o, q, h => by
    unfold mkT at h
    cases h0 : kB (kr S) j 0 with
    | true =>
      rw [h0, cond_true] at h
      obtain rfl := Option.some.inj h
      obtain ⟨h1, _⟩ := Vw h0
      rw [Yq] at h1
      obtain ⟨a1, a2, a3, a4⟩ := Gz (S := S) S.length j (by omega) (by omega)
      have hne : Gj S S.length j ≠ j := fun e => by rw [e, h0] at a4; cases a4
      exact PX.nums j o _ (by omega) a2 a3 a4
    | false =>
      rw [h0, cond_false] at h
      cases h1 : kB (kr S) j 1 with
      | true =>
        rw [h1, cond_true] at h
        obtain rfl := Option.some.inj h
        exact PX.name j o h1
      | false =>
        rw [h1, cond_false] at h
        cases h4 : (kB (kr S) j 4 && decide (o < 8)) with
        | false => rw [h4, cond_false] at h; cases h
        | true =>
          rw [h4, cond_true] at h
          simp only [Bool.and_eq_true, decide_eq_true_eq] at h4
          cases hm : mkT S f false (j + 1) (o + 1) with
          | none => rw [hm] at h; cases h
          | some y =>
            rw [hm] at h
            have ih := N8 f false (j + 1) (o + 1) y hm
            cases h5 : kB (kr S) y.2 5 with
            | false => simp only [h5, cond_false] at h; cases h
            | true =>
              simp only [h5, cond_true] at h
              obtain rfl := Option.some.inj h
              exact PX.paren j o _ _ h4.1 h4.2 ih h5
  | f + 1, false, j, o, q, h => by
    unfold mkT at h
    cases h0 : fB (kr S) j 1 with
    | true =>
      rw [h0, cond_true] at h
      cases hm : mkT S f false (j + 1) o with
      | none => rw [hm] at h; cases h
      | some y =>
        rw [hm] at h
        obtain rfl := Option.some.inj h
        exact PX.one j o _ _ h0 (N8 f false (j + 1) o y hm)
    | false =>
      rw [h0, cond_false] at h
      cases hl : mkT S f true j o with
      | none => rw [hl] at h; cases h
      | some y =>
        rw [hl] at h
        have il := N8 f true j o y hl
        cases h2 : fB (kr S) y.2 2 with
        | false =>
          simp only [h2, cond_false] at h
          obtain rfl := Option.some.inj h
          exact PX.only j o _ _ h0 il h2
        | true =>
          simp only [h2, cond_true] at h
          cases hm : mkT S f false (y.2 + 1) o with
          | none => rw [hm] at h; cases h
          | some z =>
            rw [hm] at h
            obtain rfl := Option.some.inj h
            exact PX.two j o _ _ _ _ h0 il h2 (N8 f false (y.2 + 1) o z hm)
def Jnf (s : ByteArray) : Option (Ex × Nat) := mkT (toks s (lexR s).1) 60 false (beg (tks s (lexR s).1)) 0
def ansC (env : ByteArray → Option Arr) (F : Int) (s : ByteArray) : Option (Sum (Int × Int) (Arr × Nat)) :=
  if (Jw s).1 = 0 then
    match Jnf s with
    | none => none
    | some q => if q.2 = (lexR s).1.length then (match Jt env F f1A f2A q.1 0 with
      | .inl e => some (.inl (e.1, (e.2 : Int)))
      | .inr x => some (.inr x)) else none
  else some (.inl (Jw s))
theorem Joh {env : ByteArray → Option Arr} {F : Int} {s : ByteArray} {r : Sum (Int × Int) (Arr × Nat)} (h : ansC env F s = some r) : ans env F s = r := by
  unfold ansC at h
  unfold ans
  by_cases hp : (Jw s).1 = 0
  · rw [if_pos hp] at h ⊢
    cases ht : Jnf s with
    | none => rw [ht] at h; cases h
    | some q =>
      simp only [ht] at h
      by_cases hq : q.2 = (lexR s).1.length
      · rw [if_pos hq] at h
        have hx : Ye s q.1 := by
          have := N8 _ _ _ _ _ ht
          rw [hq] at this
          exact this
        rw [← Zv hx]
        cases he : Jt env F f1A f2A q.1 0 with
        | inl e => rw [he] at h; exact Option.some.inj h
        | inr x => rw [he] at h; exact Option.some.inj h
      · rw [if_neg hq] at h; cases h
  · rw [if_neg hp] at h ⊢
    exact Option.some.inj h
section
variable {F : Int} {env : ByteArray → Option Arr} {s : ByteArray}
noncomputable def envA (env : ByteArray → Option Arr) (F : Int) (s : ByteArray) : ByteArray → Option Arr :=
  match ans env F s with
  | .inl _ => env
  | .inr x => if (Yl s).size = 0 then env else upd env (Yl s) x.1
theorem Jhx (h0 : 0 ≤ F) (he : EnvOk env) : EnvOk (envA env F s) := by
  unfold envA
  cases h : ans env F s with
  | inl e => exact he
  | inr x =>
    by_cases hn : (Yl s).size = 0
    · simp only [hn, if_true]; exact he
    · simp only [hn, if_false]; exact he.upd _ (G9 h0 he h).1
end
end Go.Proofs.YtjobgpahajhbnabGreatDoor
namespace Go.Proofs.YtjobgpahajhbnabGreatDoor
open Go.RowKit Go.Proofs Go.Maps
attribute [local go_sem ↓] Go.wp_at_zero Go.wp_at_succ
structure NumsW (P : Nat → Prop) (w : World) (v : Value) (xs : List Int) : Prop where
  nums : Nums P w v xs
  soft : ∀ b off n c, v = .slice (some ⟨b, off, none⟩) n c → 0 < n → ∀ i, w.frozen? ⟨b, i, none⟩ = false
theorem N4 (P : Nat → Prop) (w : World) : NumsW P w (.slice none 0 0) [] := ⟨Jn P w, fun _ _ _ _ h => by cases h⟩
theorem NumsW.at_ {P : Nat → Prop} {w : World} {b off n c : Nat} {xs : List Int} (h : NumsW P w (.slice (some ⟨b, off, none⟩) n c) xs) (hn : 0 < n) : P b ∧ b < w.heap.size := by
  obtain ⟨ao, cap, hv, _, h1, _⟩ := h.nums
  injection hv with e1 e2 e3
  obtain ⟨b', off', e, hp, hl, _⟩ := h1 (by omega)
  rw [e] at e1
  injection e1 with e1
  injection e1 with e1 _ _
  subst e1
  exact ⟨hp, hl⟩
theorem NumsW.keep {P : Nat → Prop} {w w' : World} {v : Value} {xs : List Int} (h : NumsW P w v xs) (hs : w.heap.size ≤ w'.heap.size) (hb : ∀ b, P b → b < w.heap.size → w'.heap[b]? = w.heap[b]?) : NumsW P w' v xs := by
  refine ⟨h.nums.keep hs hb, fun b off n c e hn i => ?_⟩
  subst e
  obtain ⟨hp, hl⟩ := h.at_ hn
  rw [World.frozen?_of_block (a := ⟨b, i, none⟩) (hb b hp hl)]
  exact h.soft b off n c rfl hn i
theorem NumsW.below {P : Nat → Prop} {w w' : World} {v : Value} {xs : List Int} (h : NumsW P w v xs) (hb : Below w.heap.size w w') : NumsW P w' v xs := h.keep hb.size (fun b _ hl => hb.block b hl)
theorem NumsW.imp {P Q : Nat → Prop} {w : World} {v : Value} {xs : List Int} (h : NumsW P w v xs) (hq : ∀ b, P b → b < w.heap.size → Q b) : NumsW Q w v xs := ⟨h.nums.imp hq, h.soft⟩
theorem NumsW.set {P : Nat → Prop} {w : World} {v : Value} {xs : List Int} (h : NumsW P w v xs) {r : Nat} (hr : ¬ P r) (i : Nat) (u : Value) : NumsW P (w.setCell ⟨r, i, none⟩ u) v xs :=
  ⟨h.nums.set hr i u, fun b off n c e hn j => by rw [World.frozen?_setCell]; exact h.soft b off n c e hn j⟩
theorem Qo {w : World} {B : Nat} {e : TypeId} {v : Value} {n : Nat} {xs : List Value} (h : w.ownsRow B e 1 v n xs) : ∀ b off m c, v = .slice (some ⟨b, off, none⟩) m c → 0 < m → ∀ i, w.frozen? ⟨b, i, none⟩ = false := by
  obtain ⟨hl, ⟨rfl, _⟩ | ⟨g, cap, cur, rfl, r⟩⟩ := h
  · intro b off m c e; cases e
  · intro b off m c e hm i
    injection e with e1 e2 e3
    injection e1 with e1
    injection e1 with e1 e4 _
    subst e1
    exact World.ownsRow.frozenAt (n := n) (cap := cap) (xs := xs) ⟨hl, .inr ⟨_, cap, cur, rfl, r⟩⟩ i
theorem Jk4 (P : Nat → Prop) (w : World) (hP : ∀ b, w.heap.size ≤ b → P b) {Q : Nat → Prop} (v : Value) (xs : List Int) (h : Nums Q w v xs) (hx : xs.length ≤ 200) :
    Calls Tryz.prog 38 #[v] w fun e w' => ∃ so sn sc, e = .returned (.slice so sn sc) ∧ NumsW P w' (.slice so sn sc) xs ∧ Below w.heap.size w w' := by
  obtain ⟨ao, cap, rfl, _, hcell, hspot⟩ := h
  by_cases h0 : 0 < xs.length
  · obtain ⟨b, off, rfl, _, _, hc⟩ := hcell h0
    obtain ⟨i0, hi, hz0, hz1, hz2⟩ := info_parts Tryz.info2
    refine (Tryz.slices_Clone_f80 i0 (.int .i64 0) 1 8 hi hz0 hz1 hz2 rfl (by decide) (fun w => by kernel_rfl) b off xs.length cap (xs.map (Value.int .i64)) w (by simp) (by unfold maxLen; omega) (by omega) ?_ ?_).mono ?_
    · intro j u hu
      obtain ⟨hj, rfl⟩ := Z0 hu
      exact hc j hj
    · intro u hu
      obtain ⟨y, _, rfl⟩ := List.mem_map.1 hu
      rfl
    · rintro e w' ⟨v', rfl, hown, _, hb⟩
      have hso := Qo hown
      have hn := Js (P := P) hown hP
      obtain ⟨ao', cap', rfl, r⟩ := hn
      exact ⟨ao', xs.length, cap', rfl, ⟨⟨ao', cap', rfl, r⟩, hso⟩, hb⟩
  · have hx0 : xs = [] := List.eq_nil_of_length_eq_zero (by omega)
    subst hx0
    cases ao with
    | none =>
      refine (Tryz.slices_Clone_nil_f80 0 cap w).mono ?_
      rintro e w' ⟨rfl, rfl⟩
      exact ⟨none, 0, 0, rfl, N4 P _, Below.refl _ _⟩
    | some a =>
      obtain ⟨b, off, spot⟩ := a
      have hsp : spot = none := hspot _ rfl
      subst hsp
      obtain ⟨i0, hi, hz0, hz1, hz2⟩ := info_parts Tryz.info2
      refine (Tryz.slices_Clone_f80 i0 (.int .i64 0) 1 8 hi hz0 hz1 hz2 rfl (by decide) (fun w => by kernel_rfl) b off 0 cap [] w (by simp) (by unfold maxLen; omega) (by omega) (fun j u hu => by simp at hu) (fun u hu => by simp at hu)).mono ?_
      rintro e w' ⟨v', rfl, hown, _, hb⟩
      have hso := Qo hown
      have hn := Js (P := P) (xs := []) hown hP
      obtain ⟨ao', cap', rfl, r⟩ := hn
      exact ⟨ao', 0, cap', rfl, ⟨⟨ao', cap', rfl, r⟩, hso⟩, hb⟩
theorem Jk5 (P : Nat → Prop) (w : World) (hP : ∀ b, w.heap.size ≤ b → P b) {Q : Nat → Prop} (v : Value) (xs : List Int) (h : Nums Q w v xs) (hx : xs.length ≤ 200) :
    Calls Tryz.prog 37 #[v] w fun e w' => ∃ so sn sc, e = .returned (.slice so sn sc) ∧ NumsW P w' (.slice so sn sc) xs ∧ Below w.heap.size w w' := by
  obtain ⟨ao, cap, rfl, _, hcell, hspot⟩ := h
  by_cases h0 : 0 < xs.length
  · obtain ⟨b, off, rfl, _, _, hc⟩ := hcell h0
    obtain ⟨i0, hi, hz0, hz1, hz2⟩ := info_parts Tryz.info3
    refine (Tryz.slices_Clone_f79 i0 (.int .i64 0) 1 8 hi hz0 hz1 hz2 rfl (by decide) (fun w => by kernel_rfl) b off xs.length cap (xs.map (Value.int .i64)) w (by simp) (by unfold maxLen; omega) (by omega) ?_ ?_).mono ?_
    · intro j u hu
      obtain ⟨hj, rfl⟩ := Z0 hu
      exact hc j hj
    · intro u hu
      obtain ⟨y, _, rfl⟩ := List.mem_map.1 hu
      rfl
    · rintro e w' ⟨v', rfl, hown, _, hb⟩
      have hso := Qo hown
      have hn := Js (P := P) hown hP
      obtain ⟨ao', cap', rfl, r⟩ := hn
      exact ⟨ao', xs.length, cap', rfl, ⟨⟨ao', cap', rfl, r⟩, hso⟩, hb⟩
  · have hx0 : xs = [] := List.eq_nil_of_length_eq_zero (by omega)
    subst hx0
    cases ao with
    | none =>
      refine (Tryz.slices_Clone_nil_f79 0 cap w).mono ?_
      rintro e w' ⟨rfl, rfl⟩
      exact ⟨none, 0, 0, rfl, N4 P _, Below.refl _ _⟩
    | some a =>
      obtain ⟨b, off, spot⟩ := a
      have hsp : spot = none := hspot _ rfl
      subst hsp
      obtain ⟨i0, hi, hz0, hz1, hz2⟩ := info_parts Tryz.info3
      refine (Tryz.slices_Clone_f79 i0 (.int .i64 0) 1 8 hi hz0 hz1 hz2 rfl (by decide) (fun w => by kernel_rfl) b off 0 cap [] w (by simp) (by unfold maxLen; omega) (by omega) (fun j u hu => by simp at hu) (fun u hu => by simp at hu)).mono ?_
      rintro e w' ⟨v', rfl, hown, _, hb⟩
      have hso := Qo hown
      have hn := Js (P := P) (xs := []) hown hP
      obtain ⟨ao', cap', rfl, r⟩ := hn
      exact ⟨ao', 0, cap', rfl, ⟨⟨ao', cap', rfl, r⟩, hso⟩, hb⟩
set_option maxHeartbeats 400000 in
theorem Jfj (P : Nat → Prop) (w : World) (hP : ∀ b, w.heap.size ≤ b → P b) {Q : Nat → Prop} (so : Option Addr) (sn sc : Nat) (co : Option Addr) (cn cc : Nat) (xs : List Int) (h : Nums Q w (.slice so sn sc) xs) (hx : xs.length ≤ 200) :
    Calls Tryz.prog 27 #[.agg #[.slice so sn sc, .slice co cn cc]] w fun e w' => ∃ so sn sc, e = .returned (.slice so sn sc) ∧ NumsW P w' (.slice so sn sc) xs ∧ Below w.heap.size w w' := by
  have hw0 : Below w.heap.size w (w.alloc (.cells #[.slice so sn sc, .slice co cn cc] 57)) := (Below.refl _ _).alloc (Nat.le_refl _) _
  have HC := hide (Jk5 P _ (fun b hb => hP b (by simp at hb; omega)) _ xs (h.below hw0) hx)
  have HB0 := hide hw0
  clear h hP hw0
  go_enter Tryz.func27, Tryz.ntmps27
  go_wp2_with (go_at_call 37; refine (Ja HC).mono ?_; rintro e w1 ⟨a1, a2, a3, rfl, hn, hb1⟩; have HB1 := hide hb1; have HN1 := hide hn; clear hb1 hn)
  exact bodyPost_ret (v := .slice a1 a2 a3) (by simp [results, Tryz.results27, go_sem]) rfl ⟨_, _, _, rfl, Ja HN1, (Ja HB0).trans ((Ja HB1).mono (Ja HB0).size)⟩
set_option maxHeartbeats 400000 in
theorem Jii (P : Nat → Prop) (w : World) (hP : ∀ b, w.heap.size ≤ b → P b) {Q : Nat → Prop} (so : Option Addr) (sn sc : Nat) (co : Option Addr) (cn cc : Nat) (xs : List Int) (h : Nums Q w (.slice co cn cc) xs) (hx : xs.length ≤ 200) :
    Calls Tryz.prog 28 #[.agg #[.slice so sn sc, .slice co cn cc]] w fun e w' => ∃ so sn sc, e = .returned (.slice so sn sc) ∧ NumsW P w' (.slice so sn sc) xs ∧ Below w.heap.size w w' := by
  have hw0 : Below w.heap.size w (w.alloc (.cells #[.slice so sn sc, .slice co cn cc] 57)) := (Below.refl _ _).alloc (Nat.le_refl _) _
  have HC := hide (Jk4 P _ (fun b hb => hP b (by simp at hb; omega)) _ xs (h.below hw0) hx)
  have HB0 := hide hw0
  clear h hP hw0
  go_enter Tryz.func28, Tryz.ntmps28
  go_wp2_with (go_at_call 38; refine (Ja HC).mono ?_; rintro e w1 ⟨a1, a2, a3, rfl, hn, hb1⟩; have HB1 := hide hb1; have HN1 := hide hn; clear hb1 hn)
  exact bodyPost_ret (v := .slice a1 a2 a3) (by simp [results, Tryz.results28, go_sem]) rfl ⟨_, _, _, rfl, Ja HN1, (Ja HB0).trans ((Ja HB1).mono (Ja HB0).size)⟩
end Go.Proofs.YtjobgpahajhbnabGreatDoor
