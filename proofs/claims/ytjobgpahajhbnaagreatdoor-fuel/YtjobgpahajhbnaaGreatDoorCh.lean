import Derived.Test.YtjobgpahajhbnaaGreatDoorCg
import Derived.Test.YtjobgpahajhbnaaGreatDoorHa
import Derived.Stop.RegionWithIn
namespace Go.Proofs.YtjobgpahajhbnaaGreatDoor
open Go.RowKit Go.Proofs Go.Maps
attribute [local go_sem ↓] Go.wp_at_zero Go.wp_at_succ

theorem form_fn {h g : Nat} {z : Int} (hh : Enters Tryz.prog h) {F : Arr → Arr × Int} {w' : World} (hF : ∀ (P : Nat → Prop) (W : World), Below w'.heap.size w' W → (∀ b, W.heap.size ≤ b → P b) → ∀ (so : Option Addr) (sn sc : Nat) (co : Option Addr) (cn cc : Nat) (a : Arr), IsArr P W (.agg #[.slice so sn sc, .slice co cn cc]) a → a.ok → Calls Tryz.prog h #[.agg #[.slice so sn sc, .slice co cn cc], .agg #[.func (.func g) #[] #[], .int .i64 z]] W fun e W' => ∃ so sn sc co cn cc, e = .returned (.tuple #[.agg #[.slice so sn sc, .slice co cn cc], .int .i64 (F a).2]) ∧ IsArr P W' (.agg #[.slice so sn sc, .slice co cn cc]) (F a).1 ∧ Below W.heap.size W W')
    {b3 b4 : Nat} (c3 : w'.cell? ⟨b3, 0, none⟩ = some (.func (.func h) #[] #[])) (l3 : b3 < w'.heap.size) (c4 : w'.cell? ⟨b4, 0, none⟩ = some (.func (.func g) #[] #[])) (c5 : w'.cell? ⟨b4, 1, none⟩ = some (.int .i64 z)) (l4 : b4 < w'.heap.size) : FnOne 155 #[.pointer (some ⟨b3, 0, none⟩), .pointer (some ⟨b4, 0, none⟩)] w' F := by
  intro W P v a hW hP hA hok
  have hA0 := hA
  obtain ⟨so, sn, sc, co, cn, cc, rfl, _, _⟩ := hA0
  show Calls Tryz.prog 155 #[.agg #[.slice so sn sc, .slice co cn cc], .pointer (some ⟨b3, 0, none⟩), .pointer (some ⟨b4, 0, none⟩)] W _
  have d3 := (hW.cell (p := ⟨b3, 0, none⟩) l3).trans c3
  have d4 := (hW.cell (p := ⟨b4, 0, none⟩) l4).trans c4
  have d5 := (hW.cell (p := ⟨b4, 1, none⟩) l4).trans c5
  have hsz := hW.size
  have k3 : b3 < W.heap.size := by omega
  have k4 : b4 < W.heap.size := by omega
  have hen2 : ∀ args w, (callFunc h args).run Tryz.prog w = .ok (.enter h args) w := hh
  have hst : Bx W ((W.alloc (.cells #[.slice so sn sc, .slice co cn cc] 89)).alloc (.cells #[.slice none 0 0, .slice none 0 0] 89)) [[.slice so sn sc, .slice co cn cc], [.slice none 0 0, .slice none 0 0]] := ((Bx.nil W).alloc (by simp) [.slice so sn sc, .slice co cn cc] 89).alloc (by simp) [.slice none 0 0, .slice none 0 0] 89
  have HST := hide hst
  have HC := hide (hF (OffB W.heap.size 2 P) _ (hW.trans (hst.below.mono hsz)) (fun b hb => OffB.new hP (by have := hst.lt; simp at hb; omega)) so sn sc co cn cc a ((hA.imp (Q := OffB W.heap.size 2 P) (fun b h hl => ⟨h, Or.inl hl⟩)).below hst.below) hok)
  clear hst hA hok hP hF hh c3 l3 c4 c5 l4 hW hsz
  go_enter Tryz.func155, Tryz.ntmps155
  go_wp2_with (go_at_fn h; refine (unhide HC).mono ?_)
  rintro e w2 ⟨s4, s5, s6, c4, c5, c6, rfl, hA5, hb5⟩
  have HX := hide ((unhide HST).next hb5)
  have HA5 := hide hA5
  clear hA5 hb5 HST HC d3 d4 d5
  have r0 : w2.cell? ⟨W.heap.size + 1, 0, none⟩ = some (.slice none 0 0) := ((unhide HX).cell 1 0 _ rfl).1
  have r1 : w2.cell? ⟨W.heap.size + 1, 1, none⟩ = some (.slice none 0 0) := ((unhide HX).cell 1 1 _ rfl).1
  have g0 : w2.frozen? ⟨W.heap.size + 1, 0, none⟩ = false := ((unhide HX).cell 1 0 _ rfl).2
  have g1 : w2.frozen? ⟨W.heap.size + 1, 1, none⟩ = false := ((unhide HX).cell 1 1 _ rfl).2
  go_wp2_with fail
  have hf2 := fin_bx (q := 1) (u0 := .slice s4 s5 s6) (u1 := .slice c4 c5 c6) (unhide HX).below (by decide) (unhide HA5)
  exact bodyPost_ret (v := .tuple #[.agg #[.slice s4 s5 s6, .slice c4 c5 c6], .int .i64 (F a).2]) (by simp [results, Tryz.results155, go_sem, r0, r1]) rfl ⟨_, _, _, _, _, _, rfl, hf2.1, hf2.2⟩
theorem Tryz.enters155 : Enters Tryz.prog 155 := Go.Proofs.enters_of Tryz.func155 (by decide) rfl
theorem Tryz.enters177 : Enters Tryz.prog 177 := Go.Proofs.enters_of Tryz.func177 (by decide) rfl
theorem Tryz.enters178 : Enters Tryz.prog 178 := Go.Proofs.enters_of Tryz.func178 (by decide) rfl
theorem fold_c {t : ByteArray} {ks : Lit} {g : Nat} {z : Int} {f : Arr → Arr → Arr × Int} (h1 : 1 ≤ t.size) (hk1 : keyOf Tryz.prog 9 (.string (t.extract 1 t.size)) = some (.string [47])) (hks : keyOf Tryz.prog 9 (.string (t.extract 0 1)) = some ks) (has : signsD.atKey ks (.held zSign) = .held (.agg #[.func (.func g) #[] #[], .int .i64 z])) (hen : Enters Tryz.prog g) (hfn : ∀ w, FnTwo g #[] w f) (hev : Evens f) (hz : fit64 z) : OneC t (foldP f z) where
  finds := fun w => (find_form h1 hk1 (show formsOneD.atKey (.string [47]) (.held .nilFunc) = .held (.func (.func 177) #[] #[]) by kernel_rfl) hks has w).mono (by
    rintro e w' ⟨b3, b4, rfl, c3, l3, c4, c5, l4, hb⟩
    exact ⟨155, _, rfl, Tryz.enters155, hb, form_fn Tryz.enters177 (fun P W hW hP so sn sc co cn cc a ha hok => fold_any z hen (hfn w') hev P W hW hP so sn sc co cn cc a ha hok) c3 l3 c4 c5 l4⟩)
  ok := fun a ha => fold_ok hev hz ha
theorem scan_c {t : ByteArray} {ks : Lit} {g : Nat} {z : Int} {f : Arr → Arr → Arr × Int} (h1 : 1 ≤ t.size) (hk1 : keyOf Tryz.prog 9 (.string (t.extract 1 t.size)) = some (.string [92])) (hks : keyOf Tryz.prog 9 (.string (t.extract 0 1)) = some ks) (has : signsD.atKey ks (.held zSign) = .held (.agg #[.func (.func g) #[] #[], .int .i64 z])) (hen : Enters Tryz.prog g) (hfn : ∀ w, FnTwo g #[] w f) (hev : Evens f) : OneC t (scanP f) where
  finds := fun w => (find_form h1 hk1 (show formsOneD.atKey (.string [92]) (.held .nilFunc) = .held (.func (.func 178) #[] #[]) by kernel_rfl) hks has w).mono (by
    rintro e w' ⟨b3, b4, rfl, c3, l3, c4, c5, l4, hb⟩
    exact ⟨155, _, rfl, Tryz.enters155, hb, form_fn Tryz.enters178 (fun P W hW hP so sn sc co cn cc a ha hok => scan_any z hen (hfn w') hev P W hW hP so sn sc co cn cc a ha hok) c3 l3 c4 c5 l4⟩)
  ok := fun a ha => scan_ok hev ha
theorem sum_one : OneC ⟨#[43, 47]⟩ (foldP (pairP plusF) 0) := fold_c (by decide) (by kernel_rfl) (ks := .string [43]) (by kernel_rfl) (by kernel_rfl) Tryz.enters190 plus_fn (pair_evens plus_rule.fits) (by unfold fit64; omega)
theorem alt_one : OneC ⟨#[45, 47]⟩ (foldP (pairP minusF) 0) := fold_c (by decide) (by kernel_rfl) (ks := .string [45]) (by kernel_rfl) (by kernel_rfl) Tryz.enters191 minus_fn (pair_evens minus_rule.fits) (by unfold fit64; omega)
theorem prod_one : OneC ⟨#[42, 47]⟩ (foldP (pairP timesF) 1) := fold_c (by decide) (by kernel_rfl) (ks := .string [42]) (by kernel_rfl) (by kernel_rfl) Tryz.enters192 times_fn (pair_evens times_rule.fits) (by unfold fit64; omega)
theorem quot_one : OneC ⟨#[37, 47]⟩ (foldP (pairP overF) 1) := fold_c (by decide) (by kernel_rfl) (ks := .string [37]) (by kernel_rfl) (by kernel_rfl) Tryz.enters193 over_fn (pair_evens over_rule.fits) (by unfold fit64; omega)
theorem rests_one : OneC ⟨#[124, 47]⟩ (foldP (pairP restF) 0) := fold_c (by decide) (by kernel_rfl) (ks := .string [124]) (by kernel_rfl) (by kernel_rfl) Tryz.enters194 rest_fn (pair_evens rest_rule.fits) (by unfold fit64; omega)
theorem least_one : OneC ⟨#[38, 47]⟩ (foldP (pairP lesserF) 9223372036854775807) := fold_c (by decide) (by kernel_rfl) (ks := .string [38]) (by kernel_rfl) (by kernel_rfl) Tryz.enters195 lesser_fn (pair_evens lesser_rule.fits) (by unfold fit64; omega)
theorem most_one : OneC ⟨#[33, 47]⟩ (foldP (pairP greaterF) (-9223372036854775808)) := fold_c (by decide) (by kernel_rfl) (ks := .string [33]) (by kernel_rfl) (by kernel_rfl) Tryz.enters196 greater_fn (pair_evens greater_rule.fits) (by unfold fit64; omega)
theorem sames_one : OneC ⟨#[61, 47]⟩ (foldP (pairP sameF) 1) := fold_c (by decide) (by kernel_rfl) (ks := .string [61]) (by kernel_rfl) (by kernel_rfl) Tryz.enters197 same_fn (pair_evens same_rule.fits) (by unfold fit64; omega)
theorem belows_one : OneC ⟨#[60, 47]⟩ (foldP (pairP belowF) 0) := fold_c (by decide) (by kernel_rfl) (ks := .string [60]) (by kernel_rfl) (by kernel_rfl) Tryz.enters198 below_fn (pair_evens below_rule.fits) (by unfold fit64; omega)
end Go.Proofs.YtjobgpahajhbnaaGreatDoor
namespace Go.Proofs.YtjobgpahajhbnaaGreatDoor
open Go.RowKit Go.Proofs Go.Shelf

theorem Tryz.enters201 : Enters Tryz.prog 201 := Go.Proofs.enters_of Tryz.func201 (by decide) rfl
/-- a row, from place s on, and then what lies ahead of it -/
def rotL (L : List Int) (s : Nat) : List Int := L.drop s ++ L.take s
def startOf (n : Nat) (y : Int) : Nat := (y % (n : Int)).toNat
theorem wrap64_cong (n : Int) : (wrap64 n - n) % 18446744073709551616 = 0 := by
  unfold wrap64
  omega
theorem over_mod {n : Nat} {y : Int} (h0 : 0 < n) : ((overF y n).1 - y / (n : Int)) % 18446744073709551616 = 0 := by
  unfold overF
  rw [if_neg (by omega)]
  have hn : ¬ ((n : Int) < 0) := by omega
  have hsg : (n : Int).sign = 1 := Int.sign_eq_one_of_pos (by omega)
  have hd := Int.tdiv_eq_ediv (a := y) (b := (n : Int))
  rw [hsg] at hd
  have hm : (y.tmod (n : Int) = 0) ↔ (n : Int) ∣ y := (Int.dvd_iff_tmod_eq_zero).symm
  by_cases hy : 0 ≤ y
  · rw [if_pos (Or.inl hy)] at hd
    rw [if_neg (by rintro ⟨_, h⟩; apply h; rw [decide_eq_false (by omega), decide_eq_false hn])]
    show (wrap64 (y.tdiv (n : Int)) - y / (n : Int)) % 18446744073709551616 = 0
    have := wrap64_cong (y.tdiv (n : Int))
    rw [hd] at this ⊢
    omega
  · by_cases hdv : (n : Int) ∣ y
    · rw [if_pos (Or.inr hdv)] at hd
      rw [if_neg (by rintro ⟨h, _⟩; exact h (hm.2 hdv))]
      show (wrap64 (y.tdiv (n : Int)) - y / (n : Int)) % 18446744073709551616 = 0
      have := wrap64_cong (y.tdiv (n : Int))
      rw [hd] at this ⊢
      omega
    · rw [if_neg (by rintro (h | h); exact hy h; exact hdv h)] at hd
      rw [if_pos ⟨fun h => hdv (hm.1 h), by rw [decide_eq_true (by omega), decide_eq_false hn]; decide⟩]
      show (wrap64 (wrap64 (y.tdiv (n : Int)) - 1) - y / (n : Int)) % 18446744073709551616 = 0
      have h1 := wrap64_cong (y.tdiv (n : Int))
      have h2 := wrap64_cong (wrap64 (y.tdiv (n : Int)) - 1)
      rw [hd] at h1 h2 ⊢
      omega
theorem rest_mod {n : Nat} {y : Int} (h0 : 0 < n) (hn : n ≤ 1000) : (restF (n : Int) y).1 = y % (n : Int) := by
  unfold restF
  rw [if_neg (by omega)]
  show wrap64 (y - wrap64 ((n : Int) * (overF y n).1)) = y % (n : Int)
  have hq := over_mod (y := y) h0
  obtain ⟨t, ht⟩ := Int.dvd_of_emod_eq_zero hq
  have hq' : (overF y n).1 = y / (n : Int) + 18446744073709551616 * t := by omega
  have hmul : (n : Int) * (overF y n).1 = (n : Int) * (y / (n : Int)) + 18446744073709551616 * ((n : Int) * t) := by
    rw [hq', Int.mul_add, ← Int.mul_assoc, Int.mul_comm (n : Int) 18446744073709551616, Int.mul_assoc]
  have hdef := Int.emod_add_mul_ediv y (n : Int)
  have hlo := Int.emod_nonneg y (show (n : Int) ≠ 0 by omega)
  have hhi := Int.emod_lt_of_pos y (show (0 : Int) < (n : Int) by omega)
  have hc := wrap64_cong ((n : Int) * (overF y n).1)
  generalize hA : wrap64 ((n : Int) * (overF y n).1) = A at hc ⊢
  generalize hB : (n : Int) * (overF y n).1 = B at hc hmul
  generalize hC : (n : Int) * (y / (n : Int)) = C at hmul hdef
  generalize hT : (n : Int) * t = T at hmul
  generalize hR : y % (n : Int) = R at hdef hlo hhi ⊢
  unfold wrap64
  omega
theorem start_lt {n : Nat} {y : Int} (h0 : 0 < n) : startOf n y < n ∧ ((startOf n y : Nat) : Int) = y % (n : Int) := by
  have hlo := Int.emod_nonneg y (show (n : Int) ≠ 0 by omega)
  have hhi := Int.emod_lt_of_pos y (show (0 : Int) < (n : Int) by omega)
  unfold startOf
  omega
end Go.Proofs.YtjobgpahajhbnaaGreatDoor
namespace Go.Proofs.YtjobgpahajhbnaaGreatDoor
open Go.RowKit Go.Proofs Go.Shelf
attribute [local go_sem] Oper.semAt_some

def turns {n : Nat} (pre : List (Part n)) (xs : List Int) (y : Int) : List Int := (pre.map (fun p => rotL ((xs.drop p.1.1).take p.1.2) (startOf p.1.2 y))).flatten
theorem turns_snoc {n : Nat} (pre : List (Part n)) (x : Part n) (xs : List Int) (y : Int) : turns (pre ++ [x]) xs y = turns pre xs y ++ rotL ((xs.drop x.1.1).take x.1.2) (startOf x.1.2 y) := by
  unfold turns
  rw [List.map_append, List.flatten_append]
  simp
theorem rotL_len (L : List Int) (s : Nat) : (rotL L s).length = L.length := by
  unfold rotL
  simp
  omega
theorem turns_len {n : Nat} : ∀ (pre : List (Part n)) (xs : List Int) (y : Int), (turns pre xs y).length ≤ pre.length * xs.length
  | [], _, _ => by simp [turns]
  | p :: pre, xs, y => by
    have h := turns_len pre xs y
    have e : turns (p :: pre) xs y = rotL ((xs.drop p.1.1).take p.1.2) (startOf p.1.2 y) ++ turns pre xs y := by simp [turns]
    rw [e, List.length_append, rotL_len, List.length_cons, Nat.add_mul, Nat.one_mul]
    simp
    omega
def turnC (xs : List Int) (la : Nat) (y : Int) : List Int := turns (partsL xs.length (max la 1) (max_pos la) xs.length) xs y
def turnP (a b : Arr) : Arr × Int := if a.shape.length ≠ 0 then (eArr, 5) else if b.shape.length = 0 then (b, 0) else (⟨b.shape, turnC b.cells (lastN b.shape) (a.cells.headD 0)⟩, 0)
theorem Nums.own {P : Nat → Prop} {A B : World} {row : Option Nat} {n : Nat} {v : Value} {L : List Int} (h : Nums P A v L) (hg : A.grownBy B row) (hr : ∀ r, row = some r → n ≤ r ∧ ∃ o : Obj, A.heap[r]? = some o ∧ o.isCells = false) : Nums P B v L := by
  obtain ⟨ao, cap, hv, hcap, h1, h2⟩ := h
  refine ⟨ao, cap, hv, hcap, fun h0 => ?_, h2⟩
  obtain ⟨b, off, ha, hp, hl, hc⟩ := h1 h0
  exact ⟨b, off, ha, hp, Nat.lt_of_lt_of_le hl hg.size, fun i hi => cell_kept (hc i hi) hg (fun r e => (hr r e).2)⟩
section
attribute [local go_sem ↓] Go.wp_at_zero Go.wp_at_succ
set_option maxHeartbeats 2000000 in
/-- turnOn where no row is turned -/
theorem turn_early (W : World) (P : Nat → Prop) (so : Option Addr) (sn sc : Nat) (co : Option Addr) (cn cc : Nat) (so2 : Option Addr) (sn2 sc2 : Nat) (co2 : Option Addr) (cn2 cc2 : Nat) (a b : Arr) (ha : IsArr P W (.agg #[.slice so sn sc, .slice co cn cc]) a) (hb : IsArr P W (.agg #[.slice so2 sn2 sc2, .slice co2 cn2 cc2]) b) (h : sn ≠ 0 ∨ sn2 = 0) :
    Calls Tryz.prog 201 #[.agg #[.slice so sn sc, .slice co cn cc], .agg #[.slice so2 sn2 sc2, .slice co2 cn2 cc2]] W fun e W' => ∃ so sn sc co cn cc, e = .returned (.tuple #[.agg #[.slice so sn sc, .slice co cn cc], .int .i64 (turnP a b).2]) ∧ IsArr P W' (.agg #[.slice so sn sc, .slice co cn cc]) (turnP a b).1 ∧ Below W.heap.size W W' := by
  have hsa := (isArr_len ha).2
  have hsb := (isArr_len hb).2
  have hS0 := St.start (P := P) (W := W) (a := a) (b := b) ha hb
  obtain ⟨W1, hW1⟩ : ∃ W1, ((W.alloc (.cells #[.slice so sn sc, .slice co cn cc] 89)).alloc (.cells #[.slice so2 sn2 sc2, .slice co2 cn2 cc2] 89)).alloc (.cells #[.slice none 0 0, .slice none 0 0] 89) = W1 := ⟨_, rfl⟩
  rw [hW1] at hS0
  have HS0 := hide hS0
  have HScal := hide (fun w' => (isScalar_any w' so sn sc co cn cc).mono (fun e w'' h => (⟨h.1, by rw [h.2]; exact ((Below.refl _ _).alloc (Nat.le_refl _) _).alloc (by simp) _⟩ : e = .returned (.bool ((sn : Int) == 0)) ∧ Below w'.heap.size w' w'')))
  have HScal2 := hide (fun w' => (isScalar_any w' so2 sn2 sc2 co2 cn2 cc2).mono (fun e w'' h => (⟨h.1, by rw [h.2]; exact ((Below.refl _ _).alloc (Nat.le_refl _) _).alloc (by simp) _⟩ : e = .returned (.bool ((sn2 : Int) == 0)) ∧ Below w'.heap.size w' w'')))
  obtain ⟨r, hr⟩ : ∃ r, turnP a b = r := ⟨_, rfl⟩
  simp only [hr]
  have HR := hide hr
  have HSA := hide hsa
  have HSB := hide hsb
  have x0 := hS0.a0
  have x1 := hS0.a1
  clear ha hb hr hS0 hsa hsb
  go_enter Tryz.func201, Tryz.ntmps201
  go_wp2_with fail
  try rw [hW1]
  clear hW1 x0 x1
  refine (unhide HScal _).mono ?_
  rintro e w2 ⟨rfl, hb2⟩
  have hS := (unhide HS0).keep hb2
  have HS2 := hide hS
  have HBz := hide hS.below
  have x2 := hS.b0
  have x3 := hS.b1
  have x4 := hS.r0
  have x5 := hS.r1
  have y4 := hS.fr (W.heap.size + 1 + 1) 0 (by omega) (by omega)
  have y5 := hS.fr (W.heap.size + 1 + 1) 1 (by omega) (by omega)
  have n3 := hS.lt
  have n2 : W.heap.size + 1 < w2.heap.size := by omega
  clear hS hb2 HS0 HScal
  by_cases hsc : sn = 0
  · have hsc' : ((sn : Int) == 0) = true := by rw [hsc]; rfl
    have h2 : sn2 = 0 := by omega
    have h2' : ((sn2 : Int) == 0) = true := by rw [h2]; rfl
    have hr' : r = (b, 0) := by
      rw [← unhide HR]
      unfold turnP
      rw [if_neg (by rw [← unhide HSA]; omega), if_pos (by rw [← unhide HSB]; exact h2)]
    subst hr'
    clear hsc h h2 HR HSA HSB
    go_wp2_with fail
    refine (unhide HScal2 _).mono ?_
    rintro e w3 ⟨rfl, hb3⟩
    have hS := (unhide HS2).keep hb3
    clear x2 x3 x4 x5 y4 y5 n3 n2 HBz
    have x2 := hS.b0
    have x3 := hS.b1
    have x4 := hS.r0
    have x5 := hS.r1
    have y4 := hS.fr (W.heap.size + 1 + 1) 0 (by omega) (by omega)
    have y5 := hS.fr (W.heap.size + 1 + 1) 1 (by omega) (by omega)
    have n3 := hS.lt
    have n2 : W.heap.size + 1 < w3.heap.size := by omega
    have HBz := hide hS.below
    have HIB := hide hS.isB
    clear hS hb3 HS2
    go_wp2_with fail
    exact bodyPost_ret (v := .tuple #[.agg #[.slice so2 sn2 sc2, .slice co2 cn2 cc2], .int .i64 0]) (by simp [results, Tryz.results201, go_sem, x4, x5]) rfl ⟨_, _, _, _, _, _, rfl, (fin_ok (unhide HBz) (unhide HIB)).1, (fin_ok (unhide HBz) (unhide HIB)).2⟩
  · have hsc' : ((sn : Int) == 0) = false := by rw [beq_eq_false_iff_ne]; omega
    have hr' : r = (eArr, 5) := by
      rw [← unhide HR]
      unfold turnP
      rw [if_pos (by rw [← unhide HSA]; exact hsc)]
    subst hr'
    clear hsc h
    go_wp2_with fail
    exact bodyPost_ret (v := .tuple #[.agg #[.slice none 0 0, .slice none 0 0], .int .i64 5]) (by simp [results, Tryz.results201, go_sem, x4, x5]) rfl ⟨_, _, _, _, _, _, rfl, e_arr _ _, (fin_ok (P := P) (unhide HBz) (e_arr _ _)).2⟩
end
end Go.Proofs.YtjobgpahajhbnaaGreatDoor
namespace Go.Proofs.YtjobgpahajhbnaaGreatDoor
open Go.RowKit Go.Proofs Go.Shelf

/-- what an operation comes to outside a round it comes to within one, but for 'defer' -/
theorem op_in {l n : Nat} {P : Program} {o : Oper} {a : Act} {w : World} {K K' : Act → World → Prop} {Q : Exit → Act → World → Prop} (hd : ∀ c, o.op ≠ .defer c) (hk : ∀ a w, K a w → K' a w) (h : o.wp P a w K Q) : o.wpIn (Fence.wide.inRound l) n P a w K' Q := by
  refine ⟨fun _ _ => trivial, ?_⟩
  rw [show (Fence.wide.inRound l).round = some l from rfl, Oper.semAt_some l _ _ hd]
  have h := Oper.wp_mono hk h
  unfold Oper.wp at h
  generalize (execOp a.eval o).run P w = r at *
  cases r with
  | ok x w' =>
    cases x with
    | value v => exact h
    | skip => exact h
    | defer d => exact h
    | enter f args => exact ⟨fun h => (by cases h), CallsIn.inRound l (callsIn_wide.2 h)⟩
    | row row args => exact ⟨fun h => (by cases h), fun c cs _ => let ⟨v, w2, r, s⟩ := h c cs; ⟨v, w2, r, stepsIn_wide.2 s⟩⟩
    | _ => exact h.elim
  | halt x w' => cases x <;> exact h
theorem anyIn_of_any {l n : Nat} {P : Program} {md : Region.Mode} {ops : Array Oper} {Q : Exit → Act → World → Prop} (hd : ∀ (i : Nat) (o : Oper), ops[i]? = some o → ∀ c, o.op ≠ .defer c) (hL : ¬ LetsOut Q) : ∀ (fuel : Nat) (listed : Array Bool) (a : Act) (w : World), wpAny P md ops Q fuel listed a w → wpAnyIn (Fence.wide.inRound l) n P md ops Q fuel listed a w
  | 0, _, _, _, h => h
  | fuel + 1, listed, a, w, h => ⟨h.1, fun i hi => by
    have hh := h.2 i hi
    unfold wpOp at hh
    unfold wpOpIn
    split
    · rename_i ho
      simp only [ho] at hh
      exact anyIn_of_any hd hL fuel _ _ _ hh
    · rename_i o ho
      simp only [ho] at hh
      split
      · rename_i hw
        simp only [hw, if_true] at hh
        rcases hh with hh | hh
        · exact op_in (hd i o ho) (fun a w h => anyIn_of_any hd hL fuel _ a w h) hh
        · exact absurd hh.2 hL
      · rename_i hw
        simp only [hw] at hh
        exact ⟨fun _ _ => trivial, anyIn_of_any hd hL fuel _ _ _ hh⟩⟩
end Go.Proofs.YtjobgpahajhbnaaGreatDoor
