import Derived.Test.YtjobgpahajhbnaaGreatDoorJd
import Derived.Test.YtjobgpahajhbnaaGreatDoorHb
import Derived.Test.YtjobgpahajhbnaaGreatDoorMd
import Derived.Deep.RegionLaw
namespace Go.Proofs.YtjobgpahajhbnaaGreatDoor
open Go.RowKit Go.Proofs
attribute [local go_sem ↓] Go.wp_at_zero Go.wp_at_succ

/-- what a text comes to, wherever it stands -/
structure ArrX (f1 : ByteArray → Arr → Arr × Int) (f2 : ByteArray → Arr → Arr → Arr × Int) (env : ByteArray → Option Arr) (X : Ex) (a : Arr) (b : Nat) : Prop where
  good : Good f1 f2 X
  ev : ∀ c, c + b ≤ 700 → ∃ c', c' ≤ c + b ∧ evalE env 1000 f1 f2 X c = .inr (a, c')
def ArrW (f1 : ByteArray → Arr → Arr × Int) (f2 : ByteArray → Arr → Arr → Arr × Int) (env : ByteArray → Option Arr) (t : List UInt8) (a : Arr) (b : Nat) : Prop := ∀ d p, ∃ X, Tw (d + 1) false p X t ∧ ArrX f1 f2 env X a b
/-- a line, said of its bytes -/
def ArrSays (env : ByteArray → Option Arr) (b : ByteArray) (a : Arr) : Prop := ∃ cost, ∀ S db N, Says (DkE S db env N) db b 0 0 (a.shape.map Int.ofNat) a.cells cost
section
variable {f1 : ByteArray → Arr → Arr × Int} {f2 : ByteArray → Arr → Arr → Arr × Int} {env : ByteArray → Option Arr}
theorem a_name {nm : List UInt8} {a : Arr} (hn : NameT nm) (hl : nm.length ≤ 200) (hx : env ⟨nm.toArray⟩ = some a) : ArrW f1 f2 env nm a 0 := fun d p =>
  ⟨.name ⟨nm.toArray⟩ p, Tw.only _ _ _ _ (Tw.name (d + 1) p nm hn), by simpa [Good, ByteArray.size] using hl, fun c _ => ⟨c, by omega, by simp only [evalE, hx]⟩⟩
theorem a_num {n : Int} {t : List UInt8} (hn : Nm n t) (hf : fit64 n) : ArrW f1 f2 env t (arrOf [n]) 0 := fun d p =>
  ⟨.num [n], Tw.only _ _ _ _ (Tw.row (d + 1) p [n] t (NmRow.one n t hn)), ⟨by simp, by simp, by intro c hc; simp at hc; subst hc; exact hf⟩, fun c _ => ⟨c, by omega, by simp only [evalE]⟩⟩
theorem a_one {f t : List UInt8} {F : Arr → Arr × Int} {a a' : Arr} {b : Nat} (hf : Fn1 f) (hF : f1 ⟨f.toArray⟩ = F) (hC : OneC ⟨f.toArray⟩ F) (h : ArrW f1 f2 env t a b) (hv : F a = (a', 0)) (hl : a'.cells.length ≤ 64) : ArrW f1 f2 env (f ++ (32 :: t)) a' (b + 65) := fun d p => by
  obtain ⟨X, h1, h2, h3⟩ := h d (p + f.length + 1)
  refine ⟨.one ⟨f.toArray⟩ p X, Tw.one (d + 1) p f X t hf h1, ⟨by rw [hF]; exact hC, h2⟩, fun c hc => ?_⟩
  obtain ⟨c1, e1, e2⟩ := h3 c (by omega)
  refine ⟨c1 + (1 + a'.cells.length), by omega, ?_⟩
  simp only [evalE, e2]
  rw [hF, hv, pay_more rfl (by simp; omega) (by omega)]
theorem a_says {t : List UInt8} {a : Arr} {b : Nat} (he : EnvOk env) (h : ArrW f1 f2 env t a b) (hb : b ≤ 700) (ht : t.length ≤ 200) (hs : a.shape.length ≤ 3) (hl : a.cells.length ≤ 64) : ArrSays env ⟨t.toArray⟩ a := by
  obtain ⟨X, h1, h2, h3⟩ := h 0 0
  obtain ⟨c, _, hc⟩ := h3 0 (by omega)
  exact ⟨c, fun S db N => says_plain h1 ht (by decide) he h2 hc (by omega) (by omega)⟩
theorem one_says {b : ByteArray} {n : Int} (h : ArrSays env b (arrOf [n])) {S : Nat → Prop} {db N : Nat} {w : World} (hD : DkE S db env N w) :
    Calls Tryz.prog 17 #[.pointer (some ⟨db, 0, none⟩), .string b, .int .i64 n] w fun e w' => e = .returned (.bool true) ∧ Below w.heap.size w w' := by
  obtain ⟨cost, h⟩ := h
  exact isOne_gen (DkE S db env N) (DkE.lasts S db env N) db b n cost (h S db N) w hD
theorem row_says {b : ByteArray} {cs : List Int} (h : ArrSays env b (rowA cs)) {S : Nat → Prop} {db N : Nat} {w : World} (hD : DkE S db env N w) {Q : Nat → Prop} {v : Value} (hn : Nums Q w v cs) (hl : cs.length ≤ 200) :
    Calls Tryz.prog 19 #[.pointer (some ⟨db, 0, none⟩), .string b, v] w fun e w' => e = .returned (.bool true) ∧ Below w.heap.size w w' := by
  obtain ⟨cost, h⟩ := h
  have hn0 := hn
  obtain ⟨ko, kc, rfl, _⟩ := hn0
  exact isRow_gen (DkE S db env N) (DkE.lasts S db env N) db b cs cost (h S db N) w hD ko _ kc hn hl
set_option maxHeartbeats 1000000 in
set_option maxRecDepth 20000 in
/-- two lines that come to the same, neither of which makes a name -/
theorem like_says {s t : ByteArray} {a : Arr} (hs : ArrSays env s a) (ht : ArrSays env t a) {S : Nat → Prop} {db N : Nat} {w : World} (hD : DkE S db env N w) (hl1 : a.shape.length ≤ 3) (hl2 : a.cells.length ≤ 200) :
    Calls Tryz.prog 24 #[.pointer (some ⟨db, 0, none⟩), .string s, .string t] w fun e w' => e = .returned (.bool true) ∧ Below w.heap.size w w' := by
  obtain ⟨cost, ht⟩ := ht
  obtain ⟨cost', hs⟩ := hs
  have hl3 : (a.shape.map Int.ofNat).length ≤ 200 := by simp; omega
  obtain ⟨sh, hsh⟩ : ∃ sh, a.shape.map Int.ofNat = sh := ⟨_, rfl⟩
  rw [hsh] at hs ht hl3
  obtain ⟨cs, hcs⟩ : ∃ cs, a.cells = cs := ⟨_, rfl⟩
  rw [hcs] at hs ht hl2
  have HO := hide (one_gen (DkE S db env N) (DkE.lasts S db env N) db _ _ cs cost (ht S db N) w hD)
  have HI : Hid (∀ w2 so sn sc co cn cc, Below w.heap.size w w2 → Nums (fun b => w.heap.size < b) w2 (.slice so sn sc) sh → Nums (fun b => w.heap.size < b) w2 (.slice co cn cc) cs → Calls Tryz.prog 28 #[.pointer (some ⟨db, 0, none⟩), .string s, .slice so sn sc, .slice co cn cc] w2 fun e w' => e = .returned (.bool true) ∧ Below w2.heap.size w2 w') := hide (by
    intro w2 so sn sc co cn cc hb hsh hcs
    exact is_gen (DkE S db env N) (DkE.lasts S db env N) db _ _ cs cost' (hs S db N) w2 (hD.below hb) so sn sc co cn cc hsh hcs hl3 hl2)
  clear hs ht hD hsh hcs
  go_enter Tryz.func24, Tryz.ntmps24
  go_wp2_with (go_at_call 29; refine (unhide HO).mono ?_; rintro e w1 ⟨so, sn, sc, co, cn, cc, rfl, h1, h2, hb⟩; have H1 := hide h1; have H2 := hide h2; have HB := hide hb; clear h1 h2 hb)
  have hbw : Below w1.heap.size w1 (w1.alloc (.cells #[.int .i64 0, .int .i64 0, .slice so sn sc, .slice co cn cc, .int .i64 cost] 47)) := (Below.refl _ _).alloc (Nat.le_refl _) _
  have HBW := hide (below2' (unhide HB) hbw)
  refine (unhide HI _ so sn sc co cn cc (below2' (unhide HB) hbw) ((unhide H1).below hbw) ((unhide H2).below hbw)).mono ?_
  rintro e w3 ⟨rfl, hb3⟩
  have HB3 := hide (below2' (unhide HBW) hb3)
  clear hb3 hbw
  go_wp2_with fail
  exact bodyPost_ret (v := .bool true) (by simp [results, Tryz.results24, go_sem]) rfl ⟨rfl, unhide HB3⟩
end
def f1R (t : ByteArray) : Arr → Arr × Int :=
  if t.data.toList.getD 1 0 = 47 then
    (if t.data.toList.getD 0 0 = 43 then foldP (pairP plusF) 0 else if t.data.toList.getD 0 0 = 45 then foldP (pairP minusF) 0 else if t.data.toList.getD 0 0 = 42 then foldP (pairP timesF) 1 else if t.data.toList.getD 0 0 = 37 then foldP (pairP overF) 1 else if t.data.toList.getD 0 0 = 124 then foldP (pairP restF) 0 else if t.data.toList.getD 0 0 = 38 then foldP (pairP lesserF) 9223372036854775807 else if t.data.toList.getD 0 0 = 33 then foldP (pairP greaterF) (-9223372036854775808) else if t.data.toList.getD 0 0 = 61 then foldP (pairP sameF) 1 else foldP (pairP belowF) 0)
  else if t.data.toList.getD 1 0 = 92 then (if t.data.toList.getD 0 0 = 43 then scanP (pairP plusF) else if t.data.toList.getD 0 0 = 45 then scanP (pairP minusF) else scanP (pairP lesserF))
  else if t.data.toList.getD 0 0 = 45 then fun a => (⟨a.shape, a.cells.map negatedF⟩, 0) else if t.data.toList.getD 0 0 = 114 then revP else iotaP
def f2R (_ : ByteArray) : Arr → Arr → Arr × Int := pairP plusF
theorem fn1_form (c d : UInt8) (hc : c ≠ 32) (ht : tailU c = false) (hl : ∀ r, tl ([c, d] ++ (32 :: r)) = some 2) (hk : kindT ⟨[c, d].toArray⟩ = 3) (hr : roleB (roleT ⟨[c, d].toArray⟩) 1 = true) : Fn1 [c, d] := ⟨⟨c, [d], rfl, hc, ht⟩, hl, hk, hr⟩
theorem fn1_sum : Fn1 [43, 47] := fn1_form _ _ (by decide) (by decide) (fun _ => rfl) (by decide +kernel) (by decide +kernel)
theorem fn1_alt : Fn1 [45, 47] := fn1_form _ _ (by decide) (by decide) (fun _ => rfl) (by decide +kernel) (by decide +kernel)
theorem fn1_prod : Fn1 [42, 47] := fn1_form _ _ (by decide) (by decide) (fun _ => rfl) (by decide +kernel) (by decide +kernel)
theorem fn1_quot : Fn1 [37, 47] := fn1_form _ _ (by decide) (by decide) (fun _ => rfl) (by decide +kernel) (by decide +kernel)
theorem fn1_rests : Fn1 [124, 47] := fn1_form _ _ (by decide) (by decide) (fun _ => rfl) (by decide +kernel) (by decide +kernel)
theorem fn1_least : Fn1 [38, 47] := fn1_form _ _ (by decide) (by decide) (fun _ => rfl) (by decide +kernel) (by decide +kernel)
theorem fn1_most : Fn1 [33, 47] := fn1_form _ _ (by decide) (by decide) (fun _ => rfl) (by decide +kernel) (by decide +kernel)
theorem fn1_sames : Fn1 [61, 47] := fn1_form _ _ (by decide) (by decide) (fun _ => rfl) (by decide +kernel) (by decide +kernel)
theorem fn1_belows : Fn1 [60, 47] := fn1_form _ _ (by decide) (by decide) (fun _ => rfl) (by decide +kernel) (by decide +kernel)
theorem fn1_sums : Fn1 [43, 92] := fn1_form _ _ (by decide) (by decide) (fun _ => rfl) (by decide +kernel) (by decide +kernel)
theorem fn1_alts : Fn1 [45, 92] := fn1_form _ _ (by decide) (by decide) (fun _ => rfl) (by decide +kernel) (by decide +kernel)
theorem fn1_leasts : Fn1 [38, 92] := fn1_form _ _ (by decide) (by decide) (fun _ => rfl) (by decide +kernel) (by decide +kernel)
theorem tl_round (r : List UInt8) : tl ([114, 101, 118] ++ (32 :: r)) = some 3 := by
  have h : ([114, 101, 118] ++ (32 :: r)).takeWhile lU = [114, 101, 118] := rfl
  have hf : isFn [114, 101, 118] = true := by decide +kernel
  show wrdE ([114, 101, 118] ++ (32 :: r)) = some 3
  unfold wrdE
  rw [h]
  simp [hf]
theorem fn1_round : Fn1 [114, 101, 118] := ⟨⟨114, [101, 118], rfl, by decide, by decide⟩, tl_round, by decide +kernel, by decide +kernel⟩
theorem round_rows (l : List Int) : revP (rowA l) = (rowA l.reverse, 0) := by
  unfold revP
  rw [if_neg (by simp [rowA])]
  have h : revC (rowA l).cells (lastN (rowA l).shape) = l.reverse := revC_row l
  rw [h]
  simp [rowA]
theorem neg_rows (l : List Int) : ((⟨(rowA l).shape, (rowA l).cells.map negatedF⟩ : Arr), (0 : Int)) = (rowA (l.map negatedF), 0) := by simp [rowA]
section
variable {env : ByteArray → Option Arr} {l : List Int}
theorem s_x (hx : env xT = some (rowA l)) : ArrW f1R f2R env [120] (rowA l) 0 := a_name name_x (by decide) hx
theorem s_rev (hx : env xT = some (rowA l)) (hl : l.length ≤ 24) : ArrW f1R f2R env [114, 101, 118, 32, 120] (rowA l.reverse) 65 := a_one fn1_round rfl round_one (s_x hx) (round_rows l) (by simp [rowA]; omega)
theorem s_neg (hx : env xT = some (rowA l)) (hl : l.length ≤ 24) : ArrW f1R f2R env [45, 32, 120] (rowA (l.map negatedF)) 65 := a_one fn1_minus rfl negated_one (s_x hx) (neg_rows l) (by simp [rowA]; omega)
theorem s_iota : ArrW f1R f2R env [105, 111, 116, 97, 32, 48] (rowA []) 65 := a_one fn1_iota rfl iota_one (a_num nm_zero (by unfold fit64; omega)) (show iotaP (arrOf [0]) = (rowA [], 0) from rfl) (by simp [rowA])
theorem l_fold {c d : UInt8} {F : Int → Int → Int × Int} {z n : Int} {t : List UInt8} {b : Nat} (he : EnvOk env) (hf : Fn1 [c, d]) (hF : f1R ⟨#[c, d]⟩ = foldP (pairP F) z) (hC : OneC ⟨#[c, d]⟩ (foldP (pairP F) z)) (h : ArrW f1R f2R env t (rowA l) b) (hv : foldP (pairP F) z (rowA l) = (arrOf [n], 0)) (hb : b ≤ 600) (ht : t.length ≤ 150) : ArrSays env ⟨([c, d] ++ (32 :: t)).toArray⟩ (arrOf [n]) :=
  a_says he (a_one hf hF hC h hv (by simp [arrOf])) (by omega) (by simp; omega) (by simp [arrOf]) (by simp [arrOf])
theorem l_scan {c d : UInt8} {F : Int → Int → Int × Int} (hF0 : ∀ x y, (F x y).2 = 0) (he : EnvOk env) (hx : env xT = some (rowA l)) (hl : l.length ≤ 24) (hf : Fn1 [c, d]) (hF : f1R ⟨#[c, d]⟩ = scanP (pairP F)) (hC : OneC ⟨#[c, d]⟩ (scanP (pairP F))) : ArrSays env ⟨([c, d] ++ [32, 120]).toArray⟩ (rowA (scanN (fun x y => (F x y).1) l)) :=
  a_says he (a_one hf hF hC (s_x hx) (scan_row hF0 l) (by simp [rowA, scanN]; omega)) (by omega) (by simp) (by simp [rowA]) (by simp [rowA, scanN]; omega)
theorem l_sum (he : EnvOk env) (hx : env xT = some (rowA l)) (hl : l.length ≤ 24) (hw : Few l) : ArrSays env ⟨#[43, 47, 32, 120]⟩ (arrOf [l.sum]) :=
  l_fold he fn1_sum rfl sum_one (s_x hx) (by rw [fold_row (fun _ _ => rfl), fold_plus hw (by omega)]) (by omega) (by decide)
theorem l_alt (he : EnvOk env) (hx : env xT = some (rowA l)) (hl : l.length ≤ 24) (hw : Few l) : ArrSays env ⟨#[45, 47, 32, 120]⟩ (arrOf [altL l]) :=
  l_fold he fn1_alt rfl alt_one (s_x hx) (by rw [fold_row (fun _ _ => rfl), fold_minus hw (by omega)]) (by omega) (by decide)
theorem l_least (he : EnvOk env) (hx : env xT = some (rowA l)) (hw : Few l) : ArrSays env ⟨#[38, 47, 32, 120]⟩ (arrOf [lstL l]) :=
  l_fold he fn1_least rfl least_one (s_x hx) (by rw [fold_row (fun _ _ => rfl), fold_lesser hw]) (by omega) (by decide)
theorem l_most (he : EnvOk env) (hx : env xT = some (rowA l)) (hw : Few l) : ArrSays env ⟨#[33, 47, 32, 120]⟩ (arrOf [grtL l]) :=
  l_fold he fn1_most rfl most_one (s_x hx) (by rw [fold_row (fun _ _ => rfl), fold_greater hw]) (by omega) (by decide)
theorem l_sums (he : EnvOk env) (hx : env xT = some (rowA l)) (hl : l.length ≤ 24) : ArrSays env ⟨#[43, 92, 32, 120]⟩ (rowA (scanN (fun x y => (plusF x y).1) l)) := l_scan (fun _ _ => rfl) he hx hl fn1_sums rfl sums_one
theorem l_alts (he : EnvOk env) (hx : env xT = some (rowA l)) (hl : l.length ≤ 24) : ArrSays env ⟨#[45, 92, 32, 120]⟩ (rowA (scanN (fun x y => (minusF x y).1) l)) := l_scan (fun _ _ => rfl) he hx hl fn1_alts rfl alts_one
theorem l_leasts (he : EnvOk env) (hx : env xT = some (rowA l)) (hl : l.length ≤ 24) : ArrSays env ⟨#[38, 92, 32, 120]⟩ (rowA (scanN (fun x y => (lesserF x y).1) l)) := l_scan (fun _ _ => rfl) he hx hl fn1_leasts rfl leasts_one
theorem l_prod0 (he : EnvOk env) : ArrSays env ⟨#[42, 47, 32, 105, 111, 116, 97, 32, 48]⟩ (arrOf [1]) := l_fold he fn1_prod rfl prod_one s_iota (fold_none _ _) (by omega) (by decide)
theorem l_quot0 (he : EnvOk env) : ArrSays env ⟨#[37, 47, 32, 105, 111, 116, 97, 32, 48]⟩ (arrOf [1]) := l_fold he fn1_quot rfl quot_one s_iota (fold_none _ _) (by omega) (by decide)
theorem l_same0 (he : EnvOk env) : ArrSays env ⟨#[61, 47, 32, 105, 111, 116, 97, 32, 48]⟩ (arrOf [1]) := l_fold he fn1_sames rfl sames_one s_iota (fold_none _ _) (by omega) (by decide)
theorem l_rest0 (he : EnvOk env) : ArrSays env ⟨#[124, 47, 32, 105, 111, 116, 97, 32, 48]⟩ (arrOf [0]) := l_fold he fn1_rests rfl rests_one s_iota (fold_none _ _) (by omega) (by decide)
theorem l_below0 (he : EnvOk env) : ArrSays env ⟨#[60, 47, 32, 105, 111, 116, 97, 32, 48]⟩ (arrOf [0]) := l_fold he fn1_belows rfl belows_one s_iota (fold_none _ _) (by omega) (by decide)
theorem l_sumrev (he : EnvOk env) (hx : env xT = some (rowA l)) (hl : l.length ≤ 24) (hw : Few l) : ArrSays env ⟨#[43, 47, 32, 114, 101, 118, 32, 120]⟩ (arrOf [l.sum]) :=
  l_fold he fn1_sum rfl sum_one (s_rev hx hl) (by rw [fold_row (fun _ _ => rfl), fold_plus (few_rev hw) (by simp; omega), sum_rev]) (by omega) (by decide)
theorem l_negs (he : EnvOk env) (hx : env xT = some (rowA l)) (hl : l.length ≤ 24) (hw : Few l) (h0 : l ≠ []) : ArrSays env ⟨#[45, 32, 38, 47, 32, 45, 32, 120]⟩ (arrOf [grtL l]) := by
  have h1 : ArrW f1R f2R env [38, 47, 32, 45, 32, 120] (arrOf [lstL (l.map negatedF)]) (65 + 65) := a_one (F := foldP (pairP lesserF) 9223372036854775807) fn1_least rfl least_one (s_neg hx hl) (by rw [fold_row (fun _ _ => rfl), fold_lesser (few_neg hw)]) (by simp [arrOf])
  have h2 : ArrW f1R f2R env ([45] ++ (32 :: [38, 47, 32, 45, 32, 120])) (arrOf [grtL l]) (65 + 65 + 65) := a_one fn1_minus rfl negated_one h1 (by rw [← (grt_neg hw h0).1]; rfl) (by simp [arrOf])
  exact a_says he h2 (by omega) (by simp) (by simp [arrOf]) (by simp [arrOf])
end
end Go.Proofs.YtjobgpahajhbnaaGreatDoor
namespace Go.Proofs.YtjobgpahajhbnaaGreatDoor
open Go.RowKit Go.Proofs
attribute [local go_sem ↓] Go.wp_at_zero Go.wp_at_succ

/-- three lists of one's own -/
structure Three (wS wr : World) (v1 v2 v3 : Value) (a b c : List Int) : Prop where
  o1 : OwnL wS.heap.size wr v1 a
  o2 : OwnL wS.heap.size wr v2 b
  o3 : OwnL wS.heap.size wr v3 c
  a12 : Aprt v1 v2
  a13 : Aprt v1 v3
  a23 : Aprt v2 v3
  bel : Below wS.heap.size wS wr
theorem Three.grow1 {wS wr w' : World} {v1 v2 v3 v' : Value} {a b c a' : List Int} (h : Three wS wr v1 v2 v3 a b c) (ho : OwnL wS.heap.size w' v' a') (hg : Grew wS.heap.size wr v1 v' w') : Three wS w' v' v2 v3 a' b c :=
  ⟨ho, hg.own _ _ h.o2 h.a12.symm, hg.own _ _ h.o3 h.a13.symm, (hg.apart _ _ h.o2 h.a12.symm).symm, (hg.apart _ _ h.o3 h.a13.symm).symm, h.a23, h.bel.trans hg.bel⟩
theorem Three.grow2 {wS wr w' : World} {v1 v2 v3 v' : Value} {a b c b' : List Int} (h : Three wS wr v1 v2 v3 a b c) (ho : OwnL wS.heap.size w' v' b') (hg : Grew wS.heap.size wr v2 v' w') : Three wS w' v1 v' v3 a b' c :=
  ⟨hg.own _ _ h.o1 h.a12, ho, hg.own _ _ h.o3 h.a23.symm, hg.apart _ _ h.o1 h.a12, h.a13, (hg.apart _ _ h.o3 h.a23.symm).symm, h.bel.trans hg.bel⟩
theorem Three.grow3 {wS wr w' : World} {v1 v2 v3 v' : Value} {a b c c' : List Int} (h : Three wS wr v1 v2 v3 a b c) (ho : OwnL wS.heap.size w' v' c') (hg : Grew wS.heap.size wr v3 v' w') : Three wS w' v1 v2 v' a b c' :=
  ⟨hg.own _ _ h.o1 h.a13, hg.own _ _ h.o2 h.a23, ho, h.a12, hg.apart _ _ h.o1 h.a13, hg.apart _ _ h.o2 h.a23, h.bel.trans hg.bel⟩
theorem Three.start (w : World) : Three w w (.slice none 0 0) (.slice none 0 0) (.slice none 0 0) [] [] [] := ⟨OwnL.nil _ _, OwnL.nil _ _, OwnL.nil _ _, Aprt.nil _, Aprt.nil _, Aprt.nil _, Below.refl _ _⟩
theorem KeepS.whole {S : Nat → Prop} {w w' : World} (h : KeepS S w w') {n : Nat} (hn : n ≤ w.heap.size) (hs : ∀ b, 6 ≤ b → b < n → S b) : Below n w w' :=
  ⟨h.os, h.tape, h.output, h.size, fun k hk => Bs.block h k (by omega) (fun hh => hh.1 (hs k hh.2 hk))⟩
end Go.Proofs.YtjobgpahajhbnaaGreatDoor
namespace Go.Proofs.YtjobgpahajhbnaaGreatDoor
open Go.RowKit Go.Proofs
attribute [local go_sem ↓] Go.wp_at_zero Go.wp_at_succ

def env0 : ByteArray → Option Arr := fun _ => none
theorem env0_ok : EnvOk env0 := fun _ _ h => by cases h
theorem desk_new {w : World} (hE : Evs w) : DkE (fun b => 6 ≤ b ∧ b < w.heap.size) w.heap.size env0 0 (w.alloc (.cells #[.int .i64 1000, .map none] 91)) := by
  have h6 : 6 ≤ w.heap.size := hE.1
  refine ⟨fun _ => False, none, ⟨by simp, h6, hE.alloc _, by simp, by simp, World.frozen?_alloc_at _ _ _ _ rfl, fun h => h, rfl⟩, fun b h => absurd h id, fun b h => ⟨h.1, by simp; omega, fun h => h, by omega, fun h => by cases h⟩⟩
def envX (l : List Int) : ByteArray → Option Arr := upd env0 ⟨List.toArray [120]⟩ (rowA l)
theorem envX_ok {l : List Int} (hl : l.length ≤ 64) (hf : ∀ c ∈ l, fit64 c) : EnvOk (envX l) := env0_ok.upd _ (rowA_ok hl hf)
end Go.Proofs.YtjobgpahajhbnaaGreatDoor
namespace Go.Proofs.YtjobgpahajhbnaaGreatDoor
open Go.RowKit Go.Proofs
attribute [local go_sem ↓] Go.wp_at_zero Go.wp_at_succ

theorem envX_at (l : List Int) : envX l xT = some (rowA l) := by
  unfold envX upd
  rw [if_pos (by decide)]
theorem take_next {l : List Int} {i : Nat} {x : Int} (h : l[i]? = some x) : l.take (i + 1) = l.take i ++ [x] := by
  rw [List.take_add_one, h]
  rfl
set_option maxHeartbeats 8000000 in
set_option maxRecDepth 20000 in
theorem folds_law (ao : Option Addr) (n cap : Nat) (xs : List Int) (w : World) (hE : Evs w) (hr : RawIn w ao xs) (hn : xs.length = n) (hlt : 0 < n → ∀ b off, ao = some ⟨b, off, none⟩ → b < w.heap.size) :
    Calls Tryz.prog 5 #[.slice ao n cap] w fun e w' => e = .returned (.bool true) ∧ Below w.heap.size w w' := by
  have HD1 := hide (desk_new hE)
  obtain ⟨W1, hW1⟩ : ∃ W1, w.alloc (.cells #[.int .i64 1000, .map none] 91) = W1 := ⟨_, rfl⟩
  have hb1 : Below w.heap.size w W1 := by rw [← hW1]; exact (Below.refl _ _).alloc (Nat.le_refl _) _
  rw [hW1] at HD1
  have hr1 : RawIn W1 ao xs := ⟨hr.1, fun h0 => by
    obtain ⟨b, off, e, hc⟩ := hr.2 h0
    exact ⟨b, off, e, fun i hi => (hb1.cell (p := ⟨b, off + i, none⟩) (hlt (by omega) b off e)).trans (hc i hi)⟩⟩
  have HS1 := hide (small_any ao n cap xs 24 (by decide) W1 hr1 hn (fun h0 b off e => Nat.lt_of_lt_of_le (hlt h0 b off e) hb1.size))
  have HB1 := hide hb1
  clear hE hr hn hlt hr1 hb1
  go_enter Tryz.func5, Tryz.ntmps5
  go_wp2_with (go_at_call 15; refine (desk_any _).mono ?_; rintro e w' ⟨rfl, rfl⟩)
  try rw [hW1]
  clear hW1
  refine (unhide HS1).mono ?_
  rintro e w2 ⟨v1, rfl, l, hl1, hl2, hl3, hb2⟩
  obtain ⟨lo, lc, rfl⟩ := hl1.shape
  have HL3 := hide hl3
  have HB2 : Hid (Below w.heap.size w w2) := hide ((unhide HB1).trans (hb2.mono (unhide HB1).size))
  have HDk := hide ((unhide HD1).more hb2)
  obtain ⟨S, hS⟩ : ∃ S, (fun b => (6 ≤ b ∧ b < w.heap.size) ∨ (W1.heap.size ≤ b ∧ b < w2.heap.size)) = S := ⟨_, rfl⟩
  have hSl : ∀ b, 6 ≤ b → b < w.heap.size → S b := fun b h1 h2 => by rw [← hS]; exact Or.inl ⟨h1, h2⟩
  rw [hS] at HDk
  have HNL : Hid (Nums S w2 (.slice lo l.length lc) l) := hide (hl1.nums.imp (Q := S) (fun b h _ => by rw [← hS]; exact Or.inr ⟨h.1, h.2⟩))
  have HSl := hide hSl
  obtain ⟨db, hdb⟩ : ∃ db, w.heap.size = db := ⟨_, rfl⟩
  rw [hdb] at HDk
  have HDB := hide hdb
  have hfl := few_fit (unhide HL3)
  have HFL := hide hfl
  have HOX := hide (envX_ok (l := l) (by omega) hfl)
  clear hl1 hl3 hb2 HS1 hS hSl HD1 hfl
  rw [hdb] at HB2 HSl ⊢
  clear HB1
  go_wp2_with fail
  clear hdb
  refine (set_any S db env0 0 [120] name_x (by decide) w2 (unhide HDk) (by decide) env0_ok lo l.length lc l (unhide HNL) (by omega) (unhide HL3)).mono ?_
  rintro e wS ⟨rfl, hd3, hk3⟩
  have HD3 : Hid (DkE S db (envX l) 1 wS) := hide hd3
  have HB3 : Hid (Below db w wS) := hide ((unhide HB2).trans (hk3.whole (by have := (unhide HDk).low; omega) (unhide HSl)))
  have HNL3 := hide (hk3.nums (unhide HNL) (fun _ h => h))
  clear hd3 hk3 HDk HB2 HNL HSl
  obtain ⟨p1, hp1⟩ : ∃ p, scanN (fun x y => (plusF x y).1) l = p := ⟨_, rfl⟩
  obtain ⟨p2, hp2⟩ : ∃ p, scanN (fun x y => (minusF x y).1) l = p := ⟨_, rfl⟩
  obtain ⟨p3, hp3⟩ : ∃ p, scanN (fun x y => (lesserF x y).1) l = p := ⟨_, rfl⟩
  have hq1 : p1.length = l.length := by rw [← hp1, scanN_len]
  have hq2 : p2.length = l.length := by rw [← hp2, scanN_len]
  have hq3 : p3.length = l.length := by rw [← hp3, scanN_len]
  have HP1 := hide hp1
  have HP2 := hide hp2
  have HP3 := hide hp3
  have HQ1 := hide hq1
  have HQ2 := hide hq2
  have HQ3 := hide hq3
  clear hp1 hp2 hp3 hq1 hq2 hq3
  go_wp2_with fail
  go_loopw [6, 7, 8, 9, 10, 11, 12, 13, 14] (fun v6 v7 v8 v9 v10 v11 v12 v13 v14 wr => ∃ (i : Nat) (su al le gr sg : Int), v14 = .int .i64 i ∧ v6 = .int .i64 su ∧ v7 = .int .i64 al ∧ v8 = .int .i64 le ∧ v9 = .int .i64 gr ∧ v10 = .int .i64 sg ∧ i ≤ l.length ∧ Hid ((l.take i).sum = su ∧ altL (l.take i) = al ∧ lstL (l.take i) = le ∧ grtL (l.take i) = gr ∧ sgn i = sg) ∧ Three wS wr v11 v13 v12 (p1.take i) (p2.take i) (p3.take i)) (fun _ _ _ _ _ _ _ _ v14 _ => l.length - (intOf v14).toNat)
  case atStart => exact ⟨0, 0, 0, 9223372036854775807, -9223372036854775808, 1, rfl, rfl, rfl, rfl, rfl, rfl, by omega, hide ⟨by simp, by simp [altL], by simp [lstL], by simp [grtL], by simp [sgn]⟩, by simpa using Three.start wS⟩
  case round =>
    obtain ⟨i, su, al, le, gr, sg, rfl, rfl, rfl, rfl, rfl, rfl, hi, HV, h3⟩ := hrel
    have H3 := hide h3
    by_cases hil : i < l.length
    · obtain ⟨_, _, hA⟩ := nums_at (unhide HNL3)
      obtain ⟨lb, lof, rfl, hlb, hlc⟩ := hA (by omega)
      have hat : l[i]? = some l[i] := List.getElem?_eq_getElem hil
      have hmem : l[i] ∈ l := List.getElem_mem hil
      have cx := (h3.bel.cell (p := ⟨lb, lof + i, none⟩) hlb).trans (hlc i hil)
      obtain ⟨x, hx⟩ : ∃ x, l[i] = x := ⟨_, rfl⟩
      rw [hx] at cx hat hmem
      have hfx := unhide HL3 x hmem
      have hff := unhide HFL x hmem
      have e1 := sum_take hat
      have e2 := alt_take hat
      have e3 := lst_take hat hff
      have e4 := grt_take hat hff
      have e5 := sgn_succ i
      have n1 := sum_few (few_take (unhide HL3) i)
      have n2 := alt_few (few_take (unhide HL3) i)
      have n5 := sgn_two i
      have hlt : (l.take i).length = i := by simp; omega
      rw [hlt] at n1 n2
      obtain ⟨q1, q2, q3, q4, q5⟩ := unhide HV
      rw [q1] at e1 n1
      rw [q2, q5] at e2
      rw [q2] at n2
      rw [q3] at e3
      rw [q4] at e4
      rw [q5] at e5 n5
      obtain ⟨y, hy⟩ : ∃ y, sg * x = y := ⟨_, rfl⟩
      rw [hy] at e2
      have hyb : -60 ≤ y ∧ y ≤ 60 := by
        rw [← hy]
        rcases n5 with h | h <;> rw [h] <;> omega
      have w1 : wrap64 (su + x) = su + x := wrap_id (by omega) (by omega)
      have w2 : wrap64 (sg * x) = y := by rw [hy]; exact wrap_id (by omega) (by omega)
      have w3 : wrap64 (al + y) = al + y := wrap_id (by omega) (by omega)
      have w4 : wrap64 (-sg) = -sg := wrap_id (by rcases n5 with h | h <;> rw [h] <;> omega) (by rcases n5 with h | h <;> rw [h] <;> omega)
      have t1 : p1.take (i + 1) = p1.take i ++ [su + x] := take_next (by rw [← unhide HP1, scan_plus (unhide HL3) (by omega) hil, e1])
      have t2 : p2.take (i + 1) = p2.take i ++ [al + y] := take_next (by rw [← unhide HP2, scan_minus (unhide HL3) (by omega) hil, e2])
      have t3 : p3.take (i + 1) = p3.take i ++ [min le x] := take_next (by rw [← unhide HP3, scan_lesser (unhide HL3) hil, e3])
      have k1 : (p1.take i).length ≤ 30 := by simp; omega
      have k2 : (p2.take i).length ≤ 30 := by simp; omega
      have k3 : (p3.take i).length ≤ 30 := by simp; omega
      have HE1 := hide e1
      have HE2 := hide e2
      have HE3 := hide e3
      have HE4 := hide e4
      have HE5 := hide e5
      have HT1 := hide t1
      have HT2 := hide t2
      have HT3 := hide t3
      have HK1 := hide k1
      have HK2 := hide k2
      have HK3 := hide k3
      have HCX : Hid (∀ w', Below wS.heap.size wS w' → w'.cell? ⟨lb, lof + i, none⟩ = some (.int .i64 x)) := hide (fun w' hb => by rw [← hx]; exact (hb.cell (p := ⟨lb, lof + i, none⟩) hlb).trans (hlc i hil))
      have i0 : (0 : Int) ≤ (i : Int) := by omega
      have i1 : (i : Int) < (l.length : Int) := by omega
      clear hA hlc hx hat hmem hfx hff e1 e2 e3 e4 e5 n1 n2 n5 hlt q1 q2 q3 q4 q5 hy hyb t1 t2 t3 k1 k2 k3 h3 HV HCX
      by_cases hc1 : x < le
      · have m1 : min le x = x := by omega
        rw [m1] at HE3 HT3
        clear m1
        by_cases hc2 : gr < x
        · have m2 : max gr x = x := by omega
          rw [m2] at HE4
          clear m2
          go_wp2_with (at_builtin; refine wpList_app1 rfl _ _ rfl (unhide H3).o1 (by have := unhide HK1; omega) (unhide H3).bel.size (su + x) rfl rfl ?_)
          intro v' w4 ho4 hg4
          have H4 := hide ((unhide H3).grow1 ho4 hg4)
          clear ho4 hg4 H3 cx
          go_wp2_with (at_builtin; refine wpList_app1 rfl _ _ rfl (unhide H4).o2 (by have := unhide HK2; omega) (unhide H4).bel.size (al + y) rfl rfl ?_)
          intro v2' w5 ho5 hg5
          have H5 := hide ((unhide H4).grow2 ho5 hg5)
          clear ho5 hg5 H4
          go_wp2_with (at_builtin; refine wpList_app1 rfl _ _ rfl (unhide H5).o3 (by have := unhide HK3; omega) (unhide H5).bel.size x rfl rfl ?_)
          intro v3' w6 ho6 hg6
          have H6 := hide ((unhide H5).grow3 ho6 hg6)
          clear ho6 hg6 H5
          go_wp2_with fail
          go_roundw
          case rel => exact ⟨i + 1, su + x, al + y, x, x, -sg, by go_num, rfl, rfl, rfl, rfl, rfl, by omega, hide ⟨unhide HE1, unhide HE2, unhide HE3, unhide HE4, unhide HE5⟩, by rw [unhide HT1, unhide HT2, unhide HT3]; exact unhide H6⟩
          case measure => simp [intOf]; omega
        · have m2 : max gr x = gr := by omega
          rw [m2] at HE4
          clear m2
          go_wp2_with (at_builtin; refine wpList_app1 rfl _ _ rfl (unhide H3).o1 (by have := unhide HK1; omega) (unhide H3).bel.size (su + x) rfl rfl ?_)
          intro v' w4 ho4 hg4
          have H4 := hide ((unhide H3).grow1 ho4 hg4)
          clear ho4 hg4 H3 cx
          go_wp2_with (at_builtin; refine wpList_app1 rfl _ _ rfl (unhide H4).o2 (by have := unhide HK2; omega) (unhide H4).bel.size (al + y) rfl rfl ?_)
          intro v2' w5 ho5 hg5
          have H5 := hide ((unhide H4).grow2 ho5 hg5)
          clear ho5 hg5 H4
          go_wp2_with (at_builtin; refine wpList_app1 rfl _ _ rfl (unhide H5).o3 (by have := unhide HK3; omega) (unhide H5).bel.size x rfl rfl ?_)
          intro v3' w6 ho6 hg6
          have H6 := hide ((unhide H5).grow3 ho6 hg6)
          clear ho6 hg6 H5
          go_wp2_with fail
          go_roundw
          case rel => exact ⟨i + 1, su + x, al + y, x, gr, -sg, by go_num, rfl, rfl, rfl, rfl, rfl, by omega, hide ⟨unhide HE1, unhide HE2, unhide HE3, unhide HE4, unhide HE5⟩, by rw [unhide HT1, unhide HT2, unhide HT3]; exact unhide H6⟩
          case measure => simp [intOf]; omega
      · have m1 : min le x = le := by omega
        rw [m1] at HE3 HT3
        clear m1
        by_cases hc2 : gr < x
        · have m2 : max gr x = x := by omega
          rw [m2] at HE4
          clear m2
          go_wp2_with (at_builtin; refine wpList_app1 rfl _ _ rfl (unhide H3).o1 (by have := unhide HK1; omega) (unhide H3).bel.size (su + x) rfl rfl ?_)
          intro v' w4 ho4 hg4
          have H4 := hide ((unhide H3).grow1 ho4 hg4)
          clear ho4 hg4 H3 cx
          go_wp2_with (at_builtin; refine wpList_app1 rfl _ _ rfl (unhide H4).o2 (by have := unhide HK2; omega) (unhide H4).bel.size (al + y) rfl rfl ?_)
          intro v2' w5 ho5 hg5
          have H5 := hide ((unhide H4).grow2 ho5 hg5)
          clear ho5 hg5 H4
          go_wp2_with (at_builtin; refine wpList_app1 rfl _ _ rfl (unhide H5).o3 (by have := unhide HK3; omega) (unhide H5).bel.size le rfl rfl ?_)
          intro v3' w6 ho6 hg6
          have H6 := hide ((unhide H5).grow3 ho6 hg6)
          clear ho6 hg6 H5
          go_wp2_with fail
          go_roundw
          case rel => exact ⟨i + 1, su + x, al + y, le, x, -sg, by go_num, rfl, rfl, rfl, rfl, rfl, by omega, hide ⟨unhide HE1, unhide HE2, unhide HE3, unhide HE4, unhide HE5⟩, by rw [unhide HT1, unhide HT2, unhide HT3]; exact unhide H6⟩
          case measure => simp [intOf]; omega
        · have m2 : max gr x = gr := by omega
          rw [m2] at HE4
          clear m2
          go_wp2_with (at_builtin; refine wpList_app1 rfl _ _ rfl (unhide H3).o1 (by have := unhide HK1; omega) (unhide H3).bel.size (su + x) rfl rfl ?_)
          intro v' w4 ho4 hg4
          have H4 := hide ((unhide H3).grow1 ho4 hg4)
          clear ho4 hg4 H3 cx
          go_wp2_with (at_builtin; refine wpList_app1 rfl _ _ rfl (unhide H4).o2 (by have := unhide HK2; omega) (unhide H4).bel.size (al + y) rfl rfl ?_)
          intro v2' w5 ho5 hg5
          have H5 := hide ((unhide H4).grow2 ho5 hg5)
          clear ho5 hg5 H4
          go_wp2_with (at_builtin; refine wpList_app1 rfl _ _ rfl (unhide H5).o3 (by have := unhide HK3; omega) (unhide H5).bel.size le rfl rfl ?_)
          intro v3' w6 ho6 hg6
          have H6 := hide ((unhide H5).grow3 ho6 hg6)
          clear ho6 hg6 H5
          go_wp2_with fail
          go_roundw
          case rel => exact ⟨i + 1, su + x, al + y, le, gr, -sg, by go_num, rfl, rfl, rfl, rfl, rfl, by omega, hide ⟨unhide HE1, unhide HE2, unhide HE3, unhide HE4, unhide HE5⟩, by rw [unhide HT1, unhide HT2, unhide HT3]; exact unhide H6⟩
          case measure => simp [intOf]; omega
    · have hie : i = l.length := by omega
      have T0 : l.take i = l := List.take_of_length_le (by omega)
      have T1 : p1.take i = p1 := List.take_of_length_le (by have := unhide HQ1; omega)
      have T2 : p2.take i = p2 := List.take_of_length_le (by have := unhide HQ2; omega)
      have T3 : p3.take i = p3 := List.take_of_length_le (by have := unhide HQ3; omega)
      rw [T1, T2, T3] at H3
      obtain ⟨q1, q2, q3, q4, -⟩ := unhide HV
      rw [T0] at q1 q2 q3 q4
      have i1 : ¬ (i : Int) < (l.length : Int) := by omega
      rename World => wL
      have hok := unhide HOX
      have hx := envX_at l
      have hw := unhide HL3
      have R1 := l_sum hok hx hl2 hw
      have R2 := l_alt hok hx hl2 hw
      have R3 := l_least hok hx hw
      have R4 := l_most hok hx hw
      have R5 := l_sums hok hx hl2
      have R6 := l_alts hok hx hl2
      have R7 := l_leasts hok hx hl2
      rw [q1] at R1
      rw [q2] at R2
      rw [q3] at R3
      rw [q4] at R4
      rw [unhide HP1] at R5
      rw [unhide HP2] at R6
      rw [unhide HP3] at R7
      have HR1 := hide R1
      have HR2 := hide R2
      have HR3 := hide R3
      have HR4 := hide R4
      have HR5 := hide R5
      have HR6 := hide R6
      have HR7 := hide R7
      have HR8 := hide (l_prod0 hok)
      have HR9 := hide (l_quot0 hok)
      have HR10 := hide (l_same0 hok)
      have HR11 := hide (l_rest0 hok)
      have HR12 := hide (l_below0 hok)
      have R13 := l_sumrev hok hx hl2 hw
      rw [q1] at R13
      have HR13 := hide R13
      have HR14 : Hid (l ≠ [] → ArrSays (envX l) ⟨#[45, 32, 38, 47, 32, 45, 32, 120]⟩ (arrOf [gr])) := hide (fun h0 => by rw [← q4]; exact l_negs hok hx hl2 hw h0)
      have HD6 := hide ((unhide HD3).below (unhide H3).bel)
      have HB6 : Hid (Below db w wL) := hide ((unhide HB3).trans ((unhide H3).bel.mono (by have := (unhide HD3).low; omega)))
      have HNa6 := hide (unhide H3).o1.nums
      have HNb6 := hide (unhide H3).o2.nums
      have HNc6 := hide (unhide H3).o3.nums
      have HKa : Hid (p1.length ≤ 200) := hide (by have := unhide HQ1; omega)
      have HKb : Hid (p2.length ≤ 200) := hide (by have := unhide HQ2; omega)
      have HKc : Hid (p3.length ≤ 200) := hide (by have := unhide HQ3; omega)
      clear h3 T0 T1 T2 T3 q1 q2 q3 q4 hie R1 R2 R3 R4 R5 R6 R7 R13 hok hx hw HV HL3 HFL HOX HNL3 HD3 HB3 H3 HP1 HP2 HP3 HQ1 HQ2 HQ3
      go_wp2_with fail
      refine (one_says (unhide HR1) (unhide HD6)).mono ?_
      rintro e w7 ⟨rfl, hb7⟩
      have HD7 := hide ((unhide HD6).below hb7)
      have HB7 : Hid (Below db w w7) := hide ((unhide HB6).trans (hb7.mono (by have := (unhide HD6).low; omega)))
      have HNa7 := hide ((unhide HNa6).below hb7)
      have HNb7 := hide ((unhide HNb6).below hb7)
      have HNc7 := hide ((unhide HNc6).below hb7)
      clear hb7 HD6 HB6 HNa6 HNb6 HNc6 
      go_wp2_with fail
      refine (one_says (unhide HR2) (unhide HD7)).mono ?_
      rintro e w8 ⟨rfl, hb8⟩
      have HD8 := hide ((unhide HD7).below hb8)
      have HB8 : Hid (Below db w w8) := hide ((unhide HB7).trans (hb8.mono (by have := (unhide HD7).low; omega)))
      have HNa8 := hide ((unhide HNa7).below hb8)
      have HNb8 := hide ((unhide HNb7).below hb8)
      have HNc8 := hide ((unhide HNc7).below hb8)
      clear hb8 HD7 HB7 HNa7 HNb7 HNc7 HR2
      go_wp2_with fail
      refine (one_says (unhide HR3) (unhide HD8)).mono ?_
      rintro e w9 ⟨rfl, hb9⟩
      have HD9 := hide ((unhide HD8).below hb9)
      have HB9 : Hid (Below db w w9) := hide ((unhide HB8).trans (hb9.mono (by have := (unhide HD8).low; omega)))
      have HNa9 := hide ((unhide HNa8).below hb9)
      have HNb9 := hide ((unhide HNb8).below hb9)
      have HNc9 := hide ((unhide HNc8).below hb9)
      clear hb9 HD8 HB8 HNa8 HNb8 HNc8 HR3
      go_wp2_with fail
      refine (one_says (unhide HR4) (unhide HD9)).mono ?_
      rintro e w10 ⟨rfl, hb10⟩
      have HD10 := hide ((unhide HD9).below hb10)
      have HB10 : Hid (Below db w w10) := hide ((unhide HB9).trans (hb10.mono (by have := (unhide HD9).low; omega)))
      have HNa10 := hide ((unhide HNa9).below hb10)
      have HNb10 := hide ((unhide HNb9).below hb10)
      have HNc10 := hide ((unhide HNc9).below hb10)
      clear hb10 HD9 HB9 HNa9 HNb9 HNc9 
      go_wp2_with fail
      refine (row_says (unhide HR5) (unhide HD10) (unhide HNa10) (unhide HKa)).mono ?_
      rintro e w11 ⟨rfl, hb11⟩
      have HD11 := hide ((unhide HD10).below hb11)
      have HB11 : Hid (Below db w w11) := hide ((unhide HB10).trans (hb11.mono (by have := (unhide HD10).low; omega)))
      have HNb11 := hide ((unhide HNb10).below hb11)
      have HNc11 := hide ((unhide HNc10).below hb11)
      clear hb11 HD10 HB10 HNb10 HNc10 HR5 HNa10 HKa
      go_wp2_with fail
      refine (row_says (unhide HR6) (unhide HD11) (unhide HNb11) (unhide HKb)).mono ?_
      rintro e w12 ⟨rfl, hb12⟩
      have HD12 := hide ((unhide HD11).below hb12)
      have HB12 : Hid (Below db w w12) := hide ((unhide HB11).trans (hb12.mono (by have := (unhide HD11).low; omega)))
      have HNc12 := hide ((unhide HNc11).below hb12)
      clear hb12 HD11 HB11 HNc11 HR6 HNb11 HKb
      go_wp2_with fail
      refine (row_says (unhide HR7) (unhide HD12) (unhide HNc12) (unhide HKc)).mono ?_
      rintro e w13 ⟨rfl, hb13⟩
      have HD13 := hide ((unhide HD12).below hb13)
      have HB13 : Hid (Below db w w13) := hide ((unhide HB12).trans (hb13.mono (by have := (unhide HD12).low; omega)))
      clear hb13 HD12 HB12  HR7 HNc12 HKc
      go_wp2_with fail
      refine (one_says (unhide HR8) (unhide HD13)).mono ?_
      rintro e w14 ⟨rfl, hb14⟩
      have HD14 := hide ((unhide HD13).below hb14)
      have HB14 : Hid (Below db w w14) := hide ((unhide HB13).trans (hb14.mono (by have := (unhide HD13).low; omega)))
      clear hb14 HD13 HB13  HR8
      go_wp2_with fail
      refine (one_says (unhide HR9) (unhide HD14)).mono ?_
      rintro e w15 ⟨rfl, hb15⟩
      have HD15 := hide ((unhide HD14).below hb15)
      have HB15 : Hid (Below db w w15) := hide ((unhide HB14).trans (hb15.mono (by have := (unhide HD14).low; omega)))
      clear hb15 HD14 HB14  HR9
      go_wp2_with fail
      refine (one_says (unhide HR10) (unhide HD15)).mono ?_
      rintro e w16 ⟨rfl, hb16⟩
      have HD16 := hide ((unhide HD15).below hb16)
      have HB16 : Hid (Below db w w16) := hide ((unhide HB15).trans (hb16.mono (by have := (unhide HD15).low; omega)))
      clear hb16 HD15 HB15  HR10
      go_wp2_with fail
      refine (one_says (unhide HR11) (unhide HD16)).mono ?_
      rintro e w17 ⟨rfl, hb17⟩
      have HD17 := hide ((unhide HD16).below hb17)
      have HB17 : Hid (Below db w w17) := hide ((unhide HB16).trans (hb17.mono (by have := (unhide HD16).low; omega)))
      clear hb17 HD16 HB16  HR11
      go_wp2_with fail
      refine (one_says (unhide HR12) (unhide HD17)).mono ?_
      rintro e w18 ⟨rfl, hb18⟩
      have HD18 := hide ((unhide HD17).below hb18)
      have HB18 : Hid (Below db w w18) := hide ((unhide HB17).trans (hb18.mono (by have := (unhide HD17).low; omega)))
      clear hb18 HD17 HB17  HR12
      go_wp2_with fail
      refine (like_says (unhide HR1) (unhide HR13) (unhide HD18) (by simp [arrOf]) (by simp [arrOf])).mono ?_
      rintro e w19 ⟨rfl, hb19⟩
      have HD19 := hide ((unhide HD18).below hb19)
      have HB19 : Hid (Below db w w19) := hide ((unhide HB18).trans (hb19.mono (by have := (unhide HD18).low; omega)))
      clear hb19 HD18 HB18  HR1 HR13
      by_cases hl0 : l.length = 0
      · have z0 : ((l.length : Int) == 0) = true := by simpa using hl0
        clear hl0
        go_wp2_with fail
        exact bodyPost_ret (v := .bool true) (by simp [results, Tryz.results5, go_sem]) rfl ⟨rfl, by rw [unhide HDB]; exact unhide HB19⟩
      · have z0 : ((l.length : Int) == 0) = false := beq_false_of_ne (by omega)
        have HR15 := hide (unhide HR14 (fun e => hl0 (by rw [e]; rfl)))
        clear HR14 hl0
        go_wp2_with fail
        refine (like_says (unhide HR4) (unhide HR15) (unhide HD19) (by simp [arrOf]) (by simp [arrOf])).mono ?_
        rintro e w20 ⟨rfl, hb20⟩
        have HD20 := hide ((unhide HD19).below hb20)
        have HB20 : Hid (Below db w w20) := hide ((unhide HB19).trans (hb20.mono (by have := (unhide HD19).low; omega)))
        clear hb20 HD19 HB19  HR4 HR15
        go_wp2_with fail
        exact bodyPost_ret (v := .bool true) (by simp [results, Tryz.results5, go_sem]) rfl ⟨rfl, by rw [unhide HDB]; exact unhide HB20⟩
end Go.Proofs.YtjobgpahajhbnaaGreatDoor
