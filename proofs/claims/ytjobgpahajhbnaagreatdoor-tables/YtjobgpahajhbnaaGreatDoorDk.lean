import Derived.Test.YtjobgpahajhbnaaGreatDoorHd
import Derived.Test.YtjobgpahajhbnaaGreatDoorDb
import Derived.Test.YtjobgpahajhbnaaGreatDoorDf
import Derived.Test.YtjobgpahajhbnaaGreatDoorCq
import Derived.Test.YtjobgpahajhbnaaGreatDoorCg
import Derived.Deep.RegionLaw
namespace Go.Proofs.YtjobgpahajhbnaaGreatDoor
open Go.RowKit Go.Proofs

/-- what a text comes to, wherever it stands, in so many brackets at most; true: as a THING -/
def ArrD (k : Nat) (th : Bool) (f1 : ByteArray → Arr → Arr × Int) (f2 : ByteArray → Arr → Arr → Arr × Int) (env : ByteArray → Option Arr) (t : List UInt8) (a : Arr) (b : Nat) : Prop := ∀ d p, ∃ X, Tw (d + k) th p X t ∧ ArrX f1 f2 env X a b
section
variable {f1 : ByteArray → Arr → Arr × Int} {f2 : ByteArray → Arr → Arr → Arr × Int} {env : ByteArray → Option Arr}
theorem d_name {nm : List UInt8} {a : Arr} (hn : NameT nm) (hl : nm.length ≤ 200) (hx : env ⟨nm.toArray⟩ = some a) : ArrD 0 true f1 f2 env nm a 0 := fun d p =>
  ⟨.name ⟨nm.toArray⟩ p, Tw.name (d + 0) p nm hn, by simpa [Good, ByteArray.size] using hl, fun c _ => ⟨c, by omega, by simp only [evalE, hx]⟩⟩
theorem d_row {ns : List Int} {t : List UInt8} (hn : NmRow ns t) (hl : ns.length ≤ 64) (hf : ∀ c ∈ ns, fit64 c) : ArrD 0 true f1 f2 env t (arrOf ns) 0 := fun d p =>
  ⟨.num ns, Tw.row (d + 0) p ns t hn, ⟨row_pos hn, by omega, hf⟩, fun c _ => ⟨c, by omega, by simp only [evalE]⟩⟩
theorem d_more {k j : Nat} {th : Bool} {t : List UInt8} {a : Arr} {b : Nat} (h : ArrD k th f1 f2 env t a b) : ArrD (k + j) th f1 f2 env t a b := fun d p => by
  obtain ⟨X, h1, h2⟩ := h (d + j) p
  exact ⟨X, by rw [show d + (k + j) = d + j + k by omega]; exact h1, h2⟩
theorem d_only {k : Nat} {t : List UInt8} {a : Arr} {b : Nat} (h : ArrD k true f1 f2 env t a b) : ArrD k false f1 f2 env t a b := fun d p => by
  obtain ⟨X, h1, h2⟩ := h d p
  exact ⟨X, Tw.only _ _ _ _ h1, h2⟩
theorem d_br {k : Nat} {t : List UInt8} {a : Arr} {b : Nat} (h : ArrD k false f1 f2 env t a b) : ArrD (k + 1) true f1 f2 env (40 :: (t ++ [41])) a b := fun d p => by
  obtain ⟨X, h1, h2⟩ := h d (p + 1)
  exact ⟨X, Tw.br (d + k) p X t h1, h2⟩
theorem d_one {k : Nat} {f t : List UInt8} {F : Arr → Arr × Int} {a a' : Arr} {b : Nat} (hf : Fn1 f) (hF : f1 ⟨f.toArray⟩ = F) (hC : OneC ⟨f.toArray⟩ F) (h : ArrD k false f1 f2 env t a b) (hv : F a = (a', 0)) (hl : a'.cells.length ≤ 64) : ArrD k false f1 f2 env (f ++ (32 :: t)) a' (b + 65) := fun d p => by
  obtain ⟨X, h1, h2, h3⟩ := h d (p + f.length + 1)
  refine ⟨.one ⟨f.toArray⟩ p X, Tw.one (d + k) p f X t hf h1, ⟨by rw [hF]; exact hC, h2⟩, fun c hc => ?_⟩
  obtain ⟨c1, e1, e2⟩ := h3 c (by omega)
  refine ⟨c1 + (1 + a'.cells.length), by omega, ?_⟩
  simp only [evalE, e2]
  rw [hF, hv, pay_more rfl (by simp; omega) (by omega)]
theorem d_two {k : Nat} {f s t : List UInt8} {F : Arr → Arr → Arr × Int} {a b c : Arr} {x y : Nat} (hf : Fn2 f) (hF : f2 ⟨f.toArray⟩ = F) (hC : TwoC ⟨f.toArray⟩ F) (ha : ArrD k true f1 f2 env s a x) (hb : ArrD k false f1 f2 env t b y) (hv : F a b = (c, 0)) (hl : c.cells.length ≤ 64) : ArrD k false f1 f2 env (s ++ (32 :: (f ++ (32 :: t)))) c (x + y + 65) := fun d p => by
  obtain ⟨A, a1, a2, a3⟩ := ha d p
  obtain ⟨X, h1, h2, h3⟩ := hb d (p + s.length + 1 + f.length + 1)
  refine ⟨.two ⟨f.toArray⟩ (p + s.length + 1) A X, Tw.two (d + k) p f A X s t hf a1 h1, ⟨by rw [hF]; exact hC, a2, h2⟩, fun n hn => ?_⟩
  obtain ⟨c1, e1, e2⟩ := h3 n (by omega)
  obtain ⟨c2, e3, e4⟩ := a3 c1 (by omega)
  refine ⟨c2 + (1 + c.cells.length), by omega, ?_⟩
  simp only [evalE, e2, e4]
  rw [hF, hv, pay_more rfl (by simp; omega) (by omega)]
theorem d_says {k : Nat} {t : List UInt8} {a : Arr} {b : Nat} (he : EnvOk env) (h : ArrD k false f1 f2 env t a b) (hk : k ≤ 8) (hb : b ≤ 700) (ht : t.length ≤ 200) (hs : a.shape.length ≤ 3) (hl : a.cells.length ≤ 64) : ArrSays env ⟨t.toArray⟩ a := by
  obtain ⟨X, h1, h2, h3⟩ := h 0 0
  obtain ⟨c, _, hc⟩ := h3 0 (by omega)
  exact ⟨c, fun S db N => says_plain h1 ht (by omega) he h2 hc (by omega) (by omega)⟩
/-- a line that names what it makes -/
theorem d_named {k : Nat} {nm t : List UInt8} {a : Arr} {b : Nat} (he : EnvOk env) (hnm : NameT nm) (h : ArrD k false f1 f2 env t a b) (hk : k ≤ 8) (hb : b ≤ 700) (ht : (nm ++ ([32, 105, 115, 32] ++ t)).length ≤ 200) (hs : a.shape.length ≤ 3) (hl : a.cells.length ≤ 64) : ∃ cost, ∀ db N, N < 1000 → SaysU db env N ⟨(nm ++ ([32, 105, 115, 32] ++ t)).toArray⟩ (upd env ⟨nm.toArray⟩ a) (N + 1) (a.shape.map Int.ofNat) a.cells cost := by
  obtain ⟨X, h1, h2, h3⟩ := h 0 (nm.length + 4)
  obtain ⟨c, _, hc⟩ := h3 0 (by omega)
  exact ⟨c, fun db N hN => says_named (db := db) (N := N) hnm h1 ht (by omega) hN he h2 hc (by omega) (by omega)⟩
end
def f1U (t : ByteArray) : Arr → Arr × Int :=
  if t.data.toList.getD 1 0 = 47 then foldP (pairP plusF) 0 else if t.data.toList.getD 0 0 = 102 then flipP else if t.data.toList.getD 0 0 = 105 then iotaP else if t.data.toList.getD 1 0 = 104 then lengthsP else if t.data.toList.getD 1 0 = 97 then (fun a => (ravelP a, 0)) else revP
def f2U (t : ByteArray) : Arr → Arr → Arr × Int := if t.data.toList.getD 0 0 = 114 then reshapeP else outerP (pairP minusF)
theorem tl_flip (r : List UInt8) : tl ([102, 108, 105, 112] ++ (32 :: r)) = some 4 := by
  have h : ([102, 108, 105, 112] ++ (32 :: r)).takeWhile lU = [102, 108, 105, 112] := rfl
  have hf : isFn [102, 108, 105, 112] = true := by decide +kernel
  show wrdE ([102, 108, 105, 112] ++ (32 :: r)) = some 4
  unfold wrdE
  rw [h]
  simp [hf]
theorem fn1_flip : Fn1 [102, 108, 105, 112] := ⟨⟨102, [108, 105, 112], rfl, by decide, by decide⟩, tl_flip, by decide +kernel, by decide +kernel⟩
theorem tl_rho (r : List UInt8) : tl ([114, 104, 111] ++ (32 :: r)) = some 3 := by
  have h : ([114, 104, 111] ++ (32 :: r)).takeWhile lU = [114, 104, 111] := rfl
  have hf : isFn [114, 104, 111] = true := by decide +kernel
  show wrdE ([114, 104, 111] ++ (32 :: r)) = some 3
  unfold wrdE
  rw [h]
  simp [hf]
theorem fn1_rho : Fn1 [114, 104, 111] := ⟨⟨114, [104, 111], rfl, by decide, by decide⟩, tl_rho, by decide +kernel, by decide +kernel⟩
theorem fn2_rho : Fn2 [114, 104, 111] := ⟨⟨114, [104, 111], rfl, by decide⟩, tl_rho, by decide +kernel, by decide +kernel⟩
theorem fn2_outer : Fn2 [45, 46] := ⟨⟨45, [46], rfl, by decide⟩, fun _ => rfl, by decide +kernel, by decide +kernel⟩
theorem name_t : NameT [116] := name1 (by decide) (by decide) (by decide) (by decide +kernel) (by decide +kernel) (by decide +kernel) (fun _ => rfl)
def tT : ByteArray := ⟨#[116]⟩
theorem tab_ok {r c : Nat} (hr : r ≤ 6) (hc : c ≤ 6) {xs : List Int} (hx : xs.length = r * c) (hf : ∀ x ∈ xs, fit64 x) : (tabA r c xs).ok := by
  have h36 : r * c ≤ 6 * 6 := Nat.mul_le_mul hr hc
  exact ⟨by simp [tabA], by simp [tabA]; omega, by simp [tabA, prodL, hx], by simp [tabA, hx]; omega, hf⟩
section
variable {env : ByteArray → Option Arr} {r c : Nat} {xs : List Int}
theorem u_t (h : env tT = some (tabA r c xs)) : ArrD 0 true f1U f2U env [116] (tabA r c xs) 0 := d_name name_t (by decide) h
theorem u_make {l : List Int} {tr tc u : List UInt8} (hr : r ≤ 6) (hc : c ≤ 6) (h1 : Nm (r : Int) tr) (h2 : Nm (c : Int) tc) (hl : l ≠ []) (hl2 : l.length ≤ 24) (hf : ∀ x ∈ l, fit64 x) (hu : NmRow l u) : ArrD 1 false f1U f2U env ((tr ++ (32 :: tc)) ++ (32 :: ([114, 104, 111] ++ (32 :: (40 :: (([114, 97, 118, 101, 108] ++ (32 :: u)) ++ [41])))))) (tabA r c (reC (r * c) l (r * c))) (0 + 65 + 65) := by
  have h36 : r * c ≤ 6 * 6 := Nat.mul_le_mul hr hc
  have ha : ArrD 0 true f1U f2U env (tr ++ (32 :: tc)) (arrOf [(r : Int), (c : Int)]) 0 := d_row (NmRow.more _ tr _ tc h1 (NmRow.one _ tc h2)) (by simp) (by intro x hx; simp at hx; unfold fit64; rcases hx with rfl | rfl <;> omega)
  have hb0 : ArrD 0 false f1U f2U env ([114, 97, 118, 101, 108] ++ (32 :: u)) (rowA l) (0 + 65) := d_one fn1_ravel rfl ravel_one (d_only (d_row hu (by omega) hf)) (by show (ravelP (arrOf l), (0 : Int)) = _; rw [ravel_row]) (by simp [rowA]; omega)
  have hb : ArrD 1 false f1U f2U env (40 :: (([114, 97, 118, 101, 108] ++ (32 :: u)) ++ [41])) (rowA l) (0 + 65) := d_only (d_br hb0)
  have := d_two (F := reshapeP) fn2_rho rfl reshape_two (d_more (j := 1) ha) hb (reshape_tab hr hc hl) (by simp [tabA, reC_len]; omega)
  simpa using this
theorem u_flip (hr : r ≤ 6) (hc : c ≤ 6) (hx : xs.length = r * c) {k b : Nat} {t : List UInt8} (h : ArrD k false f1U f2U env t (tabA r c xs) b) : ArrD k false f1U f2U env ([102, 108, 105, 112] ++ (32 :: t)) (tabA c r (flipT r c xs)) (b + 65) := by
  have h36 : r * c ≤ 6 * 6 := Nat.mul_le_mul hr hc
  exact d_one (F := flipP) fn1_flip rfl flip_one h (flip_tab hx) (by simp [tabA, flipT_len]; omega)
theorem u_sum {M : Int} (hM : 0 ≤ M) (hr : r ≤ 6) (hw : Within M xs) (hl : M * (c : Int) ≤ 90000) {k b : Nat} {t : List UInt8} (h : ArrD k false f1U f2U env t (tabA r c xs) b) : ArrD k false f1U f2U env ([43, 47] ++ (32 :: t)) (rowA (rowSums r c xs)) (b + 65) :=
  d_one (F := foldP (pairP plusF) 0) fn1_sum rfl sum_one h (fold_tab hM hr hw hl) (by simp [rowA, rowSums_len]; omega)
theorem u_total {M : Int} (hM : 0 ≤ M) {l : List Int} (hw : Within M l) (hl : M * (l.length : Int) ≤ 90000) {k b : Nat} {t : List UInt8} (h : ArrD k false f1U f2U env t (rowA l) b) : ArrD k false f1U f2U env ([43, 47] ++ (32 :: t)) (arrOf [l.sum]) (b + 65) :=
  d_one (F := foldP (pairP plusF) 0) fn1_sum rfl sum_one h (fold_sum hM hw hl) (by simp [arrOf])
theorem u_rho {k b : Nat} {t : List UInt8} (h : ArrD k false f1U f2U env t (tabA r c xs) b) : ArrD k false f1U f2U env ([114, 104, 111] ++ (32 :: t)) (rowA [(r : Int), (c : Int)]) (b + 65) :=
  d_one (F := lengthsP) fn1_rho rfl lengths_one h (lengths_tab r c xs) (by simp [rowA])
theorem u_ravel (hx : xs.length ≤ 64) {k b : Nat} {t : List UInt8} (h : ArrD k false f1U f2U env t (tabA r c xs) b) : ArrD k false f1U f2U env ([114, 97, 118, 101, 108] ++ (32 :: t)) (rowA xs) (b + 65) :=
  d_one (F := fun a => (ravelP a, 0)) fn1_ravel rfl ravel_one h rfl (by simpa [rowA] using hx)
theorem u_rev (hx : xs.length ≤ 64) {k b : Nat} {t : List UInt8} (h : ArrD k false f1U f2U env t (tabA r c xs) b) : ArrD k false f1U f2U env ([114, 101, 118] ++ (32 :: t)) (tabA r c (revC xs c)) (b + 65) :=
  d_one (F := revP) fn1_round rfl round_one h (rev_tab r c xs) (by simp [tabA, revC_len]; omega)
theorem u_iota {n : Nat} (hn : n ≤ 6) {t : List UInt8} (h1 : Nm (n : Int) t) : ArrD 0 false f1U f2U env ([105, 111, 116, 97] ++ (32 :: t)) (rowA (iotaL n)) (0 + 65) := by
  refine d_one (F := iotaP) fn1_iota rfl iota_one (d_only (d_row (NmRow.one _ t h1) (by simp) (by intro x hx; simp at hx; subst hx; unfold fit64; omega))) ?_ (by simp [rowA, iotaL]; omega)
  unfold iotaP
  have hc : (arrOf [(n : Int)]).cells.headD 0 = (n : Int) := rfl
  rw [if_neg (by simp [arrOf]), hc, if_neg (by omega), if_neg (by omega)]
  simp [rowA, iotaL]
/-- the lines of Tables -/
theorem t_flip (he : EnvOk env) (h : env tT = some (tabA r c xs)) (hr : r ≤ 6) (hc : c ≤ 6) (hx : xs.length = r * c) : ArrSays env ⟨#[102, 108, 105, 112, 32, 116]⟩ (tabA c r (flipT r c xs)) := by
  have h36 : r * c ≤ 6 * 6 := Nat.mul_le_mul hr hc
  exact d_says he (u_flip hr hc hx (d_only (u_t h))) (by omega) (by omega) (by decide) (by simp [tabA]) (by simp [tabA, flipT_len]; omega)
theorem t_sums (he : EnvOk env) (h : env tT = some (tabA r c xs)) (hr : r ≤ 6) (hc : c ≤ 6) (hw : Within 60 xs) : ArrSays env ⟨#[43, 47, 32, 116]⟩ (rowA (rowSums r c xs)) :=
  d_says he (u_sum (M := 60) (by omega) hr hw (by omega) (d_only (u_t h))) (by omega) (by omega) (by decide) (by simp [rowA]) (by simp [rowA, rowSums_len]; omega)
theorem t_rho (he : EnvOk env) (h : env tT = some (tabA r c xs)) : ArrSays env ⟨#[114, 104, 111, 32, 116]⟩ (rowA [(r : Int), (c : Int)]) :=
  d_says he (u_rho (d_only (u_t h))) (by omega) (by omega) (by decide) (by simp [rowA]) (by simp [rowA])
theorem t_ravel (he : EnvOk env) (h : env tT = some (tabA r c xs)) (hx : xs.length ≤ 64) : ArrSays env ⟨#[114, 97, 118, 101, 108, 32, 116]⟩ (rowA xs) :=
  d_says he (u_ravel hx (d_only (u_t h))) (by omega) (by omega) (by decide) (by simp [rowA]) (by simpa [rowA] using hx)
theorem t_self (he : EnvOk env) (h : env tT = some (tabA r c xs)) (hx : xs.length ≤ 64) : ArrSays env ⟨#[116]⟩ (tabA r c xs) :=
  d_says he (d_only (u_t h)) (by omega) (by omega) (by decide) (by simp [tabA]) (by simpa [tabA] using hx)
theorem t_flips (he : EnvOk env) (h : env tT = some (tabA r c xs)) (hr : r ≤ 6) (hc : c ≤ 6) (hx : xs.length = r * c) : ArrSays env ⟨#[102, 108, 105, 112, 32, 102, 108, 105, 112, 32, 116]⟩ (tabA r c xs) := by
  have h36 : r * c ≤ 6 * 6 := Nat.mul_le_mul hr hc
  have h2 := u_flip hc hr (by rw [flipT_len, Nat.mul_comm]) (u_flip hr hc hx (d_only (u_t h)))
  rw [flipT_two hx] at h2
  exact d_says he h2 (by omega) (by omega) (by decide) (by simp [tabA]) (by simp [tabA, hx]; omega)
theorem t_back (he : EnvOk env) (h : env tT = some (tabA r c xs)) (hr : r ≤ 6) (hc : c ≤ 6) (hx : xs.length = r * c) : ArrSays env ⟨#[40, 114, 104, 111, 32, 116, 41, 32, 114, 104, 111, 32, 114, 97, 118, 101, 108, 32, 116]⟩ (tabA r c xs) := by
  have h36 : r * c ≤ 6 * 6 := Nat.mul_le_mul hr hc
  have ha : ArrD 1 true f1U f2U env (40 :: (([114, 104, 111] ++ (32 :: [116])) ++ [41])) (rowA [(r : Int), (c : Int)]) (0 + 65) := d_br (u_rho (d_only (u_t h)))
  have hb : ArrD 1 false f1U f2U env ([114, 97, 118, 101, 108] ++ (32 :: [116])) (rowA xs) (0 + 65) := d_more (k := 0) (j := 1) (u_ravel (by omega) (d_only (u_t h)))
  have h2 := d_two (F := reshapeP) fn2_rho rfl reshape_two ha hb (reshape_self hr hc hx) (by simp [tabA, hx]; omega)
  exact d_says he h2 (by omega) (by omega) (by decide) (by simp [tabA]) (by simp [tabA, hx]; omega)
theorem t_revs (he : EnvOk env) (h : env tT = some (tabA r c xs)) (hr : r ≤ 6) (hc : c ≤ 6) (hx : xs.length = r * c) : ArrSays env ⟨#[114, 101, 118, 32, 114, 101, 118, 32, 116]⟩ (tabA r c xs) := by
  have h36 : r * c ≤ 6 * 6 := Nat.mul_le_mul hr hc
  have h2 := u_rev (by rw [revC_len]; omega) (u_rev (by omega) (d_only (u_t h)))
  rw [revC_two hx] at h2
  exact d_says he h2 (by omega) (by omega) (by decide) (by simp [tabA]) (by simp [tabA, hx]; omega)
theorem t_total (he : EnvOk env) (h : env tT = some (tabA r c xs)) (hx : xs.length ≤ 64) (hw : Within 60 xs) : ArrSays env ⟨#[43, 47, 32, 114, 97, 118, 101, 108, 32, 116]⟩ (arrOf [xs.sum]) :=
  d_says he (u_total (M := 60) (by omega) hw (by omega) (u_ravel hx (d_only (u_t h)))) (by omega) (by omega) (by decide) (by simp [arrOf]) (by simp [arrOf])
theorem t_totals (he : EnvOk env) (h : env tT = some (tabA r c xs)) (hr : r ≤ 6) (hc : c ≤ 6) (hx : xs.length = r * c) (hw : Within 60 xs) : ArrSays env ⟨#[43, 47, 32, 43, 47, 32, 102, 108, 105, 112, 32, 116]⟩ (arrOf [xs.sum]) := by
  have hwf : Within 60 (flipT r c xs) := by
    intro y hy
    simp only [flipT, List.mem_map] at hy
    obtain ⟨p, _, rfl⟩ := hy
    exact within_getD (by omega) hw _
  have hws : Within 360 (rowSums c r (flipT r c xs)) := by
    intro y hy
    simp only [rowSums, List.mem_map] at hy
    obtain ⟨k, _, rfl⟩ := hy
    have := sumR_within (M := 60) (f := fun i => (flipT r c xs).getD (k * r + i) 0) r (fun i _ => within_getD (by omega) hwf _)
    show -360 ≤ sumR r (fun i => (flipT r c xs).getD (k * r + i) 0) ∧ sumR r (fun i => (flipT r c xs).getD (k * r + i) 0) ≤ 360
    omega
  have h2 := u_total (M := 360) (by omega) hws (by rw [rowSums_len]; omega) (u_sum (M := 60) (by omega) hc hwf (by omega) (u_flip hr hc hx (d_only (u_t h))))
  rw [flip_sums hx] at h2
  exact d_says he h2 (by omega) (by omega) (by decide) (by simp [arrOf]) (by simp [arrOf])
theorem t_outer (he : EnvOk env) (hr : r ≤ 6) (hc : c ≤ 6) {tr tc : List UInt8} (h1 : Nm (r : Int) tr) (h2 : Nm (c : Int) tc) (hl : tr.length ≤ 3 ∧ tc.length ≤ 3) : ArrSays env ⟨((40 :: (([105, 111, 116, 97] ++ (32 :: tr)) ++ [41])) ++ (32 :: ([45, 46] ++ (32 :: ([105, 111, 116, 97] ++ (32 :: tc)))))).toArray⟩ (tabA r c (tabT r c)) := by
  have h36 : r * c ≤ 6 * 6 := Nat.mul_le_mul hr hc
  have ha : ArrD 1 true f1U f2U env (40 :: (([105, 111, 116, 97] ++ (32 :: tr)) ++ [41])) (rowA (iotaL r)) (0 + 65) := d_br (u_iota hr h1)
  have hb : ArrD 1 false f1U f2U env ([105, 111, 116, 97] ++ (32 :: tc)) (rowA (iotaL c)) (0 + 65) := d_more (k := 0) (j := 1) (u_iota hc h2)
  have h3 := d_two (F := outerP (pairP minusF)) fn2_outer rfl minus_outer ha hb (outer_tab hr hc) (by simp [tabA, tabT_len]; omega)
  exact d_says he h3 (by omega) (by omega) (by simp; omega) (by simp [tabA]) (by simp [tabA, tabT_len]; omega)
end
end Go.Proofs.YtjobgpahajhbnaaGreatDoor
namespace Go.Proofs.YtjobgpahajhbnaaGreatDoor
open Go.RowKit Go.Proofs
attribute [local go_sem ↓] Go.wp_at_zero Go.wp_at_succ

/-- three lists of one's own -/
structure Three (wS wr : World) (v1 v2 v3 : Value) (a b c : List Int) : Prop where
  o1 : OwnL wS.heap.size wr v1 a
  o2 : OwnL wS.heap.size wr v2 b
  o3 : OwnL wS.heap.size wr v3 c
  a12 : Aprt v1 v2
  a13 : Aprt v1 v3
  a23 : Aprt v2 v3
  bel : Below wS.heap.size wS wr
theorem Three.grow1 {wS wr w' : World} {v1 v2 v3 v' : Value} {a b c a' : List Int} (h : Three wS wr v1 v2 v3 a b c) (ho : OwnL wS.heap.size w' v' a') (hg : Grew wS.heap.size wr v1 v' w') : Three wS w' v' v2 v3 a' b c :=
  ⟨ho, hg.own _ _ h.o2 h.a12.symm, hg.own _ _ h.o3 h.a13.symm, (hg.apart _ _ h.o2 h.a12.symm).symm, (hg.apart _ _ h.o3 h.a13.symm).symm, h.a23, h.bel.trans hg.bel⟩
theorem Three.grow2 {wS wr w' : World} {v1 v2 v3 v' : Value} {a b c b' : List Int} (h : Three wS wr v1 v2 v3 a b c) (ho : OwnL wS.heap.size w' v' b') (hg : Grew wS.heap.size wr v2 v' w') : Three wS w' v1 v' v3 a b' c :=
  ⟨hg.own _ _ h.o1 h.a12, ho, hg.own _ _ h.o3 h.a23.symm, hg.apart _ _ h.o1 h.a12, h.a13, (hg.apart _ _ h.o3 h.a23.symm).symm, h.bel.trans hg.bel⟩
theorem Three.start (w : World) : Three w w (.slice none 0 0) (.slice none 0 0) (.slice none 0 0) [] [] [] := ⟨OwnL.nil _ _, OwnL.nil _ _, OwnL.nil _ _, Aprt.nil _, Aprt.nil _, Aprt.nil _, Below.refl _ _⟩
theorem KeepS.whole {S : Nat → Prop} {w w' : World} (h : KeepS S w w') {n : Nat} (hn : n ≤ w.heap.size) (hs : ∀ b, 6 ≤ b → b < n → S b) : Below n w w' :=
  ⟨h.os, h.tape, h.output, h.size, fun k hk => Bs.block h k (by omega) (fun hh => hh.1 (hs k hh.2 hk))⟩
end Go.Proofs.YtjobgpahajhbnaaGreatDoor
namespace Go.Proofs.YtjobgpahajhbnaaGreatDoor
open Go.RowKit Go.Proofs
attribute [local go_sem ↓] Go.wp_at_zero Go.wp_at_succ

def env0 : ByteArray → Option Arr := fun _ => none
theorem env0_ok : EnvOk env0 := fun _ _ h => by cases h
theorem desk_new {w : World} (hE : Evs w) : DkE (fun b => 6 ≤ b ∧ b < w.heap.size) w.heap.size env0 0 (w.alloc (.cells #[.int .i64 1000, .map none] 91)) := by
  have h6 : 6 ≤ w.heap.size := hE.1
  refine ⟨fun _ => False, none, ⟨by simp, h6, hE.alloc _, by simp, by simp, World.frozen?_alloc_at _ _ _ _ rfl, fun h => h, rfl⟩, fun b h => absurd h id, fun b h => ⟨h.1, by simp; omega, fun h => h, by omega, fun h => by cases h⟩⟩
end Go.Proofs.YtjobgpahajhbnaaGreatDoor
namespace Go.Proofs.YtjobgpahajhbnaaGreatDoor
open Go.RowKit Go.Proofs
attribute [local go_sem ↓] Go.wp_at_zero Go.wp_at_succ

theorem take_next {l : List Int} {i : Nat} {x : Int} (h : l[i]? = some x) : l.take (i + 1) = l.take i ++ [x] := by
  rw [List.take_add_one, h]
  rfl
end Go.Proofs.YtjobgpahajhbnaaGreatDoor
