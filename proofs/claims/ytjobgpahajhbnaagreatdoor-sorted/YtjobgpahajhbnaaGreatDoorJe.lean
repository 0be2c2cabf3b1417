import Derived.Test.YtjobgpahajhbnaaGreatDoorGj
import Derived.Test.YtjobgpahajhbnaaGreatDoorHb
import Derived.Stop.RegionWithIn
import Derived.Test.YtjobgpahajhbnaaGreatDoorGg
import Derived.Test.YtjobgpahajhbnaaGreatDoorJa
import Derived.Deep.RegionLaw
import Derived.Test.YtjobgpahajhbnaaGreatDoorTe
import Derived.Deep.CutRange
import Derived.Test.YtjobgpahajhbnaaGreatDoorTr
import Derived.Test.YtjobgpahajhbnaaGreatDoorKd
import Derived.Test.YtjobgpahajhbnaaGreatDoorVg
import Derived.Test.YtjobgpahajhbnaaGreatDoorEa
import Derived.Deep.RegionHeld3
import Derived.Test.YtjobgpahajhbnaaGreatDoorEb
import Derived.Test.YtjobgpahajhbnaaGreatDoorVh
import Derived.Lib.LaidTab
import Derived.Lib.AppendIntMem
namespace Go.Proofs.YtjobgpahajhbnaaGreatDoor
open Go.RowKit Go.Proofs
attribute [local go_sem ↓] Go.wp_at_zero Go.wp_at_succ

def f1F (t : ByteArray) : Arr → Arr × Int := if t.data.toList.headD 0 = 105 then iotaP else fun a => (ravelP a, 0)
def f2F (t : ByteArray) : Arr → Arr → Arr × Int := if t.data.toList.headD 0 = 105 then inP else if t.data.toList.headD 0 = 97 then atP else keepP
def rowA (l : List Int) : Arr := ⟨[l.length], l⟩
def EnvOk (env : ByteArray → Option Arr) : Prop := ∀ t a, env t = some a → a.ok
theorem rowA_ok {l : List Int} (hl : l.length ≤ 64) (hf : ∀ c ∈ l, fit64 c) : (rowA l).ok := ⟨by simp [rowA], by simp [rowA]; omega, by simp [rowA, prodL], by simp [rowA]; omega, hf⟩
theorem EnvOk.upd {env : ByteArray → Option Arr} (h : EnvOk env) (nm : ByteArray) {a : Arr} (ha : a.ok) : EnvOk (upd env nm a) := by
  intro t b hb
  unfold YtjobgpahajhbnaaGreatDoor.upd at hb
  split at hb
  · cases hb; exact ha
  · exact h t b hb
theorem ravel_row {l : List Int} : ravelP (arrOf l) = rowA l := by
  unfold arrOf rowA ravelP
  split <;> rfl
theorem pay_more {r : Arr × Int} {p c : Nat} (h : r.2 = 0) (hl : r.1.cells.length ≤ 70) (hc : c ≤ 800) : payP 1000 r p c = .inr (r.1, c + (1 + r.1.cells.length)) := by
  unfold payP
  rw [if_neg (by simp [h]), if_neg (by omega)]
/-- the text of row, as a tree -/
theorem row_tw {l : List Int} {t : List UInt8} (h : RowT l t) (hl : l.length ≤ 64) (hf : ∀ c ∈ l, fit64 c) (p : Nat) : ∃ x, Tw 1 true p x t ∧ Good f1F f2F x ∧ ∀ env, ∃ c, c ≤ 100 ∧ evalE env 1000 f1F f2F x 0 = .inr (rowA l, c) := by
  rcases h with ⟨rfl, rfl⟩ | ⟨u, rfl, hu, hul⟩
  · refine ⟨.one ⟨#[105, 111, 116, 97]⟩ (p + 1) (.num [0]), Tw.br 0 p _ _ (Tw.one 0 (p + 1) [105, 111, 116, 97] (.num [0]) [48] fn1_iota (Tw.only _ _ _ _ (Tw.row 0 _ [0] [48] (NmRow.one 0 [48] nm_zero)))), ⟨iota_one, by simp, by simp, by intro c hc; simp at hc; subst hc; unfold fit64; omega⟩, fun env => ⟨1, by omega, ?_⟩⟩
    have hv : f1F ⟨#[105, 111, 116, 97]⟩ (arrOf [0]) = (rowA [], 0) := rfl
    simp only [evalE]
    rw [hv, pay_more rfl (by simp [rowA]) (by omega)]
    rfl
  · have h0 := row_pos hu
    refine ⟨.one ⟨#[114, 97, 118, 101, 108]⟩ (p + 1) (.num l), Tw.br 0 p _ _ (Tw.one 0 (p + 1) [114, 97, 118, 101, 108] (.num l) u fn1_ravel (Tw.only _ _ _ _ (Tw.row 0 _ l u hu))), ⟨ravel_one, h0, by omega, hf⟩, fun env => ⟨0 + (1 + l.length), by omega, ?_⟩⟩
    have hv : f1F ⟨#[114, 97, 118, 101, 108]⟩ (arrOf l) = (rowA l, 0) := by
      have : f1F ⟨#[114, 97, 118, 101, 108]⟩ = fun a => (ravelP a, 0) := rfl
      rw [this]
      show (ravelP (arrOf l), (0 : Int)) = _
      rw [ravel_row]
    simp only [evalE]
    rw [hv, pay_more rfl (by simp [rowA]; omega) (by omega)]
    rfl
theorem rowT_len {l : List Int} {t : List UInt8} (h : RowT l t) : t.length ≤ 10 + 4 * l.length := by
  rcases h with ⟨rfl, rfl⟩ | ⟨u, rfl, _, hu⟩
  · simp
  · simp; omega
theorem few_fit {l : List Int} (h : Few l) : ∀ c ∈ l, fit64 c := fun c hc => by have := h c hc; unfold fit64; omega
theorem cat_is (nm t : List UInt8) : (⟨nm.toArray⟩ : ByteArray) ++ ⟨#[32, 105, 115, 32]⟩ ++ ⟨t.toArray⟩ = ⟨(nm ++ ([32, 105, 115, 32] ++ t)).toArray⟩ := by
  apply ba_ext
  simp
set_option maxHeartbeats 400000 in
theorem set_any (S : Nat → Prop) (db : Nat) (env : ByteArray → Option Arr) (N : Nat) (nm : List UInt8) (hnm : NameT nm) (hnl : nm.length ≤ 4) (w : World) (hD : DkE S db env N w) (hN : N < 1000) (he : EnvOk env) (ko : Option Addr) (kn kc : Nat) (l : List Int) (hn : Nums S w (.slice ko kn kc) l) (hl : l.length ≤ 24) (hf : Few l) :
    Calls Tryz.prog 23 #[.pointer (some ⟨db, 0, none⟩), .string ⟨nm.toArray⟩, .slice ko kn kc] w fun e w' => e = .returned (.bool true) ∧ DkE S db (upd env ⟨nm.toArray⟩ (rowA l)) (N + 1) w' ∧ KeepS S w w' := by
  have HT := hide (rowText_any w ko kn kc l hn (by omega) hf)
  have HS : Hid (∀ t, RowT l t → Calls Tryz.prog 19 #[.pointer (some ⟨db, 0, none⟩), .string (⟨nm.toArray⟩ ++ ⟨#[32, 105, 115, 32]⟩ ++ ⟨t.toArray⟩), .slice ko kn kc] w fun e w' => e = .returned (.bool true) ∧ DkE S db (upd env ⟨nm.toArray⟩ (rowA l)) (N + 1) w' ∧ KeepS S w w') := hide (by
    intro t ht
    obtain ⟨x, h1, h2, h3⟩ := row_tw ht (by omega) (few_fit hf) (nm.length + 4)
    obtain ⟨c, _, hev⟩ := h3 env
    have htl := rowT_len ht
    have hs := says_named (db := db) (N := N) hnm (Tw.only _ _ _ _ h1) (by simp; omega) (by decide) hN he h2 hev (by simp [rowA]) (by simp [rowA]; omega)
    rw [cat_is]
    exact isRow_u S db env _ N (N + 1) _ l c hs w hD ko kn kc hn (by omega))
  clear hnm hD hN he hn hf
  go_enter Tryz.func23, Tryz.ntmps23
  go_wp2_with fail
  refine (unhide HT).mono ?_
  rintro e w' ⟨⟨t, rfl, ht⟩, rfl⟩
  have HTT := hide ht
  have htl := rowT_len ht
  have htl2 : t.length ≤ 200 := by omega
  clear ht htl
  go_wp2_with fail
  refine (unhide HS t (unhide HTT)).mono ?_
  rintro e w' ⟨rfl, h1, h2⟩
  have H1 := hide h1
  have H2 := hide h2
  clear h1 h2
  go_wp2_with fail
  exact bodyPost_ret (v := .bool true) (by simp [results, Tryz.results23, go_sem]) rfl ⟨rfl, unhide H1, unhide H2⟩
end Go.Proofs.YtjobgpahajhbnaaGreatDoor
namespace Go.Proofs.YtjobgpahajhbnaaGreatDoor
open Go.RowKit Go.Proofs

theorem at_rows {ps l : List Int} (h : ∀ p ∈ ps, 0 ≤ p ∧ p < l.length) : atP (rowA ps) (rowA l) = (rowA (ps.map (atF l)), 0) := by
  unfold atP
  have hn : (rowA ps).cells.any (outB (rowA l).cells.length) = false := by
    rw [List.any_eq_false]
    intro x hx
    have := h x hx
    have e : outB (rowA l).cells.length x = false := by
      unfold outB
      rw [decide_eq_false (by omega), decide_eq_false (by show ¬ (l.length : Int) ≤ x; omega)]
      rfl
    rw [e]
    decide
  rw [if_neg (by simp [rowA]), hn, if_neg (by decide)]
  simp [rowA]
def xT : ByteArray := ⟨#[120]⟩
end Go.Proofs.YtjobgpahajhbnaaGreatDoor
namespace Go.Proofs.YtjobgpahajhbnaaGreatDoor
open Go.RowKit Go.Proofs Go.Shelf
attribute [local go_sem] Oper.semAt_some

/-- the boxes of a function of two arrays, and its answer -/
structure S2 (W w : World) (co : Option Addr) (cn cc : Nat) (so2 : Option Addr) (sn2 sc2 : Nat) : Prop where
  below : Below W.heap.size W w
  lt : W.heap.size + 1 + 1 < w.heap.size
  a1 : w.cell? ⟨W.heap.size, 1, none⟩ = some (.slice co cn cc)
  b0 : w.cell? ⟨W.heap.size + 1, 0, none⟩ = some (.slice so2 sn2 sc2)
  r0 : w.cell? ⟨W.heap.size + 1 + 1, 0, none⟩ = some (.slice none 0 0)
  r1 : w.cell? ⟨W.heap.size + 1 + 1, 1, none⟩ = some (.slice none 0 0)
  f0 : w.frozen? ⟨W.heap.size + 1 + 1, 0, none⟩ = false
  f1 : w.frozen? ⟨W.heap.size + 1 + 1, 1, none⟩ = false
end Go.Proofs.YtjobgpahajhbnaaGreatDoor
namespace Go.Proofs.YtjobgpahajhbnaaGreatDoor
open Go.RowKit Go.Proofs
attribute [local go_sem ↓] Go.wp_at_zero Go.wp_at_succ

/-- what a text comes to, wherever it stands -/
structure ArrX (f1 : ByteArray → Arr → Arr × Int) (f2 : ByteArray → Arr → Arr → Arr × Int) (env : ByteArray → Option Arr) (X : Ex) (a : Arr) (b : Nat) : Prop where
  good : Good f1 f2 X
  ev : ∀ c, c + b ≤ 700 → ∃ c', c' ≤ c + b ∧ evalE env 1000 f1 f2 X c = .inr (a, c')
/-- a line, said of its bytes -/
def ArrSays (env : ByteArray → Option Arr) (b : ByteArray) (a : Arr) : Prop := ∃ cost, ∀ S db N, Says (DkE S db env N) db b 0 0 (a.shape.map Int.ofNat) a.cells cost
section
variable {f1 : ByteArray → Arr → Arr × Int} {f2 : ByteArray → Arr → Arr → Arr × Int} {env : ByteArray → Option Arr}
set_option maxHeartbeats 1000000 in
set_option maxRecDepth 20000 in
/-- two lines that come to the same, neither of which makes a name -/
theorem like_says {s t : ByteArray} {a : Arr} (hs : ArrSays env s a) (ht : ArrSays env t a) {S : Nat → Prop} {db N : Nat} {w : World} (hD : DkE S db env N w) (hl1 : a.shape.length ≤ 3) (hl2 : a.cells.length ≤ 200) :
    Calls Tryz.prog 24 #[.pointer (some ⟨db, 0, none⟩), .string s, .string t] w fun e w' => e = .returned (.bool true) ∧ Below w.heap.size w w' := by
  obtain ⟨cost, ht⟩ := ht
  obtain ⟨cost', hs⟩ := hs
  have hl3 : (a.shape.map Int.ofNat).length ≤ 200 := by simp; omega
  obtain ⟨sh, hsh⟩ : ∃ sh, a.shape.map Int.ofNat = sh := ⟨_, rfl⟩
  rw [hsh] at hs ht hl3
  obtain ⟨cs, hcs⟩ : ∃ cs, a.cells = cs := ⟨_, rfl⟩
  rw [hcs] at hs ht hl2
  have HO := hide (one_gen (DkE S db env N) (DkE.lasts S db env N) db _ _ cs cost (ht S db N) w hD)
  have HI : Hid (∀ w2 so sn sc co cn cc, Below w.heap.size w w2 → Nums (fun b => w.heap.size < b) w2 (.slice so sn sc) sh → Nums (fun b => w.heap.size < b) w2 (.slice co cn cc) cs → Calls Tryz.prog 28 #[.pointer (some ⟨db, 0, none⟩), .string s, .slice so sn sc, .slice co cn cc] w2 fun e w' => e = .returned (.bool true) ∧ Below w2.heap.size w2 w') := hide (by
    intro w2 so sn sc co cn cc hb hsh hcs
    exact is_gen (DkE S db env N) (DkE.lasts S db env N) db _ _ cs cost' (hs S db N) w2 (hD.below hb) so sn sc co cn cc hsh hcs hl3 hl2)
  clear hs ht hD hsh hcs
  go_enter Tryz.func24, Tryz.ntmps24
  go_wp2_with (go_at_call 29; refine (unhide HO).mono ?_; rintro e w1 ⟨so, sn, sc, co, cn, cc, rfl, h1, h2, hb⟩; have H1 := hide h1; have H2 := hide h2; have HB := hide hb; clear h1 h2 hb)
  have hbw : Below w1.heap.size w1 (w1.alloc (.cells #[.int .i64 0, .int .i64 0, .slice so sn sc, .slice co cn cc, .int .i64 cost] 47)) := (Below.refl _ _).alloc (Nat.le_refl _) _
  have HBW := hide (below2' (unhide HB) hbw)
  refine (unhide HI _ so sn sc co cn cc (below2' (unhide HB) hbw) ((unhide H1).below hbw) ((unhide H2).below hbw)).mono ?_
  rintro e w3 ⟨rfl, hb3⟩
  have HB3 := hide (below2' (unhide HBW) hb3)
  clear hb3 hbw
  go_wp2_with fail
  exact bodyPost_ret (v := .bool true) (by simp [results, Tryz.results24, go_sem]) rfl ⟨rfl, unhide HB3⟩
end
section
variable {env : ByteArray → Option Arr} {l : List Int}
end
end Go.Proofs.YtjobgpahajhbnaaGreatDoor
namespace Go.Proofs.YtjobgpahajhbnaaGreatDoor
open Go.RowKit Go.Proofs

/-- what a text comes to, wherever it stands, in so many brackets at most; true: as a THING -/
def ArrD (k : Nat) (th : Bool) (f1 : ByteArray → Arr → Arr × Int) (f2 : ByteArray → Arr → Arr → Arr × Int) (env : ByteArray → Option Arr) (t : List UInt8) (a : Arr) (b : Nat) : Prop := ∀ d p, ∃ X, Tw (d + k) th p X t ∧ ArrX f1 f2 env X a b
section
variable {f1 : ByteArray → Arr → Arr × Int} {f2 : ByteArray → Arr → Arr → Arr × Int} {env : ByteArray → Option Arr}
theorem d_name {nm : List UInt8} {a : Arr} (hn : NameT nm) (hl : nm.length ≤ 200) (hx : env ⟨nm.toArray⟩ = some a) : ArrD 0 true f1 f2 env nm a 0 := fun d p =>
  ⟨.name ⟨nm.toArray⟩ p, Tw.name (d + 0) p nm hn, by simpa [Good, ByteArray.size] using hl, fun c _ => ⟨c, by omega, by simp only [evalE, hx]⟩⟩
theorem d_more {k j : Nat} {th : Bool} {t : List UInt8} {a : Arr} {b : Nat} (h : ArrD k th f1 f2 env t a b) : ArrD (k + j) th f1 f2 env t a b := fun d p => by
  obtain ⟨X, h1, h2⟩ := h (d + j) p
  exact ⟨X, by rw [show d + (k + j) = d + j + k by omega]; exact h1, h2⟩
theorem d_only {k : Nat} {t : List UInt8} {a : Arr} {b : Nat} (h : ArrD k true f1 f2 env t a b) : ArrD k false f1 f2 env t a b := fun d p => by
  obtain ⟨X, h1, h2⟩ := h d p
  exact ⟨X, Tw.only _ _ _ _ h1, h2⟩
theorem d_br {k : Nat} {t : List UInt8} {a : Arr} {b : Nat} (h : ArrD k false f1 f2 env t a b) : ArrD (k + 1) true f1 f2 env (40 :: (t ++ [41])) a b := fun d p => by
  obtain ⟨X, h1, h2⟩ := h d (p + 1)
  exact ⟨X, Tw.br (d + k) p X t h1, h2⟩
theorem d_one {k : Nat} {f t : List UInt8} {F : Arr → Arr × Int} {a a' : Arr} {b : Nat} (hf : Fn1 f) (hF : f1 ⟨f.toArray⟩ = F) (hC : OneC ⟨f.toArray⟩ F) (h : ArrD k false f1 f2 env t a b) (hv : F a = (a', 0)) (hl : a'.cells.length ≤ 64) : ArrD k false f1 f2 env (f ++ (32 :: t)) a' (b + 65) := fun d p => by
  obtain ⟨X, h1, h2, h3⟩ := h d (p + f.length + 1)
  refine ⟨.one ⟨f.toArray⟩ p X, Tw.one (d + k) p f X t hf h1, ⟨by rw [hF]; exact hC, h2⟩, fun c hc => ?_⟩
  obtain ⟨c1, e1, e2⟩ := h3 c (by omega)
  refine ⟨c1 + (1 + a'.cells.length), by omega, ?_⟩
  simp only [evalE, e2]
  rw [hF, hv, pay_more rfl (by simp; omega) (by omega)]
theorem d_two {k : Nat} {f s t : List UInt8} {F : Arr → Arr → Arr × Int} {a b c : Arr} {x y : Nat} (hf : Fn2 f) (hF : f2 ⟨f.toArray⟩ = F) (hC : TwoC ⟨f.toArray⟩ F) (ha : ArrD k true f1 f2 env s a x) (hb : ArrD k false f1 f2 env t b y) (hv : F a b = (c, 0)) (hl : c.cells.length ≤ 64) : ArrD k false f1 f2 env (s ++ (32 :: (f ++ (32 :: t)))) c (x + y + 65) := fun d p => by
  obtain ⟨A, a1, a2, a3⟩ := ha d p
  obtain ⟨X, h1, h2, h3⟩ := hb d (p + s.length + 1 + f.length + 1)
  refine ⟨.two ⟨f.toArray⟩ (p + s.length + 1) A X, Tw.two (d + k) p f A X s t hf a1 h1, ⟨by rw [hF]; exact hC, a2, h2⟩, fun n hn => ?_⟩
  obtain ⟨c1, e1, e2⟩ := h3 n (by omega)
  obtain ⟨c2, e3, e4⟩ := a3 c1 (by omega)
  refine ⟨c2 + (1 + c.cells.length), by omega, ?_⟩
  simp only [evalE, e2, e4]
  rw [hF, hv, pay_more rfl (by simp; omega) (by omega)]
theorem d_says {k : Nat} {t : List UInt8} {a : Arr} {b : Nat} (he : EnvOk env) (h : ArrD k false f1 f2 env t a b) (hk : k ≤ 8) (hb : b ≤ 700) (ht : t.length ≤ 200) (hs : a.shape.length ≤ 3) (hl : a.cells.length ≤ 64) : ArrSays env ⟨t.toArray⟩ a := by
  obtain ⟨X, h1, h2, h3⟩ := h 0 0
  obtain ⟨c, _, hc⟩ := h3 0 (by omega)
  exact ⟨c, fun S db N => says_plain h1 ht (by omega) he h2 hc (by omega) (by omega)⟩
end
section
variable {env : ByteArray → Option Arr} {r c : Nat} {xs : List Int}
end
end Go.Proofs.YtjobgpahajhbnaaGreatDoor
namespace Go.Proofs.YtjobgpahajhbnaaGreatDoor
open Go.RowKit Go.Proofs

def upL (l : List Int) : List Int := stableP (byCells compF l) l.length (iotaN l.length)
def dnL (l : List Int) : List Int := stableP (byCells (fun x y => compF y x) l) l.length (iotaN l.length)
def ltU (l : List Int) (x y : Int) : Prop := ix l x.toNat < ix l y.toNat ∨ (ix l x.toNat = ix l y.toNat ∧ x < y)
def ltD (l : List Int) (x y : Int) : Prop := ix l y.toNat < ix l x.toNat ∨ (ix l x.toNat = ix l y.toNat ∧ x < y)
theorem ord_up (l : List Int) : Ord (byCells compF l) (ltU l) where
  trans := by intro x y z h k; unfold ltU at *; omega
  irr := by intro x h; unfold ltU at h; omega
  less := by
    intro x y h
    have h : compF (ix l x.toNat) (ix l y.toNat) < 0 := h
    unfold compF at h
    unfold ltU
    split at h
    · exact Or.inl ‹_›
    · split at h <;> omega
  more := by
    intro x y h hxy
    have h : ¬ compF (ix l y.toNat) (ix l x.toNat) < 0 := h
    unfold compF at h
    unfold ltU
    split at h
    · omega
    · omega
theorem ord_dn (l : List Int) : Ord (byCells (fun x y => compF y x) l) (ltD l) where
  trans := by intro x y z h k; unfold ltD at *; omega
  irr := by intro x h; unfold ltD at h; omega
  less := by
    intro x y h
    have h : compF (ix l y.toNat) (ix l x.toNat) < 0 := h
    unfold compF at h
    unfold ltD
    split at h
    · exact Or.inl ‹_›
    · split at h <;> omega
  more := by
    intro x y h hxy
    have h : ¬ compF (ix l x.toNat) (ix l y.toNat) < 0 := h
    unfold compF at h
    unfold ltD
    split at h
    · omega
    · omega
/-- the places below n, each once -/
def PermN (n : Nat) (p : List Int) : Prop := p.Perm (iotaN n)
theorem PermN.len {n : Nat} {p : List Int} (h : PermN n p) : p.length = n := by rw [h.length_eq]; simp [iotaN]
theorem PermN.rng {n : Nat} {p : List Int} (h : PermN n p) {k : Nat} (hk : k < n) : 0 ≤ ix p k ∧ ix p k < (n : Int) := by
  have hl : k < p.length := by rw [h.len]; exact hk
  have hm : ix p k ∈ p := by
    unfold ix
    rw [List.getD_eq_getElem?_getD, List.getElem?_eq_getElem hl]
    exact List.getElem_mem hl
  exact (iotaN_inr n).rng _ (h.mem_iff.1 hm)
theorem iotaN_nodup (n : Nat) : (iotaN n).Nodup := by
  unfold iotaN
  exact List.Pairwise.map Int.ofNat (fun a b h e => h (Int.ofNat.inj e)) List.nodup_range
theorem PermN.inj {n : Nat} {p : List Int} (h : PermN n p) {i j : Nat} (hi : i < n) (hj : j < n) (e : ix p i = ix p j) : i = j := by
  have hl := h.len
  have hn : p.Nodup := h.nodup_iff.2 (iotaN_nodup n)
  unfold ix at e
  rw [List.getD_eq_getElem?_getD, List.getElem?_eq_getElem (by omega), List.getD_eq_getElem?_getD, List.getElem?_eq_getElem (by omega)] at e
  have hq := List.pairwise_iff_getElem.1 hn
  rcases Nat.lt_trichotomy i j with g | g | g
  · exact absurd e (hq i j (by omega) (by omega) g)
  · exact g
  · exact absurd e.symm (hq j i (by omega) (by omega) g)
theorem PermN.cnt {n : Nat} {p : List Int} (h : PermN n p) {k : Nat} (hk : k < n) : p.count (k : Int) = 1 := by
  rw [h.count_eq]
  refine List.Nodup.count (iotaN_nodup n) ▸ ?_
  rw [if_pos]
  simp only [iotaN, List.mem_map, List.mem_range]
  exact ⟨k, hk, rfl⟩
theorem up_perm (l : List Int) : PermN l.length (upL l) := (stable_ok (ord_up l) l.length).2
theorem dn_perm (l : List Int) : PermN l.length (dnL l) := (stable_ok (ord_dn l) l.length).2
theorem up_sorted (l : List Int) : SortedOn (ltU l) (upL l) 0 l.length := (stable_ok (ord_up l) l.length).1
theorem dn_sorted (l : List Int) : SortedOn (ltD l) (dnL l) 0 l.length := (stable_ok (ord_dn l) l.length).1
/-- n places that rise are all of them -/
theorem rising {n : Nat} {s : Nat → Int} (h0 : ∀ i, i < n → 0 ≤ s i ∧ s i < (n : Int)) (h1 : ∀ i j, i < j → j < n → s i < s j) : ∀ i, i < n → s i = (i : Int) := by
  have lo : ∀ i, i < n → (i : Int) ≤ s i := by
    intro i
    induction i with
    | zero => intro hi; have := h0 0 hi; omega
    | succ i ih => intro hi; have := ih (by omega); have := h1 i (i + 1) (by omega) hi; omega
  have hi : ∀ d i, i < n → n = i + 1 + d → s i ≤ (i : Int) := by
    intro d
    induction d with
    | zero => intro i h e; have := h0 i h; omega
    | succ d ih => intro i h e; have := ih (i + 1) (by omega) (by omega); have := h1 i (i + 1) (by omega) (by omega); omega
  intro i h
  have := lo i h
  have := hi (n - 1 - i) i h (by omega)
  omega
theorem up_undo {n : Nat} {p : List Int} (h : PermN n p) {i : Nat} (hi : i < n) : ix p (ix (upL p) i).toNat = (i : Int) := by
  have hl := h.len
  have hp := up_perm p
  have hs := up_sorted p
  rw [hl] at hp hs
  refine rising (s := fun i => ix p (ix (upL p) i).toNat) ?_ ?_ i hi
  · intro k hk
    have := hp.rng hk
    exact h.rng (by omega)
  · intro a b hab hb
    have h1 := hs a b (by omega) hab hb
    have ra := hp.rng (k := a) (by omega)
    have rb := hp.rng (k := b) (by omega)
    unfold ltU at h1
    rcases h1 with h1 | ⟨h1, h2⟩
    · exact h1
    · have := h.inj (by omega) (by omega) h1
      omega
theorem up_three (l : List Int) : upL (upL (upL l)) = upL l := by
  have hp := up_perm l
  have hr := up_perm (upL l)
  rw [hp.len] at hr
  have ht := up_perm (upL (upL l))
  rw [hr.len] at ht
  apply List.ext_getElem
  · rw [ht.len, hp.len]
  · intro i h1 h2
    have hi : i < l.length := by rw [hp.len] at h2; exact h2
    have e1 := up_undo hr hi
    have rt := ht.rng hi
    have e2 := up_undo hp (i := (ix (upL (upL (upL l))) i).toNat) (by omega)
    have e3 : (ix (upL (upL l)) (ix (upL (upL (upL l))) i).toNat).toNat = i := by rw [e1]; rfl
    rw [e3] at e2
    have e4 : ix (upL l) i = ix (upL (upL (upL l))) i := by rw [e2]; omega
    unfold ix at e4
    rw [List.getD_eq_getElem?_getD, List.getElem?_eq_getElem h2, List.getD_eq_getElem?_getD, List.getElem?_eq_getElem h1] at e4
    exact e4.symm
theorem ix_map {f : Int → Int} {p : List Int} {k : Nat} (hk : k < p.length) : ix (p.map f) k = f (ix p k) := by
  unfold ix
  rw [List.getD_eq_getElem?_getD, List.getD_eq_getElem?_getD, List.getElem?_map, List.getElem?_eq_getElem hk]
  rfl
theorem at_undo (l : List Int) : (upL (upL l)).map (atF ((upL l).map (atF l))) = l := by
  have hp := up_perm l
  have hr := up_perm (upL l)
  rw [hp.len] at hr
  apply List.ext_getElem
  · rw [List.length_map, hr.len]
  · intro i h1 h2
    have rr := hr.rng h2
    have e : ix ((upL (upL l)).map (atF ((upL l).map (atF l)))) i = ix l i := by
      rw [ix_map (by rw [hr.len]; exact h2)]
      show ix ((upL l).map (atF l)) (ix (upL (upL l)) i).toNat = _
      rw [ix_map (by rw [hp.len]; omega), up_undo hp h2]
      rfl
    unfold ix at e
    rw [List.getD_eq_getElem?_getD, List.getElem?_eq_getElem h1, List.getD_eq_getElem?_getD, List.getElem?_eq_getElem h2] at e
    exact e
/-- how often each place has been seen -/
def cntL (n : Nat) (p q : List Int) : List Int := (List.range n).map fun (k : Nat) => ((p.count (k : Int) + q.count (k : Int) : Nat) : Int)
theorem cntL_len (n : Nat) (p q : List Int) : (cntL n p q).length = n := by simp [cntL]
theorem cntL_nil (n : Nat) : cntL n [] [] = List.replicate n 0 := by
  unfold cntL
  simp [List.map_const']
theorem cntL_at {n : Nat} (p q : List Int) {k : Nat} (hk : k < n) : (cntL n p q)[k]? = some ((p.count (k : Int) + q.count (k : Int) : Nat) : Int) := by
  simp only [cntL, List.getElem?_map, List.getElem?_range hk, Option.map_some]
theorem cnt_snoc (p : List Int) (a b : Nat) : (p ++ [(a : Int)]).count (b : Int) = p.count (b : Int) + if a = b then 1 else 0 := by
  rw [List.count_append, List.count_singleton]
  by_cases e : a = b
  · subst e; simp
  · rw [if_neg e, if_neg]
    simp
    omega
theorem cntL_left {n : Nat} {p q : List Int} {a : Nat} (ha : a < n) : (cntL n p q).set a (((p.count (a : Int) + q.count (a : Int) : Nat) : Int) + 1) = cntL n (p ++ [(a : Int)]) q := by
  apply List.ext_getElem?
  intro k
  by_cases hk : k < n
  · rw [cntL_at _ _ hk, cnt_snoc]
    by_cases e : a = k
    · subst e
      rw [List.getElem?_set_self (by rw [cntL_len]; exact ha), if_pos rfl]
      congr 1
      omega
    · rw [List.getElem?_set_ne e, cntL_at _ _ hk, if_neg e]
      congr 1
  · rw [List.getElem?_eq_none (by rw [List.length_set, cntL_len]; omega), List.getElem?_eq_none (by rw [cntL_len]; omega)]
theorem cntL_right {n : Nat} {p q : List Int} {a : Nat} (ha : a < n) : (cntL n p q).set a (((p.count (a : Int) + q.count (a : Int) : Nat) : Int) + 1) = cntL n p (q ++ [(a : Int)]) := by
  apply List.ext_getElem?
  intro k
  by_cases hk : k < n
  · rw [cntL_at _ _ hk, cnt_snoc]
    by_cases e : a = k
    · subst e
      rw [List.getElem?_set_self (by rw [cntL_len]; exact ha), if_pos rfl]
      congr 1
    · rw [List.getElem?_set_ne e, cntL_at _ _ hk, if_neg e]
      congr 1
  · rw [List.getElem?_eq_none (by rw [List.length_set, cntL_len]; omega), List.getElem?_eq_none (by rw [cntL_len]; omega)]
theorem cntL_all {n : Nat} {p q : List Int} (hp : PermN n p) (hq : PermN n q) : cntL n p q = List.replicate n 2 := by
  unfold cntL
  rw [List.map_congr_left (g := fun _ => (2 : Int)) (fun k hk => by rw [hp.cnt (by simpa using hk), hq.cnt (by simpa using hk)]; rfl)]
  simp [List.map_const']
/-- the lines -/
theorem order_row (kf : Int → Int → Int) (l : List Int) : orderP kf (rowA l) = (rowA (stableP (byCells kf l) l.length (iotaN l.length)), 0) := by
  unfold orderP
  rw [if_neg (by simp [rowA])]
  have h : (stableP (byCells kf l) l.length (iotaN l.length)).length = l.length := (stableP_inr (byCells kf l) (iotaN_inr l.length)).len
  simp [rowA, h]
theorem up_row (l : List Int) : orderP compF (rowA l) = (rowA (upL l), 0) := order_row compF l
theorem dn_row (l : List Int) : orderP (fun x y => compF y x) (rowA l) = (rowA (dnL l), 0) := order_row _ l
def f1O (t : ByteArray) : Arr → Arr × Int := if t.data.toList.getD 0 0 = 117 then orderP compF else orderP (fun x y => compF y x)
def f2O (_ : ByteArray) : Arr → Arr → Arr × Int := atP
theorem tl_up (r : List UInt8) : tl ([117, 112] ++ (32 :: r)) = some 2 := by
  have h : ([117, 112] ++ (32 :: r)).takeWhile lU = [117, 112] := rfl
  have hf : isFn [117, 112] = true := by decide +kernel
  show wrdE ([117, 112] ++ (32 :: r)) = some 2
  unfold wrdE
  rw [h]
  simp [hf]
theorem fn1_up : Fn1 [117, 112] := ⟨⟨117, [112], rfl, by decide, by decide⟩, tl_up, by decide +kernel, by decide +kernel⟩
theorem tl_down (r : List UInt8) : tl ([100, 111, 119, 110] ++ (32 :: r)) = some 4 := by
  have h : ([100, 111, 119, 110] ++ (32 :: r)).takeWhile lU = [100, 111, 119, 110] := rfl
  have hf : isFn [100, 111, 119, 110] = true := by decide +kernel
  show wrdE ([100, 111, 119, 110] ++ (32 :: r)) = some 4
  unfold wrdE
  rw [h]
  simp [hf]
theorem fn1_down : Fn1 [100, 111, 119, 110] := ⟨⟨100, [111, 119, 110], rfl, by decide, by decide⟩, tl_down, by decide +kernel, by decide +kernel⟩
section
variable {env : ByteArray → Option Arr} {l : List Int}
theorem o_x (h : env xT = some (rowA l)) : ArrD 0 true f1O f2O env [120] (rowA l) 0 := d_name name_x (by decide) h
theorem o_up (hl : l.length ≤ 24) {k b : Nat} {t : List UInt8} (h : ArrD k false f1O f2O env t (rowA l) b) : ArrD k false f1O f2O env ([117, 112] ++ (32 :: t)) (rowA (upL l)) (b + 65) :=
  d_one (F := orderP compF) fn1_up rfl up_one h (up_row l) (by simp [rowA, (up_perm l).len]; omega)
theorem o_down (hl : l.length ≤ 24) {k b : Nat} {t : List UInt8} (h : ArrD k false f1O f2O env t (rowA l) b) : ArrD k false f1O f2O env ([100, 111, 119, 110] ++ (32 :: t)) (rowA (dnL l)) (b + 65) :=
  d_one (F := orderP (fun x y => compF y x)) fn1_down rfl down_one h (dn_row l) (by simp [rowA, (dn_perm l).len]; omega)
theorem w_up (he : EnvOk env) (h : env xT = some (rowA l)) (hl : l.length ≤ 24) : ArrSays env ⟨#[117, 112, 32, 120]⟩ (rowA (upL l)) :=
  d_says he (o_up hl (d_only (o_x h))) (by omega) (by omega) (by decide) (by simp [rowA]) (by simp [rowA, (up_perm l).len]; omega)
theorem w_down (he : EnvOk env) (h : env xT = some (rowA l)) (hl : l.length ≤ 24) : ArrSays env ⟨#[100, 111, 119, 110, 32, 120]⟩ (rowA (dnL l)) :=
  d_says he (o_down hl (d_only (o_x h))) (by omega) (by omega) (by decide) (by simp [rowA]) (by simp [rowA, (dn_perm l).len]; omega)
theorem w_x (he : EnvOk env) (h : env xT = some (rowA l)) (hl : l.length ≤ 24) : ArrSays env ⟨#[120]⟩ (rowA l) :=
  d_says he (d_only (o_x h)) (by omega) (by omega) (by decide) (by simp [rowA]) (by simp [rowA]; omega)
theorem w_three (he : EnvOk env) (h : env xT = some (rowA l)) (hl : l.length ≤ 24) : ArrSays env ⟨#[117, 112, 32, 117, 112, 32, 117, 112, 32, 120]⟩ (rowA (upL l)) := by
  have h1 : (upL l).length ≤ 24 := by rw [(up_perm l).len]; exact hl
  have h2 : (upL (upL l)).length ≤ 24 := by rw [(up_perm _).len]; exact h1
  have h3 := o_up h2 (o_up h1 (o_up hl (d_only (o_x h))))
  rw [up_three] at h3
  exact d_says he h3 (by omega) (by omega) (by decide) (by simp [rowA]) (by simp [rowA]; omega)
theorem w_undo (he : EnvOk env) (h : env xT = some (rowA l)) (hl : l.length ≤ 24) : ArrSays env ⟨#[40, 117, 112, 32, 117, 112, 32, 120, 41, 32, 97, 116, 32, 40, 117, 112, 32, 120, 41, 32, 97, 116, 32, 120]⟩ (rowA l) := by
  have e1 := (up_perm l).len
  have h1 : (upL l).length ≤ 24 := by rw [e1]; exact hl
  have e2 := (up_perm (upL l)).len
  have ha : ArrD 1 true f1O f2O env (40 :: (([117, 112] ++ (32 :: ([117, 112] ++ (32 :: [120])))) ++ [41])) (rowA (upL (upL l))) (0 + 65 + 65) := d_br (o_up h1 (o_up hl (d_only (o_x h))))
  have hb : ArrD 1 true f1O f2O env (40 :: (([117, 112] ++ (32 :: [120])) ++ [41])) (rowA (upL l)) (0 + 65) := d_br (o_up hl (d_only (o_x h)))
  have hx : ArrD 1 false f1O f2O env [120] (rowA l) 0 := d_more (k := 0) (j := 1) (d_only (o_x h))
  have m1 : ∀ p ∈ upL l, 0 ≤ p ∧ p < (l.length : Int) := fun p hp => (iotaN_inr l.length).rng _ ((up_perm l).mem_iff.1 hp)
  have m2 : ∀ p ∈ upL (upL l), 0 ≤ p ∧ p < ((upL l).map (atF l)).length := fun p hp => by
    rw [List.length_map]
    exact (iotaN_inr (upL l).length).rng _ ((up_perm (upL l)).mem_iff.1 hp)
  have h2 := d_two (F := atP) fn2_at rfl at_two hb hx (at_rows m1) (by simp [rowA]; omega)
  have h3 := d_two (F := atP) fn2_at rfl at_two ha h2 (at_rows m2) (by simp [rowA]; omega)
  rw [at_undo] at h3
  exact d_says he h3 (by omega) (by omega) (by decide) (by simp [rowA]) (by simp [rowA]; omega)
end
end Go.Proofs.YtjobgpahajhbnaaGreatDoor
namespace Go.Proofs.YtjobgpahajhbnaaGreatDoor
open Go.RowKit Go.Proofs
attribute [local go_sem ↓] Go.wp_at_zero Go.wp_at_succ

theorem KeepS.whole {S : Nat → Prop} {w w' : World} (h : KeepS S w w') {n : Nat} (hn : n ≤ w.heap.size) (hs : ∀ b, 6 ≤ b → b < n → S b) : Below n w w' :=
  ⟨h.os, h.tape, h.output, h.size, fun k hk => Bs.block h k (by omega) (fun hh => hh.1 (hs k hh.2 hk))⟩
end Go.Proofs.YtjobgpahajhbnaaGreatDoor
namespace Go.Proofs.YtjobgpahajhbnaaGreatDoor
open Go.RowKit Go.Proofs
attribute [local go_sem ↓] Go.wp_at_zero Go.wp_at_succ

def env0 : ByteArray → Option Arr := fun _ => none
theorem env0_ok : EnvOk env0 := fun _ _ h => by cases h
theorem desk_new {w : World} (hE : Evs w) : DkE (fun b => 6 ≤ b ∧ b < w.heap.size) w.heap.size env0 0 (w.alloc (.cells #[.int .i64 1000, .map none] 91)) := by
  have h6 : 6 ≤ w.heap.size := hE.1
  refine ⟨fun _ => False, none, ⟨by simp, h6, hE.alloc _, by simp, by simp, World.frozen?_alloc_at _ _ _ _ rfl, fun h => h, rfl⟩, fun b h => absurd h id, fun b h => ⟨h.1, by simp; omega, fun h => h, by omega, fun h => by cases h⟩⟩
def envX (l : List Int) : ByteArray → Option Arr := upd env0 ⟨List.toArray [120]⟩ (rowA l)
theorem envX_ok {l : List Int} (hl : l.length ≤ 64) (hf : ∀ c ∈ l, fit64 c) : EnvOk (envX l) := env0_ok.upd _ (rowA_ok hl hf)
end Go.Proofs.YtjobgpahajhbnaaGreatDoor
namespace Go.Proofs.YtjobgpahajhbnaaGreatDoor
open Go.RowKit Go.Proofs
attribute [local go_sem ↓] Go.wp_at_zero Go.wp_at_succ

theorem envX_at (l : List Int) : envX l xT = some (rowA l) := by
  unfold envX upd
  rw [if_pos (by decide)]
theorem take_next {l : List Int} {i : Nat} {x : Int} (h : l[i]? = some x) : l.take (i + 1) = l.take i ++ [x] := by
  rw [List.take_add_one, h]
  rfl
end Go.Proofs.YtjobgpahajhbnaaGreatDoor
