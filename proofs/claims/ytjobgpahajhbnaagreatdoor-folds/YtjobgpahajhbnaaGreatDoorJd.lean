import Derived.Test.YtjobgpahajhbnaaGreatDoorJb
import Derived.Test.YtjobgpahajhbnaaGreatDoorKg
import Derived.Test.YtjobgpahajhbnaaGreatDoorTd
import Derived.Test.YtjobgpahajhbnaaGreatDoorCg
import Derived.RangeFuncNested
import Derived.RangeFuncBound
import Derived.RangeFuncCalls
import Derived.RangeFuncLeaves
import Derived.RangeFuncBox
import Derived.RangeFuncFrom
import Derived.Shelf.Abstract
import Derived.Shelf.RegionOpen
import Derived.WalkKit
import Derived.OwnWalkIn
import Derived.TacticsInMore
import Derived.LoopNIn
import Derived.LoopIn
namespace Go.Proofs.YtjobgpahajhbnaaGreatDoor
open Go.RowKit Go.Proofs
attribute [local go_sem ↓] Go.wp_at_zero Go.wp_at_succ

theorem NmRow.snoc {ns : List Int} {u : List UInt8} (h : NmRow ns u) {n : Int} {t : List UInt8} (hn : Nm n t) : NmRow (ns ++ [n]) (u ++ (32 :: t)) := by
  induction h with
  | one m s hm => exact NmRow.more m s [n] t hm (NmRow.one n t hn)
  | more m s ms v hm hms ih =>
    have := NmRow.more m s (ms ++ [n]) (v ++ (32 :: t)) hm ih
    simpa using this
/-- numbers, each behind a blank -/
def Tail (l : List Int) (t : List UInt8) : Prop := (l = [] ∧ t = []) ∨ ∃ u, t = 32 :: u ∧ NmRow l u
theorem Tail.snoc {l : List Int} {t : List UInt8} (h : Tail l t) {n : Int} {s : List UInt8} (hn : Nm n s) : Tail (l ++ [n]) (t ++ (32 :: s)) := by
  rcases h with ⟨rfl, rfl⟩ | ⟨u, rfl, hu⟩
  · exact Or.inr ⟨s, rfl, NmRow.one n s hn⟩
  · exact Or.inr ⟨u ++ (32 :: s), rfl, hu.snoc hn⟩
/-- what row writes -/
def RowT (l : List Int) (t : List UInt8) : Prop := (l = [] ∧ t = 40 :: ([105, 111, 116, 97, 32, 48] ++ [41])) ∨ ∃ u, t = 40 :: (([114, 97, 118, 101, 108] ++ (32 :: u)) ++ [41]) ∧ NmRow l u ∧ u.length ≤ 4 * l.length
theorem cat1 (t s : List UInt8) : (⟨t.toArray⟩ : ByteArray) ++ ⟨#[32]⟩ ++ ⟨s.toArray⟩ = ⟨(t ++ (32 :: s)).toArray⟩ := by
  apply ba_ext
  simp
set_option maxHeartbeats 1000000 in
set_option maxRecDepth 20000 in
theorem rowText_any {Q : Nat → Prop} (w : World) (ao : Option Addr) (n cap : Nat) (l : List Int) (hn : Nums Q w (.slice ao n cap) l) (hl : l.length ≤ 30) (hf : Few l) :
    Calls Tryz.prog 27 #[.slice ao n cap] w fun e w' => (∃ t, e = .returned (.string ⟨List.toArray t⟩) ∧ RowT l t) ∧ w' = w := by
  obtain ⟨rfl, _, hc⟩ := nums_at hn
  by_cases h0 : l.length = 0
  · have h0' : ((l.length : Int) == 0) = true := by rw [h0]; rfl
    have HE := hide (List.eq_nil_of_length_eq_zero h0)
    clear hn hc h0
    go_enter Tryz.func27, Tryz.ntmps27
    go_wp2
    exact bodyPost_ret (v := .string ⟨(40 :: ([105, 111, 116, 97, 32, 48] ++ [41])).toArray⟩) (by simp [results, Tryz.results27, go_sem]) rfl ⟨⟨_, rfl, Or.inl ⟨unhide HE, rfl⟩⟩, rfl⟩
  · have h0' : ((l.length : Int) == 0) = false := by rw [beq_eq_false_iff_ne]; omega
    obtain ⟨b, off, rfl, hb, hcell⟩ := hc (by omega)
    have HC := hide hcell
    have HF := hide hf
    clear hn hc hcell hf
    go_enter Tryz.func27, Tryz.ntmps27
    go_wp2_with fail
    go_loopw [3, 4] (fun v3 v4 wr => ∃ (k : Nat) (t : List UInt8), v4 = .int .i64 k ∧ k ≤ l.length ∧ v3 = .string ⟨t.toArray⟩ ∧ Tail (l.take k) t ∧ t.length ≤ 4 * k ∧ wr = w) (fun _ v4 _ => l.length - (intOf v4).toNat)
    case atStart => exact ⟨0, [], rfl, by omega, rfl, Or.inl ⟨rfl, rfl⟩, by simp, rfl⟩
    case round =>
      obtain ⟨k, t, rfl, hk, rfl, hT, htl, rfl⟩ := hrel
      have HT := hide hT
      clear hT
      by_cases hkl : k < l.length
      · have c0 := unhide HC k hkl
        have hx := unhide HF _ (List.getElem_mem hkl)
        have HTk : Hid (l.take (k + 1) = l.take k ++ [l[k]]) := hide (by rw [List.take_succ_eq_append_getElem hkl])
        obtain ⟨x, hxe⟩ : ∃ x, l[k] = x := ⟨_, rfl⟩
        rw [hxe] at c0 hx HTk
        have HN := hide (fun w' => num_any x (by omega) w')
        have hk0 : (0 : Int) ≤ (k : Int) := by omega
        have hk1 : (k : Int) < (l.length : Int) := by omega
        clear hxe hx
        go_wp2_with fail
        refine (unhide HN _).mono ?_
        rintro e w' ⟨⟨s, rfl, hs, hsl⟩, rfl⟩
        have HS := hide hs
        clear hs
        go_wp2_with fail
        go_roundw
        case rel => exact ⟨k + 1, t ++ (32 :: s), by go_num, by omega, by rw [cat1], by rw [unhide HTk]; exact (unhide HT).snoc (unhide HS), by simp; omega, (by first | rfl | trivial)⟩
        case measure => simp [intOf]; omega
      · have hke : k = l.length := by omega
        subst hke
        go_wp2_with fail
        refine bodyPost_ret (v := .string ⟨([40, 114, 97, 118, 101, 108] ++ t ++ [41]).toArray⟩) (by simp [results, Tryz.results27, go_sem]; apply ba_ext; simp) rfl ⟨⟨_, rfl, Or.inr ?_⟩, rfl⟩
        have hT := unhide HT
        rw [List.take_of_length_le (Nat.le_refl _)] at hT
        rcases hT with ⟨rfl, _⟩ | ⟨u, rfl, hu⟩
        · exact absurd rfl h0
        · exact ⟨u, by simp, hu, by simp at htl; omega⟩
theorem tl_iota (r : List UInt8) : tl ([105, 111, 116, 97] ++ (32 :: r)) = some 4 := by
  have h : ([105, 111, 116, 97] ++ (32 :: r)).takeWhile lU = [105, 111, 116, 97] := rfl
  have hf : isFn [105, 111, 116, 97] = true := by decide +kernel
  show wrdE ([105, 111, 116, 97] ++ (32 :: r)) = some 4
  unfold wrdE
  rw [h]
  simp [hf]
theorem fn1_iota : Fn1 [105, 111, 116, 97] := ⟨⟨105, [111, 116, 97], rfl, by decide, by decide⟩, tl_iota, by decide +kernel, by decide +kernel⟩
theorem stop_take {c : UInt8} (hc : lU c = true) {r : List UInt8} (hr : StopN r) : ([c] ++ r).takeWhile lU = [c] := by
  cases r with
  | nil => simp [hc]
  | cons d r =>
    have : lU d = false := hr d rfl
    simp [hc, this]
theorem name1 {c : UInt8} (hl : lU c = true) (h32 : c ≠ 32) (ht : tailU c = false) (hf : isFn [c] = false) (hk : kindT ⟨#[c]⟩ = 1) (hr : roleT ⟨#[c]⟩ = 0) (htl : ∀ r, tl ([c] ++ r) = wrdE ([c] ++ r)) : NameT [c] := by
  refine ⟨⟨c, [], rfl, h32, ht⟩, fun r hr => ?_, hk, hr⟩
  rw [htl]
  unfold wrdE
  rw [stop_take hl hr]
  simp [hf]
theorem name_x : NameT [120] := name1 (by decide) (by decide) (by decide) (by decide +kernel) (by decide +kernel) (by decide +kernel) (fun _ => rfl)
end Go.Proofs.YtjobgpahajhbnaaGreatDoor
namespace Go.Proofs.YtjobgpahajhbnaaGreatDoor
open Go.RowKit Go.Proofs
attribute [local go_sem ↓] Go.wp_at_zero Go.wp_at_succ

def f1F (t : ByteArray) : Arr → Arr × Int := if t.data.toList.headD 0 = 105 then iotaP else fun a => (ravelP a, 0)
def f2F (t : ByteArray) : Arr → Arr → Arr × Int := if t.data.toList.headD 0 = 105 then inP else if t.data.toList.headD 0 = 97 then atP else keepP
def rowA (l : List Int) : Arr := ⟨[l.length], l⟩
def EnvOk (env : ByteArray → Option Arr) : Prop := ∀ t a, env t = some a → a.ok
theorem rowA_ok {l : List Int} (hl : l.length ≤ 64) (hf : ∀ c ∈ l, fit64 c) : (rowA l).ok := ⟨by simp [rowA], by simp [rowA]; omega, by simp [rowA, prodL], by simp [rowA]; omega, hf⟩
theorem EnvOk.upd {env : ByteArray → Option Arr} (h : EnvOk env) (nm : ByteArray) {a : Arr} (ha : a.ok) : EnvOk (upd env nm a) := by
  intro t b hb
  unfold YtjobgpahajhbnaaGreatDoor.upd at hb
  split at hb
  · cases hb; exact ha
  · exact h t b hb
theorem ravel_row {l : List Int} : ravelP (arrOf l) = rowA l := by
  unfold arrOf rowA ravelP
  split <;> rfl
theorem pay_more {r : Arr × Int} {p c : Nat} (h : r.2 = 0) (hl : r.1.cells.length ≤ 70) (hc : c ≤ 800) : payP 1000 r p c = .inr (r.1, c + (1 + r.1.cells.length)) := by
  unfold payP
  rw [if_neg (by simp [h]), if_neg (by omega)]
/-- the text of row, as a tree -/
theorem row_tw {l : List Int} {t : List UInt8} (h : RowT l t) (hl : l.length ≤ 64) (hf : ∀ c ∈ l, fit64 c) (p : Nat) : ∃ x, Tw 1 true p x t ∧ Good f1F f2F x ∧ ∀ env, ∃ c, c ≤ 100 ∧ evalE env 1000 f1F f2F x 0 = .inr (rowA l, c) := by
  rcases h with ⟨rfl, rfl⟩ | ⟨u, rfl, hu, hul⟩
  · refine ⟨.one ⟨#[105, 111, 116, 97]⟩ (p + 1) (.num [0]), Tw.br 0 p _ _ (Tw.one 0 (p + 1) [105, 111, 116, 97] (.num [0]) [48] fn1_iota (Tw.only _ _ _ _ (Tw.row 0 _ [0] [48] (NmRow.one 0 [48] nm_zero)))), ⟨iota_one, by simp, by simp, by intro c hc; simp at hc; subst hc; unfold fit64; omega⟩, fun env => ⟨1, by omega, ?_⟩⟩
    have hv : f1F ⟨#[105, 111, 116, 97]⟩ (arrOf [0]) = (rowA [], 0) := rfl
    simp only [evalE]
    rw [hv, pay_more rfl (by simp [rowA]) (by omega)]
    rfl
  · have h0 := row_pos hu
    refine ⟨.one ⟨#[114, 97, 118, 101, 108]⟩ (p + 1) (.num l), Tw.br 0 p _ _ (Tw.one 0 (p + 1) [114, 97, 118, 101, 108] (.num l) u fn1_ravel (Tw.only _ _ _ _ (Tw.row 0 _ l u hu))), ⟨ravel_one, h0, by omega, hf⟩, fun env => ⟨0 + (1 + l.length), by omega, ?_⟩⟩
    have hv : f1F ⟨#[114, 97, 118, 101, 108]⟩ (arrOf l) = (rowA l, 0) := by
      have : f1F ⟨#[114, 97, 118, 101, 108]⟩ = fun a => (ravelP a, 0) := rfl
      rw [this]
      show (ravelP (arrOf l), (0 : Int)) = _
      rw [ravel_row]
    simp only [evalE]
    rw [hv, pay_more rfl (by simp [rowA]; omega) (by omega)]
    rfl
theorem rowT_len {l : List Int} {t : List UInt8} (h : RowT l t) : t.length ≤ 10 + 4 * l.length := by
  rcases h with ⟨rfl, rfl⟩ | ⟨u, rfl, _, hu⟩
  · simp
  · simp; omega
theorem few_fit {l : List Int} (h : Few l) : ∀ c ∈ l, fit64 c := fun c hc => by have := h c hc; unfold fit64; omega
theorem cat_is (nm t : List UInt8) : (⟨nm.toArray⟩ : ByteArray) ++ ⟨#[32, 105, 115, 32]⟩ ++ ⟨t.toArray⟩ = ⟨(nm ++ ([32, 105, 115, 32] ++ t)).toArray⟩ := by
  apply ba_ext
  simp
set_option maxHeartbeats 400000 in
theorem set_any (S : Nat → Prop) (db : Nat) (env : ByteArray → Option Arr) (N : Nat) (nm : List UInt8) (hnm : NameT nm) (hnl : nm.length ≤ 4) (w : World) (hD : DkE S db env N w) (hN : N < 1000) (he : EnvOk env) (ko : Option Addr) (kn kc : Nat) (l : List Int) (hn : Nums S w (.slice ko kn kc) l) (hl : l.length ≤ 24) (hf : Few l) :
    Calls Tryz.prog 23 #[.pointer (some ⟨db, 0, none⟩), .string ⟨nm.toArray⟩, .slice ko kn kc] w fun e w' => e = .returned (.bool true) ∧ DkE S db (upd env ⟨nm.toArray⟩ (rowA l)) (N + 1) w' ∧ KeepS S w w' := by
  have HT := hide (rowText_any w ko kn kc l hn (by omega) hf)
  have HS : Hid (∀ t, RowT l t → Calls Tryz.prog 19 #[.pointer (some ⟨db, 0, none⟩), .string (⟨nm.toArray⟩ ++ ⟨#[32, 105, 115, 32]⟩ ++ ⟨t.toArray⟩), .slice ko kn kc] w fun e w' => e = .returned (.bool true) ∧ DkE S db (upd env ⟨nm.toArray⟩ (rowA l)) (N + 1) w' ∧ KeepS S w w') := hide (by
    intro t ht
    obtain ⟨x, h1, h2, h3⟩ := row_tw ht (by omega) (few_fit hf) (nm.length + 4)
    obtain ⟨c, _, hev⟩ := h3 env
    have htl := rowT_len ht
    have hs := says_named (db := db) (N := N) hnm (Tw.only _ _ _ _ h1) (by simp; omega) (by decide) hN he h2 hev (by simp [rowA]) (by simp [rowA]; omega)
    rw [cat_is]
    exact isRow_u S db env _ N (N + 1) _ l c hs w hD ko kn kc hn (by omega))
  clear hnm hD hN he hn hf
  go_enter Tryz.func23, Tryz.ntmps23
  go_wp2_with fail
  refine (unhide HT).mono ?_
  rintro e w' ⟨⟨t, rfl, ht⟩, rfl⟩
  have HTT := hide ht
  have htl := rowT_len ht
  have htl2 : t.length ≤ 200 := by omega
  clear ht htl
  go_wp2_with fail
  refine (unhide HS t (unhide HTT)).mono ?_
  rintro e w' ⟨rfl, h1, h2⟩
  have H1 := hide h1
  have H2 := hide h2
  clear h1 h2
  go_wp2_with fail
  exact bodyPost_ret (v := .bool true) (by simp [results, Tryz.results23, go_sem]) rfl ⟨rfl, unhide H1, unhide H2⟩
end Go.Proofs.YtjobgpahajhbnaaGreatDoor
namespace Go.Proofs.YtjobgpahajhbnaaGreatDoor
open Go.RowKit Go.Proofs

def xT : ByteArray := ⟨#[120]⟩
end Go.Proofs.YtjobgpahajhbnaaGreatDoor
namespace Go.Proofs.YtjobgpahajhbnaaGreatDoor
open Go.RowKit Go.Proofs

theorem pair_evens {F : Int → Int → Int × Int} (hf : ∀ x y, fit64 x → fit64 y → fit64 (F x y).1) : Evens (pairP F) where
  ok := fun a b ha hb h => (pairP_ok hf ha hb).2 h
  shape := fun a b ha hb hs h0 => by
    unfold pairP at h0 ⊢
    have hz : ∀ {sh : List Nat} {xs ys : List Int}, (zipA F sh xs ys).2 = 0 → (zipA F sh xs ys).1.shape = sh := by
      intro sh xs ys h
      unfold zipA at h ⊢
      cases hc : zipF F xs ys with
      | inl e => rw [hc] at h; exact absurd h (zip_err hc)
      | inr l => rfl
    split
    · rename_i h1
      rw [if_pos h1] at h0
      rw [hz h0, ← hs]
    · rename_i h1
      rw [if_neg h1] at h0
      split
      · rename_i h2
        exact absurd (hs.trans h2) h1
      · rename_i h2
        rw [if_neg h2, if_neg (by simp [hs]), if_neg (by simp [hs])] at h0
        rw [if_neg (by simp [hs]), if_neg (by simp [hs]), hz h0]
theorem pair_sc {F : Int → Int → Int × Int} {x y : Int} (h : (F x y).2 = 0) : pairP F (arrOf [x]) (arrOf [y]) = (arrOf [(F x y).1], 0) := by
  simp [pairP, arrOf, zipA, zipF, h]
/-- a g (b g (.. g z)), of numbers -/
def chainN (g : Int → Int → Int) : List Int → Int
  | [] => 0
  | x :: r => if r = [] then x else g x (chainN g r)
theorem chainN_one (g : Int → Int → Int) (x : Int) : chainN g [x] = x := by simp [chainN]
theorem chainN_cons {g : Int → Int → Int} {x : Int} {r : List Int} (h : r ≠ []) : chainN g (x :: r) = g x (chainN g r) := by rw [chainN, if_neg h]
theorem chain_nums {F : Int → Int → Int × Int} (hF : ∀ x y, (F x y).2 = 0) : ∀ {l : List Int}, l ≠ [] → chainL (pairP F) (l.map fun x => arrOf [x]) = (arrOf [chainN (fun x y => (F x y).1) l], 0)
  | [], h => absurd rfl h
  | x :: r, _ => by
    by_cases hr : r = []
    · subst hr
      rw [List.map_cons, List.map_nil, chain_one, chainN_one]
    · have ih := chain_nums hF hr
      rw [List.map_cons, chain_cons (by simpa using hr) (by rw [ih]), ih, pair_sc (hF _ _), chainN_cons hr]
      simp
theorem row_last (l : List Int) : lastN (rowA l).shape = l.length := by simp [rowA, lastN]
theorem row_cols (l : List Int) : cols (rowA l) = l.map fun x => arrOf [x] := by
  apply List.ext_getElem
  · rw [cols_len, row_last]; simp
  · intro i h1 h2
    have hi : i < l.length := by simpa using h2
    rw [cols_at h1, List.getElem_map]
    unfold col
    rw [row_last]
    have hp : prodL (rowA l).shape.dropLast = 1 := rfl
    rw [hp]
    unfold arrOf
    rw [if_pos (by rfl)]
    simp [rowA, colC, hi]
theorem fits_none : fitsB [] = true := by decide
/-- what a fold makes of a row -/
def foldN (g : Int → Int → Int) (z : Int) (l : List Int) : Int := if l = [] then z else chainN g l
theorem fold_row {F : Int → Int → Int × Int} (hF : ∀ x y, (F x y).2 = 0) (z : Int) (l : List Int) : foldP (pairP F) z (rowA l) = (arrOf [foldN (fun x y => (F x y).1) z l], 0) := by
  unfold foldP foldN
  have hd : (rowA l).shape.dropLast = [] := rfl
  rw [if_neg (by simp [rowA]), hd, fits_none, if_neg (by simp), row_last]
  by_cases h : l = []
  · subst h
    rfl
  · rw [if_neg (by simpa using h), if_neg h, row_cols, chain_nums hF h]
theorem fold_none (F : Int → Int → Int × Int) (z : Int) : foldP (pairP F) z (rowA []) = (arrOf [z], 0) := rfl
/-- .. and a scan -/
def scanN (g : Int → Int → Int) (l : List Int) : List Int := (List.range l.length).map fun i => chainN g (l.take (i + 1))
theorem scan_row {F : Int → Int → Int × Int} (hF : ∀ x y, (F x y).2 = 0) (l : List Int) : scanP (pairP F) (rowA l) = (rowA (scanN (fun x y => (F x y).1) l), 0) := by
  have hch : ∀ i, i < l.length → chainL (pairP F) ((cols (rowA l)).take (i + 1)) = (arrOf [chainN (fun x y => (F x y).1) (l.take (i + 1))], 0) := fun i hi => by
    rw [row_cols, ← List.map_take, chain_nums hF]
    intro e
    have := congrArg List.length e
    simp at this
    subst this
    simp at hi
  have hE : ∀ k, k ≤ l.length → scanE (pairP F) (cols (rowA l)) k = 0 := by
    intro k
    induction k with
    | zero => intro _; rfl
    | succ k ih =>
      intro hk
      rw [scanE, if_neg (by rw [ih (by omega)]; simp), hch k (by omega)]
  unfold scanP
  rw [if_neg (by simp [rowA]), row_last, if_neg (by rw [hE _ (Nat.le_refl _)]; simp)]
  have hp : prodL (rowA l).shape.dropLast = 1 := rfl
  have hl : scanC (pairP F) (cols (rowA l)) 1 l.length l.length = scanN (fun x y => (F x y).1) l := by
    unfold scanC scanN
    rw [Nat.one_mul]
    apply List.map_congr_left
    intro p hp
    have hp : p < l.length := by simpa using hp
    rw [Nat.mod_eq_of_lt hp, if_pos hp, hch p hp, Nat.div_eq_of_lt hp]
    rfl
  rw [hp, hl]
  simp [rowA, scanN]
theorem scanN_len (g : Int → Int → Int) (l : List Int) : (scanN g l).length = l.length := by simp [scanN]
theorem scanN_at {g : Int → Int → Int} {l : List Int} {i : Nat} (hi : i < l.length) : (scanN g l)[i]? = some (chainN g (l.take (i + 1))) := by
  simp [scanN, hi]
/-- the sum by turns -/
def altL : List Int → Int
  | [] => 0
  | x :: r => x - altL r
def sgn (n : Nat) : Int := if n % 2 = 0 then 1 else -1
theorem sgn_succ (n : Nat) : sgn (n + 1) = -sgn n := by
  unfold sgn
  by_cases h : n % 2 = 0
  · rw [if_pos h, if_neg (by omega)]
  · rw [if_neg h, if_pos (by omega)]; rfl
theorem sgn_two (n : Nat) : sgn n = 1 ∨ sgn n = -1 := by
  unfold sgn
  split <;> simp
theorem alt_snoc (x : Int) : ∀ l : List Int, altL (l ++ [x]) = altL l + sgn l.length * x
  | [] => by simp [altL, sgn]
  | y :: r => by
    rw [List.cons_append, altL, alt_snoc x r, altL, List.length_cons, sgn_succ, Int.neg_mul]
    omega
def lstL (l : List Int) : Int := l.foldr min 9223372036854775807
def grtL (l : List Int) : Int := l.foldr max (-9223372036854775808)
theorem lst_cons (x : Int) (l : List Int) : lstL (x :: l) = min x (lstL l) := rfl
theorem grt_cons (x : Int) (l : List Int) : grtL (x :: l) = max x (grtL l) := rfl
theorem lst_snoc (x : Int) (hx : fit64 x) : ∀ l : List Int, lstL (l ++ [x]) = min (lstL l) x
  | [] => by unfold fit64 at hx; simp [lstL]; omega
  | y :: r => by
    rw [List.cons_append, lst_cons, lst_snoc x hx r, lst_cons]
    omega
theorem grt_snoc (x : Int) (hx : fit64 x) : ∀ l : List Int, grtL (l ++ [x]) = max (grtL l) x
  | [] => by unfold fit64 at hx; simp [grtL]; omega
  | y :: r => by
    rw [List.cons_append, grt_cons, grt_snoc x hx r, grt_cons]
    omega
theorem few_tail {x : Int} {l : List Int} (h : Few (x :: l)) : Few l := fun c hc => h c (List.mem_cons_of_mem _ hc)
theorem few_take {l : List Int} (h : Few l) (n : Nat) : Few (l.take n) := fun c hc => h c (List.mem_of_mem_take hc)
theorem sum_few : ∀ {l : List Int}, Few l → -(60 * (l.length : Int)) ≤ l.sum ∧ l.sum ≤ 60 * (l.length : Int)
  | [], _ => by simp
  | x :: r, h => by
    have h1 := h x (by simp)
    have h2 := sum_few (few_tail h)
    rw [List.sum_cons, List.length_cons]
    omega
theorem alt_few : ∀ {l : List Int}, Few l → -(60 * (l.length : Int)) ≤ altL l ∧ altL l ≤ 60 * (l.length : Int)
  | [], _ => by simp [altL]
  | x :: r, h => by
    have h1 := h x (by simp)
    have h2 := alt_few (few_tail h)
    rw [altL, List.length_cons]
    omega
theorem wrap_id {a : Int} (h : -100000 ≤ a) (h' : a ≤ 100000) : wrap64 a = a := by
  unfold wrap64
  omega
theorem chain_plus : ∀ {l : List Int}, Few l → l.length ≤ 64 → l ≠ [] → chainN (fun x y => (plusF x y).1) l = l.sum
  | [], _, _, h => absurd rfl h
  | x :: r, hf, hl, _ => by
    simp at hl
    by_cases hr : r = []
    · subst hr; rw [chainN_one]; simp
    · have h1 := hf x (by simp)
      have h2 := sum_few (few_tail hf)
      rw [chainN_cons hr, chain_plus (few_tail hf) (by omega) hr, List.sum_cons]
      show wrap64 (x + r.sum) = _
      exact wrap_id (by omega) (by omega)
theorem chain_minus : ∀ {l : List Int}, Few l → l.length ≤ 64 → l ≠ [] → chainN (fun x y => (minusF x y).1) l = altL l
  | [], _, _, h => absurd rfl h
  | x :: r, hf, hl, _ => by
    simp at hl
    by_cases hr : r = []
    · subst hr; rw [chainN_one]; simp [altL]
    · have h1 := hf x (by simp)
      have h2 := alt_few (few_tail hf)
      rw [chainN_cons hr, chain_minus (few_tail hf) (by omega) hr, altL]
      show wrap64 (x - altL r) = _
      exact wrap_id (by omega) (by omega)
theorem chain_lesser : ∀ {l : List Int}, Few l → l ≠ [] → chainN (fun x y => (lesserF x y).1) l = lstL l
  | [], _, h => absurd rfl h
  | x :: r, hf, _ => by
    have h1 := hf x (by simp)
    by_cases hr : r = []
    · subst hr; rw [chainN_one]; simp [lstL]; omega
    · rw [chainN_cons hr, chain_lesser (few_tail hf) hr, lst_cons]
      rfl
theorem chain_greater : ∀ {l : List Int}, Few l → l ≠ [] → chainN (fun x y => (greaterF x y).1) l = grtL l
  | [], _, h => absurd rfl h
  | x :: r, hf, _ => by
    have h1 := hf x (by simp)
    by_cases hr : r = []
    · subst hr; rw [chainN_one]; simp [grtL]; omega
    · rw [chainN_cons hr, chain_greater (few_tail hf) hr, grt_cons]
      rfl
theorem fold_plus {l : List Int} (hf : Few l) (hl : l.length ≤ 64) : foldN (fun x y => (plusF x y).1) 0 l = l.sum := by
  unfold foldN
  by_cases h : l = []
  · subst h; simp
  · rw [if_neg h, chain_plus hf hl h]
theorem fold_minus {l : List Int} (hf : Few l) (hl : l.length ≤ 64) : foldN (fun x y => (minusF x y).1) 0 l = altL l := by
  unfold foldN
  by_cases h : l = []
  · subst h; simp [altL]
  · rw [if_neg h, chain_minus hf hl h]
theorem fold_lesser {l : List Int} (hf : Few l) : foldN (fun x y => (lesserF x y).1) 9223372036854775807 l = lstL l := by
  unfold foldN
  by_cases h : l = []
  · subst h; rfl
  · rw [if_neg h, chain_lesser hf h]
theorem fold_greater {l : List Int} (hf : Few l) : foldN (fun x y => (greaterF x y).1) (-9223372036854775808) l = grtL l := by
  unfold foldN
  by_cases h : l = []
  · subst h; rfl
  · rw [if_neg h, chain_greater hf h]
theorem take_ne {l : List Int} {i : Nat} (hi : i < l.length) : l.take (i + 1) ≠ [] := by
  intro e
  have := congrArg List.length e
  simp at this
  subst this
  simp at hi
theorem scan_plus {l : List Int} (hf : Few l) (hl : l.length ≤ 64) {i : Nat} (hi : i < l.length) : (scanN (fun x y => (plusF x y).1) l)[i]? = some (l.take (i + 1)).sum := by
  rw [scanN_at hi, chain_plus (few_take hf _) (by simp; omega) (take_ne hi)]
theorem scan_minus {l : List Int} (hf : Few l) (hl : l.length ≤ 64) {i : Nat} (hi : i < l.length) : (scanN (fun x y => (minusF x y).1) l)[i]? = some (altL (l.take (i + 1))) := by
  rw [scanN_at hi, chain_minus (few_take hf _) (by simp; omega) (take_ne hi)]
theorem scan_lesser {l : List Int} (hf : Few l) {i : Nat} (hi : i < l.length) : (scanN (fun x y => (lesserF x y).1) l)[i]? = some (lstL (l.take (i + 1))) := by
  rw [scanN_at hi, chain_lesser (few_take hf _) (take_ne hi)]
theorem few_rev {l : List Int} (h : Few l) : Few l.reverse := fun c hc => h c (by simpa using hc)
theorem sum_rev : ∀ l : List Int, l.reverse.sum = l.sum
  | [] => rfl
  | x :: r => by
    rw [List.reverse_cons, List.sum_append, sum_rev r, List.sum_cons]
    simp
    omega
theorem few_neg {l : List Int} (h : Few l) : Few (l.map negatedF) := fun c hc => by
  obtain ⟨x, hx, rfl⟩ := List.mem_map.1 hc
  have := h x hx
  have e : negatedF x = -x := by unfold negatedF wrap64; omega
  rw [e]
  omega
theorem grt_neg : ∀ {l : List Int}, Few l → l ≠ [] → negatedF (lstL (l.map negatedF)) = grtL l ∧ -60 ≤ grtL l ∧ grtL l ≤ 60 ∧ lstL (l.map negatedF) = -grtL l
  | [], _, h => absurd rfl h
  | x :: r, hf, _ => by
    have h1 := hf x (by simp)
    have e : negatedF x = -x := by unfold negatedF wrap64; omega
    have hn : ∀ y : Int, -100 ≤ y → y ≤ 100 → negatedF y = -y := fun y h h' => by unfold negatedF wrap64; omega
    rw [List.map_cons, lst_cons, grt_cons, e]
    by_cases hr : r = []
    · subst hr
      have a1 : min (-x) (lstL (List.map negatedF [])) = -x := by simp [lstL]; omega
      have a2 : max x (grtL []) = x := by simp [grtL]; omega
      rw [a1, a2, hn _ (by omega) (by omega)]
      exact ⟨by omega, by omega, by omega, rfl⟩
    · obtain ⟨_, i2, i3, i4⟩ := grt_neg (few_tail hf) hr
      rw [i4, hn _ (by omega) (by omega)]
      exact ⟨by omega, by omega, by omega, by omega⟩
theorem sum_take {l : List Int} {i : Nat} {x : Int} (h : l[i]? = some x) : (l.take (i + 1)).sum = (l.take i).sum + x := by
  rw [List.take_add_one, h, List.sum_append]
  simp
theorem alt_take {l : List Int} {i : Nat} {x : Int} (h : l[i]? = some x) : altL (l.take (i + 1)) = altL (l.take i) + sgn i * x := by
  have hi : i < l.length := (List.getElem?_eq_some_iff.1 h).1
  rw [List.take_add_one, h, show (some x).toList = [x] from rfl, alt_snoc, List.length_take, Nat.min_eq_left (by omega)]
theorem lst_take {l : List Int} {i : Nat} {x : Int} (h : l[i]? = some x) (hx : fit64 x) : lstL (l.take (i + 1)) = min (lstL (l.take i)) x := by
  rw [List.take_add_one, h, show (some x).toList = [x] from rfl, lst_snoc x hx]
theorem grt_take {l : List Int} {i : Nat} {x : Int} (h : l[i]? = some x) (hx : fit64 x) : grtL (l.take (i + 1)) = max (grtL (l.take i)) x := by
  rw [List.take_add_one, h, show (some x).toList = [x] from rfl, grt_snoc x hx]
end Go.Proofs.YtjobgpahajhbnaaGreatDoor
namespace Go.Proofs.YtjobgpahajhbnaaGreatDoor
open Go.RowKit Go.Proofs Go.Maps
attribute [local go_sem ↓] Go.wp_at_zero Go.wp_at_succ

theorem form_fn {h g : Nat} {z : Int} (hh : Enters Tryz.prog h) {F : Arr → Arr × Int} {w' : World} (hF : ∀ (P : Nat → Prop) (W : World), Below w'.heap.size w' W → (∀ b, W.heap.size ≤ b → P b) → ∀ (so : Option Addr) (sn sc : Nat) (co : Option Addr) (cn cc : Nat) (a : Arr), IsArr P W (.agg #[.slice so sn sc, .slice co cn cc]) a → a.ok → Calls Tryz.prog h #[.agg #[.slice so sn sc, .slice co cn cc], .agg #[.func (.func g) #[] #[], .int .i64 z]] W fun e W' => ∃ so sn sc co cn cc, e = .returned (.tuple #[.agg #[.slice so sn sc, .slice co cn cc], .int .i64 (F a).2]) ∧ IsArr P W' (.agg #[.slice so sn sc, .slice co cn cc]) (F a).1 ∧ Below W.heap.size W W')
    {b3 b4 : Nat} (c3 : w'.cell? ⟨b3, 0, none⟩ = some (.func (.func h) #[] #[])) (l3 : b3 < w'.heap.size) (c4 : w'.cell? ⟨b4, 0, none⟩ = some (.func (.func g) #[] #[])) (c5 : w'.cell? ⟨b4, 1, none⟩ = some (.int .i64 z)) (l4 : b4 < w'.heap.size) : FnOne 155 #[.pointer (some ⟨b3, 0, none⟩), .pointer (some ⟨b4, 0, none⟩)] w' F := by
  intro W P v a hW hP hA hok
  have hA0 := hA
  obtain ⟨so, sn, sc, co, cn, cc, rfl, _, _⟩ := hA0
  show Calls Tryz.prog 155 #[.agg #[.slice so sn sc, .slice co cn cc], .pointer (some ⟨b3, 0, none⟩), .pointer (some ⟨b4, 0, none⟩)] W _
  have d3 := (hW.cell (p := ⟨b3, 0, none⟩) l3).trans c3
  have d4 := (hW.cell (p := ⟨b4, 0, none⟩) l4).trans c4
  have d5 := (hW.cell (p := ⟨b4, 1, none⟩) l4).trans c5
  have hsz := hW.size
  have k3 : b3 < W.heap.size := by omega
  have k4 : b4 < W.heap.size := by omega
  have hen2 : ∀ args w, (callFunc h args).run Tryz.prog w = .ok (.enter h args) w := hh
  have hst : Bx W ((W.alloc (.cells #[.slice so sn sc, .slice co cn cc] 89)).alloc (.cells #[.slice none 0 0, .slice none 0 0] 89)) [[.slice so sn sc, .slice co cn cc], [.slice none 0 0, .slice none 0 0]] := ((Bx.nil W).alloc (by simp) [.slice so sn sc, .slice co cn cc] 89).alloc (by simp) [.slice none 0 0, .slice none 0 0] 89
  have HST := hide hst
  have HC := hide (hF (OffB W.heap.size 2 P) _ (hW.trans (hst.below.mono hsz)) (fun b hb => OffB.new hP (by have := hst.lt; simp at hb; omega)) so sn sc co cn cc a ((hA.imp (Q := OffB W.heap.size 2 P) (fun b h hl => ⟨h, Or.inl hl⟩)).below hst.below) hok)
  clear hst hA hok hP hF hh c3 l3 c4 c5 l4 hW hsz
  go_enter Tryz.func155, Tryz.ntmps155
  go_wp2_with (go_at_fn h; refine (unhide HC).mono ?_)
  rintro e w2 ⟨s4, s5, s6, c4, c5, c6, rfl, hA5, hb5⟩
  have HX := hide ((unhide HST).next hb5)
  have HA5 := hide hA5
  clear hA5 hb5 HST HC d3 d4 d5
  have r0 : w2.cell? ⟨W.heap.size + 1, 0, none⟩ = some (.slice none 0 0) := ((unhide HX).cell 1 0 _ rfl).1
  have r1 : w2.cell? ⟨W.heap.size + 1, 1, none⟩ = some (.slice none 0 0) := ((unhide HX).cell 1 1 _ rfl).1
  have g0 : w2.frozen? ⟨W.heap.size + 1, 0, none⟩ = false := ((unhide HX).cell 1 0 _ rfl).2
  have g1 : w2.frozen? ⟨W.heap.size + 1, 1, none⟩ = false := ((unhide HX).cell 1 1 _ rfl).2
  go_wp2_with fail
  have hf2 := fin_bx (q := 1) (u0 := .slice s4 s5 s6) (u1 := .slice c4 c5 c6) (unhide HX).below (by decide) (unhide HA5)
  exact bodyPost_ret (v := .tuple #[.agg #[.slice s4 s5 s6, .slice c4 c5 c6], .int .i64 (F a).2]) (by simp [results, Tryz.results155, go_sem, r0, r1]) rfl ⟨_, _, _, _, _, _, rfl, hf2.1, hf2.2⟩
theorem Tryz.enters155 : Enters Tryz.prog 155 := Go.Proofs.enters_of Tryz.func155 (by decide) rfl
theorem Tryz.enters177 : Enters Tryz.prog 177 := Go.Proofs.enters_of Tryz.func177 (by decide) rfl
theorem Tryz.enters178 : Enters Tryz.prog 178 := Go.Proofs.enters_of Tryz.func178 (by decide) rfl
theorem fold_c {t : ByteArray} {ks : Lit} {g : Nat} {z : Int} {f : Arr → Arr → Arr × Int} (h1 : 1 ≤ t.size) (hk1 : keyOf Tryz.prog 9 (.string (t.extract 1 t.size)) = some (.string [47])) (hks : keyOf Tryz.prog 9 (.string (t.extract 0 1)) = some ks) (has : signsD.atKey ks (.held zSign) = .held (.agg #[.func (.func g) #[] #[], .int .i64 z])) (hen : Enters Tryz.prog g) (hfn : ∀ w, FnTwo g #[] w f) (hev : Evens f) (hz : fit64 z) : OneC t (foldP f z) where
  finds := fun w => (find_form h1 hk1 (show formsOneD.atKey (.string [47]) (.held .nilFunc) = .held (.func (.func 177) #[] #[]) by kernel_rfl) hks has w).mono (by
    rintro e w' ⟨b3, b4, rfl, c3, l3, c4, c5, l4, hb⟩
    exact ⟨155, _, rfl, Tryz.enters155, hb, form_fn Tryz.enters177 (fun P W hW hP so sn sc co cn cc a ha hok => fold_any z hen (hfn w') hev P W hW hP so sn sc co cn cc a ha hok) c3 l3 c4 c5 l4⟩)
  ok := fun a ha => fold_ok hev hz ha
theorem scan_c {t : ByteArray} {ks : Lit} {g : Nat} {z : Int} {f : Arr → Arr → Arr × Int} (h1 : 1 ≤ t.size) (hk1 : keyOf Tryz.prog 9 (.string (t.extract 1 t.size)) = some (.string [92])) (hks : keyOf Tryz.prog 9 (.string (t.extract 0 1)) = some ks) (has : signsD.atKey ks (.held zSign) = .held (.agg #[.func (.func g) #[] #[], .int .i64 z])) (hen : Enters Tryz.prog g) (hfn : ∀ w, FnTwo g #[] w f) (hev : Evens f) : OneC t (scanP f) where
  finds := fun w => (find_form h1 hk1 (show formsOneD.atKey (.string [92]) (.held .nilFunc) = .held (.func (.func 178) #[] #[]) by kernel_rfl) hks has w).mono (by
    rintro e w' ⟨b3, b4, rfl, c3, l3, c4, c5, l4, hb⟩
    exact ⟨155, _, rfl, Tryz.enters155, hb, form_fn Tryz.enters178 (fun P W hW hP so sn sc co cn cc a ha hok => scan_any z hen (hfn w') hev P W hW hP so sn sc co cn cc a ha hok) c3 l3 c4 c5 l4⟩)
  ok := fun a ha => scan_ok hev ha
theorem sum_one : OneC ⟨#[43, 47]⟩ (foldP (pairP plusF) 0) := fold_c (by decide) (by kernel_rfl) (ks := .string [43]) (by kernel_rfl) (by kernel_rfl) Tryz.enters190 plus_fn (pair_evens plus_rule.fits) (by unfold fit64; omega)
theorem alt_one : OneC ⟨#[45, 47]⟩ (foldP (pairP minusF) 0) := fold_c (by decide) (by kernel_rfl) (ks := .string [45]) (by kernel_rfl) (by kernel_rfl) Tryz.enters191 minus_fn (pair_evens minus_rule.fits) (by unfold fit64; omega)
theorem prod_one : OneC ⟨#[42, 47]⟩ (foldP (pairP timesF) 1) := fold_c (by decide) (by kernel_rfl) (ks := .string [42]) (by kernel_rfl) (by kernel_rfl) Tryz.enters192 times_fn (pair_evens times_rule.fits) (by unfold fit64; omega)
theorem quot_one : OneC ⟨#[37, 47]⟩ (foldP (pairP overF) 1) := fold_c (by decide) (by kernel_rfl) (ks := .string [37]) (by kernel_rfl) (by kernel_rfl) Tryz.enters193 over_fn (pair_evens over_rule.fits) (by unfold fit64; omega)
theorem rests_one : OneC ⟨#[124, 47]⟩ (foldP (pairP restF) 0) := fold_c (by decide) (by kernel_rfl) (ks := .string [124]) (by kernel_rfl) (by kernel_rfl) Tryz.enters194 rest_fn (pair_evens rest_rule.fits) (by unfold fit64; omega)
theorem least_one : OneC ⟨#[38, 47]⟩ (foldP (pairP lesserF) 9223372036854775807) := fold_c (by decide) (by kernel_rfl) (ks := .string [38]) (by kernel_rfl) (by kernel_rfl) Tryz.enters195 lesser_fn (pair_evens lesser_rule.fits) (by unfold fit64; omega)
theorem most_one : OneC ⟨#[33, 47]⟩ (foldP (pairP greaterF) (-9223372036854775808)) := fold_c (by decide) (by kernel_rfl) (ks := .string [33]) (by kernel_rfl) (by kernel_rfl) Tryz.enters196 greater_fn (pair_evens greater_rule.fits) (by unfold fit64; omega)
theorem sames_one : OneC ⟨#[61, 47]⟩ (foldP (pairP sameF) 1) := fold_c (by decide) (by kernel_rfl) (ks := .string [61]) (by kernel_rfl) (by kernel_rfl) Tryz.enters197 same_fn (pair_evens same_rule.fits) (by unfold fit64; omega)
theorem belows_one : OneC ⟨#[60, 47]⟩ (foldP (pairP belowF) 0) := fold_c (by decide) (by kernel_rfl) (ks := .string [60]) (by kernel_rfl) (by kernel_rfl) Tryz.enters198 below_fn (pair_evens below_rule.fits) (by unfold fit64; omega)
theorem sums_one : OneC ⟨#[43, 92]⟩ (scanP (pairP plusF)) := scan_c (z := 0) (by decide) (by kernel_rfl) (ks := .string [43]) (by kernel_rfl) (by kernel_rfl) Tryz.enters190 plus_fn (pair_evens plus_rule.fits)
theorem alts_one : OneC ⟨#[45, 92]⟩ (scanP (pairP minusF)) := scan_c (z := 0) (by decide) (by kernel_rfl) (ks := .string [45]) (by kernel_rfl) (by kernel_rfl) Tryz.enters191 minus_fn (pair_evens minus_rule.fits)
theorem leasts_one : OneC ⟨#[38, 92]⟩ (scanP (pairP lesserF)) := scan_c (z := 9223372036854775807) (by decide) (by kernel_rfl) (ks := .string [38]) (by kernel_rfl) (by kernel_rfl) Tryz.enters195 lesser_fn (pair_evens lesser_rule.fits)
end Go.Proofs.YtjobgpahajhbnaaGreatDoor
namespace Go.Proofs.YtjobgpahajhbnaaGreatDoor
open Go.RowKit Go.Proofs Go.Shelf
attribute [local go_sem] Oper.semAt_some

/-- a part of a row of n: where it begins, how long it is -/
abbrev Part (n : Nat) := { p : Nat × Nat // p.1 + p.2 ≤ n ∧ 0 < p.2 }
/-- the two boxes that the library's closure reads -/
def KpB (bs bn : Nat) (W W' : World) : Prop := W'.heap[bs]? = W.heap[bs]? ∧ W'.heap[bn]? = W.heap[bn]?
theorem KpB.refl {bs bn : Nat} (W : World) : KpB bs bn W W := ⟨rfl, rfl⟩
theorem KpB.trans {bs bn : Nat} {A B C : World} (h : KpB bs bn A B) (k : KpB bs bn B C) : KpB bs bn A C := ⟨k.1.trans h.1, k.2.trans h.2⟩
def chunkAt (n c k : Nat) (hc : 0 < c) (h : k * c < n) : Part n := ⟨(k * c, min c (n - k * c)), by omega, by simp; omega⟩
/-- the parts of a row, each of c but the last -/
def partsL (n c : Nat) (hc : 0 < c) : Nat → List (Part n)
  | 0 => []
  | k + 1 => if h : k * c < n then partsL n c hc k ++ [chunkAt n c k hc h] else partsL n c hc k
theorem partsL_len {n c : Nat} (hc : 0 < c) (k : Nat) : (partsL n c hc k).length ≤ k := by
  induction k with
  | zero => simp [partsL]
  | succ k ih =>
    unfold partsL
    split
    · simp; omega
    · omega
theorem partsL_end {n c k : Nat} (hc : 0 < c) (h : n ≤ k * c) : ∀ j, k ≤ j → partsL n c hc j = partsL n c hc k
  | 0, hj => by rw [show k = 0 by omega]
  | j + 1, hj => by
    by_cases e : k = j + 1
    · rw [e]
    · have hkj : k * c ≤ j * c := Nat.mul_le_mul_right _ (by omega)
      rw [partsL, dif_neg (by omega)]
      exact partsL_end hc h j (by omega)
theorem partsL_succ {n c k : Nat} (hc : 0 < c) (h : k * c < n) : partsL n c hc (k + 1) = partsL n c hc k ++ [chunkAt n c k hc h] := by
  rw [partsL, dif_pos h]
set_option maxRecDepth 100000 in
set_option maxHeartbeats 2000000 in
theorem chunk1_in (n : Nat) (hn : 1 ≤ n) (l bs bn b off len cap c : Nat) (hc : 0 < c) (hcl : c ≤ 1000) (hlen : len ≤ 1000) (hcap : len ≤ cap) (J Jx : List (Part len) → World → Prop)
    (hJ : ∀ pre W, J pre W → J pre W.drew)
    (hY : ∀ pre x W, J pre W → pre.length < len → YieldAt Fence.wide (n - 1) Tryz.prog l #[.slice (some ⟨b, off + x.1.1, none⟩) x.1.2 x.1.2] W fun e W' =>
      (e = .returned (.bool true) ∧ J (pre ++ [x]) W' ∧ KpB bs bn W W') ∨ (e = .returned (.bool false) ∧ Jx (pre ++ [x]) W'))
    (W : World) (h1 : W.cell? ⟨bs, 0, none⟩ = some (.slice (some ⟨b, off, none⟩) len cap)) (h2 : W.cell? ⟨bn, 0, none⟩ = some (.int .i64 c)) (h0 : J [] W) :
    CallsIn Fence.wide n Tryz.prog 274 #[.func (.yield l) #[] #[], .pointer (some ⟨bs, 0, none⟩), .pointer (some ⟨bn, 0, none⟩)] W fun e W' => (∃ v, e = .returned v) ∧
      ((∃ ys, ys = partsL len c hc len ∧ J ys W') ∨ (∃ pre, Jx pre W')) := by
  have hd1 : ∀ W' : World, KpB bs bn W W' → W'.cell? ⟨bs, 0, none⟩ = some (.slice (some ⟨b, off, none⟩) len cap) := fun W' h => (World.cell?_of_block h.1).trans h1
  have hd2 : ∀ W' : World, KpB bs bn W W' → W'.cell? ⟨bn, 0, none⟩ = some (.int .i64 c) := fun W' h => (World.cell?_of_block h.2).trans h2
  refine callsIn_of_wp Tryz.func274 rfl trivial ?_ rfl
  simp only [Tryz.ntmps274, List.size_toArray, List.length_cons, List.length_nil, Nat.reduceAdd, Nat.reduceSub, Array.replicate_succ, Array.replicate_zero, List.push_toArray, List.append_toArray, List.nil_append, List.cons_append]
  gi_wp2
  gi_loopw [4] (fun v4 wr => ∃ k i : Nat, v4 = .int .i64 i ∧ i = k * c ∧ k ≤ len ∧ i < len + c ∧ J (partsL len c hc k) wr ∧ KpB bs bn W wr) (fun v4 _ => len + c - (intOf v4).toNat)
  case atStart => exact ⟨0, 0, rfl, by simp, by omega, by omega, h0, KpB.refl W⟩
  case round =>
    obtain ⟨k, i, rfl, hik, hkl, hib, hJs, hK⟩ := hrel
    have c1 := hd1 _ hK
    have c2 := hd2 _ hK
    by_cases hlt : i < len
    · have hlt' : k * c < len := by rw [← hik]; exact hlt
      have hpl := partsL_len (n := len) hc k
      have hk1 : k < len := by
        have : k ≤ k * c := Nat.le_mul_of_pos_right _ hc
        omega
      obtain ⟨e, he⟩ : ∃ e, min c (len - i) = e := ⟨_, rfl⟩
      have hYk := hY (partsL len c hc k) (chunkAt len c k hc hlt')
      have e1 : (chunkAt len c k hc hlt').1.1 = i := hik.symm
      have e2 : (chunkAt len c k hc hlt').1.2 = e := by show min c (len - k * c) = e; rw [← hik]; exact he
      rw [e1, e2] at hYk
      have hsu := partsL_succ hc hlt'
      rw [← hsu] at hYk
      obtain ⟨u, hu⟩ : ∃ u, i + e = u := ⟨_, rfl⟩
      have hi0 : (0 : Int) ≤ (i : Int) := by omega
      have hi1 : (i : Int) < (len : Int) := by omega
      have hi2 : (i : Int) ≤ (len : Int) := by omega
      have hmin : min (c : Int) ((len - i : Nat) : Int) = (e : Int) := by omega
      have hmin2 : min (c : Int) ((len : Int) - (i : Int)) = (e : Int) := by omega
      have hul : u ≤ len := by omega
      have hiu : i ≤ u := by omega
      have hiu1 : (i : Int) ≤ (u : Int) := by omega
      have hiu2 : (u : Int) ≤ (cap : Int) := by omega
      have hui : u - i = e := by omega
      have had : (if u = i then some (⟨b, off, none⟩ : Addr) else some ⟨b, off + i, none⟩) = some ⟨b, off + i, none⟩ := if_neg (by omega)
      have hw1 : IntKind.i64.wrap ((i : Int) + (e : Int)) = (u : Int) := by
        have e : (i : Int) + (e : Int) = (u : Int) := by omega
        rw [e]
        exact wrap_pos (by omega) (by omega)
      obtain ⟨fn, tmps, assign, body, hy, hR⟩ := hYk wr.drew (hJ _ _ hJs) (by omega)
      have hw2 : IntKind.i64.wrap ((i : Int) + (c : Int)) = ((i + c : Nat) : Int) := by
        have e : (i : Int) + (c : Int) = ((i + c : Nat) : Int) := by omega
        rw [e]
        exact wrap_pos (by omega) (by omega)
      have HIK := hide hik
      have HKT : Hid (∀ W3, KpB bs bn wr.drew W3 → KpB bs bn W W3) := hide (fun W3 h => hK.trans h)
      have HD2 := hide hd2
      clear hik hlt' hkl he e1 e2 hsu hJ h0 h1 h2 hd1 hd2 hY hYk
      gi_wp2
      gi_region
      gi_wp2
      refine hR.mono ?_
      rintro e W3 (⟨rfl, hJ3, hk3⟩ | ⟨rfl, hJx3⟩)
      · have c3 := unhide HD2 W3 (unhide HKT W3 hk3)
        gi_wp2
        go_roundw
        case rel => exact ⟨k + 1, i + c, by simp, by rw [unhide HIK, Nat.add_mul, Nat.one_mul], by omega, by omega, hJ3, unhide HKT W3 hk3⟩
        case measure => simp [intOf]; omega
      · gi_wp2
        refine bodyPost_ret (results_none rfl _ _ _) rfl ?_
        exact ⟨⟨_, rfl⟩, .inr ⟨_, hJx3⟩⟩
    · have hnl : ¬ ((i : Int) < (len : Int)) := by omega
      have hend := partsL_end hc (n := len) (k := k) (by rw [← hik]; omega) len hkl
      gi_wp2
      go_end0
      exact ⟨⟨_, rfl⟩, .inl hJs⟩
end Go.Proofs.YtjobgpahajhbnaaGreatDoor
