import Derived.Test.YtjobgpahajhbnabGreatDoorGh
import Derived.Test.YtjobgpahajhbnabGreatDoorCg
import Derived.Test.YtjobgpahajhbnabGreatDoorHe
import Derived.Test.YtjobgpahajhbnabGreatDoorVh
import Derived.Test.YtjobgpahajhbnabGreatDoorTd
import Derived.Lib.LaidTab
import Derived.Lib.AppendIntMem
import Derived.Test.YtjobgpahajhbnabGreatDoorSh
import Derived.Test.YtjobgpahajhbnabGreatDoorTe
import Derived.Test.YtjobgpahajhbnabGreatDoorJc
import Derived.Test.YtjobgpahajhbnabGreatDoorDa
import Derived.Test.YtjobgpahajhbnabGreatDoorDf
import Derived.Test.YtjobgpahajhbnabGreatDoorDh
import Derived.Test.YtjobgpahajhbnabGreatDoorTq
import Derived.Test.YtjobgpahajhbnabGreatDoorTr
import Derived.Test.YtjobgpahajhbnabGreatDoorKg
import Derived.Test.YtjobgpahajhbnabGreatDoorKa
import Derived.Test.YtjobgpahajhbnabGreatDoorKf
import Derived.Test.YtjobgpahajhbnabGreatDoorTl
import Derived.Test.YtjobgpahajhbnabGreatDoorEg
import Derived.Shelf.SlIter.Nil
import Derived.Shelf.SortM.Plain
import Derived.Shelf.SortM.SortNone
import Derived.Ground.GgzProg
import Derived.Ground.SlgmProg
namespace Go.Proofs.YtjobgpahajhbnabGreatDoor
open Go.RowKit Go.Proofs
theorem Jgc : OneC ⟨#[43, 92]⟩ (Yt (Je Qr)) := Qp (z := 0) (by decide) (by kernel_rfl) (ks := .string [43]) (by kernel_rfl) (by kernel_rfl) Tryz.enters110 Fp (Jo plus_rule.fits)
theorem Jea : OneC ⟨#[45, 92]⟩ (Yt (Je Zz)) := Qp (z := 0) (by decide) (by kernel_rfl) (ks := .string [45]) (by kernel_rfl) (by kernel_rfl) Tryz.enters111 V3 (Jo minus_rule.fits)
theorem Jdn : OneC ⟨#[42, 92]⟩ (Yt (Je Zw)) := Qp (z := 1) (by decide) (by kernel_rfl) (ks := .string [42]) (by kernel_rfl) (by kernel_rfl) Tryz.enters112 Vz (Jo times_rule.fits)
theorem Jgq : OneC ⟨#[37, 92]⟩ (Yt (Je Y6)) := Qp (z := 1) (by decide) (by kernel_rfl) (ks := .string [37]) (by kernel_rfl) (by kernel_rfl) Tryz.enters113 Fs (Jo over_rule.fits)
theorem Jf5 : OneC ⟨#[124, 92]⟩ (Yt (Je Kr)) := Qp (z := 0) (by decide) (by kernel_rfl) (ks := .string [124]) (by kernel_rfl) (by kernel_rfl) Tryz.enters114 Fl (Jo rest_rule.fits)
theorem Jbt : OneC ⟨#[38, 92]⟩ (Yt (Je Y7)) := Qp (z := 9223372036854775807) (by decide) (by kernel_rfl) (ks := .string [38]) (by kernel_rfl) (by kernel_rfl) Tryz.enters115 Qv (Jo lesser_rule.fits)
theorem Jai : OneC ⟨#[33, 92]⟩ (Yt (Je Yj)) := Qp (z := (-9223372036854775808)) (by decide) (by kernel_rfl) (ks := .string [33]) (by kernel_rfl) (by kernel_rfl) Tryz.enters116 Qb (Jo greater_rule.fits)
theorem Jfw : OneC ⟨#[61, 92]⟩ (Yt (Je Qq)) := Qp (z := 1) (by decide) (by kernel_rfl) (ks := .string [61]) (by kernel_rfl) (by kernel_rfl) Tryz.enters117 Fi (Jo same_rule.fits)
theorem Jes : OneC ⟨#[60, 92]⟩ (Yt (Je Z4)) := Qp (z := 0) (by decide) (by kernel_rfl) (ks := .string [60]) (by kernel_rfl) (by kernel_rfl) Tryz.enters118 Xa (Jo below_rule.fits)
theorem Jgd : TwoC ⟨#[43, 46]⟩ (J4 (Je Qr)) := Kk (z := 0) (by decide) (k2 := .string [43, 46]) (by kernel_rfl) (by kernel_rfl) (by kernel_rfl) (ks := .string [43]) (by kernel_rfl) (by kernel_rfl) Tryz.enters110 Fp (Yf plus_rule.fits)
theorem Jeb : TwoC ⟨#[45, 46]⟩ (J4 (Je Zz)) := Kk (z := 0) (by decide) (k2 := .string [45, 46]) (by kernel_rfl) (by kernel_rfl) (by kernel_rfl) (ks := .string [45]) (by kernel_rfl) (by kernel_rfl) Tryz.enters111 V3 (Yf minus_rule.fits)
theorem Jdo : TwoC ⟨#[42, 46]⟩ (J4 (Je Zw)) := Kk (z := 1) (by decide) (k2 := .string [42, 46]) (by kernel_rfl) (by kernel_rfl) (by kernel_rfl) (ks := .string [42]) (by kernel_rfl) (by kernel_rfl) Tryz.enters112 Vz (Yf times_rule.fits)
theorem Jgr : TwoC ⟨#[37, 46]⟩ (J4 (Je Y6)) := Kk (z := 1) (by decide) (k2 := .string [37, 46]) (by kernel_rfl) (by kernel_rfl) (by kernel_rfl) (ks := .string [37]) (by kernel_rfl) (by kernel_rfl) Tryz.enters113 Fs (Yf over_rule.fits)
theorem Jf6 : TwoC ⟨#[124, 46]⟩ (J4 (Je Kr)) := Kk (z := 0) (by decide) (k2 := .string [124, 46]) (by kernel_rfl) (by kernel_rfl) (by kernel_rfl) (ks := .string [124]) (by kernel_rfl) (by kernel_rfl) Tryz.enters114 Fl (Yf rest_rule.fits)
theorem Jbu : TwoC ⟨#[38, 46]⟩ (J4 (Je Y7)) := Kk (z := 9223372036854775807) (by decide) (k2 := .string [38, 46]) (by kernel_rfl) (by kernel_rfl) (by kernel_rfl) (ks := .string [38]) (by kernel_rfl) (by kernel_rfl) Tryz.enters115 Qv (Yf lesser_rule.fits)
theorem Jaj : TwoC ⟨#[33, 46]⟩ (J4 (Je Yj)) := Kk (z := (-9223372036854775808)) (by decide) (k2 := .string [33, 46]) (by kernel_rfl) (by kernel_rfl) (by kernel_rfl) (ks := .string [33]) (by kernel_rfl) (by kernel_rfl) Tryz.enters116 Qb (Yf greater_rule.fits)
theorem Jfx : TwoC ⟨#[61, 46]⟩ (J4 (Je Qq)) := Kk (z := 1) (by decide) (k2 := .string [61, 46]) (by kernel_rfl) (by kernel_rfl) (by kernel_rfl) (ks := .string [61]) (by kernel_rfl) (by kernel_rfl) Tryz.enters117 Fi (Yf same_rule.fits)
theorem Jet : TwoC ⟨#[60, 46]⟩ (J4 (Je Z4)) := Kk (z := 0) (by decide) (k2 := .string [60, 46]) (by kernel_rfl) (by kernel_rfl) (by kernel_rfl) (ks := .string [60]) (by kernel_rfl) (by kernel_rfl) Tryz.enters118 Xa (Yf below_rule.fits)
def Jg6 {α : Type} (d : α) : List (List UInt8 × α) → List UInt8 → α
  | [], _ => d
  | (k, f) :: r, t => if k = t then f else Jg6 d r t
theorem Xv {α : Type} {d : α} : ∀ {L : List (List UInt8 × α)} {t : List UInt8}, t ∈ L.map (·.1) → ∃ p ∈ L, p.1 = t ∧ Jg6 d L t = p.2
  | [], _, h => by cases h
  | (k, f) :: r, t, h => by
    unfold Jg6
    by_cases e : k = t
    · exact ⟨(k, f), by simp, e, by rw [if_pos e]⟩
    · rw [if_neg e]
      rw [List.map_cons, List.mem_cons] at h
      rcases h with h | h
      · exact absurd h.symm e
      · obtain ⟨p, h1, h2, h3⟩ := Xv (d := d) h
        exact ⟨p, List.mem_cons_of_mem _ h1, h2, h3⟩
def tab1 : List (List UInt8 × (Arr → Arr × Int)) := [([43], fun a => (a, 0)), ([45], fun a => (⟨a.shape, a.cells.map Zy⟩, 0)), ([124], fun a => (⟨a.shape, a.cells.map Yx⟩, 0)), ([42], fun a => (⟨a.shape, a.cells.map Yp⟩, 0)), ([114, 97, 118, 101, 108], fun a => (Kn a, 0)), ([105, 111, 116, 97], Fz), ([114, 104, 111], Y8), ([114, 101, 118], revP), ([117, 112], Zd X4), ([100, 111, 119, 110], Zd (fun x y => X4 y x)), ([102, 108, 105, 112], Xy), ([43, 47], Yr (Je Qr) 0), ([45, 47], Yr (Je Zz) 0), ([42, 47], Yr (Je Zw) 1), ([37, 47], Yr (Je Y6) 1), ([124, 47], Yr (Je Kr) 0), ([38, 47], Yr (Je Y7) 9223372036854775807), ([33, 47], Yr (Je Yj) (-9223372036854775808)), ([61, 47], Yr (Je Qq) 1), ([60, 47], Yr (Je Z4) 0), ([43, 92], Yt (Je Qr)), ([45, 92], Yt (Je Zz)), ([42, 92], Yt (Je Zw)), ([37, 92], Yt (Je Y6)), ([124, 92], Yt (Je Kr)), ([38, 92], Yt (Je Y7)), ([33, 92], Yt (Je Yj)), ([61, 92], Yt (Je Qq)), ([60, 92], Yt (Je Z4))]
def tab2 : List (List UInt8 × (Arr → Arr → Arr × Int)) := [([43], Je Qr), ([45], Je Zz), ([42], Je Zw), ([37], Je Y6), ([124], Je Kr), ([38], Je Y7), ([33], Je Yj), ([61], Je Qq), ([60], Je Z4), ([43, 46], J4 (Je Qr)), ([45, 46], J4 (Je Zz)), ([42, 46], J4 (Je Zw)), ([37, 46], J4 (Je Y6)), ([124, 46], J4 (Je Kr)), ([38, 46], J4 (Je Y7)), ([33, 46], J4 (Je Yj)), ([61, 46], J4 (Je Qq)), ([60, 46], J4 (Je Z4)), ([114, 104, 111], J3), ([114, 101, 118], Xf), ([116, 97, 107, 101], Ni), ([100, 114, 111, 112], Jaq), ([99, 97, 116], catP), ([105, 110], inP), ([97, 116], atP), ([107, 101, 101, 112], Vv)]
inductive AllC {α : Type} (P : List UInt8 → α → Prop) : List (List UInt8 × α) → Prop where
  | nil : AllC P []
  | cons {k : List UInt8} {f : α} {r : List (List UInt8 × α)} : P k f → AllC P r → AllC P ((k, f) :: r)
theorem AllC.of {α : Type} {P : List UInt8 → α → Prop} {L : List (List UInt8 × α)} (h : AllC P L) : ∀ p ∈ L, P p.1 p.2 := by
  induction h with
  | nil => intro p hp; cases hp
  | cons h1 _ ih =>
    intro p hp
    rcases List.mem_cons.1 hp with rfl | hp
    · exact h1
    · exact ih p hp
theorem tab1_all : AllC (fun k f => OneC ⟨k.toArray⟩ f) tab1 := .cons Jeh (.cons Jbr (.cons Fy (.cons F4 (.cons Jgb (.cons Jkn (.cons Jbv (.cons Jfz (.cons Jne (.cons Jky (.cons Jkt (.cons Jl1 (.cons Jnb (.cons Jjn (.cons Jjm (.cons Jf4 (.cons Jhe (.cons Jj3 (.cons Jfv (.cons Jer (.cons Jgc (.cons Jea (.cons Jdn (.cons Jgq (.cons Jf5 (.cons Jbt (.cons Jai (.cons Jfw (.cons Jes (.nil)))))))))))))))))))))))))))))
theorem tab2_all : AllC (fun k f => TwoC ⟨k.toArray⟩ f) tab2 := .cons Jjp (.cons Jg4 (.cons Je9 (.cons Jju (.cons Jjd (.cons Jed (.cons Jbx (.cons Ji9 (.cons Jij (.cons Jgd (.cons Jeb (.cons Jdo (.cons Jgr (.cons Jf6 (.cons Jbu (.cons Jaj (.cons Jfx (.cons Jet (.cons Jbk (.cons Jiv (.cons Jix (.cons Jkx (.cons Jm9 (.cons Jny (.cons Jog (.cons Jkd (.nil))))))))))))))))))))))))))
def f1A (t : ByteArray) : Arr → Arr × Int := Jg6 (fun a => (a, 0)) tab1 t.data.toList
def f2A (t : ByteArray) : Arr → Arr → Arr × Int := Jg6 (fun a _ => (a, 0)) tab2 t.data.toList
theorem Jou {t : ByteArray} (h : t.data.toList ∈ tab1.map (·.1)) : OneC t (f1A t) := by
  obtain ⟨p, h1, h2, h3⟩ := Xv (d := fun a => (a, 0)) h
  have hc := tab1_all.of p h1
  unfold f1A
  rw [h3]
  have : (⟨p.1.toArray⟩ : ByteArray) = t := by rw [h2]
  rw [← this]
  exact hc
theorem Jop {t : ByteArray} (h : t.data.toList ∈ tab2.map (·.1)) : TwoC t (f2A t) := by
  obtain ⟨p, h1, h2, h3⟩ := Xv (d := fun a _ => (a, 0)) h
  have hc := tab2_all.of p h1
  unfold f2A
  rw [h3]
  have : (⟨p.1.toArray⟩ : ByteArray) = t := by rw [h2]
  rw [← this]
  exact hc
end Go.Proofs.YtjobgpahajhbnabGreatDoor
namespace Go.Proofs.YtjobgpahajhbnabGreatDoor
open Go.RowKit Go.Proofs
structure TkL (t : List UInt8) : Prop where
  pos : 0 < t.length
  fit : Jg (Yh ⟨t.toArray⟩)
  one : Y1 (Y0 ⟨t.toArray⟩) 1 = true → t ∈ tab1.map (·.1)
  two : Y1 (Y0 ⟨t.toArray⟩) 2 = true → t ∈ tab2.map (·.1)
def signsL : List UInt8 := [43, 45, 42, 37, 124, 38, 33, 61, 60]
theorem Jch {c : UInt8} (h : gU c = true) : c ∈ signsL := by
  have key : ∀ n : Nat, n < 256 → sgnB (n : Int) = true → UInt8.ofNat n ∈ signsL := by decide +kernel
  have := key c.toNat (UInt8.toNat_lt c) h
  rwa [UInt8.ofNat_toNat] at this
theorem Jfe {d : UInt8} (h : Vu d = true) : d ∈ ([47, 92, 46] : List UInt8) := by
  simp only [Vu, Bool.or_eq_true, beq_iff_eq] at h
  simp
  rcases h with (h | h) | h
  · exact Or.inl h
  · exact Or.inr (Or.inl h)
  · exact Or.inr (Or.inr h)
def okL (t : List UInt8) : Bool := (!(Y1 (Y0 ⟨t.toArray⟩) 1) || decide (t ∈ tab1.map (·.1))) && (!(Y1 (Y0 ⟨t.toArray⟩) 2) || decide (t ∈ tab2.map (·.1))) && decide (Yh ⟨t.toArray⟩ = 0)
theorem Jle {t : List UInt8} (h : okL t = true) (h0 : 0 < t.length) : TkL t := by
  simp only [okL, Bool.and_eq_true, Bool.or_eq_true, decide_eq_true_eq, Bool.not_eq_true'] at h
  obtain ⟨⟨h1, h2⟩, h3⟩ := h
  exact ⟨h0, by rw [h3]; unfold Jg; omega, fun e => by rcases h1 with h1 | h1; rw [h1] at e; cases e; exact h1, fun e => by rcases h2 with h2 | h2; rw [h2] at e; cases e; exact h2⟩
theorem Jjz : (signsL.all fun c => okL [c]) = true := by decide +kernel
theorem Jj0 : (signsL.all fun c => ([47, 92, 46] : List UInt8).all fun d => okL [c, d]) = true := by decide +kernel
theorem Jfi {c : UInt8} (h : gU c = true) : TkL [c] := Jle (List.all_eq_true.1 Jjz c (Jch h)) (by simp)
theorem Jmt {c d : UInt8} (h : gU c = true) (hdt : Vu d = true) : TkL [c, d] := Jle (List.all_eq_true.1 (List.all_eq_true.1 Jj0 c (Jch h)) d (Jfe hdt)) (by simp)
theorem V1 {t : List UInt8} (h0 : 0 < t.length) (hf : Jg (Yh ⟨t.toArray⟩)) (hr : Y0 ⟨t.toArray⟩ = 0) : TkL t :=
  ⟨h0, hf, fun e => by rw [hr] at e; exact absurd e (by decide), fun e => by rw [hr] at e; exact absurd e (by decide)⟩
theorem Jlf {t ds : List UInt8} (h : t = ds ∨ t = 95 :: ds) (h0 : 0 < ds.length) (hds : ds.all dU = true) (hv : val ds ≤ 9223372036854775807) : TkL t := by
  obtain ⟨c, r, rfl⟩ : ∃ c r, ds = c :: r := by
    cases ds with
    | nil => simp at h0
    | cons c r => exact ⟨c, r, rfl⟩
  have hc : dU c = true := by simp at hds; exact hds.1
  have hc' : digB (c.toNat : Int) = true := hc
  have hc2 : 48 ≤ (c.toNat : Int) ∧ (c.toNat : Int) ≤ 57 := by simpa [digB] using hc'
  rcases h with rfl | rfl
  · have hh : hd ⟨(c :: r).toArray⟩ = (c.toNat : Int) := rfl
    refine V1 (by simp) ?_ ?_
    · have : Yh ⟨(c :: r).toArray⟩ = (val (c :: r) : Int) := by
        unfold Yh
        rw [hh, show ((c.toNat : Int) == 95) = false from beq_false_of_ne (by omega), cond_false, hc', cond_true]
      rw [this]
      unfold Jg
      omega
    · unfold Y0
      rw [hh, show ((c.toNat : Int) == 40) = false from beq_false_of_ne (by omega), show ((c.toNat : Int) == 41) = false from beq_false_of_ne (by omega), hc']
      simp
  · have hh : hd ⟨(95 :: c :: r).toArray⟩ = 95 := rfl
    refine V1 (by simp) ?_ ?_
    · have : Yh ⟨(95 :: c :: r).toArray⟩ = -(val (c :: r) : Int) := by
        unfold Yh
        rw [hh]
        rfl
      rw [this]
      unfold Jg
      omega
    · unfold Y0
      rw [hh]
      rfl
theorem Nd (p : UInt8 → Bool) : ∀ l : List UInt8, (l.takeWhile p).all p = true ∧ l.take (l.takeWhile p).length = l.takeWhile p
  | [] => by simp
  | c :: l => by
    have ih := Nd p l
    cases h : p c
    · simp [h]
    · simp only [List.takeWhile_cons, h, if_true]
      exact ⟨by simp [h], by simp [ih.2]⟩
def words1 : List (List UInt8) := [[105, 111, 116, 97], [117, 112], [100, 111, 119, 110], [102, 108, 105, 112], [114, 97, 118, 101, 108], [114, 104, 111], [114, 101, 118]]
def words2 : List (List UInt8) := [[114, 104, 111], [114, 101, 118], [116, 97, 107, 101], [100, 114, 111, 112], [99, 97, 116], [105, 110], [97, 116], [107, 101, 101, 112]]
theorem Jdk (t : ByteArray) : (Y1 (Yk t) 1 = true → t.toList ∈ words1) ∧ (Y1 (Yk t) 2 = true → t.toList ∈ words2) := by
  have n10 : ¬ Y1 0 1 = true := by decide
  have n20 : ¬ Y1 0 2 = true := by decide
  have n12 : ¬ Y1 1 2 = true := by decide
  have n21 : ¬ Y1 2 1 = true := by decide
  unfold Yk
  generalize t.toList = l
  have step : ∀ (k : List UInt8) (v : Int) (r : Int), ((l == k) = true → (Y1 v 1 = true → l ∈ words1) ∧ (Y1 v 2 = true → l ∈ words2)) → ((Y1 r 1 = true → l ∈ words1) ∧ (Y1 r 2 = true → l ∈ words2)) → (Y1 (bif l == k then v else r) 1 = true → l ∈ words1) ∧ (Y1 (bif l == k then v else r) 2 = true → l ∈ words2) := by
    intro k v r h1 h2
    cases h : (l == k)
    · exact h2
    · exact h1 h
  refine step _ _ _ (fun h => by rw [beq_iff_eq.1 h]; exact ⟨fun _ => by decide, fun e => absurd e n12⟩) ?_
  refine step _ _ _ (fun h => by rw [beq_iff_eq.1 h]; exact ⟨fun _ => by decide, fun e => absurd e n12⟩) ?_
  refine step _ _ _ (fun h => by rw [beq_iff_eq.1 h]; exact ⟨fun _ => by decide, fun e => absurd e n12⟩) ?_
  refine step _ _ _ (fun h => by rw [beq_iff_eq.1 h]; exact ⟨fun _ => by decide, fun e => absurd e n12⟩) ?_
  refine step _ _ _ (fun h => by rw [beq_iff_eq.1 h]; exact ⟨fun _ => by decide, fun e => absurd e n12⟩) ?_
  refine step _ _ _ (fun h => by rw [beq_iff_eq.1 h]; exact ⟨fun _ => by decide, fun _ => by decide⟩) ?_
  refine step _ _ _ (fun h => by rw [beq_iff_eq.1 h]; exact ⟨fun _ => by decide, fun _ => by decide⟩) ?_
  refine step _ _ _ (fun h => by rw [beq_iff_eq.1 h]; exact ⟨fun e => absurd e n21, fun _ => by decide⟩) ?_
  refine step _ _ _ (fun h => by rw [beq_iff_eq.1 h]; exact ⟨fun e => absurd e n21, fun _ => by decide⟩) ?_
  refine step _ _ _ (fun h => by rw [beq_iff_eq.1 h]; exact ⟨fun e => absurd e n21, fun _ => by decide⟩) ?_
  refine step _ _ _ (fun h => by rw [beq_iff_eq.1 h]; exact ⟨fun e => absurd e n21, fun _ => by decide⟩) ?_
  refine step _ _ _ (fun h => by rw [beq_iff_eq.1 h]; exact ⟨fun e => absurd e n21, fun _ => by decide⟩) ?_
  refine step _ _ _ (fun h => by rw [beq_iff_eq.1 h]; exact ⟨fun e => absurd e n21, fun _ => by decide⟩) ?_
  exact ⟨fun e => absurd e n10, fun e => absurd e n20⟩
theorem Jdj : ∀ t ∈ words1, t ∈ tab1.map (·.1) := by
  have : (words1.all fun t => decide (t ∈ tab1.map (·.1))) = true := by decide +kernel
  intro t ht
  exact of_decide_eq_true (List.all_eq_true.1 this t ht)
theorem Jdi : ∀ t ∈ words2, t ∈ tab2.map (·.1) := by
  have : (words2.all fun t => decide (t ∈ tab2.map (·.1))) = true := by decide +kernel
  intro t ht
  exact of_decide_eq_true (List.all_eq_true.1 this t ht)
theorem Jlt {c : UInt8} {r : List UInt8} (h : lU c = true) : TkL (c :: r) := by
  have h' : letB (c.toNat : Int) = true := h
  have h2 : 97 ≤ (c.toNat : Int) ∧ (c.toNat : Int) ≤ 122 := by simpa [letB] using h'
  have hh : hd ⟨(c :: r).toArray⟩ = (c.toNat : Int) := rfl
  have hdg : digB (c.toNat : Int) = false := by unfold digB; exact decide_eq_false (by omega)
  have h95 : ((c.toNat : Int) == 95) = false := beq_false_of_ne (by omega)
  have hr : Y0 ⟨(c :: r).toArray⟩ = Yk ⟨(c :: r).toArray⟩ := by
    unfold Y0
    rw [hh, show ((c.toNat : Int) == 40) = false from beq_false_of_ne (by omega), show ((c.toNat : Int) == 41) = false from beq_false_of_ne (by omega), h95, hdg, h']
    rfl
  have hw : Yh ⟨(c :: r).toArray⟩ = 0 := by
    unfold Yh
    rw [hh, h95, hdg]
    rfl
  have hl : (⟨(c :: r).toArray⟩ : ByteArray).toList = c :: r := by rw [ByteArray.toList_eq]
  obtain ⟨k1, k2⟩ := Jdk ⟨(c :: r).toArray⟩
  rw [hl] at k1 k2
  exact ⟨by simp, by rw [hw]; unfold Jg; omega, fun e => Jdj _ (k1 (by rw [← hr]; exact e)), fun e => Jdi _ (k2 (by rw [← hr]; exact e))⟩
theorem Joq {l : List UInt8} {n : Nat} (h : tl l = some n) : TkL (l.take n) := by
  cases l with
  | nil => cases h
  | cons c r =>
    simp only [tl] at h
    cases h1 : dU c
    · rw [h1, cond_false] at h
      cases h2 : (c == 95)
      · rw [h2, cond_false] at h
        cases h3 : lU c
        · rw [h3, cond_false] at h
          cases h4 : (c == 40 || c == 41)
          · rw [h4, cond_false] at h
            cases h5 : gU c
            · rw [h5, cond_false] at h; cases h
            · rw [h5, cond_true] at h
              injection h with h
              subst h
              cases r with
              | nil => exact Jfi h5
              | cons d r =>
                by_cases ht : Vu d = true
                · have : sgnE (d :: r) = 2 := by simp [sgnE, ht]
                  rw [this]
                  exact Jmt h5 ht
                · have : sgnE (d :: r) = 1 := by simp [sgnE, ht]
                  rw [this]
                  exact Jfi h5
          · rw [h4, cond_true] at h
            injection h with h
            subst h
            simp only [Bool.or_eq_true, beq_iff_eq] at h4
            rcases h4 with rfl | rfl
            · exact V1 (by simp) (by show Jg 0; unfold Jg; omega) rfl
            · exact V1 (by simp) (by show Jg 0; unfold Jg; omega) rfl
        · rw [h3, cond_true] at h
          unfold wrdE at h
          have hn : n = ((c :: r).takeWhile lU).length := by
            simp only at h
            split at h
            · cases h
            · injection h with h; exact h.symm
          subst hn
          have : (c :: r).take ((c :: r).takeWhile lU).length = c :: r.takeWhile lU := by
            rw [(Nd lU (c :: r)).2, List.takeWhile_cons, h3]
            rfl
          rw [this]
          exact Jlt h3
      · rw [h2, cond_true] at h
        have hc := beq_iff_eq.1 h2
        subst hc
        unfold numE at h
        simp only at h
        split at h
        · cases h
        · rename_i hb
          injection h with h
          subst h
          have e := Nd dU r
          rw [Nat.add_comm, List.take_succ_cons, e.2]
          exact Jlf (Or.inr rfl) (by omega) e.1 (by omega)
    · rw [h1, cond_true] at h
      unfold numE at h
      simp only at h
      split at h
      · cases h
      · rename_i hb
        injection h with h
        subst h
        have e := Nd dU (c :: r)
        rw [Nat.zero_add, e.2]
        exact Jlf (Or.inl rfl) (by omega) e.1 (by omega)
def AllK (s : ByteArray) (A : List (Nat × Nat)) : Prop := ∀ q ∈ A, TkL (s.extract q.1 q.2).data.toList
theorem Jhc (s : ByteArray) : ∀ (f p : Nat) (A : List (Nat × Nat)), AllK s A → AllK s (lexS s f p A).1
  | 0, _, _, h => h
  | f + 1, p, A, h => by
    unfold lexS
    split
    · rename_i hp
      cases hb : ((s[p].toNat : Int) == 32)
      · rw [cond_false]
        cases ht : tl (s.data.toList.drop p) with
        | none => intro q hq; cases hq
        | some n =>
          apply Jhc s f
          intro q hq
          rcases List.mem_append.1 hq with hq | hq
          · exact h q hq
          · rw [List.mem_singleton.1 hq]
            show TkL (s.extract p (p + n)).data.toList
            rw [Jv, Nat.add_sub_cancel_left]
            exact Joq ht
      · rw [cond_true]
        exact Jhc s f _ _ h
    · exact h
def Jom (q : Tok) : Prop := Jg q.x ∧ q.t.size ≤ 200 ∧ (Y1 q.r 1 = true → OneC q.t (f1A q.t)) ∧ (Y1 q.r 2 = true → TwoC q.t (f2A q.t))
theorem Je7 {s : ByteArray} (hs : s.size ≤ 200) : ∀ q ∈ toks s (lexR s).1, Jom q := by
  intro q hq
  simp only [toks, List.mem_map] at hq
  obtain ⟨p, hp, rfl⟩ := hq
  have h := Jhc s s.size 0 [] (fun q hq => by cases hq) p hp
  exact ⟨h.fit, by show (s.extract p.1 p.2).size ≤ 200; rw [ByteArray.size_extract]; omega, fun e => Jou (h.one e), fun e => Jop (h.two e)⟩
theorem Jl8 {S : List Tok} (hS : ∀ q ∈ S, Jom q) (hl : S.length ≤ 200) {b : Bool} {j o k : Nat} {x : Ex} (h : PX S b j o x k) : Good f1A f2A x := by
  have atf : ∀ {i : Nat} {v : Int}, fB (kr S) i v = true → ∃ q ∈ S, J5 S i = q ∧ Y1 q.r v = true := by
    intro i v hf
    by_cases hi : i < S.length
    · rw [Jn6 hi] at hf
      exact ⟨S[i], List.getElem_mem hi, Yo hi, hf⟩
    · unfold fB at hf
      rw [Jcz (by omega)] at hf
      cases hf
  induction h with
  | nums j o k h1 h2 h3 h4 =>
    refine ⟨by rw [K3 _ _ _ h2]; omega, by rw [K3 _ _ _ h2]; omega, fun c hc => ?_⟩
    simp only [Zu, List.mem_map] at hc
    obtain ⟨q, hq, rfl⟩ := hc
    exact (hS q (List.mem_of_mem_take (List.mem_of_mem_drop hq))).1
  | name j o h1 =>
    show (J5 S j).t.size ≤ 200
    by_cases hi : j < S.length
    · rw [Yo hi]
      exact (hS _ (List.getElem_mem hi)).2.1
    · unfold kB at h1
      rw [Jcz (by omega)] at h1
      cases h1
  | paren j o e k h1 h2 h3 h4 ih => exact ih
  | one j o r k h1 h2 ih =>
    obtain ⟨q, hq, e, hr⟩ := atf h1
    refine ⟨?_, ih⟩
    rw [e]
    exact (hS q hq).2.2.1 hr
  | only j o l k h1 h2 h3 ih => exact ih
  | two j o l k r m h1 h2 h3 h4 ih1 ih2 =>
    obtain ⟨q, hq, e, hr⟩ := atf h3
    refine ⟨?_, ih1, ih2⟩
    rw [e]
    exact (hS q hq).2.2.2 hr
theorem Je6 {s : ByteArray} (hs : s.size ≤ 200) {x : Ex} (h : Ye s x) : Good f1A f2A x :=
  Jl8 (Je7 hs) (by rw [Y3]; exact Jcx hs) h
end Go.Proofs.YtjobgpahajhbnabGreatDoor
namespace Go.Proofs.YtjobgpahajhbnabGreatDoor
open Go.RowKit Go.Proofs Go.Maps
attribute [local go_sem ↓] Go.wp_at_zero Go.wp_at_succ
set_option maxHeartbeats 1000000 in
set_option maxRecDepth 20000 in
theorem Jf8 (s : ByteArray) (hs : s.size ≤ 9223372036854775807) (w : World) (hE : Evs w) (db : Nat) (er at_ : Int) (hp : Jw s = (er, at_)) (hne : er ≠ 0) :
    Calls Tryz.prog 20 #[.pointer (some ⟨db, 0, none⟩), .string s] w (RepL w er at_ [] [] 0) := by
  have hw1 : Below w.heap.size w (w.alloc (.cells #[.int .i64 0, .int .i64 0, .slice none 0 0, .slice none 0 0, .int .i64 0] 34)) := (Below.refl _ _).alloc (Nat.le_refl _) _
  have hE1 : Evs (w.alloc (.cells #[.int .i64 0, .int .i64 0, .slice none 0 0, .slice none 0 0, .int .i64 0] 34)) := hE.alloc _
  have HRead := hide (Qz s _ hE1 hs)
  obtain ⟨nm, hn⟩ : ∃ nm, Yl s = nm := ⟨_, rfl⟩
  have HP1 : Hid ((Jw s).1 = er) := hide (by rw [hp])
  have HP2 : Hid ((Jw s).2 = at_) := hide (by rw [hp])
  have HN := hide hn
  have HW1 := hide hw1
  have hne' : (er != 0) = true := by simpa using hne
  clear hw1 hE1 hE hs hp hn hne
  go_enter Tryz.func20, Tryz.ntmps20
  go_wp2_with fail
  refine (Ja HRead).mono ?_
  rintro e w2 ⟨q, rfl, hb2, -⟩
  rw [Ja HP1, Ja HP2, Ja HN]
  obtain ⟨hc, hf⟩ := Jr hb2
  have d0 := (hc w.heap.size 0 (by simp)).trans ((World.cell?_alloc_at _ _ _ _ rfl).trans rfl)
  have d1 := (hc w.heap.size 1 (by simp)).trans ((World.cell?_alloc_at _ _ _ _ rfl).trans rfl)
  have d2 := (hc w.heap.size 2 (by simp)).trans ((World.cell?_alloc_at _ _ _ _ rfl).trans rfl)
  have d3 := (hc w.heap.size 3 (by simp)).trans ((World.cell?_alloc_at _ _ _ _ rfl).trans rfl)
  have d4 := (hc w.heap.size 4 (by simp)).trans ((World.cell?_alloc_at _ _ _ _ rfl).trans rfl)
  have fz : ∀ i, w2.frozen? ⟨w.heap.size, i, none⟩ = false := fun i => (hf w.heap.size i (by simp)).trans (World.frozen?_alloc_at _ _ _ _ rfl)
  have g0 := fz 0
  have g1 := fz 1
  have g2 := fz 2
  have g3 := fz 3
  have g4 := fz 4
  have hlt : w.heap.size < w2.heap.size := by have := hb2.size; simp at this; omega
  have HB2 : Hid (Below w.heap.size w w2) := hide ((Ja HW1).trans (hb2.mono (Ja HW1).size))
  clear hc hf fz hb2 HRead HP1 HP2 HN HW1
  go_wp2_with fail
  refine bodyPost_ret (v := .agg #[.int .i64 er, .int .i64 at_, .slice none 0 0, .slice none 0 0, .int .i64 0]) (by simp [results, Tryz.results20, go_sem, d0, d1, d2, d3, d4, hlt]) rfl ⟨none, 0, 0, none, 0, 0, rfl, Jn _ _, Jn _ _, ?_⟩
  exact ((((((Ja HB2).setCell (p := ⟨w.heap.size, 0, none⟩) (Nat.le_refl _) _).setCell (p := ⟨w.heap.size, 1, none⟩) (Nat.le_refl _) _).setCell (p := ⟨w.heap.size, 2, none⟩) (Nat.le_refl _) _).setCell (p := ⟨w.heap.size, 3, none⟩) (Nat.le_refl _) _).setCell (p := ⟨w.heap.size, 4, none⟩) (Nat.le_refl _) _).alloc (by simp; omega) _
open Classical in
noncomputable def Fe (s : ByteArray) : Ex := if h : ∃ x, Ye s x then Classical.choose h else .num [0]
theorem Zv {s : ByteArray} {x : Ex} (h : Ye s x) : x = Fe s := by
  have he : ∃ x, Ye s x := ⟨x, h⟩
  unfold Fe
  rw [dif_pos he]
  exact Je5 h (Classical.choose_spec he)
theorem K4 {s : ByteArray} (hs : s.size ≤ 200) : Good f1A f2A (Fe s) := by
  unfold Fe
  by_cases h : ∃ x, Ye s x
  · rw [dif_pos h]
    exact Je6 hs (Classical.choose_spec h)
  · rw [dif_neg h]
    exact ⟨by simp, by simp, by intro c hc; simp at hc; subst hc; unfold Jg; omega⟩
noncomputable def ans (env : ByteArray → Option Arr) (F : Int) (s : ByteArray) : Sum (Int × Int) (Arr × Nat) :=
  if (Jw s).1 = 0 then match Jt env F f1A f2A (Fe s) 0 with
    | .inl e => .inl (e.1, (e.2 : Int))
    | .inr x => .inr x
  else .inl (Jw s)
theorem Zl {s : ByteArray} (h : (Jw s).1 = 0) : (Jw s).2 = 0 ∧ s.size ≤ 200 := by
  unfold Jw at h ⊢
  by_cases h1 : 200 < s.size
  · rw [if_pos h1] at h; exact absurd h (by decide)
  · rw [if_neg h1] at h ⊢
    by_cases h2 : (lexR s).2 = -1
    · rw [if_pos h2] at h ⊢
      unfold pFin at h ⊢
      split at h
      · rename_i h3
        rw [if_pos h3]
        exact ⟨rfl, by omega⟩
      · exact absurd h (show ¬ (3 : Int) = 0 by decide)
    · rw [if_neg h2] at h; exact absurd h (show ¬ (2 : Int) = 0 by decide)
theorem Jkw {env : ByteArray → Option Arr} {F : Int} {f1 : ByteArray → Arr → Arr × Int} {f2 : ByteArray → Arr → Arr → Arr × Int} : ∀ (x : Ex) (c : Nat) (e : Int × Nat), Jt env F f1 f2 x c = .inl e → e.1 ≠ 0 := by
  have pay : ∀ (r : Arr × Int) (p c : Nat) (e : Int × Nat), payP F r p c = .inl e → e.1 ≠ 0 := by
    intro r p c e h
    unfold payP at h
    split at h
    · rename_i h1
      injection h with h
      subst h
      exact h1
    · split at h
      · injection h with h
        subst h
        exact (show (10 : Int) ≠ 0 by decide)
      · cases h
  intro x
  induction x with
  | num ws => intro c e h; simp only [Jt] at h; cases h
  | name t p =>
    intro c e h
    simp only [Jt] at h
    cases he : env t with
    | none => rw [he] at h; injection h with h; subst h; exact (show (4 : Int) ≠ 0 by decide)
    | some a => rw [he] at h; cases h
  | one t p r ih =>
    intro c e h
    simp only [Jt] at h
    cases hr : Jt env F f1 f2 r c with
    | inl e' => rw [hr] at h; injection h with h; subst h; exact ih c _ hr
    | inr y => rw [hr] at h; exact pay _ _ _ _ h
  | two t p l r ih1 ih2 =>
    intro c e h
    simp only [Jt] at h
    cases hr : Jt env F f1 f2 r c with
    | inl e' => rw [hr] at h; injection h with h; subst h; exact ih2 c _ hr
    | inr y =>
      rw [hr] at h
      cases hl : Jt env F f1 f2 l y.2 with
      | inl e' => simp only [hl] at h; injection h with h; subst h; exact ih1 _ _ hl
      | inr z => simp only [hl] at h; exact pay _ _ _ _ h
section
variable {F : Int} {env : ByteArray → Option Arr} {s : ByteArray}
theorem Ga {x : Arr × Nat} (h : ans env F s = .inr x) : (Jw s).1 = 0 ∧ Jt env F f1A f2A (Fe s) 0 = .inr x := by
  unfold ans at h
  split at h
  · rename_i hp
    cases he : Jt env F f1A f2A (Fe s) 0 with
    | inl e => rw [he] at h; cases h
    | inr y => rw [he] at h; injection h with h; subst h; exact ⟨hp, rfl⟩
  · cases h
theorem G9 {x : Arr × Nat} (h0 : 0 ≤ F) (he : EnvOk env) (h : ans env F s = .inr x) : x.1.ok ∧ (x.2 : Int) ≤ F := by
  obtain ⟨hp, hv⟩ := Ga h
  exact Ql he (Fe s) 0 x (K4 (Zl hp).2) (by simpa using h0) hv
theorem Jj7 {S : Nat → Prop} {db N : Nat} (h0 : 0 ≤ F) (hF : F ≤ 1000) (he : EnvOk env) (hm : s.size ≤ 9223372036854775807) {er at_ : Int} (h : ans env F s = .inl (er, at_)) : er ≠ 0 ∧ Says (DkF F S db env N) db s er at_ [] [] 0 := by
  unfold ans at h
  split at h
  · rename_i hp
    obtain ⟨hp2, hs⟩ := Zl hp
    cases hv : Jt env F f1A f2A (Fe s) 0 with
    | inr y => rw [hv] at h; cases h
    | inl e =>
      rw [hv] at h
      injection h with h
      injection h with h1 h2
      subst h1
      subst h2
      have hne := Jkw _ _ _ hv
      refine ⟨hne, fun w hD => ?_⟩
      obtain ⟨X, mo, h1, h2, h3⟩ := hD
      exact Jf9 env F f1A f2A db w mo s hm ⟨h1.lt, h1.evs, h1.c0, h1.c1⟩ h0 hF he (h1.look.imp (fun _ _ _ => trivial)) hp hp2 (fun x hx => by rw [Zv hx]; exact K4 hs) e.1 e.2 (fun x hx => by rw [Zv hx]; exact hv) hne
  · rename_i hp
    injection h with h
    have hne : er ≠ 0 := by rw [h] at hp; exact hp
    refine ⟨hne, fun w hD => ?_⟩
    obtain ⟨X, mo, h1, h2, h3⟩ := hD
    exact Jf8 s hm w h1.evs db er at_ h hne
end
end Go.Proofs.YtjobgpahajhbnabGreatDoor
namespace Go.Proofs
open Go.Shelf
def Tryz.keys41_ren : Go.Shelf.Ren := ⟨fun | 7 => 22 | 10 => 31 | n => n, fun | 23 => 55 | 26 => 9 | 3 => 57 | 28 => 53 | 0 => 0 | 27 => 52 | 33 => 74 | 4 => 4 | n => n, fun | n => n⟩
theorem Tryz.keys41 : Go.Proofs.SlLaysZ.n7 Tryz.prog Tryz.keys41_ren := {
  mixed := by kernel_rfl
  f7 := ⟨Tryz.f22.name, by decide, Tryz.func22.trans (congrArg some (by kernel_rfl))⟩
  f10 := ⟨Tryz.f31.name, by decide, Tryz.func31.trans (congrArg some (by kernel_rfl))⟩
  t0 := Tryz.underlying0
  a0 := Tryz.isAgg0
  z0 := Tryz.sizeOf0
  v0 := Tryz.zeroValue0
  t4 := Tryz.underlying4
  a4 := Tryz.isAgg4
  z4 := Tryz.sizeOf4
  v4 := Tryz.zeroValue4
  t23 := Tryz.underlying55
  a23 := Tryz.isAgg55
  z23 := Tryz.sizeOf55
  v23 := Tryz.zeroValue55
  t26 := Tryz.underlying9
  a26 := Tryz.isAgg9
  z26 := Tryz.sizeOf9
  v26 := Tryz.zeroValue9
  t27 := Tryz.underlying52
  a27 := Tryz.isAgg52
  z27 := Tryz.sizeOf52
  v27 := Tryz.zeroValue52
  t28 := Tryz.underlying53
  a28 := Tryz.isAgg53
  z28 := Tryz.sizeOf53
  v28 := Tryz.zeroValue53
  t33 := Tryz.underlying74
  a33 := Tryz.isAgg74
  z33 := Tryz.sizeOf74
  v33 := Tryz.zeroValue74 }
def Tryz.sorted40_ren : Go.Shelf.Ren := ⟨fun | 6 => 21 | 8 => 29 | 9 => 30 | 11 => 39 | 13 => 41 | 12 => 40 | 23 => 60 | 24 => 61 | 14 => 51 | 15 => 52 | 16 => 53 | 17 => 54 | 18 => 55 | 19 => 56 | 20 => 57 | 21 => 58 | 22 => 59 | 25 => 80 | 26 => 81 | 27 => 82 | 28 => 83 | 29 => 84 | 30 => 85 | 31 => 128 | n => n, fun | 26 => 9 | 28 => 53 | 24 => 22 | 0 => 0 | 3 => 3 | 37 => 95 | 48 => 126 | 50 => 128 | 4 => 4 | 40 => 118 | 39 => 117 | 45 => 123 | 5 => 5 | 9 => 9 | 51 => 155 | 55 => 159 | 57 => 175 | 58 => 176 | 33 => 74 | n => n, fun | n => n⟩
theorem Tryz.sorted40 : Go.Proofs.SlLaysZ.n6 Tryz.prog Tryz.sorted40_ren := {
  mixed := by kernel_rfl
  f6 := ⟨Tryz.f21.name, by decide, Tryz.func21.trans (congrArg some (by kernel_rfl))⟩
  f8 := ⟨Tryz.f29.name, by decide, Tryz.func29.trans (congrArg some (by kernel_rfl))⟩
  f11 := ⟨Tryz.f39.name, by decide, Tryz.func39.trans (congrArg some (by kernel_rfl))⟩
  t0 := Tryz.underlying0
  a0 := Tryz.isAgg0
  z0 := Tryz.sizeOf0
  v0 := Tryz.zeroValue0
  t24 := Tryz.underlying22
  a24 := Tryz.isAgg22
  z24 := Tryz.sizeOf22
  v24 := Tryz.zeroValue22
  t26 := Tryz.underlying9
  a26 := Tryz.isAgg9
  z26 := Tryz.sizeOf9
  v26 := Tryz.zeroValue9
  t28 := Tryz.underlying53
  a28 := Tryz.isAgg53
  z28 := Tryz.sizeOf53
  v28 := Tryz.zeroValue53
  i26 := by kernel_rfl }
def Tryz.sort57_ren : Go.Shelf.Ren := ⟨fun | 6 => 30 | 8 => 41 | 9 => 40 | 19 => 60 | 20 => 61 | 21 => 51 | 22 => 52 | 23 => 53 | 24 => 54 | 25 => 55 | 26 => 56 | 27 => 57 | 28 => 58 | 29 => 59 | 36 => 80 | 31 => 81 | 32 => 82 | 37 => 83 | 38 => 84 | 39 => 85 | 41 => 128 | n => n, fun | 27 => 22 | 29 => 9 | 3 => 3 | 32 => 95 | 26 => 22 | 0 => 0 | 44 => 126 | 46 => 128 | 4 => 4 | 36 => 118 | 35 => 117 | 41 => 123 | 5 => 5 | 9 => 9 | 53 => 155 | 57 => 159 | 63 => 175 | 64 => 176 | n => n, fun | n => n⟩
theorem Tryz.sort57 : Go.Proofs.SlLaysM.n6 Tryz.prog Tryz.sort57_ren := {
  mixed := by kernel_rfl
  f6 := ⟨Tryz.f30.name, by decide, Tryz.func30.trans (congrArg some (by kernel_rfl))⟩
  f8 := Tryz.func41.trans (congrArg some (by kernel_rfl))
  f9 := ⟨Tryz.f40.name, by decide, Tryz.func40.trans (congrArg some (by kernel_rfl))⟩
  f19 := Tryz.func60.trans (congrArg some (by kernel_rfl))
  f20 := Tryz.func61.trans (congrArg some (by kernel_rfl))
  f21 := ⟨Tryz.f51.name, by decide, Tryz.func51.trans (congrArg some (by kernel_rfl))⟩
  f22 := ⟨Tryz.f52.name, by decide, Tryz.func52.trans (congrArg some (by kernel_rfl))⟩
  f23 := ⟨Tryz.f53.name, by decide, Tryz.func53.trans (congrArg some (by kernel_rfl))⟩
  f24 := ⟨Tryz.f54.name, by decide, Tryz.func54.trans (congrArg some (by kernel_rfl))⟩
  f25 := ⟨Tryz.f55.name, by decide, Tryz.func55.trans (congrArg some (by kernel_rfl))⟩
  f26 := ⟨Tryz.f56.name, by decide, Tryz.func56.trans (congrArg some (by kernel_rfl))⟩
  f27 := ⟨Tryz.f57.name, by decide, Tryz.func57.trans (congrArg some (by kernel_rfl))⟩
  f28 := ⟨Tryz.f58.name, by decide, Tryz.func58.trans (congrArg some (by kernel_rfl))⟩
  f29 := ⟨Tryz.f59.name, by decide, Tryz.func59.trans (congrArg some (by kernel_rfl))⟩
  f31 := Tryz.func81.trans (congrArg some (by kernel_rfl))
  f32 := Tryz.func82.trans (congrArg some (by kernel_rfl))
  f36 := ⟨Tryz.f80.name, by decide, Tryz.func80.trans (congrArg some (by kernel_rfl))⟩
  f37 := ⟨Tryz.f83.name, by decide, Tryz.func83.trans (congrArg some (by kernel_rfl))⟩
  f38 := ⟨Tryz.f84.name, by decide, Tryz.func84.trans (congrArg some (by kernel_rfl))⟩
  f39 := ⟨Tryz.f85.name, by decide, Tryz.func85.trans (congrArg some (by kernel_rfl))⟩
  f41 := ⟨Tryz.f128.name, by decide, Tryz.func128.trans (congrArg some (by kernel_rfl))⟩
  t0 := Tryz.underlying0
  a0 := Tryz.isAgg0
  z0 := Tryz.sizeOf0
  v0 := Tryz.zeroValue0
  t3 := Tryz.underlying3
  a3 := Tryz.isAgg3
  z3 := Tryz.sizeOf3
  v3 := Tryz.zeroValue3
  t4 := Tryz.underlying4
  a4 := Tryz.isAgg4
  z4 := Tryz.sizeOf4
  v4 := Tryz.zeroValue4
  t5 := Tryz.underlying5
  a5 := Tryz.isAgg5
  z5 := Tryz.sizeOf5
  v5 := Tryz.zeroValue5
  t9 := Tryz.underlying9
  a9 := Tryz.isAgg9
  z9 := Tryz.sizeOf9
  v9 := Tryz.zeroValue9
  t26 := Tryz.underlying22
  a26 := Tryz.isAgg22
  z26 := Tryz.sizeOf22
  v26 := Tryz.zeroValue22
  t27 := Tryz.underlying22
  a27 := Tryz.isAgg22
  z27 := Tryz.sizeOf22
  v27 := Tryz.zeroValue22
  t29 := Tryz.underlying9
  a29 := Tryz.isAgg9
  z29 := Tryz.sizeOf9
  v29 := Tryz.zeroValue9
  t32 := Tryz.underlying95
  a32 := Tryz.isAgg95
  z32 := Tryz.sizeOf95
  v32 := Tryz.zeroValue95
  t35 := Tryz.underlying117
  a35 := Tryz.isAgg117
  z35 := Tryz.sizeOf117
  v35 := Tryz.zeroValue117
  t36 := Tryz.underlying118
  a36 := Tryz.isAgg118
  z36 := Tryz.sizeOf118
  v36 := Tryz.zeroValue118
  t41 := Tryz.underlying123
  a41 := Tryz.isAgg123
  z41 := Tryz.sizeOf123
  v41 := Tryz.zeroValue123
  t44 := Tryz.underlying126
  a44 := Tryz.isAgg126
  z44 := Tryz.sizeOf126
  v44 := Tryz.zeroValue126
  t46 := Tryz.underlying128
  a46 := Tryz.isAgg128
  z46 := Tryz.sizeOf128
  v46 := Tryz.zeroValue128
  t53 := Tryz.underlying155
  a53 := Tryz.isAgg155
  z53 := Tryz.sizeOf155
  v53 := Tryz.zeroValue155
  t57 := Tryz.underlying159
  a57 := Tryz.isAgg159
  z57 := Tryz.sizeOf159
  v57 := Tryz.zeroValue159
  t63 := Tryz.underlying175
  a63 := Tryz.isAgg175
  z63 := Tryz.sizeOf175
  v63 := Tryz.zeroValue175
  t64 := Tryz.underlying176
  a64 := Tryz.isAgg176
  z64 := Tryz.sizeOf176
  v64 := Tryz.zeroValue176 }
end Go.Proofs
namespace Go.Proofs
open Go.RowKit Go.Maps Go.Sort Go.Shelf
theorem Tryz.sorts40 (m : Nat) : AnyZ.SortsIn Tryz.prog Tryz.sorted40_ren Fence.wide m :=
  ⟨fun blk off cap ss W hH hblk hsz => callsIn_wide.2 (AnyM.slices_Sort_string Tryz.sort57 blk off cap ss W hH hblk hsz),
   fun p cap W => callsIn_wide.2 (AnyM.slices_Sort_string_none Tryz.sort57 p cap W)⟩
theorem Tryz.maps_Keys_41 (mb : Option Nat) (W : World) : CallsIn Fence.wide 5 Tryz.prog 22 #[.map mb] W fun e w' => e = .returned (.func (.func 31) #[] #[.pointer (some ⟨W.heap.size, 0, none⟩)]) ∧ w' = W.alloc (.cells #[.map mb] 55) :=
  AnyZ.keys_in Tryz.keys41 Fence.wide 5 trivial rfl mb W
set_option maxHeartbeats 1000000 in
theorem Tryz.slices_Sorted_keys {H : Type} (b nn : Nat) (D0 : DataW H) (R : Value → Option (DataW H × List MemPlace)) (w : World) (hown : w.ownsMap Tryz.prog 9 R b nn D0) (hmax : Maps.size D0 ≤ maxLen) (hbytes : Maps.size D0 * 16 ≤ 140737488355328) :
    CallsIn Fence.wide 5 Tryz.prog 21 #[.func (.func 31) #[] #[.pointer (some ⟨w.heap.size, 0, none⟩)]] (w.alloc (.cells #[.map (some b)] 55)) fun e w' => ∃ (v : Value) (ss : List (List UInt8)), e = .returned v ∧ ss.Perm (strKeys D0) ∧
      w'.ownsRow (w.alloc (.cells #[.map (some b)] 55)).heap.size 9 1 v ss.length ((ss.mergeSort (fun x y => decide (x ≤ y))).map encStr) ∧ (v = .slice none 0 0 ↔ ss = []) ∧ Below (w.alloc (.cells #[.map (some b)] 55)).heap.size (w.alloc (.cells #[.map (some b)] 55)) w' := by
  have hbl := hown.lt
  have hseq : SeqGives Fence.wide 2 Tryz.prog 31 #[.pointer (some ⟨w.heap.size, 0, none⟩)] encStr (fun ss => ss.Perm (strKeys D0)) (Maps.size D0) (w.alloc (.cells #[.map (some b)] 55)) :=
    AnyZ.keys_gives (ρ := Tryz.keys41_ren) { Tryz.keys41 with } Fence.wide _ trivial rfl (by omega) w.heap.size b nn D0 _ (by simp) (by simp) (by
      obtain ⟨es, clock, hb, Ft, hs, hD⟩ := hown
      exact ⟨es, clock, (Below.heap_alloc _ _ b hbl).trans hb, Ft, hs, hD⟩)
  exact AnyZ.sorted_in Tryz.sorted40 Fence.wide 5 trivial trivial trivial trivial rfl (by omega) (Tryz.sorts40 _) (enters_of Tryz.func30 (by kernel_rfl) rfl) 31 #[.pointer (some ⟨w.heap.size, 0, none⟩)] trivial (enters_of Tryz.func31 (by kernel_rfl) rfl) _ _ hmax hbytes _ hseq
end Go.Proofs
namespace Go.Proofs.YtjobgpahajhbnabGreatDoor
open Go.RowKit Go.Proofs Go.Maps
attribute [local go_sem ↓] Go.wp_at_zero Go.wp_at_succ
set_option maxHeartbeats 1000000 in
theorem Jg2 {H : Type} (db mb nn : Nat) (D0 : DataW H) (R : Value → Option (DataW H × List MemPlace)) (w : World) (c1 : w.cell? ⟨db, 1, none⟩ = some (.map (some mb))) (hown : w.ownsMap Tryz.prog 9 R mb nn D0) (hmax : Maps.size D0 ≤ maxLen) (hbytes : Maps.size D0 * 16 ≤ 140737488355328) :
    Calls Tryz.prog 10 #[.pointer (some ⟨db, 0, none⟩)] w fun e w' => ∃ (v : Value) (ss : List (List UInt8)), e = .returned v ∧ ss.Perm (strKeys D0) ∧
      w'.ownsRow (w.heap.size + 1) 9 1 v ss.length ((ss.mergeSort (fun x y => decide (x ≤ y))).map encStr) ∧ Below w.heap.size w w' := by
  have HO := hide (callsIn_wide.1 (Tryz.slices_Sorted_keys mb nn D0 R w hown hmax hbytes))
  clear hown hmax hbytes
  go_enter Tryz.func10, Tryz.ntmps10
  go_wp2_with (first | (go_at_call 22; refine (callsIn_wide.1 (Tryz.maps_Keys_41 _ _)).mono ?_; rintro e w' ⟨rfl, rfl⟩) | (go_at_call 21; refine (Ja HO).mono ?_; rintro e w' ⟨v, ss, rfl, hS, hrow, hnil, hb⟩))
  refine bodyPost_ret (v := v) (by simp [results, Tryz.results10, go_sem]) rfl ⟨v, ss, rfl, hS, by simpa using hrow, ?_⟩
  exact ((Below.refl _ _).alloc (Nat.le_refl _) _).trans (hb.mono (by simp))
end Go.Proofs.YtjobgpahajhbnabGreatDoor
namespace Go.Proofs
open Go.RowKit Go.Maps Go.Sort Go.Shelf
set_option maxHeartbeats 1000000 in
theorem Tryz.slices_Sorted_none (w : World) :
    CallsIn Fence.wide 5 Tryz.prog 21 #[.func (.func 31) #[] #[.pointer (some ⟨w.heap.size, 0, none⟩)]] (w.alloc (.cells #[.map none] 55)) fun e w' => ∃ (v : Value) (ss : List (List UInt8)), e = .returned v ∧ ss = [] ∧
      w'.ownsRow (w.alloc (.cells #[.map none] 55)).heap.size 9 1 v ss.length ((ss.mergeSort (fun x y => decide (x ≤ y))).map encStr) ∧ (v = .slice none 0 0 ↔ ss = []) ∧ Below (w.alloc (.cells #[.map none] 55)).heap.size (w.alloc (.cells #[.map none] 55)) w' := by
  have hseq : SeqGives Fence.wide 2 Tryz.prog 31 #[.pointer (some ⟨w.heap.size, 0, none⟩)] encStr (fun ss : List (List UInt8) => ss = []) 0 (w.alloc (.cells #[.map none] 55)) :=
    AnyZ.keys_gives_nil (ρ := Tryz.keys41_ren) { Tryz.keys41 with } Fence.wide _ trivial rfl w.heap.size _ (by simp) (by simp)
  exact AnyZ.sorted_in Tryz.sorted40 Fence.wide 5 trivial trivial trivial trivial rfl (by omega) (Tryz.sorts40 _) (enters_of Tryz.func30 (by kernel_rfl) rfl) 31 #[.pointer (some ⟨w.heap.size, 0, none⟩)] trivial (enters_of Tryz.func31 (by kernel_rfl) rfl) _ _ (by unfold maxLen; omega) (by omega) _ hseq
end Go.Proofs
namespace Go.Proofs.YtjobgpahajhbnabGreatDoor
open Go.RowKit Go.Proofs Go.Maps
attribute [local go_sem ↓] Go.wp_at_zero Go.wp_at_succ
set_option maxHeartbeats 1000000 in
theorem Jd9 (db : Nat) (w : World) (c1 : w.cell? ⟨db, 1, none⟩ = some (.map none)) :
    Calls Tryz.prog 10 #[.pointer (some ⟨db, 0, none⟩)] w fun e w' => e = .returned (.slice none 0 0) ∧ Below w.heap.size w w' := by
  have HO := hide (callsIn_wide.1 (Tryz.slices_Sorted_none w))
  go_enter Tryz.func10, Tryz.ntmps10
  go_wp2_with (first | (go_at_call 22; refine (callsIn_wide.1 (Tryz.maps_Keys_41 _ _)).mono ?_; rintro e w' ⟨rfl, rfl⟩) | (go_at_call 21; refine (Ja HO).mono ?_; rintro e w' ⟨v, ss, rfl, hS, hrow, hnil, hb⟩))
  have hv := hnil.2 hS
  subst hv
  exact bodyPost_ret (v := .slice none 0 0) (by simp [results, Tryz.results10, go_sem]) rfl ⟨rfl, ((Below.refl _ _).alloc (Nat.le_refl _) _).trans (hb.mono (by simp))⟩
end Go.Proofs.YtjobgpahajhbnabGreatDoor
