import Derived.Test.YtjobgpahajhbnabGreatDoorKf
import Derived.Test.YtjobgpahajhbnabGreatDoorVg
import Derived.RangeFuncNested
import Derived.RangeFuncBound
import Derived.RangeFuncCalls
import Derived.RangeFuncLeaves
import Derived.RangeFuncBox
import Derived.RangeFuncFrom
import Derived.Shelf.Abstract
import Derived.Shelf.RegionOpen
import Derived.WalkKit
import Derived.OwnWalkIn
import Derived.TacticsInMore
import Derived.LoopNIn
import Derived.LoopIn
import Derived.Shelf.SlicesE.Reverse
import Derived.Ground.SlgnProg
namespace Go.Proofs.YtjobgpahajhbnabGreatDoor
open Go.RowKit Go.Proofs Go.Maps
attribute [local go_sem ↓] Go.wp_at_zero Go.wp_at_succ
theorem Tryz.enters124 : Enters Tryz.prog 124 := Go.Proofs.enters_of Tryz.func124 (by decide) rfl
def Jv : List Nat → Nat
  | [] => 0
  | [x] => x
  | _ :: y :: l => Jv (y :: l)
theorem Ya : ∀ {l : List Nat}, l.length ≠ 0 → l = l.dropLast ++ [Jv l]
  | [], h => absurd rfl h
  | [x], _ => rfl
  | x :: y :: l, _ => by
    have := Ya (l := y :: l) (by simp); show x :: y :: l = x :: ((y :: l).dropLast ++ [Jv (y :: l)]); rw [← this]
def catC (xs ys : List Int) (la lb n : Nat) : List Int := ((List.range n).map (fun i => Q1 xs la i ++ Q1 ys lb i)).flatten
def Jb8 (A B : Arr) : List Nat := A.shape.dropLast ++ [Jv A.shape + Jv B.shape]
def catR (A B : Arr) : Arr × Int := if A.shape.length ≠ B.shape.length then (eArr, 5) else if A.shape.dropLast ≠ B.shape.dropLast then (eArr, 6) else if Yy (Jb8 A B) = false then (eArr, 9) else (⟨Jb8 A B, catC A.cells B.cells (Jv A.shape) (Jv B.shape) (Jj A.shape.dropLast)⟩, 0)
def catP (a b : Arr) : Arr × Int := catR (Kt a) (Kt b)
theorem K9 (a : Arr) : (Kt a).shape.length ≠ 0 := by
  unfold Kt; split
  · simp [Zd]
  · assumption
theorem Jaz (xs ys : List Int) (la lb n : Nat) : catC xs ys la lb (n + 1) = catC xs ys la lb n ++ (Q1 xs la n ++ Q1 ys lb n) := by
  unfold catC; rw [List.range_succ, List.map_append, List.flatten_append]; simp
theorem Jab {xs : List Int} {la i : Nat} (h : (i + 1) * la ≤ xs.length) : (Q1 xs la i).length = la := by
  unfold Q1; rw [Nat.add_mul, Nat.one_mul] at h; simp; omega
theorem F8 {xs ys : List Int} {la lb : Nat} : ∀ {n : Nat}, n * la ≤ xs.length → n * lb ≤ ys.length → (catC xs ys la lb n).length = n * (la + lb)
  | 0, _, _ => by simp [catC]
  | n + 1, h1, h2 => by
    have a1 : n * la ≤ xs.length := Nat.le_trans (Nat.mul_le_mul_right _ (Nat.le_succ _)) h1; have a2 : n * lb ≤ ys.length := Nat.le_trans (Nat.mul_le_mul_right _ (Nat.le_succ _)) h2; rw [Jaz, List.length_append, List.length_append, F8 a1 a2, Jab h1, Jab h2, Nat.add_mul n 1, Nat.one_mul]
theorem St.setAB {W w : World} {P : Nat → Prop} {so : Option Addr} {sn sc : Nat} {co : Option Addr} {cn cc : Nat} {so2 : Option Addr} {sn2 sc2 : Nat} {co2 : Option Addr} {cn2 cc2 : Nat} {a b : Arr} (h : St W P w so sn sc co cn cc so2 sn2 sc2 co2 cn2 cc2 a b) {s1 : Option Addr} {s2 s3 : Nat} {c1 : Option Addr} {c2 c3 : Nat} {t1 : Option Addr} {t2 t3 : Nat} {d1 : Option Addr} {d2 d3 : Nat} {A B : Arr} (hA : IsArr (Off3 W.heap.size P) w (.agg #[.slice s1 s2 s3, .slice c1 c2 c3]) A) (hB : IsArr (Off3 W.heap.size P) w (.agg #[.slice t1 t2 t3, .slice d1 d2 d3]) B) : St W P ((((w.setCell ⟨W.heap.size, 0, none⟩ (.slice s1 s2 s3)).setCell ⟨W.heap.size, 1, none⟩ (.slice c1 c2 c3)).setCell ⟨W.heap.size + 1, 0, none⟩ (.slice t1 t2 t3)).setCell ⟨W.heap.size + 1, 1, none⟩ (.slice d1 d2 d3)) s1 s2 s3 c1 c2 c3 t1 t2 t3 d1 d2 d3 A B := by
  have hno : ¬ Off3 W.heap.size P W.heap.size := by
    rintro ⟨_, h | h⟩ <;> omega
  exact (h.setA hA).setB ((hB.set hno 0 _).set hno 1 _)
theorem Kl {P : Nat → Prop} {w : World} {so : Option Addr} {sn sc : Nat} {co : Option Addr} {cn cc : Nat} {a : Arr} (h : IsArr P w (.agg #[.slice so sn sc, .slice co cn cc]) a) : Nums P w (.slice so sn sc) (a.shape.map Int.ofNat) := by
  obtain ⟨so', sn', sc', co', cn', cc', hv, h1, h2⟩ := h; injection hv with hv; simp at hv; obtain ⟨⟨rfl, rfl, rfl⟩, rfl, rfl, rfl⟩ := hv; exact h1
theorem Vi {P : Nat → Prop} {w : World} {so : Option Addr} {sn sc : Nat} {xs : List Int} (h : Nums P w (.slice so sn sc) xs) (h0 : sn ≠ 0) : ∃ b off, so = some ⟨b, off, none⟩ := by
  have hl := Jg h; obtain ⟨ao, cap, hv, _, h1, _⟩ := h; obtain ⟨b, off, ha, _⟩ := h1 (by omega); injection hv with e1 e2 e3; exact ⟨b, off, e1.trans ha⟩
theorem Jjl (l : List Nat) (x y : Nat) : ((l ++ [x]).map Int.ofNat).set l.length (y : Int) = (l ++ [y]).map Int.ofNat := by
  rw [List.map_append, List.map_append, List.set_append_right _ _ (by simp)]; simp
theorem Jl1 {Q : Nat → Prop} {w : World} {o0 o1 o2 : Option Addr} {n0 c0 n1 c1 n2 c2 : Nat} {x0 x1 x2 : List Int} {e : TypeId} (h0 : Nums Q w (.slice o0 n0 c0) x0) (h1 : Nums Q w (.slice o1 n1 c1) x1) (h2 : Nums Q w (.slice o2 n2 c2) x2) : Jcg Q (w.alloc (.cells #[.slice o0 n0 c0, .slice o1 n1 c1, .slice o2 n2 c2] e)) w.heap.size [x0, x1, x2] := by
  have hb : Below w.heap.size w (w.alloc (.cells #[.slice o0 n0 c0, .slice o1 n1 c1, .slice o2 n2 c2] e)) := (Below.refl _ _).alloc (Nat.le_refl _) _; intro i hi; match i, hi with
  | 0, _ => exact ⟨o0, n0, c0, (World.cell?_alloc_at _ _ _ _ rfl).trans rfl, h0.below hb⟩
  | 1, _ => exact ⟨o1, n1, c1, (World.cell?_alloc_at _ _ _ _ rfl).trans rfl, h1.below hb⟩
  | 2, _ => exact ⟨o2, n2, c2, (World.cell?_alloc_at _ _ _ _ rfl).trans rfl, h2.below hb⟩
  | i + 3, hi => exact absurd hi (by simp)
theorem Jam {d : List Nat} {l : Nat} (h : Yy (d ++ [l]) = true) : Jj d * l ≤ 64 := by
  unfold Yy at h; rw [Bool.and_eq_true] at h; have := h.2; rw [Jp, Yn] at this; simpa using this
set_option maxHeartbeats 4000000 in
set_option maxRecDepth 20000 in
theorem Jpc (w : World) : FnTwo 124 #[] w catP := by
  intro W P u v a b _ hP ha hb hoa hob; obtain ⟨so, sn, sc, co, cn, cc, rfl, ha1, ha2⟩ := ha; obtain ⟨so2, sn2, sc2, co2, cn2, cc2, rfl, hb1, hb2⟩ := hb; have hS0 := St.start (P := P) (W := W) (a := a) (b := b) ⟨so, sn, sc, co, cn, cc, rfl, ha1, ha2⟩ ⟨so2, sn2, sc2, co2, cn2, cc2, rfl, hb1, hb2⟩; obtain ⟨W1, hW1⟩ : ∃ W1, ((W.alloc (.cells #[.slice so sn sc, .slice co cn cc] 57)).alloc (.cells #[.slice so2 sn2 sc2, .slice co2 cn2 cc2] 57)).alloc (.cells #[.slice none 0 0, .slice none 0 0] 57) = W1 := ⟨_, rfl⟩; rw [hW1] at hS0; have HS0 := hide hS0; have HOff : Hid (∀ w' : World, W.heap.size + 1 + 1 < w'.heap.size → ∀ b, w'.heap.size ≤ b → Off3 W.heap.size P b) := hide (fun w' h b hb => ⟨hP b (by omega), .inr (by omega)⟩); have HLA := hide (Q4 (Off3 W.heap.size P) W1.drew (Ja HOff W1.drew (hS0.keep (Below.refl _ _).drew).lt) so sn sc co cn cc a (hS0.keep (Below.refl _ _).drew).isA); have HLB := hide (fun w' (hb : Below W1.heap.size W1 w') => Q4 (Off3 W.heap.size P) w' (Ja HOff w' (hS0.keep hb).lt) so2 sn2 sc2 co2 cn2 cc2 b (hS0.keep hb).isB); have HP : Hid (∀ b, W.heap.size ≤ b → P b) := hP; have HOA := hide (Qa hoa); have HOB := hide (Qa hob); have HKA := hide (K9 a); have HKB := hide (K9 b); unfold catP; obtain ⟨A, hA⟩ : ∃ A, Kt a = A := ⟨_, rfl⟩; obtain ⟨B, hB⟩ : ∃ B, Kt b = B := ⟨_, rfl⟩; simp only [hA] at HLA HOA HKA ⊢; simp only [hB] at HLB HOB HKB ⊢; obtain ⟨r, hr⟩ : ∃ r, catR A B = r := ⟨_, rfl⟩; simp only [hr]; have HR := hide hr; have x0 := hS0.a0; have x1 := hS0.a1; have x2 := hS0.b0; have x3 := hS0.b1; have y0 := hS0.fr W.heap.size 0 (by omega) (by omega); have y1 := hS0.fr W.heap.size 1 (by omega) (by omega); have y2 := hS0.fr (W.heap.size + 1) 0 (by omega) (by omega); have y3 := hS0.fr (W.heap.size + 1) 1 (by omega) (by omega); have n3 := hS0.lt; have n1 : W.heap.size < W1.heap.size := by omega
  have n2 : W.heap.size + 1 < W1.heap.size := by omega
  clear hP hoa hob ha1 ha2 hb1 hb2 hr hS0 hA hB; go_enter Tryz.func124, Tryz.ntmps124; go_upto_region 1 with fail; try rw [hW1]
  clear hW1; go_cut [5] from 10 to 13 (fun v5 wx => v5 = .int .i64 0 ∧ ∃ s1 s2 s3 c1 c2 c3 t1 t2 t3 d1 d2 d3, St W P wx s1 s2 s3 c1 c2 c3 t1 t2 t3 d1 d2 d3 A B)
  case first =>
    go_region_with (first | (go_at_call 177; with_reducible refine (Ja HLA).mono ?_; rintro e wA ⟨s1, s2, s3, c1, c2, c3, rfl, hAA, hbA⟩; have hbWA : Below W1.heap.size W1 wA := (Jk hbA); have hSA := (Ja HS0).keep hbWA; have pA0 := hSA.a0; have pA1 := hSA.a1; have pA2 := hSA.b0; have pA3 := hSA.b1; have zA0 := hSA.fr W.heap.size 0 (by omega) (by omega); have zA1 := hSA.fr W.heap.size 1 (by omega) (by omega); have zA2 := hSA.fr (W.heap.size + 1) 0 (by omega) (by omega); have zA3 := hSA.fr (W.heap.size + 1) 1 (by omega) (by omega); have mA3 := hSA.lt; have mA1 : W.heap.size < wA.heap.size := (by omega); have mA2 : W.heap.size + 1 < wA.heap.size := (by omega); have HSA := hide hSA; have HBA := hide hbWA; have HRA := hide hbA; have HIA := hide hAA; clear hSA hbWA hbA hAA) | (go_at_call 177; with_reducible refine (Ja HLB _ (Ja HBA)).mono ?_; rintro e wB ⟨t1, t2, t3, d1, d2, d3, rfl, hBB, hbB⟩; have hbWB : Below W1.heap.size W1 wB := ((Ja HBA).trans (hbB.mono (Ja HBA).size)); have hSB := (Ja HS0).keep hbWB; have pB0 := hSB.a0; have pB1 := hSB.a1; have pB2 := hSB.b0; have pB3 := hSB.b1; have zB0 := hSB.fr W.heap.size 0 (by omega) (by omega); have zB1 := hSB.fr W.heap.size 1 (by omega) (by omega); have zB2 := hSB.fr (W.heap.size + 1) 0 (by omega) (by omega); have zB3 := hSB.fr (W.heap.size + 1) 1 (by omega) (by omega); have mB3 := hSB.lt; have mB1 : W.heap.size < wB.heap.size := (by omega); have mB2 : W.heap.size + 1 < wB.heap.size := (by omega); have HSB := hide hSB; have HBB := hide hbWB; have HRB := hide hbB; have HIB := hide hBB; clear hSB hbWB hbB hBB))
    all_goals go_wp2_with fail
    all_goals go_meet
    all_goals
      refine ⟨rfl, s1, s2, s3, c1, c2, c3, t1, t2, t3, d1, d2, d3, ?_⟩; exact (Ja HSB).setAB ((Ja HIA).below (Ja HRB)) (Ja HIB)
  case rest =>
    obtain ⟨rfl, s1, s2, s3, c1, c2, c3, t1, t2, t3, d1, d2, d3, hS⟩ := hcut; clear x0 x1 x2 x3 y0 y1 y2 y3 n1 n2 n3 HLA HLB HS0; have hsA := (Jc hS.isA).2; have hsB := (Jc hS.isB).2; have hrkA : s2 ≤ 3 := by rw [hsA]; exact (Ja HOA).rank
    have hrkB : t2 ≤ 3 := by rw [hsB]; exact (Ja HOB).rank
    have hsA0 : s2 ≠ 0 := by rw [hsA]; exact Ja HKA
    have hsB0 : t2 ≠ 0 := by rw [hsB]; exact Ja HKB
    have HSA := hide hsA; have HSB := hide hsB; have HS := hide hS; have x0 := hS.a0; have x1 := hS.a1; have n3 := hS.lt; have n1 : W.heap.size < wc.heap.size := by omega
    have n2 : W.heap.size + 1 < wc.heap.size := by omega
    obtain ⟨k, hk⟩ : ∃ k, s2 - 1 = k := ⟨_, rfl⟩; have hk3 : k ≤ 2 := by omega
    have hw1 : IntKind.i64.wrap ((s2 : Int) - 1) = (k : Int) := by
      have e : (s2 : Int) - 1 = (k : Int) := by omega
      rw [e]; exact Jd (by omega) (by omega)
    have HRk : Hid (∀ w', Calls Tryz.prog 144 #[.agg #[.slice s1 s2 s3, .slice c1 c2 c3]] w' fun e w'' => e = .returned (.int .i64 s2) ∧ Below w'.heap.size w' w'') := hide (fun w' => (Yk w' s1 s2 s3 c1 c2 c3).mono (fun e w'' h => ⟨h.1, by rw [h.2]; exact (Below.refl _ _).alloc (Nat.le_refl _) _⟩)); have HRk2 : Hid (∀ w', Calls Tryz.prog 144 #[.agg #[.slice t1 t2 t3, .slice d1 d2 d3]] w' fun e w'' => e = .returned (.int .i64 t2) ∧ Below w'.heap.size w' w'') := hide (fun w' => (Yk w' t1 t2 t3 d1 d2 d3).mono (fun e w'' h => ⟨h.1, by rw [h.2]; exact (Below.refl _ _).alloc (Nat.le_refl _) _⟩)); have HK := hide hk; clear hS hsA hsB hk; go_wp2_with fail; refine (Ja HRk _).mono ?_; rintro e w2 ⟨rfl, hb2⟩; have hS := (Ja HS).keep hb2; clear x0 x1 n1 n2 n3; have x0 := hS.a0; have x1 := hS.a1; have x2 := hS.b0; have x3 := hS.b1; have n3 := hS.lt; have n1 : W.heap.size < w2.heap.size := by omega
    have n2 : W.heap.size + 1 < w2.heap.size := by omega
    have HS2 := hide hS; clear hS hb2 HS; go_upto_region 3 with fail; go_cut [21] from 17 to 20 (fun v21 wx => v21 = .bool ((s2 : Int) != (t2 : Int)) ∧ Below w2.heap.size w2 wx)
    case first =>
      go_region_with (first | (go_at_call 144; with_reducible refine (Ja HRk _).mono ?_; rintro e wA ⟨rfl, hbA⟩; have hA2 : Below w2.heap.size w2 wA := (Jk hbA); have HA2 := hide hA2; have pA0 := (hA2.cell (p := ⟨W.heap.size, 0, none⟩) n1).trans x0; have pA1 := (hA2.cell (p := ⟨W.heap.size, 1, none⟩) n1).trans x1; have pA2 := (hA2.cell (p := ⟨W.heap.size + 1, 0, none⟩) n2).trans x2; have pA3 := (hA2.cell (p := ⟨W.heap.size + 1, 1, none⟩) n2).trans x3; clear hbA hA2) | (go_at_call 144; with_reducible refine (Ja HRk2 _).mono ?_; rintro e wB ⟨rfl, hbB⟩; have hB2 : Below w2.heap.size w2 wB := ((Ja HA2).trans (hbB.mono (Ja HA2).size)); have HB2 := hide hB2; have pB0 := (hB2.cell (p := ⟨W.heap.size, 0, none⟩) n1).trans x0; have pB1 := (hB2.cell (p := ⟨W.heap.size, 1, none⟩) n1).trans x1; have pB2 := (hB2.cell (p := ⟨W.heap.size + 1, 0, none⟩) n2).trans x2; have pB3 := (hB2.cell (p := ⟨W.heap.size + 1, 1, none⟩) n2).trans x3; clear hbB hB2))
      all_goals go_wp2_with fail
      all_goals go_meet
      all_goals first | exact ⟨rfl, Ja HB2⟩ | exact ⟨rfl, Ja HA2⟩ | trace_state
    case rest =>
      obtain ⟨rfl, hb3⟩ := hcut; have hS := (Ja HS2).keep hb3; clear x0 x1 x2 x3 n1 n2 n3 HRk HRk2; have x0 := hS.a0; have x1 := hS.a1; have x2 := hS.b0; have x3 := hS.b1; have x4 := hS.r0; have x5 := hS.r1; have y4 := hS.fr (W.heap.size + 1 + 1) 0 (by omega) (by omega); have y5 := hS.fr (W.heap.size + 1 + 1) 1 (by omega) (by omega); have n3 := hS.lt; rename World => w3
      have HS3 := hide hS; have HBz := hide hS.below; by_cases hst : s2 = t2
      · subst hst; have hne : ((s2 : Int) != (s2 : Int)) = false := by simp
        have n1 : W.heap.size < w3.heap.size := by omega
        have n2 : W.heap.size + 1 < w3.heap.size := by omega
        have hshA := Kl hS.isA; have hshB := Kl hS.isB; obtain ⟨sb, sf, hse⟩ := Vi hshA hsA0; subst hse; obtain ⟨tb, tf, hte⟩ := Vi hshB hsA0; subst hte; have hcapA := Zk hshA; have hcapB := Zk hshB; have hdA := Ya (l := A.shape) (Ja HKA); have hdB := Ya (l := B.shape) (Ja HKB); obtain ⟨dA, hdA1⟩ : ∃ d, A.shape.dropLast = d := ⟨_, rfl⟩; obtain ⟨la, hla⟩ : ∃ d, Jv A.shape = d := ⟨_, rfl⟩; obtain ⟨dB, hdB1⟩ : ∃ d, B.shape.dropLast = d := ⟨_, rfl⟩; obtain ⟨lb, hlb⟩ : ∃ d, Jv B.shape = d := ⟨_, rfl⟩; rw [hdA1, hla] at hdA; rw [hdB1, hlb] at hdB; have hkA : k = dA.length := by have h1 := Ja HK; have h2 := Ja HSA; rw [hdA] at h2; simp at h2; omega
        have hkB : k = dB.length := by have h1 := Ja HK; have h2 := Ja HSB; rw [hdB] at h2; simp at h2; omega
        have hks2 : k + 1 = s2 := by have h1 := Ja HK; omega
        have hk0 : (0 : Int) ≤ (k : Int) := by omega
        have hk1 : (k : Int) ≤ (s3 : Int) := by omega
        have hk2 : (k : Int) ≤ (t3 : Int) := by omega
        have hk4 : k ≤ s3 := by omega
        have hk5 : k ≤ t3 := by omega
        have HEq : Hid (∀ w', Below w3.heap.size w3 w' → Calls Tryz.prog 179 #[.slice (some ⟨sb, sf, none⟩) k s3, .slice (some ⟨tb, tf, none⟩) k t3] w' fun e w'' => e = .returned (.bool (dA == dB)) ∧ Below w'.heap.size w' w'') := hide (fun w' hb => by
          refine Jo6 (Q := Off3 W.heap.size P) (Q' := Off3 W.heap.size P) w' _ k s3 _ t3 dA dB ?_ ?_ (by omega)
          · have := Yi (hshA.below hb) (k := k) (by omega); rw [hdA, List.map_append, List.take_append_of_le_length (by simp; omega), List.take_of_length_le (by simp; omega)] at this; exact this
          · have := Yi (hshB.below hb) (k := k) (by omega); rw [hdB, List.map_append, List.take_append_of_le_length (by simp; omega), List.take_of_length_le (by simp; omega)] at this; exact this)
        have HDA := hide (And.intro hdA (And.intro hdA1 hla)); have HDB := hide (And.intro hdB (And.intro hdB1 hlb)); have HKL := hide (And.intro hkA hkB); have HShA := hide hshA; clear hdA hdB hdA1 hdB1 hla hlb hkA hkB hshA hshB hS; obtain ⟨D, hD⟩ : ∃ D, (!(dA == dB)) = D := ⟨_, rfl⟩; have HD := hide hD; clear hD; go_upto_region 5 with fail; go_cut [32] from 21 to 31 (fun v32 wx => v32 = .bool D ∧ Below w3.heap.size w3 wx)
        case first =>
          go_region_with (go_at_call 179; refine (Ja HEq _ (Below.refl _ _).drew).mono ?_; rintro e wE ⟨rfl, hbE⟩; have HBE := hide (Jk hbE); clear hbE)
          all_goals go_wp2_with fail
          all_goals go_meet
          all_goals exact ⟨by rw [← Ja HD], Ja HBE⟩
        case rest =>
          obtain ⟨rfl, hb4⟩ := hcut; have hS := (Ja HS3).keep hb4; clear x0 x1 x2 x3 x4 x5 y4 y5 n1 n2 n3 HEq HBz HS3; have x0 := hS.a0; have x1 := hS.a1; have x2 := hS.b0; have x3 := hS.b1; have x4 := hS.r0; have x5 := hS.r1; have y4 := hS.fr (W.heap.size + 1 + 1) 0 (by omega) (by omega); have y5 := hS.fr (W.heap.size + 1 + 1) 1 (by omega) (by omega); have n3 := hS.lt; rename World => w4
          have n1 : W.heap.size < w4.heap.size := by omega
          have n2 : W.heap.size + 1 < w4.heap.size := by omega
          have HS4 := hide hS; have HBz := hide hS.below; have hN4 := Kl hS.isA; clear hS hb4; cases D
          · have hdd : dA = dB := by simpa using Ja HD
            have HDD := hide hdd; have hA200 : (A.shape.map Int.ofNat).length ≤ 200 := by have := (Ja HOA).rank; simp; omega
            have HCl := hide (Jat w4 (some ⟨sb, sf, none⟩) s2 s3 (A.shape.map Int.ofNat) hN4 hA200 (by omega)); clear hdd hN4 hA200; go_wp2_with fail; refine (Ja HCl).mono ?_; rintro e w5 ⟨g, cg, rfl, hown, hb5⟩; have hS := (Ja HS4).keep hb5; clear x0 x1 x2 x3 x4 x5 y4 y5 n1 n2 n3 HCl; have hll : k < s2 := by omega
            have hge : w4.heap.size ≤ g := (hown.lt g rfl).1; have hgl : g < w5.heap.size := (hown.lt g rfl).2; have hc0 : w5.cell? ⟨g, k, none⟩ = some (.int .i64 la) := by
              rw [hown.cellAt k (by omega), (Ja HDA).1, (Ja HKL).1]; simp
            have hf0 := hown.frozenAt k; have hst := (fun (w' : World) (h : w'.ownsRow w4.heap.size 3 1 (.slice (some ⟨g, 0, none⟩) s2 cg) s2 ((A.shape.map Int.ofNat).map (Value.int .i64))) => (h.stored k (.int .i64 ((la + lb : Nat) : Int))).1); have HLast : Hid (∀ w', Below w5.heap.size w5 w' → Calls Tryz.prog 157 #[.agg #[.slice (some ⟨tb, tf, none⟩) s2 t3, .slice d1 d2 d3]] w' fun e w'' => e = .returned (.int .i64 lb) ∧ Below w'.heap.size w' w'') := hide (fun w' hb => Q5 w' _ s2 t3 d1 d2 d3 B (hS.isB.below hb) dB lb (Ja HDB).1 (by have := (Ja HKL).2; omega)); have hla200 : la ≤ 200 := (Ja HOA).lens la (by rw [(Ja HDA).1]; simp); have hlb200 : lb ≤ 200 := (Ja HOB).lens lb (by rw [(Ja HDB).1]; simp); have hi0 : (0 : Int) ≤ (k : Int) := by omega
            have hi1 : (k : Int) < (s2 : Int) := by omega
            obtain ⟨ll, hl2⟩ : ∃ ll, la + lb = ll := ⟨_, rfl⟩; rw [hl2] at hst; have hwl : IntKind.i64.wrap ((la : Int) + (lb : Int)) = (ll : Int) := by
              have e : (la : Int) + (lb : Int) = (ll : Int) := by omega
              rw [e]; exact Jd (by omega) (by omega)
            have x2 := hS.b0; have x3 := hS.b1; have n3 := hS.lt; have n2 : W.heap.size + 1 < w5.heap.size := by omega
            have HS5 := hide hS; have HO5 := hide hown; have HST := hide hst; have HB5 := hide hb5; have HLL := hide hl2; have hgS : Hid (w4.heap.size ≤ g) := hide hge; clear hS hown hst hb5 hl2 hge; go_upto_region 8 with fail; go_cut [5] from 37 to 44 (fun v5 wx => v5 = .int .i64 0 ∧ wx.ownsRow w4.heap.size 3 1 (.slice (some ⟨g, 0, none⟩) s2 cg) s2 (((A.shape.map Int.ofNat).map (Value.int .i64)).set k (.int .i64 (ll : Int))) ∧ Below w4.heap.size w4 wx)
            case first =>
              go_region_with (go_at_call 157; refine (Ja HLast _ (Below.refl _ _).drew).mono ?_; rintro e w6 ⟨rfl, hb6⟩; have hb6' := Jk hb6; have HB6 := hide hb6'; have hc6 := (hb6'.cell (p := ⟨g, k, none⟩) hgl).trans hc0; have hf6 := (hb6'.frozen (p := ⟨g, k, none⟩) hgl).trans hf0; have hs6 := hb6'.size; clear hb6 hb6')
              all_goals go_wp2_with fail
              all_goals go_meet
              all_goals exact ⟨rfl, Ja HST _ (Ka (Ja HO5) (Ja HB6)), ((Ja HB5).trans ((Ja HB6).mono (Ja HB5).size)).setCell (p := ⟨g, k, none⟩) (Ja hgS) _⟩
            case rest =>
              obtain ⟨rfl, hown, hb6⟩ := hcut; rename World => w6
              have hS := (Ja HS4).keep hb6; clear x2 x3 n2 n3 hf0 hc0 hgl HST HB5 HS5 HO5 HLast; have hnew : ((A.shape.map Int.ofNat).map (Value.int .i64)).set k (.int .i64 (ll : Int)) = ((dA ++ [ll]).map Int.ofNat).map (Value.int .i64) := by
                rw [(Ja HDA).1, (Ja HKL).1, ← Jjl dA la ll, List.map_set]
              rw [hnew] at hown; have n3 := hS.lt; have n43 := (Ja HS4).lt; have hshN := Jt (P := Off3 W.heap.size P) hown (Ja HOff w4 n43); have hLens : Lens (dA ++ [ll]) := ⟨by have h1 := (Ja HKL).1; simp; omega, fun n hn => by
                rcases List.mem_append.1 hn with h | h
                · have := (Ja HOA).lens n (by rw [(Ja HDA).1]; exact List.mem_append_left _ h); omega
                · have h1 := Ja HLL; simp at h; omega⟩
              have hLensD : Lens dA := ⟨by have h1 := (Ja HKL).1; omega, fun n hn => hLens.lens n (List.mem_append_left _ hn)⟩; have HFit := hide (Xa w6 _ s2 cg (dA ++ [ll]) hshN hLens); have hcapg := Zk hshN; have hk6 : (k : Int) ≤ (cg : Int) := by omega
              have hk7 : k ≤ cg := by omega
              have HCnt : Hid (Calls Tryz.prog 148 #[.slice (some ⟨g, 0, none⟩) k cg] w6 fun e w' => e = .returned (.int .i64 (Jj dA)) ∧ w' = w6) := hide (by
                refine Vb (Q := Off3 W.heap.size P) w6 _ k cg dA ?_ hLensD; have := Yi hshN (k := k) (by omega); rw [List.map_append, List.take_append_of_le_length (by simp; have := (Ja HKL).1; omega), List.take_of_length_le (by simp; have := (Ja HKL).1; omega)] at this; exact this)
              have hNle := hLensD.prod; have hcA : A.cells.length = Jj dA * la := by rw [(Ja HOA).size, (Ja HDA).1, Jp, Yn]
              have hcB : B.cells.length = Jj dA * lb := by rw [(Ja HOB).size, (Ja HDB).1, Jp, Yn, Ja HDD]
              obtain ⟨F, hF⟩ : ∃ F, Yy (dA ++ [ll]) = F := ⟨_, rfl⟩; rw [hF] at HFit; obtain ⟨N, hN⟩ : ∃ N, Jj dA = N := ⟨_, rfl⟩; have hrr : r = if F = false then (eArr, 9) else (⟨dA ++ [ll], catC A.cells B.cells la lb N⟩, 0) := by
                rw [← Ja HR]; unfold catR Jb8; rw [if_neg (by rw [← Ja HSA, ← Ja HSB]; simp), (Ja HDA).2.1, (Ja HDB).2.1, if_neg (by simpa using Ja HDD), (Ja HDA).2.2, (Ja HDB).2.2, Ja HLL, hF, hN]
              have hsz : F = true → N * ll ≤ 64 := fun h => by rw [← hN]; exact Jam (hF.trans h)
              rw [hN] at HCnt hNle hcA hcB; have x4 := hS.r0; have x5 := hS.r1; have y4 := hS.fr (W.heap.size + 1 + 1) 0 (by omega) (by omega); have y5 := hS.fr (W.heap.size + 1 + 1) 1 (by omega) (by omega); have HBz := hide hS.below; have HS6 := hide hS; have HSN := hide hshN; have HSZ := hide hsz; have HCA := hide hcA; have HCB := hide hcB; clear hown hnew hshN hLens hLensD hF hN hsz hcA hcB hS HS4 hb6 HR; cases F
              · rw [if_pos rfl] at hrr; subst hrr; go_wp2_with (go_at_call 145; refine (Ja HFit).mono ?_; rintro e w' ⟨rfl, hw'⟩; have hw2 := hw'.symm; subst hw2; clear hw'); exact bodyPost_ret (v := .tuple #[.agg #[.slice none 0 0, .slice none 0 0], .int .i64 9]) (by simp [results, Tryz.results124, go_sem, x4, x5]) rfl ⟨_, _, _, _, _, _, rfl, Yd _ _, (Ye (P := P) (Ja HBz) (Yd _ _)).2⟩
              · rw [if_neg (by decide)] at hrr; subst hrr; have hNl : N * ll ≤ 64 := Ja HSZ rfl; have HNL := hide hNl; clear hNl HSZ; go_wp2_with (first | (go_at_call 145; refine (Ja HFit).mono ?_; rintro e w' ⟨rfl, hw'⟩; have hw2 := hw'.symm; subst hw2; clear hw') | (go_at_call 148; refine (Ja HCnt).mono ?_; rintro e w' ⟨rfl, hw'⟩; have hw2 := hw'.symm; subst hw2; clear hw')); go_loopw [8, 53] (fun v8 v53 wr => ∃ (j : Nat) (o : Option Addr) (n c : Nat), v53 = .int .i64 j ∧ j ≤ N ∧ v8 = .slice o n c ∧ Nums (Off3 W.heap.size P) wr (.slice o n c) (catC A.cells B.cells la lb j) ∧ Below w6.heap.size w6 wr) (fun _ v53 _ => N - (intOf v53).toNat)
                case atStart => exact ⟨0, none, 0, 0, rfl, by omega, rfl, Jo _ _, Below.refl _ _⟩
                case round =>
                  obtain ⟨j, o, n, c, rfl, hj, rfl, hcs, hbr⟩ := hrel; have hS := (Ja HS6).keep hbr; by_cases hlt : j < N
                  · have hmA : (j + 1) * la ≤ A.cells.length := by rw [Ja HCA]; exact Nat.mul_le_mul_right _ hlt
                    have hmB : (j + 1) * lb ≤ B.cells.length := by rw [Ja HCB]; exact Nat.mul_le_mul_right _ hlt
                    have hfl := F8 (xs := A.cells) (ys := B.cells) (la := la) (lb := lb) (n := j + 1) hmA hmB; have hle : (j + 1) * (la + lb) ≤ N * ll := by rw [Ja HLL]; exact Nat.mul_le_mul_right _ hlt
                    have hN64 := Ja HNL; have hdA2 : dA.length ≤ 3 := by have := (Ja HKL).1; omega
                    have hdB2 : dB.length ≤ 3 := by have := (Ja HKL).2; omega
                    have hfA := (Ja HOA).few; have hfB := (Ja HOB).few; have HLA : Hid (Calls Tryz.prog 180 #[.agg #[.slice (some ⟨sb, sf, none⟩) s2 s3, .slice c1 c2 c3], .int .i64 j] wr.drew fun e w'' => ∃ o n c, e = .returned (.slice o n c) ∧ Nums (Off3 W.heap.size P) w'' (.slice o n c) (Q1 A.cells la j) ∧ Below wr.drew.heap.size wr.drew w'') := hide (Ja3 wr.drew _ s2 s3 c1 c2 c3 A (hS.isA.below (Below.refl _ _).drew) dA la (Ja HDA).1 hdA2 j hmA (by omega) (by omega) (by omega)); have HLB : Hid (∀ w', Below wr.heap.size wr w' → Calls Tryz.prog 180 #[.agg #[.slice (some ⟨tb, tf, none⟩) s2 t3, .slice d1 d2 d3], .int .i64 j] w' fun e w'' => ∃ o n c, e = .returned (.slice o n c) ∧ Nums (Off3 W.heap.size P) w'' (.slice o n c) (Q1 B.cells lb j) ∧ Below w'.heap.size w' w'') := hide (fun w' hb => Ja3 w' _ s2 t3 d1 d2 d3 B (hS.isB.below hb) dB lb (Ja HDB).1 hdB2 j hmB (by omega) (by omega) (by omega)); obtain ⟨xa, hxa⟩ : ∃ x, Q1 A.cells la j = x := ⟨_, rfl⟩; obtain ⟨xb, hxb⟩ : ∃ x, Q1 B.cells lb j = x := ⟨_, rfl⟩; obtain ⟨xc, hxc⟩ : ∃ x, catC A.cells B.cells la lb j = x := ⟨_, rfl⟩; have hsuc := Jaz A.cells B.cells la lb j; rw [hxa, hxb, hxc] at hsuc; rw [hxc] at hcs; rw [hxa] at HLA; rw [hxb] at HLB; have HSU := hide hsuc; have hflat : [xc, xa, xb].flatten = catC A.cells B.cells la lb (j + 1) := by rw [hsuc]; simp
                    have HFL := hide hflat; have HFW : Hid ([xc, xa, xb].flatten.length ≤ 1000) := hide (by rw [hflat, hfl]; omega); have x0 := hS.a0; have x1 := hS.a1; have x2 := hS.b0; have x3 := hS.b1; have n3' := hS.lt; have n1' : W.heap.size < wr.heap.size := by omega
                    have n2' : W.heap.size + 1 < wr.heap.size := by omega
                    have HCS := hide hcs; have HBR := hide hbr; have hj0 : (0 : Int) ≤ (j : Int) := by omega
                    have hj1 : (j : Int) < (N : Int) := by omega
                    clear hmA hmB hfl hle hN64 hxa hxb hxc hsuc hflat hS hcs hbr hdA2 hdB2 hfA hfB; go_wp2_with fail; go_region_with (first | (go_at_call 180; with_reducible refine (Ja HLA).mono ?_; rintro e wA ⟨oa, na, ca, rfl, hNA, hbA⟩; have hA2 := Jk hbA; have HA2 := hide hA2; have HNA := hide hNA; have pA2 := (hA2.cell (p := ⟨W.heap.size + 1, 0, none⟩) n2').trans x2; have pA3 := (hA2.cell (p := ⟨W.heap.size + 1, 1, none⟩) n2').trans x3; clear hbA hA2 hNA) | (go_at_call 180; with_reducible refine (Ja HLB _ (Ja HA2)).mono ?_; rintro e wB ⟨ob, nb, cb2, rfl, hNB, hbB⟩; have HB2 := hide hbB; have HNB := hide hNB; clear hbB hNB) | (go_at_call 176; refine (Jex (Off3 W.heap.size P) (Q := Off3 W.heap.size P) _ (Ja HOff _ (by have h1 := (Ja HB2).size; have h2 := (Ja HA2).size; simp; omega)) wB.heap.size 3 3 [xc, xa, xb] rfl (by decide) (by simp) (Jl1 (((Ja HCS).below (Ja HA2)).below (Ja HB2)) ((Ja HNA).below (Ja HB2)) (Ja HNB)) (Ja HFW)).mono ?_; rintro e wC ⟨oo, nn, kk, rfl, hNC, hbC⟩; have HNC := hide hNC; have HBC : Hid (Below w6.heap.size w6 wC) := hide (Za (Za (Za (Ja HBR) (Ja HA2)) (Ja HB2)) (Za ((Below.refl _ _).alloc (Nat.le_refl _) _) hbC)); clear hNC hbC))
                    all_goals
                      go_wp2_with fail; go_roundw
                      case rel => exact ⟨j + 1, oo, nn, kk, by go_num, by omega, rfl, by rw [← Ja HFL]; exact Ja HNC, Ja HBC⟩
                      case measure => simp [intOf]; omega
                  · have hje : j = N := by omega
                    subst hje; have hsh := (Ja HSN).below hbr; have HA : Hid (IsArr (Off3 W.heap.size P) wr (.agg #[.slice (some ⟨g, 0, none⟩) s2 cg, .slice o n c]) ⟨dA ++ [ll], catC A.cells B.cells la lb j⟩) := hide ⟨_, _, _, _, _, _, rfl, hsh, hcs⟩; have x4' := hS.r0; have x5' := hS.r1; have y4' := hS.fr (W.heap.size + 1 + 1) 0 (by omega) (by omega); have y5' := hS.fr (W.heap.size + 1 + 1) 1 (by omega) (by omega); have n3' := hS.lt; have HBr := hide hS.below; clear hS hsh hcs hbr; go_wp2_with fail; exact bodyPost_ret (v := .tuple #[.agg #[.slice (some ⟨g, 0, none⟩) s2 cg, .slice o n c], .int .i64 0]) (by simp [results, Tryz.results124, go_sem, x4', x5']) rfl ⟨_, _, _, _, _, _, rfl, (Ye (Ja HBr) (Ja HA)).1, (Ye (Ja HBr) (Ja HA)).2⟩
          · have hdd : ¬ dA = dB := by simpa using Ja HD
            have hr' : r = (eArr, 6) := by
              rw [← Ja HR]; unfold catR; rw [if_neg (by rw [← Ja HSA, ← Ja HSB]; simp), if_pos (by rw [(Ja HDA).2.1, (Ja HDB).2.1]; exact hdd)]
            subst hr'; clear hdd hN4; go_wp2_with fail; exact bodyPost_ret (v := .tuple #[.agg #[.slice none 0 0, .slice none 0 0], .int .i64 6]) (by simp [results, Tryz.results124, go_sem, x4, x5]) rfl ⟨_, _, _, _, _, _, rfl, Yd _ _, (Ye (P := P) (Ja HBz) (Yd _ _)).2⟩
      · have hne : ((s2 : Int) != (t2 : Int)) = true := by simp; omega
        have hr' : r = (eArr, 5) := by
          rw [← Ja HR]; unfold catR; rw [if_pos (by rw [← Ja HSA, ← Ja HSB]; exact hst)]
        subst hr'; clear hst hS; go_wp2_with fail; exact bodyPost_ret (v := .tuple #[.agg #[.slice none 0 0, .slice none 0 0], .int .i64 5]) (by simp [results, Tryz.results124, go_sem, x4, x5]) rfl ⟨_, _, _, _, _, _, rfl, Yd _ _, (Ye (P := P) (Ja HBz) (Yd _ _)).2⟩
theorem Jn0 : TwoC ⟨#[99, 97, 116]⟩ catP := ⟨fun w => (Zz (t := ⟨#[99, 97, 116]⟩) (k1 := .string [97, 116]) (k2 := .string [99, 97, 116]) (f := 124) (by decide) (by kernel_rfl) (by kernel_rfl) (by kernel_rfl) (by kernel_rfl) (by kernel_rfl) w).mono (by rintro e w' ⟨rfl, hb⟩; exact ⟨124, #[], rfl, Tryz.enters124, hb, Jpc w'⟩), fun a b ha hb => by
  have hA := Qa ha; have hB := Qa hb; have kA := K9 a; have kB := K9 b; unfold catP; generalize Kt a = A at hA kA ⊢
  generalize Kt b = B at hB kB ⊢
  unfold catR; split
  · exact ⟨by simp [eArr], fun h => absurd h (by decide)⟩
  · split
    · exact ⟨by simp [eArr], fun h => absurd h (by decide)⟩
    · split
      · exact ⟨by simp [eArr], fun h => absurd h (by decide)⟩
      · rename_i h1 h2 h3
        have h3' : Yy (Jb8 A B) = true := by simpa using h3
        have h2' : A.shape.dropLast = B.shape.dropLast := by simpa using h2
        have hsz : Jj A.shape.dropLast * (Jv A.shape + Jv B.shape) ≤ 64 := Jam h3'; have hcA : A.cells.length = Jj A.shape.dropLast * Jv A.shape := by
          rw [hA.size]; have := congrArg Jj (Ya kA); rw [Jp, Yn] at this; exact this
        have hcB : B.cells.length = Jj A.shape.dropLast * Jv B.shape := by
          rw [hB.size, h2']; have := congrArg Jj (Ya kB); rw [Jp, Yn] at this; exact this
        have hl := F8 (xs := A.cells) (ys := B.cells) (la := Jv A.shape) (lb := Jv B.shape) (n := Jj A.shape.dropLast) (by omega) (by omega); refine ⟨by show (catC _ _ _ _ _).length ≤ 200; omega, fun _ => ⟨?_, ?_, ?_, by show (catC _ _ _ _ _).length ≤ 200; omega, ?_⟩⟩
        · have := hA.rank; simp [Jb8]; omega
        · intro n hn; unfold Yy at h3'; rw [Bool.and_eq_true] at h3'; have := List.all_eq_true.1 h3'.1 n hn; have : n ≤ 64 := by simpa using this
          omega
        · show (catC _ _ _ _ _).length = Jj (Jb8 A B); rw [hl]; unfold Jb8; rw [Jp, Yn]
        · intro c hc; unfold catC at hc; obtain ⟨l, hl1, hl2⟩ := List.mem_flatten.1 hc; obtain ⟨i, _, rfl⟩ := List.mem_map.1 hl1; rcases List.mem_append.1 hl2 with h | h
          · exact hA.fits c (List.mem_of_mem_drop (List.mem_of_mem_take h))
          · exact hB.fits c (List.mem_of_mem_drop (List.mem_of_mem_take h))⟩
end Go.Proofs.YtjobgpahajhbnabGreatDoor
namespace Go.Proofs.YtjobgpahajhbnabGreatDoor
open Go.RowKit Go.Proofs Go.Shelf
attribute [local go_sem] Oper.semAt_some
abbrev Part (n : Nat) := { p : Nat × Nat // p.1 + p.2 ≤ n ∧ 0 < p.2 }
def KpB (bs bn : Nat) (W W' : World) : Prop := W'.heap[bs]? = W.heap[bs]? ∧ W'.heap[bn]? = W.heap[bn]?
theorem KpB.refl {bs bn : Nat} (W : World) : KpB bs bn W W := ⟨rfl, rfl⟩
theorem KpB.trans {bs bn : Nat} {A B C : World} (h : KpB bs bn A B) (k : KpB bs bn B C) : KpB bs bn A C := ⟨k.1.trans h.1, k.2.trans h.2⟩
def Vv (n c k : Nat) (hc : 0 < c) (h : k * c < n) : Part n := ⟨(k * c, min c (n - k * c)), by omega, by simp; omega⟩
def Yo (n c : Nat) (hc : 0 < c) : Nat → List (Part n)
  | 0 => []
  | k + 1 => if h : k * c < n then Yo n c hc k ++ [Vv n c k hc h] else Yo n c hc k
theorem Jd7 {n c : Nat} (hc : 0 < c) (k : Nat) : (Yo n c hc k).length ≤ k := by
  induction k with
  | zero => simp [Yo]
  | succ k ih =>
    unfold Yo; split
    · simp; omega
    · omega
theorem Gy {n c k : Nat} (hc : 0 < c) (h : n ≤ k * c) : ∀ j, k ≤ j → Yo n c hc j = Yo n c hc k
  | 0, hj => by rw [show k = 0 by omega]
  | j + 1, hj => by
    by_cases e : k = j + 1
    · rw [e]
    · have hkj : k * c ≤ j * c := Nat.mul_le_mul_right _ (by omega); rw [Yo, dif_neg (by omega)]; exact Gy hc h j (by omega)
theorem Xu {n c k : Nat} (hc : 0 < c) (h : k * c < n) : Yo n c hc (k + 1) = Yo n c hc k ++ [Vv n c k hc h] := by
  rw [Yo, dif_pos h]
set_option maxRecDepth 100000 in
set_option maxHeartbeats 2000000 in
theorem Jir (n : Nat) (hn : 1 ≤ n) (l bs bn b off len cap c : Nat) (hc : 0 < c) (hcl : c ≤ 1000) (hlen : len ≤ 1000) (hcap : len ≤ cap) (J Jx : List (Part len) → World → Prop)
    (hJ : ∀ pre W, J pre W → J pre W.drew)
    (hY : ∀ pre x W, J pre W → pre.length < len → YieldAt Fence.wide (n - 1) Tryz.prog l #[.slice (some ⟨b, off + x.1.1, none⟩) x.1.2 x.1.2] W fun e W' =>
      (e = .returned (.bool true) ∧ J (pre ++ [x]) W' ∧ KpB bs bn W W') ∨ (e = .returned (.bool false) ∧ Jx (pre ++ [x]) W'))
    (W : World) (h1 : W.cell? ⟨bs, 0, none⟩ = some (.slice (some ⟨b, off, none⟩) len cap)) (h2 : W.cell? ⟨bn, 0, none⟩ = some (.int .i64 c)) (h0 : J [] W) :
    CallsIn Fence.wide n Tryz.prog 199 #[.func (.yield l) #[] #[], .pointer (some ⟨bs, 0, none⟩), .pointer (some ⟨bn, 0, none⟩)] W fun e W' => (∃ v, e = .returned v) ∧
      ((∃ ys, ys = Yo len c hc len ∧ J ys W') ∨ (∃ pre, Jx pre W')) := by
  have hd1 : ∀ W' : World, KpB bs bn W W' → W'.cell? ⟨bs, 0, none⟩ = some (.slice (some ⟨b, off, none⟩) len cap) := fun W' h => (World.cell?_of_block h.1).trans h1
  have hd2 : ∀ W' : World, KpB bs bn W W' → W'.cell? ⟨bn, 0, none⟩ = some (.int .i64 c) := fun W' h => (World.cell?_of_block h.2).trans h2
  refine callsIn_of_wp Tryz.func199 rfl trivial ?_ rfl; simp only [Tryz.ntmps199, List.size_toArray, List.length_cons, List.length_nil, Nat.reduceAdd, Nat.reduceSub, Array.replicate_succ, Array.replicate_zero, List.push_toArray, List.append_toArray, List.nil_append, List.cons_append]; gi_wp2
  gi_loopw [4] (fun v4 wr => ∃ k i : Nat, v4 = .int .i64 i ∧ i = k * c ∧ k ≤ len ∧ i < len + c ∧ J (Yo len c hc k) wr ∧ KpB bs bn W wr) (fun v4 _ => len + c - (intOf v4).toNat)
  case atStart => exact ⟨0, 0, rfl, by simp, by omega, by omega, h0, KpB.refl W⟩
  case round =>
    obtain ⟨k, i, rfl, hik, hkl, hib, hJs, hK⟩ := hrel; have c1 := hd1 _ hK; have c2 := hd2 _ hK; by_cases hlt : i < len
    · have hlt' : k * c < len := by rw [← hik]; exact hlt
      have hpl := Jd7 (n := len) hc k; have hk1 : k < len := by
        have : k ≤ k * c := Nat.le_mul_of_pos_right _ hc
        omega
      obtain ⟨e, he⟩ : ∃ e, min c (len - i) = e := ⟨_, rfl⟩; have hYk := hY (Yo len c hc k) (Vv len c k hc hlt'); have e1 : (Vv len c k hc hlt').1.1 = i := hik.symm; have e2 : (Vv len c k hc hlt').1.2 = e := by show min c (len - k * c) = e; rw [← hik]; exact he
      rw [e1, e2] at hYk; have hsu := Xu hc hlt'; rw [← hsu] at hYk; obtain ⟨u, hu⟩ : ∃ u, i + e = u := ⟨_, rfl⟩; have hi0 : (0 : Int) ≤ (i : Int) := by omega
      have hi1 : (i : Int) < (len : Int) := by omega
      have hi2 : (i : Int) ≤ (len : Int) := by omega
      have hmin : min (c : Int) ((len - i : Nat) : Int) = (e : Int) := by omega
      have hmin2 : min (c : Int) ((len : Int) - (i : Int)) = (e : Int) := by omega
      have hul : u ≤ len := by omega
      have hiu : i ≤ u := by omega
      have hiu1 : (i : Int) ≤ (u : Int) := by omega
      have hiu2 : (u : Int) ≤ (cap : Int) := by omega
      have hui : u - i = e := by omega
      have had : (if u = i then some (⟨b, off, none⟩ : Addr) else some ⟨b, off + i, none⟩) = some ⟨b, off + i, none⟩ := if_neg (by omega); have hw1 : IntKind.i64.wrap ((i : Int) + (e : Int)) = (u : Int) := by
        have e : (i : Int) + (e : Int) = (u : Int) := by omega
        rw [e]; exact Jd (by omega) (by omega)
      obtain ⟨fn, tmps, assign, body, hy, hR⟩ := hYk wr.drew (hJ _ _ hJs) (by omega); have hw2 : IntKind.i64.wrap ((i : Int) + (c : Int)) = ((i + c : Nat) : Int) := by
        have e : (i : Int) + (c : Int) = ((i + c : Nat) : Int) := by omega
        rw [e]; exact Jd (by omega) (by omega)
      have HIK := hide hik; have HKT : Hid (∀ W3, KpB bs bn wr.drew W3 → KpB bs bn W W3) := hide (fun W3 h => hK.trans h); have HD2 := hide hd2; clear hik hlt' hkl he e1 e2 hsu hJ h0 h1 h2 hd1 hd2 hY hYk; gi_wp2
      gi_region
      gi_wp2
      refine hR.mono ?_; rintro e W3 (⟨rfl, hJ3, hk3⟩ | ⟨rfl, hJx3⟩)
      · have c3 := Ja HD2 W3 (Ja HKT W3 hk3); gi_wp2
        go_roundw
        case rel => exact ⟨k + 1, i + c, by simp, by rw [Ja HIK, Nat.add_mul, Nat.one_mul], by omega, by omega, hJ3, Ja HKT W3 hk3⟩
        case measure => simp [intOf]; omega
      · gi_wp2
        refine bodyPost_ret (results_none rfl _ _ _) rfl ?_; exact ⟨⟨_, rfl⟩, .inr ⟨_, hJx3⟩⟩
    · have hnl : ¬ ((i : Int) < (len : Int)) := by omega
      have hend := Gy hc (n := len) (k := k) (by rw [← hik]; omega) len hkl; gi_wp2
      go_end0
      exact ⟨⟨_, rfl⟩, .inl hJs⟩
end Go.Proofs.YtjobgpahajhbnabGreatDoor
namespace Go.Proofs
open Go.Shelf
def Tryz.rev235_ren : Go.Shelf.Ren := ⟨fun | 35 => 158 | n => n, fun | 22 => 32 | 23 => 2 | 3 => 3 | 4 => 4 | 0 => 0 | n => n, fun | n => n⟩
theorem Tryz.rev235 : Go.Proofs.SlLaysE.n35 Tryz.prog Tryz.rev235_ren := {
  mixed := by kernel_rfl
  f35 := ⟨Tryz.f158.name, by decide, Tryz.func158.trans (congrArg some (by kernel_rfl))⟩
  t0 := Tryz.underlying0
  a0 := Tryz.isAgg0
  z0 := Tryz.sizeOf0
  v0 := Tryz.zeroValue0
  t3 := Tryz.underlying3
  a3 := Tryz.isAgg3
  z3 := Tryz.sizeOf3
  v3 := Tryz.zeroValue3
  t4 := Tryz.underlying4
  a4 := Tryz.isAgg4
  z4 := Tryz.sizeOf4
  v4 := Tryz.zeroValue4
  t22 := Tryz.underlying32
  a22 := Tryz.isAgg32
  z22 := Tryz.sizeOf32
  v22 := Tryz.zeroValue32
  a23 := Tryz.isAgg2
  z23 := Tryz.sizeOf2 }
end Go.Proofs
namespace Go.Proofs.YtjobgpahajhbnabGreatDoor
open Go.RowKit Go.Proofs Go.Shelf
def RowAt (W : World) (g : Nat) (L : List Int) : Prop := ∀ j, (h : j < L.length) → W.cell? ⟨g, j, none⟩ = some (.int .i64 L[j]) ∧ W.frozen? ⟨g, j, none⟩ = false
def Z5 (L : List Int) (p : Nat × Nat) : List Int := L.take p.1 ++ (((L.drop p.1).take p.2).reverse ++ L.drop (p.1 + p.2))
theorem Zp {L : List Int} {p : Nat × Nat} (h : p.1 + p.2 ≤ L.length) : (Z5 L p).length = L.length := by
  unfold Z5; simp; omega
structure OnlyB (g : Nat) (W W' : World) : Prop where
  os : W'.os = W.os
  tape : W'.tape = W.tape
  output : W'.output = W.output
  size : W'.heap.size = W.heap.size
  block : ∀ k, k ≠ g → W'.heap[k]? = W.heap[k]?
theorem OnlyB.below {g : Nat} {W W' : World} (h : OnlyB g W W') {n : Nat} (hn : n ≤ g) : Below n W W' := ⟨h.os, h.tape, h.output, by rw [h.size]; exact Nat.le_refl _, fun k hk => h.block k (by omega)⟩
theorem OnlyB.others {g : Nat} {W W' : World} (h : OnlyB g W W') {v : Value} {j : Nat} (hc : W.cell? ⟨g, j, none⟩ = some v) : KeepsOthers W W' := ⟨by rw [h.size]; exact Nat.le_refl _, fun k o hk ho => by
  by_cases e : k = g
  · subst e; obtain ⟨o', ho', hc'⟩ := cells_of_cell hc; have ho' : W.heap[k]? = some o' := ho'; rw [hk] at ho'; cases ho'
    rw [ho] at hc'; cases hc'
  · rw [h.block k e]; exact hk⟩
theorem N4 (W : World) (n g off : Nat) (d : Array Int) : OnlyB g W (Go.Sort.putRow (Value.int .i64) (Go.Sort.ahead W n) g off d) := ⟨rfl, rfl, rfl, by simp [Go.Sort.ahead], fun k hk => by
  show ((W.heap.modify g _))[k]? = _; rw [Array.getElem?_modify, if_neg (Ne.symm hk)]⟩
theorem Jbh (W : World) (g : Nat) (L : List Int) (h : RowAt W g L) (p : Nat × Nat) (hp : p.1 + p.2 ≤ L.length) (hl : L.length ≤ 1000) :
    Calls Tryz.prog 158 #[.slice (some ⟨g, p.1, none⟩) p.2 p.2] W fun e W' => e = .returned (.tuple #[]) ∧ RowAt W' g (Z5 L p) ∧ OnlyB g W W' := by
  obtain ⟨zs, hzs⟩ : ∃ zs, (L.drop p.1).take p.2 = zs := ⟨_, rfl⟩; have hzl : zs.length = p.2 := by rw [← hzs]; simp; omega
  have hH : Go.Sort.Holds (Value.int .i64) W g p.1 zs.toArray := by
    intro j hj; have hj' : j < p.2 := by rw [← hzl]; simpa using hj
    have hz : zs.toArray[j]! = L[p.1 + j]'(by omega) := by
      rw [getElem!_pos _ j hj]; subst hzs; simp
    rw [hz]; exact h (p.1 + j) (by omega)
  have := AnyE.slices_Reverse Tryz.rev235 (Value.int .i64) (fun _ => rfl) g p.1 p.2 zs W hH (by omega); rw [hzl] at this; refine this.mono ?_; rintro e W' ⟨rfl, n, rfl⟩; refine ⟨rfl, ?_, N4 W n g p.1 _⟩; have hHa : Go.Sort.Holds (Value.int .i64) (Go.Sort.ahead W n) g p.1 zs.toArray := hH; intro j hj; rw [Zp hp] at hj; refine ⟨?_, by rw [Go.Sort.frozen?_putRow]; exact (h j hj).2⟩; have hL : (Z5 L p)[j]? = some ((Z5 L p)[j]'(by rw [Zp hp]; exact hj)) := List.getElem?_eq_getElem _; generalize hv : (Z5 L p)[j]'(by rw [Zp hp]; exact hj) = v at hL ⊢
  unfold Z5 at hL; rw [hzs] at hL; by_cases h1 : j < p.1
  · rw [Go.Sort.cell?_putRow_other _ _ _ _ _ _ (Or.inr (Or.inl h1))]; rw [List.getElem?_append_left (by simp; omega), List.getElem?_take, if_pos h1, List.getElem?_eq_getElem hj] at hL; rw [← Option.some.inj hL]; exact (h j hj).1
  · rw [List.getElem?_append_right (by simp; omega), List.length_take, Nat.min_eq_left (by omega)] at hL; by_cases h2 : j < p.1 + p.2
    · rw [List.getElem?_append_left (by simp; omega)] at hL; have hc := Go.Sort.cell?_putRow (Value.int .i64) (Go.Sort.ahead W n) g p.1 zs.toArray zs.reverse.toArray hHa (by simp) (j - p.1) (by simp; omega); rw [show p.1 + (j - p.1) = j by omega] at hc; rw [hc, getElem!_pos _ _ (by simp; omega)]; obtain ⟨hb, hL⟩ := List.getElem?_eq_some_iff.1 hL; rw [← hL]; simp
    · rw [Go.Sort.cell?_putRow_other _ _ _ _ _ _ (Or.inr (Or.inr (by simp; omega)))]; rw [List.getElem?_append_right (by simp; omega), List.getElem?_drop, List.length_reverse, hzl, show p.1 + p.2 + (j - p.1 - p.2) = j by omega, List.getElem?_eq_getElem hj] at hL; rw [← Option.some.inj hL]; exact (h j hj).1
end Go.Proofs.YtjobgpahajhbnabGreatDoor
