import Derived.Test.YtjobgpahajhbnaaGreatDoorKb
import Derived.Test.YtjobgpahajhbnaaGreatDoorKc
import Derived.Test.YtjobgpahajhbnaaGreatDoorVg
namespace Go.Proofs.YtjobgpahajhbnaaGreatDoor
open Go.RowKit Go.Proofs Go.Maps
attribute [local go_sem ↓] Go.wp_at_zero Go.wp_at_succ

theorem Tryz.enters204 : Enters Tryz.prog 204 := Go.Proofs.enters_of Tryz.func204 (by decide) rfl
def lastN : List Nat → Nat
  | [] => 0
  | [x] => x
  | _ :: y :: l => lastN (y :: l)
theorem last_split : ∀ {l : List Nat}, l.length ≠ 0 → l = l.dropLast ++ [lastN l]
  | [], h => absurd rfl h
  | [x], _ => rfl
  | x :: y :: l, _ => by
    have := last_split (l := y :: l) (by simp)
    show x :: y :: l = x :: ((y :: l).dropLast ++ [lastN (y :: l)])
    rw [← this]
/-- the cells of two arrays, line by line -/
def catC (xs ys : List Int) (la lb n : Nat) : List Int := ((List.range n).map (fun i => lineL xs la i ++ lineL ys lb i)).flatten
def catSh (A B : Arr) : List Nat := A.shape.dropLast ++ [lastN A.shape + lastN B.shape]
def catR (A B : Arr) : Arr × Int := if A.shape.length ≠ B.shape.length then (eArr, 5) else if A.shape.dropLast ≠ B.shape.dropLast then (eArr, 6) else if fitsB (catSh A B) = false then (eArr, 9) else (⟨catSh A B, catC A.cells B.cells (lastN A.shape) (lastN B.shape) (prodL A.shape.dropLast)⟩, 0)
def catP (a b : Arr) : Arr × Int := catR (rowed a) (rowed b)
theorem rowed_rank (a : Arr) : (rowed a).shape.length ≠ 0 := by
  unfold rowed
  split
  · simp [ravelP]
  · assumption
theorem catC_succ (xs ys : List Int) (la lb n : Nat) : catC xs ys la lb (n + 1) = catC xs ys la lb n ++ (lineL xs la n ++ lineL ys lb n) := by
  unfold catC
  rw [List.range_succ, List.map_append, List.flatten_append]
  simp
theorem lineL_len {xs : List Int} {la i : Nat} (h : (i + 1) * la ≤ xs.length) : (lineL xs la i).length = la := by
  unfold lineL
  rw [Nat.add_mul, Nat.one_mul] at h
  simp
  omega
theorem catC_len {xs ys : List Int} {la lb : Nat} : ∀ {n : Nat}, n * la ≤ xs.length → n * lb ≤ ys.length → (catC xs ys la lb n).length = n * (la + lb)
  | 0, _, _ => by simp [catC]
  | n + 1, h1, h2 => by
    have a1 : n * la ≤ xs.length := Nat.le_trans (Nat.mul_le_mul_right _ (Nat.le_succ _)) h1
    have a2 : n * lb ≤ ys.length := Nat.le_trans (Nat.mul_le_mul_right _ (Nat.le_succ _)) h2
    rw [catC_succ, List.length_append, List.length_append, catC_len a1 a2, lineL_len h1, lineL_len h2, Nat.add_mul n 1, Nat.one_mul]
theorem St.setAB {W w : World} {P : Nat → Prop} {so : Option Addr} {sn sc : Nat} {co : Option Addr} {cn cc : Nat} {so2 : Option Addr} {sn2 sc2 : Nat} {co2 : Option Addr} {cn2 cc2 : Nat} {a b : Arr} (h : St W P w so sn sc co cn cc so2 sn2 sc2 co2 cn2 cc2 a b) {s1 : Option Addr} {s2 s3 : Nat} {c1 : Option Addr} {c2 c3 : Nat} {t1 : Option Addr} {t2 t3 : Nat} {d1 : Option Addr} {d2 d3 : Nat} {A B : Arr} (hA : IsArr (Off3 W.heap.size P) w (.agg #[.slice s1 s2 s3, .slice c1 c2 c3]) A) (hB : IsArr (Off3 W.heap.size P) w (.agg #[.slice t1 t2 t3, .slice d1 d2 d3]) B) : St W P ((((w.setCell ⟨W.heap.size, 0, none⟩ (.slice s1 s2 s3)).setCell ⟨W.heap.size, 1, none⟩ (.slice c1 c2 c3)).setCell ⟨W.heap.size + 1, 0, none⟩ (.slice t1 t2 t3)).setCell ⟨W.heap.size + 1, 1, none⟩ (.slice d1 d2 d3)) s1 s2 s3 c1 c2 c3 t1 t2 t3 d1 d2 d3 A B := by
  have hno : ¬ Off3 W.heap.size P W.heap.size := by
    rintro ⟨_, h | h⟩ <;> omega
  exact (h.setA hA).setB ((hB.set hno 0 _).set hno 1 _)
theorem isArr_shape {P : Nat → Prop} {w : World} {so : Option Addr} {sn sc : Nat} {co : Option Addr} {cn cc : Nat} {a : Arr} (h : IsArr P w (.agg #[.slice so sn sc, .slice co cn cc]) a) : Nums P w (.slice so sn sc) (a.shape.map Int.ofNat) := by
  obtain ⟨so', sn', sc', co', cn', cc', hv, h1, h2⟩ := h
  injection hv with hv
  simp at hv
  obtain ⟨⟨rfl, rfl, rfl⟩, rfl, rfl, rfl⟩ := hv
  exact h1
theorem shape_some {P : Nat → Prop} {w : World} {so : Option Addr} {sn sc : Nat} {xs : List Int} (h : Nums P w (.slice so sn sc) xs) (h0 : sn ≠ 0) : ∃ b off, so = some ⟨b, off, none⟩ := by
  have hl := nums_len h
  obtain ⟨ao, cap, hv, _, h1, _⟩ := h
  obtain ⟨b, off, ha, _⟩ := h1 (by omega)
  injection hv with e1 e2 e3
  exact ⟨b, off, e1.trans ha⟩
theorem set_last (l : List Nat) (x y : Nat) : ((l ++ [x]).map Int.ofNat).set l.length (y : Int) = (l ++ [y]).map Int.ofNat := by
  rw [List.map_append, List.map_append, List.set_append_right _ _ (by simp)]
  simp
theorem lists3 {Q : Nat → Prop} {w : World} {o0 o1 o2 : Option Addr} {n0 c0 n1 c1 n2 c2 : Nat} {x0 x1 x2 : List Int} {e : TypeId} (h0 : Nums Q w (.slice o0 n0 c0) x0) (h1 : Nums Q w (.slice o1 n1 c1) x1) (h2 : Nums Q w (.slice o2 n2 c2) x2) : Lists Q (w.alloc (.cells #[.slice o0 n0 c0, .slice o1 n1 c1, .slice o2 n2 c2] e)) w.heap.size [x0, x1, x2] := by
  have hb : Below w.heap.size w (w.alloc (.cells #[.slice o0 n0 c0, .slice o1 n1 c1, .slice o2 n2 c2] e)) := (Below.refl _ _).alloc (Nat.le_refl _) _
  intro i hi
  match i, hi with
  | 0, _ => exact ⟨o0, n0, c0, (World.cell?_alloc_at _ _ _ _ rfl).trans rfl, h0.below hb⟩
  | 1, _ => exact ⟨o1, n1, c1, (World.cell?_alloc_at _ _ _ _ rfl).trans rfl, h1.below hb⟩
  | 2, _ => exact ⟨o2, n2, c2, (World.cell?_alloc_at _ _ _ _ rfl).trans rfl, h2.below hb⟩
  | i + 3, hi => exact absurd hi (by simp)
theorem fits_size {d : List Nat} {l : Nat} (h : fitsB (d ++ [l]) = true) : prodL d * l ≤ 64 := by
  unfold fitsB at h
  rw [Bool.and_eq_true] at h
  have := h.2
  rw [prodL_append, prodL_one] at this
  simpa using this
set_option maxHeartbeats 4000000 in
set_option maxRecDepth 20000 in
theorem cat_fn (w : World) : FnTwo 204 #[] w catP := by
  intro W P u v a b _ hP ha hb hoa hob
  obtain ⟨so, sn, sc, co, cn, cc, rfl, ha1, ha2⟩ := ha
  obtain ⟨so2, sn2, sc2, co2, cn2, cc2, rfl, hb1, hb2⟩ := hb
  have hS0 := St.start (P := P) (W := W) (a := a) (b := b) ⟨so, sn, sc, co, cn, cc, rfl, ha1, ha2⟩ ⟨so2, sn2, sc2, co2, cn2, cc2, rfl, hb1, hb2⟩
  obtain ⟨W1, hW1⟩ : ∃ W1, ((W.alloc (.cells #[.slice so sn sc, .slice co cn cc] 89)).alloc (.cells #[.slice so2 sn2 sc2, .slice co2 cn2 cc2] 89)).alloc (.cells #[.slice none 0 0, .slice none 0 0] 89) = W1 := ⟨_, rfl⟩
  rw [hW1] at hS0
  have HS0 := hide hS0
  have HOff : Hid (∀ w' : World, W.heap.size + 1 + 1 < w'.heap.size → ∀ b, w'.heap.size ≤ b → Off3 W.heap.size P b) := hide (fun w' h b hb => ⟨hP b (by omega), .inr (by omega)⟩)
  have HLA := hide (least_any (Off3 W.heap.size P) W1.drew (unhide HOff W1.drew (hS0.keep (Below.refl _ _).drew).lt) so sn sc co cn cc a (hS0.keep (Below.refl _ _).drew).isA)
  have HLB := hide (fun w' (hb : Below W1.heap.size W1 w') => least_any (Off3 W.heap.size P) w' (unhide HOff w' (hS0.keep hb).lt) so2 sn2 sc2 co2 cn2 cc2 b (hS0.keep hb).isB)
  have HP : Hid (∀ b, W.heap.size ≤ b → P b) := hP
  have HOA := hide (rowed_ok hoa)
  have HOB := hide (rowed_ok hob)
  have HKA := hide (rowed_rank a)
  have HKB := hide (rowed_rank b)
  unfold catP
  obtain ⟨A, hA⟩ : ∃ A, rowed a = A := ⟨_, rfl⟩
  obtain ⟨B, hB⟩ : ∃ B, rowed b = B := ⟨_, rfl⟩
  simp only [hA] at HLA HOA HKA ⊢
  simp only [hB] at HLB HOB HKB ⊢
  obtain ⟨r, hr⟩ : ∃ r, catR A B = r := ⟨_, rfl⟩
  simp only [hr]
  have HR := hide hr
  have x0 := hS0.a0
  have x1 := hS0.a1
  have x2 := hS0.b0
  have x3 := hS0.b1
  have y0 := hS0.fr W.heap.size 0 (by omega) (by omega)
  have y1 := hS0.fr W.heap.size 1 (by omega) (by omega)
  have y2 := hS0.fr (W.heap.size + 1) 0 (by omega) (by omega)
  have y3 := hS0.fr (W.heap.size + 1) 1 (by omega) (by omega)
  have n3 := hS0.lt
  have n1 : W.heap.size < W1.heap.size := by omega
  have n2 : W.heap.size + 1 < W1.heap.size := by omega
  clear hP hoa hob ha1 ha2 hb1 hb2 hr hS0 hA hB
  go_enter Tryz.func204, Tryz.ntmps204
  go_upto_region 1 with fail
  try rw [hW1]
  clear hW1
  go_cut [5] from 10 to 13 (fun v5 wx => v5 = .int .i64 0 ∧ ∃ s1 s2 s3 c1 c2 c3 t1 t2 t3 d1 d2 d3, St W P wx s1 s2 s3 c1 c2 c3 t1 t2 t3 d1 d2 d3 A B)
  case first =>
    go_region_with (first | (go_at_call 254; with_reducible refine (unhide HLA).mono ?_; rintro e wA ⟨s1, s2, s3, c1, c2, c3, rfl, hAA, hbA⟩; have hbWA : Below W1.heap.size W1 wA := (below_drew hbA); have hSA := (unhide HS0).keep hbWA; have pA0 := hSA.a0; have pA1 := hSA.a1; have pA2 := hSA.b0; have pA3 := hSA.b1; have zA0 := hSA.fr W.heap.size 0 (by omega) (by omega); have zA1 := hSA.fr W.heap.size 1 (by omega) (by omega); have zA2 := hSA.fr (W.heap.size + 1) 0 (by omega) (by omega); have zA3 := hSA.fr (W.heap.size + 1) 1 (by omega) (by omega); have mA3 := hSA.lt; have mA1 : W.heap.size < wA.heap.size := (by omega); have mA2 : W.heap.size + 1 < wA.heap.size := (by omega); have HSA := hide hSA; have HBA := hide hbWA; have HRA := hide hbA; have HIA := hide hAA; clear hSA hbWA hbA hAA) | (go_at_call 254; with_reducible refine (unhide HLB _ (unhide HBA)).mono ?_; rintro e wB ⟨t1, t2, t3, d1, d2, d3, rfl, hBB, hbB⟩; have hbWB : Below W1.heap.size W1 wB := ((unhide HBA).trans (hbB.mono (unhide HBA).size)); have hSB := (unhide HS0).keep hbWB; have pB0 := hSB.a0; have pB1 := hSB.a1; have pB2 := hSB.b0; have pB3 := hSB.b1; have zB0 := hSB.fr W.heap.size 0 (by omega) (by omega); have zB1 := hSB.fr W.heap.size 1 (by omega) (by omega); have zB2 := hSB.fr (W.heap.size + 1) 0 (by omega) (by omega); have zB3 := hSB.fr (W.heap.size + 1) 1 (by omega) (by omega); have mB3 := hSB.lt; have mB1 : W.heap.size < wB.heap.size := (by omega); have mB2 : W.heap.size + 1 < wB.heap.size := (by omega); have HSB := hide hSB; have HBB := hide hbWB; have HRB := hide hbB; have HIB := hide hBB; clear hSB hbWB hbB hBB))
    all_goals go_wp2_with fail
    all_goals go_meet
    all_goals
      refine ⟨rfl, s1, s2, s3, c1, c2, c3, t1, t2, t3, d1, d2, d3, ?_⟩
      exact (unhide HSB).setAB ((unhide HIA).below (unhide HRB)) (unhide HIB)
  case rest =>
    obtain ⟨rfl, s1, s2, s3, c1, c2, c3, t1, t2, t3, d1, d2, d3, hS⟩ := hcut
    clear x0 x1 x2 x3 y0 y1 y2 y3 n1 n2 n3 HLA HLB HS0
    have hsA := (isArr_len hS.isA).2
    have hsB := (isArr_len hS.isB).2
    have hrkA : s2 ≤ 3 := by rw [hsA]; exact (unhide HOA).rank
    have hrkB : t2 ≤ 3 := by rw [hsB]; exact (unhide HOB).rank
    have hsA0 : s2 ≠ 0 := by rw [hsA]; exact unhide HKA
    have hsB0 : t2 ≠ 0 := by rw [hsB]; exact unhide HKB
    have HSA := hide hsA
    have HSB := hide hsB
    have HS := hide hS
    have x0 := hS.a0
    have x1 := hS.a1
    have n3 := hS.lt
    have n1 : W.heap.size < wc.heap.size := by omega
    have n2 : W.heap.size + 1 < wc.heap.size := by omega
    obtain ⟨k, hk⟩ : ∃ k, s2 - 1 = k := ⟨_, rfl⟩
    have hk3 : k ≤ 2 := by omega
    have hw1 : IntKind.i64.wrap ((s2 : Int) - 1) = (k : Int) := by
      have e : (s2 : Int) - 1 = (k : Int) := by omega
      rw [e]
      exact wrap_pos (by omega) (by omega)
    have HRk : Hid (∀ w', Calls Tryz.prog 221 #[.agg #[.slice s1 s2 s3, .slice c1 c2 c3]] w' fun e w'' => e = .returned (.int .i64 s2) ∧ Below w'.heap.size w' w'') := hide (fun w' => (rank_any w' s1 s2 s3 c1 c2 c3).mono (fun e w'' h => ⟨h.1, by rw [h.2]; exact (Below.refl _ _).alloc (Nat.le_refl _) _⟩))
    have HRk2 : Hid (∀ w', Calls Tryz.prog 221 #[.agg #[.slice t1 t2 t3, .slice d1 d2 d3]] w' fun e w'' => e = .returned (.int .i64 t2) ∧ Below w'.heap.size w' w'') := hide (fun w' => (rank_any w' t1 t2 t3 d1 d2 d3).mono (fun e w'' h => ⟨h.1, by rw [h.2]; exact (Below.refl _ _).alloc (Nat.le_refl _) _⟩))
    have HK := hide hk
    clear hS hsA hsB hk
    go_wp2_with fail
    refine (unhide HRk _).mono ?_
    rintro e w2 ⟨rfl, hb2⟩
    have hS := (unhide HS).keep hb2
    clear x0 x1 n1 n2 n3
    have x0 := hS.a0
    have x1 := hS.a1
    have x2 := hS.b0
    have x3 := hS.b1
    have n3 := hS.lt
    have n1 : W.heap.size < w2.heap.size := by omega
    have n2 : W.heap.size + 1 < w2.heap.size := by omega
    have HS2 := hide hS
    clear hS hb2 HS
    go_upto_region 3 with fail
    go_cut [21] from 17 to 20 (fun v21 wx => v21 = .bool ((s2 : Int) != (t2 : Int)) ∧ Below w2.heap.size w2 wx)
    case first =>
      go_region_with (first | (go_at_call 221; with_reducible refine (unhide HRk _).mono ?_; rintro e wA ⟨rfl, hbA⟩; have hA2 : Below w2.heap.size w2 wA := (below_drew hbA); have HA2 := hide hA2; have pA0 := (hA2.cell (p := ⟨W.heap.size, 0, none⟩) n1).trans x0; have pA1 := (hA2.cell (p := ⟨W.heap.size, 1, none⟩) n1).trans x1; have pA2 := (hA2.cell (p := ⟨W.heap.size + 1, 0, none⟩) n2).trans x2; have pA3 := (hA2.cell (p := ⟨W.heap.size + 1, 1, none⟩) n2).trans x3; clear hbA hA2) | (go_at_call 221; with_reducible refine (unhide HRk2 _).mono ?_; rintro e wB ⟨rfl, hbB⟩; have hB2 : Below w2.heap.size w2 wB := ((unhide HA2).trans (hbB.mono (unhide HA2).size)); have HB2 := hide hB2; have pB0 := (hB2.cell (p := ⟨W.heap.size, 0, none⟩) n1).trans x0; have pB1 := (hB2.cell (p := ⟨W.heap.size, 1, none⟩) n1).trans x1; have pB2 := (hB2.cell (p := ⟨W.heap.size + 1, 0, none⟩) n2).trans x2; have pB3 := (hB2.cell (p := ⟨W.heap.size + 1, 1, none⟩) n2).trans x3; clear hbB hB2))
      all_goals go_wp2_with fail
      all_goals go_meet
      all_goals first | exact ⟨rfl, unhide HB2⟩ | exact ⟨rfl, unhide HA2⟩ | trace_state
    case rest =>
      obtain ⟨rfl, hb3⟩ := hcut
      have hS := (unhide HS2).keep hb3
      clear x0 x1 x2 x3 n1 n2 n3 HRk HRk2
      have x0 := hS.a0
      have x1 := hS.a1
      have x2 := hS.b0
      have x3 := hS.b1
      have x4 := hS.r0
      have x5 := hS.r1
      have y4 := hS.fr (W.heap.size + 1 + 1) 0 (by omega) (by omega)
      have y5 := hS.fr (W.heap.size + 1 + 1) 1 (by omega) (by omega)
      have n3 := hS.lt
      rename World => w3
      have HS3 := hide hS
      have HBz := hide hS.below
      by_cases hst : s2 = t2
      · subst hst
        have hne : ((s2 : Int) != (s2 : Int)) = false := by simp
        have n1 : W.heap.size < w3.heap.size := by omega
        have n2 : W.heap.size + 1 < w3.heap.size := by omega
        have hshA := isArr_shape hS.isA
        have hshB := isArr_shape hS.isB
        obtain ⟨sb, sf, hse⟩ := shape_some hshA hsA0
        subst hse
        obtain ⟨tb, tf, hte⟩ := shape_some hshB hsA0
        subst hte
        have hcapA := nums_cap hshA
        have hcapB := nums_cap hshB
        have hdA := last_split (l := A.shape) (unhide HKA)
        have hdB := last_split (l := B.shape) (unhide HKB)
        obtain ⟨dA, hdA1⟩ : ∃ d, A.shape.dropLast = d := ⟨_, rfl⟩
        obtain ⟨la, hla⟩ : ∃ d, lastN A.shape = d := ⟨_, rfl⟩
        obtain ⟨dB, hdB1⟩ : ∃ d, B.shape.dropLast = d := ⟨_, rfl⟩
        obtain ⟨lb, hlb⟩ : ∃ d, lastN B.shape = d := ⟨_, rfl⟩
        rw [hdA1, hla] at hdA
        rw [hdB1, hlb] at hdB
        have hkA : k = dA.length := by have h1 := unhide HK; have h2 := unhide HSA; rw [hdA] at h2; simp at h2; omega
        have hkB : k = dB.length := by have h1 := unhide HK; have h2 := unhide HSB; rw [hdB] at h2; simp at h2; omega
        have hks2 : k + 1 = s2 := by have h1 := unhide HK; omega
        have hk0 : (0 : Int) ≤ (k : Int) := by omega
        have hk1 : (k : Int) ≤ (s3 : Int) := by omega
        have hk2 : (k : Int) ≤ (t3 : Int) := by omega
        have hk4 : k ≤ s3 := by omega
        have hk5 : k ≤ t3 := by omega
        have HEq : Hid (∀ w', Below w3.heap.size w3 w' → Calls Tryz.prog 256 #[.slice (some ⟨sb, sf, none⟩) k s3, .slice (some ⟨tb, tf, none⟩) k t3] w' fun e w'' => e = .returned (.bool (dA == dB)) ∧ Below w'.heap.size w' w'') := hide (fun w' hb => by
          refine eq_any (Q := Off3 W.heap.size P) (Q' := Off3 W.heap.size P) w' _ k s3 _ t3 dA dB ?_ ?_ (by omega)
          · have := nums_take_any (hshA.below hb) (k := k) (by omega)
            rw [hdA, List.map_append, List.take_append_of_le_length (by simp; omega), List.take_of_length_le (by simp; omega)] at this
            exact this
          · have := nums_take_any (hshB.below hb) (k := k) (by omega)
            rw [hdB, List.map_append, List.take_append_of_le_length (by simp; omega), List.take_of_length_le (by simp; omega)] at this
            exact this)
        have HDA := hide (And.intro hdA (And.intro hdA1 hla))
        have HDB := hide (And.intro hdB (And.intro hdB1 hlb))
        have HKL := hide (And.intro hkA hkB)
        have HShA := hide hshA
        clear hdA hdB hdA1 hdB1 hla hlb hkA hkB hshA hshB hS
        obtain ⟨D, hD⟩ : ∃ D, (!(dA == dB)) = D := ⟨_, rfl⟩
        have HD := hide hD
        clear hD
        go_upto_region 5 with fail
        go_cut [32] from 21 to 31 (fun v32 wx => v32 = .bool D ∧ Below w3.heap.size w3 wx)
        case first =>
          go_region_with (go_at_call 256; refine (unhide HEq _ (Below.refl _ _).drew).mono ?_; rintro e wE ⟨rfl, hbE⟩; have HBE := hide (below_drew hbE); clear hbE)
          all_goals go_wp2_with fail
          all_goals go_meet
          all_goals exact ⟨by rw [← unhide HD], unhide HBE⟩
        case rest =>
          obtain ⟨rfl, hb4⟩ := hcut
          have hS := (unhide HS3).keep hb4
          clear x0 x1 x2 x3 x4 x5 y4 y5 n1 n2 n3 HEq HBz HS3
          have x0 := hS.a0
          have x1 := hS.a1
          have x2 := hS.b0
          have x3 := hS.b1
          have x4 := hS.r0
          have x5 := hS.r1
          have y4 := hS.fr (W.heap.size + 1 + 1) 0 (by omega) (by omega)
          have y5 := hS.fr (W.heap.size + 1 + 1) 1 (by omega) (by omega)
          have n3 := hS.lt
          rename World => w4
          have n1 : W.heap.size < w4.heap.size := by omega
          have n2 : W.heap.size + 1 < w4.heap.size := by omega
          have HS4 := hide hS
          have HBz := hide hS.below
          have hN4 := isArr_shape hS.isA
          clear hS hb4
          cases D
          · have hdd : dA = dB := by simpa using unhide HD
            have HDD := hide hdd
            have hA200 : (A.shape.map Int.ofNat).length ≤ 200 := by have := (unhide HOA).rank; simp; omega
            have HCl := hide (clone_own w4 (some ⟨sb, sf, none⟩) s2 s3 (A.shape.map Int.ofNat) hN4 hA200 (by omega))
            clear hdd hN4 hA200
            go_wp2_with fail
            refine (unhide HCl).mono ?_
            rintro e w5 ⟨g, cg, rfl, hown, hb5⟩
            have hS := (unhide HS4).keep hb5
            clear x0 x1 x2 x3 x4 x5 y4 y5 n1 n2 n3 HCl
            have hll : k < s2 := by omega
            have hge : w4.heap.size ≤ g := (hown.lt g rfl).1
            have hgl : g < w5.heap.size := (hown.lt g rfl).2
            have hc0 : w5.cell? ⟨g, k, none⟩ = some (.int .i64 la) := by
              rw [hown.cellAt k (by omega), (unhide HDA).1, (unhide HKL).1]
              simp
            have hf0 := hown.frozenAt k
            have hst := (fun (w' : World) (h : w'.ownsRow w4.heap.size 3 1 (.slice (some ⟨g, 0, none⟩) s2 cg) s2 ((A.shape.map Int.ofNat).map (Value.int .i64))) => (h.stored k (.int .i64 ((la + lb : Nat) : Int))).1)
            have HLast : Hid (∀ w', Below w5.heap.size w5 w' → Calls Tryz.prog 234 #[.agg #[.slice (some ⟨tb, tf, none⟩) s2 t3, .slice d1 d2 d3]] w' fun e w'' => e = .returned (.int .i64 lb) ∧ Below w'.heap.size w' w'') := hide (fun w' hb => last_any w' _ s2 t3 d1 d2 d3 B (hS.isB.below hb) dB lb (unhide HDB).1 (by have := (unhide HKL).2; omega))
            have hla200 : la ≤ 200 := (unhide HOA).lens la (by rw [(unhide HDA).1]; simp)
            have hlb200 : lb ≤ 200 := (unhide HOB).lens lb (by rw [(unhide HDB).1]; simp)
            have hi0 : (0 : Int) ≤ (k : Int) := by omega
            have hi1 : (k : Int) < (s2 : Int) := by omega
            obtain ⟨ll, hl2⟩ : ∃ ll, la + lb = ll := ⟨_, rfl⟩
            rw [hl2] at hst
            have hwl : IntKind.i64.wrap ((la : Int) + (lb : Int)) = (ll : Int) := by
              have e : (la : Int) + (lb : Int) = (ll : Int) := by omega
              rw [e]
              exact wrap_pos (by omega) (by omega)
            have x2 := hS.b0
            have x3 := hS.b1
            have n3 := hS.lt
            have n2 : W.heap.size + 1 < w5.heap.size := by omega
            have HS5 := hide hS
            have HO5 := hide hown
            have HST := hide hst
            have HB5 := hide hb5
            have HLL := hide hl2
            have hgS : Hid (w4.heap.size ≤ g) := hide hge
            clear hS hown hst hb5 hl2 hge
            go_upto_region 8 with fail
            go_cut [5] from 37 to 44 (fun v5 wx => v5 = .int .i64 0 ∧ wx.ownsRow w4.heap.size 3 1 (.slice (some ⟨g, 0, none⟩) s2 cg) s2 (((A.shape.map Int.ofNat).map (Value.int .i64)).set k (.int .i64 (ll : Int))) ∧ Below w4.heap.size w4 wx)
            case first =>
              go_region_with (go_at_call 234; refine (unhide HLast _ (Below.refl _ _).drew).mono ?_; rintro e w6 ⟨rfl, hb6⟩; have hb6' := below_drew hb6; have HB6 := hide hb6'; have hc6 := (hb6'.cell (p := ⟨g, k, none⟩) hgl).trans hc0; have hf6 := (hb6'.frozen (p := ⟨g, k, none⟩) hgl).trans hf0; have hs6 := hb6'.size; clear hb6 hb6')
              all_goals go_wp2_with fail
              all_goals go_meet
              all_goals exact ⟨rfl, unhide HST _ (owns_below (unhide HO5) (unhide HB6)), ((unhide HB5).trans ((unhide HB6).mono (unhide HB5).size)).setCell (p := ⟨g, k, none⟩) (unhide hgS) _⟩
            case rest =>
              obtain ⟨rfl, hown, hb6⟩ := hcut
              rename World => w6
              have hS := (unhide HS4).keep hb6
              clear x2 x3 n2 n3 hf0 hc0 hgl HST HB5 HS5 HO5 HLast
              have hnew : ((A.shape.map Int.ofNat).map (Value.int .i64)).set k (.int .i64 (ll : Int)) = ((dA ++ [ll]).map Int.ofNat).map (Value.int .i64) := by
                rw [(unhide HDA).1, (unhide HKL).1, ← set_last dA la ll, List.map_set]
              rw [hnew] at hown
              have n3 := hS.lt
              have n43 := (unhide HS4).lt
              have hshN := nums_owns (P := Off3 W.heap.size P) hown (unhide HOff w4 n43)
              have hLens : Lens (dA ++ [ll]) := ⟨by have h1 := (unhide HKL).1; simp; omega, fun n hn => by
                rcases List.mem_append.1 hn with h | h
                · have := (unhide HOA).lens n (by rw [(unhide HDA).1]; exact List.mem_append_left _ h); omega
                · have h1 := unhide HLL; simp at h; omega⟩
              have hLensD : Lens dA := ⟨by have h1 := (unhide HKL).1; omega, fun n hn => hLens.lens n (List.mem_append_left _ hn)⟩
              have HFit := hide (fits_any w6 _ s2 cg (dA ++ [ll]) hshN hLens)
              have hcapg := nums_cap hshN
              have hk6 : (k : Int) ≤ (cg : Int) := by omega
              have hk7 : k ≤ cg := by omega
              have HCnt : Hid (Calls Tryz.prog 225 #[.slice (some ⟨g, 0, none⟩) k cg] w6 fun e w' => e = .returned (.int .i64 (prodL dA)) ∧ w' = w6) := hide (by
                refine count_any (Q := Off3 W.heap.size P) w6 _ k cg dA ?_ hLensD
                have := nums_take_any hshN (k := k) (by omega)
                rw [List.map_append, List.take_append_of_le_length (by simp; have := (unhide HKL).1; omega), List.take_of_length_le (by simp; have := (unhide HKL).1; omega)] at this
                exact this)
              have hNle := hLensD.prod
              have hcA : A.cells.length = prodL dA * la := by rw [(unhide HOA).size, (unhide HDA).1, prodL_append, prodL_one]
              have hcB : B.cells.length = prodL dA * lb := by rw [(unhide HOB).size, (unhide HDB).1, prodL_append, prodL_one, unhide HDD]
              obtain ⟨F, hF⟩ : ∃ F, fitsB (dA ++ [ll]) = F := ⟨_, rfl⟩
              rw [hF] at HFit
              obtain ⟨N, hN⟩ : ∃ N, prodL dA = N := ⟨_, rfl⟩
              have hrr : r = if F = false then (eArr, 9) else (⟨dA ++ [ll], catC A.cells B.cells la lb N⟩, 0) := by
                rw [← unhide HR]
                unfold catR catSh
                rw [if_neg (by rw [← unhide HSA, ← unhide HSB]; simp), (unhide HDA).2.1, (unhide HDB).2.1, if_neg (by simpa using unhide HDD), (unhide HDA).2.2, (unhide HDB).2.2, unhide HLL, hF, hN]
              have hsz : F = true → N * ll ≤ 64 := fun h => by rw [← hN]; exact fits_size (hF.trans h)
              rw [hN] at HCnt hNle hcA hcB
              have x4 := hS.r0
              have x5 := hS.r1
              have y4 := hS.fr (W.heap.size + 1 + 1) 0 (by omega) (by omega)
              have y5 := hS.fr (W.heap.size + 1 + 1) 1 (by omega) (by omega)
              have HBz := hide hS.below
              have HS6 := hide hS
              have HSN := hide hshN
              have HSZ := hide hsz
              have HCA := hide hcA
              have HCB := hide hcB
              clear hown hnew hshN hLens hLensD hF hN hsz hcA hcB hS HS4 hb6 HR
              cases F
              · rw [if_pos rfl] at hrr
                subst hrr
                go_wp2_with (go_at_call 222; refine (unhide HFit).mono ?_; rintro e w' ⟨rfl, hw'⟩; have hw2 := hw'.symm; subst hw2; clear hw')
                exact bodyPost_ret (v := .tuple #[.agg #[.slice none 0 0, .slice none 0 0], .int .i64 9]) (by simp [results, Tryz.results204, go_sem, x4, x5]) rfl ⟨_, _, _, _, _, _, rfl, e_arr _ _, (fin_ok (P := P) (unhide HBz) (e_arr _ _)).2⟩
              · rw [if_neg (by decide)] at hrr
                subst hrr
                have hNl : N * ll ≤ 64 := unhide HSZ rfl
                have HNL := hide hNl
                clear hNl HSZ
                go_wp2_with (first | (go_at_call 222; refine (unhide HFit).mono ?_; rintro e w' ⟨rfl, hw'⟩; have hw2 := hw'.symm; subst hw2; clear hw') | (go_at_call 225; refine (unhide HCnt).mono ?_; rintro e w' ⟨rfl, hw'⟩; have hw2 := hw'.symm; subst hw2; clear hw'))
                go_loopw [8, 53] (fun v8 v53 wr => ∃ (j : Nat) (o : Option Addr) (n c : Nat), v53 = .int .i64 j ∧ j ≤ N ∧ v8 = .slice o n c ∧ Nums (Off3 W.heap.size P) wr (.slice o n c) (catC A.cells B.cells la lb j) ∧ Below w6.heap.size w6 wr) (fun _ v53 _ => N - (intOf v53).toNat)
                case atStart => exact ⟨0, none, 0, 0, rfl, by omega, rfl, nums_nil _ _, Below.refl _ _⟩
                case round =>
                  obtain ⟨j, o, n, c, rfl, hj, rfl, hcs, hbr⟩ := hrel
                  have hS := (unhide HS6).keep hbr
                  by_cases hlt : j < N
                  · have hmA : (j + 1) * la ≤ A.cells.length := by rw [unhide HCA]; exact Nat.mul_le_mul_right _ hlt
                    have hmB : (j + 1) * lb ≤ B.cells.length := by rw [unhide HCB]; exact Nat.mul_le_mul_right _ hlt
                    have hfl := catC_len (xs := A.cells) (ys := B.cells) (la := la) (lb := lb) (n := j + 1) hmA hmB
                    have hle : (j + 1) * (la + lb) ≤ N * ll := by rw [unhide HLL]; exact Nat.mul_le_mul_right _ hlt
                    have hN64 := unhide HNL
                    have hdA2 : dA.length ≤ 3 := by have := (unhide HKL).1; omega
                    have hdB2 : dB.length ≤ 3 := by have := (unhide HKL).2; omega
                    have hfA := (unhide HOA).few
                    have hfB := (unhide HOB).few
                    have HLA : Hid (Calls Tryz.prog 257 #[.agg #[.slice (some ⟨sb, sf, none⟩) s2 s3, .slice c1 c2 c3], .int .i64 j] wr.drew fun e w'' => ∃ o n c, e = .returned (.slice o n c) ∧ Nums (Off3 W.heap.size P) w'' (.slice o n c) (lineL A.cells la j) ∧ Below wr.drew.heap.size wr.drew w'') := hide (aline_any wr.drew _ s2 s3 c1 c2 c3 A (hS.isA.below (Below.refl _ _).drew) dA la (unhide HDA).1 hdA2 j hmA (by omega) (by omega) (by omega))
                    have HLB : Hid (∀ w', Below wr.heap.size wr w' → Calls Tryz.prog 257 #[.agg #[.slice (some ⟨tb, tf, none⟩) s2 t3, .slice d1 d2 d3], .int .i64 j] w' fun e w'' => ∃ o n c, e = .returned (.slice o n c) ∧ Nums (Off3 W.heap.size P) w'' (.slice o n c) (lineL B.cells lb j) ∧ Below w'.heap.size w' w'') := hide (fun w' hb => aline_any w' _ s2 t3 d1 d2 d3 B (hS.isB.below hb) dB lb (unhide HDB).1 hdB2 j hmB (by omega) (by omega) (by omega))
                    obtain ⟨xa, hxa⟩ : ∃ x, lineL A.cells la j = x := ⟨_, rfl⟩
                    obtain ⟨xb, hxb⟩ : ∃ x, lineL B.cells lb j = x := ⟨_, rfl⟩
                    obtain ⟨xc, hxc⟩ : ∃ x, catC A.cells B.cells la lb j = x := ⟨_, rfl⟩
                    have hsuc := catC_succ A.cells B.cells la lb j
                    rw [hxa, hxb, hxc] at hsuc
                    rw [hxc] at hcs
                    rw [hxa] at HLA
                    rw [hxb] at HLB
                    have HSU := hide hsuc
                    have hflat : [xc, xa, xb].flatten = catC A.cells B.cells la lb (j + 1) := by rw [hsuc]; simp
                    have HFL := hide hflat
                    have HFW : Hid ([xc, xa, xb].flatten.length ≤ 1000) := hide (by rw [hflat, hfl]; omega)
                    have x0 := hS.a0
                    have x1 := hS.a1
                    have x2 := hS.b0
                    have x3 := hS.b1
                    have n3' := hS.lt
                    have n1' : W.heap.size < wr.heap.size := by omega
                    have n2' : W.heap.size + 1 < wr.heap.size := by omega
                    have HCS := hide hcs
                    have HBR := hide hbr
                    have hj0 : (0 : Int) ≤ (j : Int) := by omega
                    have hj1 : (j : Int) < (N : Int) := by omega
                    clear hmA hmB hfl hle hN64 hxa hxb hxc hsuc hflat hS hcs hbr hdA2 hdB2 hfA hfB
                    go_wp2_with fail
                    go_region_with (first | (go_at_call 257; with_reducible refine (unhide HLA).mono ?_; rintro e wA ⟨oa, na, ca, rfl, hNA, hbA⟩; have hA2 := below_drew hbA; have HA2 := hide hA2; have HNA := hide hNA; have pA2 := (hA2.cell (p := ⟨W.heap.size + 1, 0, none⟩) n2').trans x2; have pA3 := (hA2.cell (p := ⟨W.heap.size + 1, 1, none⟩) n2').trans x3; clear hbA hA2 hNA) | (go_at_call 257; with_reducible refine (unhide HLB _ (unhide HA2)).mono ?_; rintro e wB ⟨ob, nb, cb2, rfl, hNB, hbB⟩; have HB2 := hide hbB; have HNB := hide hNB; clear hbB hNB) | (go_at_call 253; refine (concat_any (Off3 W.heap.size P) (Q := Off3 W.heap.size P) _ (unhide HOff _ (by have h1 := (unhide HB2).size; have h2 := (unhide HA2).size; simp; omega)) wB.heap.size 3 3 [xc, xa, xb] rfl (by decide) (by simp) (lists3 (((unhide HCS).below (unhide HA2)).below (unhide HB2)) ((unhide HNA).below (unhide HB2)) (unhide HNB)) (unhide HFW)).mono ?_; rintro e wC ⟨oo, nn, kk, rfl, hNC, hbC⟩; have HNC := hide hNC; have HBC : Hid (Below w6.heap.size w6 wC) := hide (below2' (below2' (below2' (unhide HBR) (unhide HA2)) (unhide HB2)) (below2' ((Below.refl _ _).alloc (Nat.le_refl _) _) hbC)); clear hNC hbC))
                    all_goals
                      go_wp2_with fail
                      go_roundw
                      case rel => exact ⟨j + 1, oo, nn, kk, by go_num, by omega, rfl, by rw [← unhide HFL]; exact unhide HNC, unhide HBC⟩
                      case measure => simp [intOf]; omega
                  · have hje : j = N := by omega
                    subst hje
                    have hsh := (unhide HSN).below hbr
                    have HA : Hid (IsArr (Off3 W.heap.size P) wr (.agg #[.slice (some ⟨g, 0, none⟩) s2 cg, .slice o n c]) ⟨dA ++ [ll], catC A.cells B.cells la lb j⟩) := hide ⟨_, _, _, _, _, _, rfl, hsh, hcs⟩
                    have x4' := hS.r0
                    have x5' := hS.r1
                    have y4' := hS.fr (W.heap.size + 1 + 1) 0 (by omega) (by omega)
                    have y5' := hS.fr (W.heap.size + 1 + 1) 1 (by omega) (by omega)
                    have n3' := hS.lt
                    have HBr := hide hS.below
                    clear hS hsh hcs hbr
                    go_wp2_with fail
                    exact bodyPost_ret (v := .tuple #[.agg #[.slice (some ⟨g, 0, none⟩) s2 cg, .slice o n c], .int .i64 0]) (by simp [results, Tryz.results204, go_sem, x4', x5']) rfl ⟨_, _, _, _, _, _, rfl, (fin_ok (unhide HBr) (unhide HA)).1, (fin_ok (unhide HBr) (unhide HA)).2⟩
          · have hdd : ¬ dA = dB := by simpa using unhide HD
            have hr' : r = (eArr, 6) := by
              rw [← unhide HR]
              unfold catR
              rw [if_neg (by rw [← unhide HSA, ← unhide HSB]; simp), if_pos (by rw [(unhide HDA).2.1, (unhide HDB).2.1]; exact hdd)]
            subst hr'
            clear hdd hN4
            go_wp2_with fail
            exact bodyPost_ret (v := .tuple #[.agg #[.slice none 0 0, .slice none 0 0], .int .i64 6]) (by simp [results, Tryz.results204, go_sem, x4, x5]) rfl ⟨_, _, _, _, _, _, rfl, e_arr _ _, (fin_ok (P := P) (unhide HBz) (e_arr _ _)).2⟩
      · have hne : ((s2 : Int) != (t2 : Int)) = true := by simp; omega
        have hr' : r = (eArr, 5) := by
          rw [← unhide HR]
          unfold catR
          rw [if_pos (by rw [← unhide HSA, ← unhide HSB]; exact hst)]
        subst hr'
        clear hst hS
        go_wp2_with fail
        exact bodyPost_ret (v := .tuple #[.agg #[.slice none 0 0, .slice none 0 0], .int .i64 5]) (by simp [results, Tryz.results204, go_sem, x4, x5]) rfl ⟨_, _, _, _, _, _, rfl, e_arr _ _, (fin_ok (P := P) (unhide HBz) (e_arr _ _)).2⟩
theorem cat_two : TwoC ⟨#[99, 97, 116]⟩ catP := ⟨fun w => (find_two (t := ⟨#[99, 97, 116]⟩) (k1 := .string [97, 116]) (k2 := .string [99, 97, 116]) (f := 204) (by decide) (by kernel_rfl) (by kernel_rfl) (by kernel_rfl) (by kernel_rfl) (by kernel_rfl) w).mono (by rintro e w' ⟨rfl, hb⟩; exact ⟨204, #[], rfl, Tryz.enters204, hb, cat_fn w'⟩), fun a b ha hb => by
  have hA := rowed_ok ha
  have hB := rowed_ok hb
  have kA := rowed_rank a
  have kB := rowed_rank b
  unfold catP
  generalize rowed a = A at hA kA ⊢
  generalize rowed b = B at hB kB ⊢
  unfold catR
  split
  · exact ⟨by simp [eArr], fun h => absurd h (by decide)⟩
  · split
    · exact ⟨by simp [eArr], fun h => absurd h (by decide)⟩
    · split
      · exact ⟨by simp [eArr], fun h => absurd h (by decide)⟩
      · rename_i h1 h2 h3
        have h3' : fitsB (catSh A B) = true := by simpa using h3
        have h2' : A.shape.dropLast = B.shape.dropLast := by simpa using h2
        have hsz : prodL A.shape.dropLast * (lastN A.shape + lastN B.shape) ≤ 64 := fits_size h3'
        have hcA : A.cells.length = prodL A.shape.dropLast * lastN A.shape := by
          rw [hA.size]
          have := congrArg prodL (last_split kA)
          rw [prodL_append, prodL_one] at this
          exact this
        have hcB : B.cells.length = prodL A.shape.dropLast * lastN B.shape := by
          rw [hB.size, h2']
          have := congrArg prodL (last_split kB)
          rw [prodL_append, prodL_one] at this
          exact this
        have hl := catC_len (xs := A.cells) (ys := B.cells) (la := lastN A.shape) (lb := lastN B.shape) (n := prodL A.shape.dropLast) (by omega) (by omega)
        refine ⟨by show (catC _ _ _ _ _).length ≤ 200; omega, fun _ => ⟨?_, ?_, ?_, by show (catC _ _ _ _ _).length ≤ 200; omega, ?_⟩⟩
        · have := hA.rank
          simp [catSh]
          omega
        · intro n hn
          unfold fitsB at h3'
          rw [Bool.and_eq_true] at h3'
          have := List.all_eq_true.1 h3'.1 n hn
          have : n ≤ 64 := by simpa using this
          omega
        · show (catC _ _ _ _ _).length = prodL (catSh A B)
          rw [hl]
          unfold catSh
          rw [prodL_append, prodL_one]
        · intro c hc
          unfold catC at hc
          obtain ⟨l, hl1, hl2⟩ := List.mem_flatten.1 hc
          obtain ⟨i, _, rfl⟩ := List.mem_map.1 hl1
          rcases List.mem_append.1 hl2 with h | h
          · exact hA.fits c (List.mem_of_mem_drop (List.mem_of_mem_take h))
          · exact hB.fits c (List.mem_of_mem_drop (List.mem_of_mem_take h))⟩
end Go.Proofs.YtjobgpahajhbnaaGreatDoor
