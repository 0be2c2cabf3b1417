import Derived.Test.YtjobgpahajhbnaaGreatDoorKb
import Derived.Test.YtjobgpahajhbnaaGreatDoorJc
namespace Go.Proofs.YtjobgpahajhbnaaGreatDoor
open Go.RowKit Go.Proofs Go.Maps
attribute [local go_sem ↓] Go.wp_at_zero Go.wp_at_succ

theorem Tryz.enters202 : Enters Tryz.prog 202 := Go.Proofs.enters_of Tryz.func202 (by decide) rfl
def takeL (x : Int) (xs : List Int) : List Int := if 0 ≤ x then xs.take x.toNat ++ List.replicate (x.toNat - xs.length) 0 else List.replicate ((-x).toNat - xs.length) 0 ++ xs.drop (xs.length - (-x).toNat)
def takeP (a b : Arr) : Arr × Int := if a.shape.length ≠ 0 ∨ (rowed b).shape.length ≠ 1 then (eArr, 5) else if 64 < a.cells.headD 0 ∨ a.cells.headD 0 < -64 then (eArr, 9) else (⟨[(takeL (a.cells.headD 0) b.cells).length], takeL (a.cells.headD 0) b.cells⟩, 0)
theorem owns_all {w : World} {B g n : Nat} {e : TypeId} {xs : List Value} (h : w.ownsRow B e 1 (.slice (some ⟨g, 0, none⟩) n n) n xs) : w.heap[g]? = some (.cells xs.toArray e (0, 0)) ∧ xs.length = n := by
  obtain ⟨hl, ⟨h, _⟩ | ⟨g', cap, cur, hv, hg, hc, hn, hm, hz, ht⟩⟩ := h
  · cases h
  · injection hv with h1 h2 h3
    injection h1 with h1
    injection h1 with h1
    subst h1 h3
    have : cur = xs.toArray := by
      rw [← ht, List.take_of_length_le (by simp [hz])]
    subst this
    exact ⟨hc, by omega⟩
theorem nums_block {P : Nat → Prop} {w : World} {g n : Nat} {e : TypeId} {L : List Int} (h : w.heap[g]? = some (.cells (L.map (Value.int .i64)).toArray e (0, 0))) (hn : n = L.length) (hP : P g) : Nums P w (.slice (some ⟨g, 0, none⟩) n n) L := by
  subst hn
  refine ⟨some ⟨g, 0, none⟩, L.length, rfl, Nat.le_refl _, fun _ => ⟨g, 0, rfl, hP, (Array.getElem?_eq_some_iff.1 h).1, fun i hi => ?_⟩, fun a h => by cases h; rfl⟩
  rw [Nat.zero_add]
  exact row_cell h (by simp [hi])
theorem copy_any {Q : Nat → Prop} {w w1 : World} {g off dLen dCap : Nat} {co : Option Addr} {cn cc m : Nat} {xs : List Int} {cur : List Value} (hg : w1.heap[g]? = some (.cells cur.toArray 2 (0, 0))) (hs : Nums Q w1 (.slice co cn cc) xs) (hm : Nat.min cn dLen = m) (hfit : off + m ≤ cur.length) (hb : Below w.heap.size w w1) (hBg : w.heap.size ≤ g) :
    ∃ w2, (Builtin.copy_ #[32, 32] 3 #[.slice (some ⟨g, off, none⟩) dLen dCap, .slice co cn cc]).run Tryz.prog w1 = .ok (.int .i64 (m : Int)) w2 ∧ w2.heap[g]? = some (.cells (splice cur off ((xs.take m).map (Value.int .i64))).toArray 2 (0, 0)) ∧ Below w.heap.size w w2 := by
  have hl := nums_len hs
  by_cases h0 : m = 0
  · subst h0
    refine ⟨w1, run_copy_none (P := Tryz.prog) w1 32 32 3 2 _ _ dLen dCap cn cc Tryz.underlying32 Tryz.size2 hm, ?_, hb⟩
    rw [hg]
    simp [splice]
  · have hle : m ≤ cn := by rw [← hm]; exact Nat.min_le_left _ _
    obtain ⟨ao, cap, hv, hcap, h1, _⟩ := hs
    obtain ⟨b, o, rfl, _, hbl, hc⟩ := h1 (by omega)
    injection hv with e1 e2 e3
    subst e1
    have hcl : ((xs.take m).map (Value.int .i64)).length = m := by simp; omega
    have := copy_run (w := w) (w1 := w1) (g := g) (off := off) (dLen := dLen) (dCap := dCap) (ad := ⟨b, o, none⟩) (sLen := cn) (sCap := cc) (cur := cur) (cs := (xs.take m).map (Value.int .i64)) hg (by rw [hcl, hm]) (by
      intro j v hv
      obtain ⟨hj, rfl⟩ := maps_get hv
      simp at hj
      have e : (⟨b, o, none⟩ : Addr).add j = ⟨b, o + j, none⟩ := by cases j <;> simp [Addr.add]
      rw [e, hc j (by omega)]
      simp) (by rw [hcl]; exact hfit) ints_one hb hBg
    rw [hcl] at this
    exact this
theorem splice_take {n m : Nat} {xs : List Int} (hm : Nat.min xs.length n = m) : splice (List.replicate n (Value.int .i64 0)) 0 ((xs.take m).map (Value.int .i64)) = (takeL (n : Int) xs).map (Value.int .i64) := by
  have hm' : m = min xs.length n := hm.symm
  unfold splice takeL
  rw [if_pos (by omega)]
  have e : xs.take m = xs.take n := by
    rw [hm']
    by_cases h : xs.length ≤ n
    · rw [Nat.min_eq_left h, List.take_of_length_le (Nat.le_refl _), List.take_of_length_le h]
    · rw [Nat.min_eq_right (by omega)]
  rw [e]
  simp only [List.take_zero, List.nil_append, List.map_append, List.map_replicate, Int.toNat_natCast, List.drop_replicate, List.length_map, List.length_take]
  congr 2
  omega
theorem splice_last {n m off : Nat} {xs : List Int} (hm : Nat.min n xs.length = m) (ho : m ≠ 0 → off = n - m) (hon : off ≤ n) (hx : 0 < n) : splice (List.replicate n (Value.int .i64 0)) off (((xs.drop (xs.length - m)).take m).map (Value.int .i64)) = (takeL (-(n : Int)) xs).map (Value.int .i64) := by
  have hm' : m = min n xs.length := hm.symm
  have hml : m ≤ xs.length := by omega
  unfold takeL
  rw [if_neg (by omega), Int.neg_neg, Int.toNat_natCast]
  have e : (xs.drop (xs.length - m)).take m = xs.drop (xs.length - n) := by
    have e1 : xs.length - m = xs.length - n := by omega
    rw [e1, List.take_of_length_le (by simp; omega)]
  rw [e]
  by_cases h0 : m = 0
  · have hxe : xs = [] := List.eq_nil_of_length_eq_zero (by omega)
    subst hxe
    simp [splice]
    omega
  · rw [ho h0]
    unfold splice
    have e2 : n - m = n - xs.length := by omega
    simp only [List.take_replicate, List.map_append, List.map_replicate, List.drop_replicate, List.length_map, List.length_drop]
    rw [show min (n - m) n = n - xs.length by omega, show n - (n - m + (xs.length - (xs.length - n))) = 0 by omega]
    simp
set_option maxHeartbeats 2000000 in
set_option maxRecDepth 20000 in
theorem take_fn (w : World) : FnTwo 202 #[] w takeP := by
  intro W P u v a b _ hP ha hb hoa hob
  obtain ⟨so, sn, sc, co, cn, cc, rfl, ha1, ha2⟩ := ha
  obtain ⟨so2, sn2, sc2, co2, cn2, cc2, rfl, hb1, hb2⟩ := hb
  have hsn := nums_len ha1
  simp at hsn
  have HSN := hide hsn
  have hS0 := St.start (P := P) (W := W) (a := a) (b := b) ⟨so, sn, sc, co, cn, cc, rfl, ha1, ha2⟩ ⟨so2, sn2, sc2, co2, cn2, cc2, rfl, hb1, hb2⟩
  obtain ⟨W1, hW1⟩ : ∃ W1, ((W.alloc (.cells #[.slice so sn sc, .slice co cn cc] 89)).alloc (.cells #[.slice so2 sn2 sc2, .slice co2 cn2 cc2] 89)).alloc (.cells #[.slice none 0 0, .slice none 0 0] 89) = W1 := ⟨_, rfl⟩
  rw [hW1] at hS0
  have HS0 := hide hS0
  have HOff : Hid (∀ w' : World, W.heap.size + 1 + 1 < w'.heap.size → ∀ b, w'.heap.size ≤ b → Off3 W.heap.size P b) := hide (fun w' h b hb => ⟨hP b (by omega), .inr (by omega)⟩)
  have HL := hide (least_any (Off3 W.heap.size P) W1 (unhide HOff W1 hS0.lt) so2 sn2 sc2 co2 cn2 cc2 b hS0.isB)
  have HScal := hide (fun w' => (isScalar_any w' so sn sc co cn cc).mono (fun e w'' h => (⟨h.1, by rw [h.2]; exact ((Below.refl _ _).alloc (Nat.le_refl _) _).alloc (by simp) _⟩ : e = .returned (.bool ((sn : Int) == 0)) ∧ Below w'.heap.size w' w'')))
  have HP : Hid (∀ b, W.heap.size ≤ b → P b) := hP
  have HOA := hide hoa
  have HOB := hide (rowed_ok hob)
  have HBC := hide (rowed_cells b)
  obtain ⟨r, hr⟩ : ∃ r, takeP a b = r := ⟨_, rfl⟩
  simp only [hr]
  have HR := hide hr
  have b0' := hS0.b0
  have b1' := hS0.b1
  clear hP hoa hob ha1 ha2 hb1 hb2 hr hsn hS0
  go_enter Tryz.func202, Tryz.ntmps202
  go_wp2_with fail
  try rw [hW1]
  clear hW1 b0' b1'
  refine (unhide HL).mono ?_
  rintro e w2 ⟨s1, s2, s3, c1, c2, c3, rfl, hB2, hb2⟩
  have hS2 := (unhide HS0).keep hb2
  have hS3 := hS2.setB hB2
  have HS3 := hide hS3
  have HS2L := hide (isArr_len hB2)
  have x0 := hS2.a0
  have x1 := hS2.a1
  have x2 := hS2.b0
  have x3 := hS2.b1
  have y2 := hS2.fr (W.heap.size + 1) 0 (by omega) (by omega)
  have y3 := hS2.fr (W.heap.size + 1) 1 (by omega) (by omega)
  have n3 := hS2.lt
  have n1 : W.heap.size < w2.heap.size := by omega
  have n2 : W.heap.size + 1 < w2.heap.size := by omega
  clear hS2 hS3 hB2 hb2 HL HS0
  go_wp2_with fail
  obtain ⟨w3, hw3⟩ : ∃ w3, (w2.setCell ⟨W.heap.size + 1, 0, none⟩ (.slice s1 s2 s3)).setCell ⟨W.heap.size + 1, 1, none⟩ (.slice c1 c2 c3) = w3 := ⟨_, rfl⟩
  rw [hw3] at HS3 ⊢
  clear hw3 x0 x1 x2 x3 y2 y3 n1 n2 n3
  refine (unhide HScal _).mono ?_
  rintro e w4 ⟨rfl, hb4⟩
  have hS4 := (unhide HS3).keep hb4
  have HS4 := hide hS4
  have x0 := hS4.a0
  have x1 := hS4.a1
  have x2 := hS4.b0
  have x3 := hS4.b1
  have x4 := hS4.r0
  have x5 := hS4.r1
  have y4 := hS4.fr (W.heap.size + 1 + 1) 0 (by omega) (by omega)
  have y5 := hS4.fr (W.heap.size + 1 + 1) 1 (by omega) (by omega)
  have n3 := hS4.lt
  have n1 : W.heap.size < w4.heap.size := by omega
  have n2 : W.heap.size + 1 < w4.heap.size := by omega
  have HBz := hide hS4.below
  clear hS4 hb4 HS3 HScal
  by_cases hsc : sn = 0
  · have hsc' : ((sn : Int) == 0) = true := by rw [hsc]; rfl
    have HSC := hide hsc
    clear hsc
    go_wp2_with fail
    refine (isRow_any _ s1 s2 s3 c1 c2 c3).mono ?_
    rintro e w5 ⟨rfl, hw5⟩
    have hb5 : Below w4.heap.size w4 w5 := by rw [hw5]; exact ((Below.refl _ _).alloc (Nat.le_refl _) _).alloc (by simp) _
    clear hw5
    have hS5 := (unhide HS4).keep hb5
    have HS5 := hide hS5
    clear x0 x1 x2 x3 x4 x5 y4 y5 n1 n2 n3
    have x0 := hS5.a0
    have x1 := hS5.a1
    have x2 := hS5.b0
    have x3 := hS5.b1
    have x4 := hS5.r0
    have x5 := hS5.r1
    have y4 := hS5.fr (W.heap.size + 1 + 1) 0 (by omega) (by omega)
    have y5 := hS5.fr (W.heap.size + 1 + 1) 1 (by omega) (by omega)
    have n3 := hS5.lt
    have n1 : W.heap.size < w5.heap.size := by omega
    have n2 : W.heap.size + 1 < w5.heap.size := by omega
    have HBz := hide hS5.below
    clear hb5 HS4
    by_cases hrow : s2 = 1
    · have hrow' : ((s2 : Int) == 1) = true := by rw [hrow]; rfl
      have hash : a.shape = [] := List.eq_nil_of_length_eq_zero (by rw [← unhide HSN]; exact unhide HSC)
      obtain ⟨x, ab, ao, hax, hcn1, hco, _, hal, hac, hacc⟩ := scalar_cell (isArr_cells hS5.isA) (unhide HOA) hash
      subst hco
      have hBc := isArr_cells hS5.isB
      rw [unhide HBC] at hBc
      have hc2 := nums_len hBc
      obtain ⟨xs, hxs⟩ : ∃ xs, b.cells = xs := ⟨_, rfl⟩
      rw [hxs] at hBc hc2
      have hfew : xs.length ≤ 200 := by rw [← hxs, ← rowed_cells b]; exact (unhide HOB).few
      have hr' : r = if 64 < x ∨ x < -64 then (eArr, 9) else (⟨[(takeL x xs).length], takeL x xs⟩, 0) := by
        rw [← unhide HR]
        unfold takeP
        rw [if_neg (by rw [hash, ← (unhide HS2L).2, hrow]; simp), hax, hxs]
        rfl
      have hx64 := (unhide HOA).fits x (by rw [hax]; simp)
      subst hcn1
      have HBC2 := hide hBc
      have hcc3 : c2 ≤ c3 := by
        obtain ⟨ao', cap', hv, hcap, _, _⟩ := hBc
        injection hv with e1 e2 e3
        omega
      clear hS5 hash hax hxs HBC HOB HOA HR HSC HS2L HSN hBc hrow
      have HC2 := hide hc2
      clear hc2
      have hx1 := hx64.1
      have hx2 := hx64.2
      obtain ⟨i0, hi, hz0, hz1, hz2⟩ := info_parts Tryz.info2
      have HI := hide hi
      have HZ0 := hide hz0
      have HZ1 := hide hz1
      have HZ2 := hide hz2
      clear hx64 hi hz0 hz1 hz2
      by_cases hb1 : 64 < x
      · rw [if_pos (Or.inl hb1)] at hr'
        subst hr'
        go_wp2_with fail
        exact bodyPost_ret (v := .tuple #[.agg #[.slice none 0 0, .slice none 0 0], .int .i64 9]) (by simp [results, Tryz.results202, go_sem, x4, x5]) rfl ⟨_, _, _, _, _, _, rfl, e_arr _ _, (fin_ok (P := P) (unhide HBz) (e_arr _ _)).2⟩
      · by_cases hb2 : x < -64
        · rw [if_pos (Or.inr hb2)] at hr'
          subst hr'
          go_wp2_with fail
          exact bodyPost_ret (v := .tuple #[.agg #[.slice none 0 0, .slice none 0 0], .int .i64 9]) (by simp [results, Tryz.results202, go_sem, x4, x5]) rfl ⟨_, _, _, _, _, _, rfl, e_arr _ _, (fin_ok (P := P) (unhide HBz) (e_arr _ _)).2⟩
        · rw [if_neg (by omega)] at hr'
          obtain ⟨ys, hys⟩ : ∃ ys, takeL x xs = ys := ⟨_, rfl⟩
          rw [hys] at hr'
          subst hr'
          have HYS := hide hys
          clear hys
          by_cases hx0 : 0 ≤ x
          · obtain ⟨n, rfl⟩ : ∃ n : Nat, x = n := ⟨x.toNat, by omega⟩
            have hn64 : n ≤ 64 := by omega
            go_wp2_with (at_make; refine wpList_make_full _ rfl _ _ 32 rfl w5.heap.size 2 i0 (.int .i64 0) 1 Tryz.underlying32 (unhide HI) (unhide HZ0) (unhide HZ1) .i64 .i64 n n n rfl rfl rfl rfl ?c1 ?c2 (Nat.le_refl _) ?_)
            case c1 => rw [unhide HZ2]; omega
            case c2 => unfold maxLen; omega
            intro w6 hown hgr
            have hzl := toList_madeCells_one (.int .i64 0) (n * 1)
            rw [Nat.mul_one] at hzl
            have hown' : w6.ownsRow w5.heap.size 2 1 (.slice (some ⟨w5.heap.size, 0, none⟩) n n) n (List.replicate n (.int .i64 0)) := by
              rw [← hzl]
              simpa using hown
            obtain ⟨hg6, -⟩ := owns_all hown'
            have hb6 : Below w5.heap.size w5 w6 := (Below.refl _ _).grown hgr (Nat.le_refl _) (fun _ h => by cases h)
            obtain ⟨m, hm⟩ : ∃ m, Nat.min c2 n = m := ⟨_, rfl⟩
            obtain ⟨w7, hrun, hg7, hb7⟩ := copy_any (w := w5) (w1 := w6) (g := w5.heap.size) (off := 0) (dLen := n) (dCap := n) (m := m) hg6 ((unhide HBC2).below hb6) hm (by have : Nat.min c2 n ≤ n := Nat.min_le_right _ _; simp; omega) hb6 (Nat.le_refl _)
            have hS6 := (unhide HS5).keep hb6
            have hS7 := (unhide HS5).keep hb7
            rw [splice_take (by rw [← unhide HC2]; exact hm), unhide HYS] at hg7
            have hyl : n = ys.length := by
              rw [← unhide HYS]
              unfold takeL
              rw [if_pos hx0]
              simp
              omega
            have HN7 : Hid (Nums (Off3 W.heap.size P) w7 (.slice (some ⟨w5.heap.size, 0, none⟩) n n) ys) := hide (nums_block hg7 hyl (unhide HOff w5 n3 _ (Nat.le_refl _)))
            have n7 := hb7.size
            have HRW := hide (row_any (Off3 W.heap.size P) w7 (unhide HOff w7 (by omega)) _ ys (unhide HN7))
            have HS7 := hide hS7
            clear x0 x1 x2 x3 x4 x5 y4 y5
            have x2 := hS6.b0
            have x3 := hS6.b1
            have n6 := hS6.lt
            have n61 : W.heap.size + 1 < w6.heap.size := by omega
            clear hzl hown hown' hg6 hb6 hS6 hS7 hg7 hb7 hm hgr hyl HYS HN7 HBC2 HS5 hac
            go_wp2_with fail
            refine (unhide HRW).mono ?_
            rintro e w8 ⟨t1, t2, t3, u1, u2, u3, rfl, hA8, hb8⟩
            have hS8 := (unhide HS7).keep hb8
            have HA8 := hide hA8
            have q4 := hS8.r0
            have q5 := hS8.r1
            have z4 := hS8.fr (W.heap.size + 1 + 1) 0 (by omega) (by omega)
            have z5 := hS8.fr (W.heap.size + 1 + 1) 1 (by omega) (by omega)
            have n8 := hS8.lt
            have HB8 := hide hS8.below
            clear hS8 hA8 hb8 HRW HS7 x2 x3
            go_wp2_with fail
            exact bodyPost_ret (v := .tuple #[.agg #[.slice t1 t2 t3, .slice u1 u2 u3], .int .i64 0]) (by simp [results, Tryz.results202, go_sem, q4, q5]) rfl ⟨_, _, _, _, _, _, rfl, (fin_ok (unhide HB8) (unhide HA8)).1, (fin_ok (unhide HB8) (unhide HA8)).2⟩
          · obtain ⟨n, hxn⟩ : ∃ n : Nat, -x = n := ⟨(-x).toNat, by omega⟩
            have hn64 : n ≤ 64 := by omega
            have hn0 : 0 < n := by omega
            have hx0' : x < 0 := by omega
            have hxe : x = -(n : Int) := by omega
            have HXE := hide hxe
            have hni : (0 : Int) ≤ (n : Int) := by omega
            have hng : IntKind.i64.wrap (-x) = (n : Int) := by
              rw [hxn]
              exact wrap_pos (by omega) (by omega)
            clear hxe hxn
            go_wp2_with (at_make; refine wpList_make_full _ rfl _ _ 32 rfl w5.heap.size 2 i0 (.int .i64 0) 1 Tryz.underlying32 (unhide HI) (unhide HZ0) (unhide HZ1) .i64 .i64 n n n rfl rfl rfl rfl ?c1 ?c2 (Nat.le_refl _) ?_)
            case c1 => rw [unhide HZ2]; omega
            case c2 => unfold maxLen; omega
            intro w6 hown hgr
            have hzl := toList_madeCells_one (.int .i64 0) (n * 1)
            rw [Nat.mul_one] at hzl
            have hown' : w6.ownsRow w5.heap.size 2 1 (.slice (some ⟨w5.heap.size, 0, none⟩) n n) n (List.replicate n (.int .i64 0)) := by
              rw [← hzl]
              simpa using hown
            obtain ⟨hg6, -⟩ := owns_all hown'
            have hb6 : Below w5.heap.size w5 w6 := (Below.refl _ _).grown hgr (Nat.le_refl _) (fun _ h => by cases h)
            have hS6 := (unhide HS5).keep hb6
            have HS6 := hide hS6
            have HG6 := hide hg6
            have HB6 := hide hb6
            clear x0 x1 x2 x3 x4 x5 y4 y5
            have x2 := hS6.b0
            have x3 := hS6.b1
            have n6 := hS6.lt
            have n61 : W.heap.size + 1 < w6.heap.size := by omega
            obtain ⟨th, hth⟩ : ∃ th, Nat.min n c2 = th := ⟨_, rfl⟩
            have hth' : min n c2 = th := hth
            have hmin : min (n : Int) (c2 : Int) = (th : Int) := by omega
            have htn : th ≤ n := by omega
            have htc : th ≤ c2 := by omega
            have HTH := hide hth
            clear hzl hown hown' hg6 hb6 hS6 hgr hac hth hth'
            go_wp2_with (go_at_call 156; refine (size_any _ s1 s2 s3 c1 c2 c3).mono ?_; rintro e w7 ⟨rfl, hw7⟩; have hb7 : Below w6.heap.size w6 w7 := (by rw [hw7]; exact (Below.refl _ _).alloc (Nat.le_refl _) _); clear hw7; have hS7 := (unhide HS6).keep hb7; have X2 := hS7.b0; have X3 := hS7.b1; have N7 := hS7.lt)
            have HB7 : Hid (Below w5.heap.size w5 w7) := hide ((unhide HB6).trans (hb7.mono (unhide HB6).size))
            have n56 := (unhide HB6).size
            have HG7 : Hid (w7.heap[w5.heap.size]? = some (.cells (List.replicate n (Value.int .i64 0)).toArray 2 (0, 0))) := hide ((hb7.block _ (Array.getElem?_eq_some_iff.1 (unhide HG6)).1).trans (unhide HG6))
            have hg7l : w5.heap.size < w7.heap.size := (Array.getElem?_eq_some_iff.1 (unhide HG7)).1
            have HN7 := hide ((unhide HBC2).below (unhide HB7))
            have N71 : W.heap.size + 1 < w7.heap.size := by omega
            obtain ⟨p, hp⟩ : ∃ p, n - th = p := ⟨_, rfl⟩
            obtain ⟨q, hq⟩ : ∃ q, c2 - th = q := ⟨_, rfl⟩
            have hc2l : c2 ≤ 200 := by rw [unhide HC2]; exact hfew
            have hp0 : (0 : Int) ≤ (p : Int) := by omega
            have hp1 : (p : Int) ≤ (n : Int) := by omega
            have hq0 : (0 : Int) ≤ (q : Int) := by omega
            have hq1 : (q : Int) ≤ (c2 : Int) := by omega
            have hpn : p ≤ n := by omega
            have hqn : q ≤ c2 := by omega
            obtain ⟨off, hoff, hoff1, hoff2⟩ : ∃ off : Nat, (if n = p then some (⟨w5.heap.size, 0, none⟩ : Addr) else some ⟨w5.heap.size, p, none⟩) = some ⟨w5.heap.size, off, none⟩ ∧ off + th ≤ n ∧ (th ≠ 0 → off = n - th) := by
              by_cases e : n = p
              · exact ⟨0, if_pos e, by omega, fun h => by omega⟩
              · exact ⟨p, if_neg e, by omega, fun h => hp.symm⟩
            have HPQ := hide (And.intro hp hq)
            have HOF := hide (And.intro hoff1 hoff2)
            have hyl : n = ys.length := by
              rw [← unhide HYS, unhide HXE]
              unfold takeL
              rw [if_neg (by omega)]
              simp
              omega
            have HYL := hide hyl
            have hw1 : IntKind.i64.wrap ((n : Int) - (th : Int)) = (p : Int) := by
              have e : (n : Int) - (th : Int) = (p : Int) := by omega
              rw [e]
              exact wrap_pos hp0 (by omega)
            have hw2 : IntKind.i64.wrap ((c2 : Int) - (th : Int)) = (q : Int) := by
              have e : (c2 : Int) - (th : Int) = (q : Int) := by omega
              rw [e]
              exact wrap_pos hq0 (by omega)
            have HHH := hide hS7
            clear hp hq hoff1 hoff2 hyl hb7 HB6 HG6 HBC2 HS6 x2 x3 n6 n61 hS7 hng hmin hx0' hx1 hx2 hfew
            have hcop : Hid (Nat.min (c2 - q) (n - p) = th) := hide (by
              have := unhide HPQ
              have h2 : Nat.min n c2 = th := unhide HTH
              have h3 : min n c2 = th := h2
              show min (c2 - q) (n - p) = th
              omega)
            rcases c1 with _ | ⟨cb, coff, spot⟩
            · obtain ⟨ao', cap', hv, hcap, h1, _⟩ := unhide HN7
              have hz : xs.length = 0 := by
                by_cases h : 0 < xs.length
                · obtain ⟨b', off', e1, _⟩ := h1 h
                  injection hv with e2
                  rw [e1] at e2
                  cases e2
                · omega
              have hc0 : c2 = 0 := by rw [unhide HC2]; exact hz
              subst hc0
              have ht0 : th = 0 := by omega
              subst ht0
              have hq0' : q = 0 := by omega
              subst hq0'
              have hpe : n = p := by have := (unhide HPQ).1; omega
              subst hpe
              have hw3 : IntKind.i64.wrap (n : Int) = (n : Int) := wrap_pos hp0 (by omega)
              have HNS : Hid (Nums (Off3 W.heap.size P) w7 (.slice none 0 c3) []) := hide ⟨_, _, rfl, by simp, fun h => absurd h (by simp), fun a h => by cases h⟩
              have hfin : Hid (splice (List.replicate n (Value.int .i64 0)) 0 ((([] : List Int).take 0).map (Value.int .i64)) = ys.map (Value.int .i64)) := hide (by
                rw [← unhide HYS, unhide HXE, List.eq_nil_of_length_eq_zero hz]
                have := splice_last (n := n) (m := 0) (off := 0) (xs := []) (by simp) (by simp) (by omega) hn0
                simpa using this)
              clear hv hcap h1 hz hw1 hw2 hoff
              go_region_with (go_at_call 156; refine (size_any _ s1 s2 s3 none 0 c3).mono ?_; rintro e w8 ⟨rfl, hw8⟩; have hb8 : Below w7.heap.size w7 w8 := (by rw [hw8]; exact (Below.refl _ _).drew.alloc (by simp) _); clear hw8; have hb58 := (unhide HB7).trans (hb8.mono (unhide HB7).size); obtain ⟨w9, hrun, hg9, hb9⟩ := copy_any (w := w5) (w1 := w8) (g := w5.heap.size) (off := 0) (dLen := 0) (dCap := 0) (m := 0) ((hb8.block w5.heap.size hg7l).trans (unhide HG7)) ((unhide HNS).below hb8) rfl (by simp) hb58 (Nat.le_refl _); have HG9 := hide hg9; have HB9 := hide hb9; clear hg9 hb9 hb58; have n8 := hb8.size; have X2' := (hb8.cell (p := ⟨W.heap.size + 1, 0, none⟩) N71).trans X2; have X3' := (hb8.cell (p := ⟨W.heap.size + 1, 1, none⟩) N71).trans X3; clear hb8)
              all_goals
                have hS9 := (unhide HS5).keep (unhide HB9)
                have HN9 : Hid (Nums (Off3 W.heap.size P) w9 (.slice (some ⟨w5.heap.size, 0, none⟩) n n) ys) := hide (nums_block (by rw [← unhide hfin]; exact unhide HG9) (unhide HYL) (unhide HOff w5 n3 _ (Nat.le_refl _)))
                have n9 := (unhide HB9).size
                have HRW := hide (row_any (Off3 W.heap.size P) w9 (unhide HOff w9 (by omega)) _ ys (unhide HN9))
                have HS9 := hide hS9
                clear hS9 HN9 HG9 HB9 hfin HNS X2 X3 X2' X3' hrun
                go_wp2_with fail
                refine (unhide HRW).mono ?_
                rintro e wz ⟨t1, t2, t3, u1, u2, u3, rfl, hA8, hb8⟩
                have hS8 := (unhide HS9).keep hb8
                have HA8 := hide hA8
                have q4 := hS8.r0
                have q5 := hS8.r1
                have z4 := hS8.fr (W.heap.size + 1 + 1) 0 (by omega) (by omega)
                have z5 := hS8.fr (W.heap.size + 1 + 1) 1 (by omega) (by omega)
                have nz := hS8.lt
                have HB8 := hide hS8.below
                clear hS8 hA8 hb8 HRW HS9
                go_wp2_with fail
                exact bodyPost_ret (v := .tuple #[.agg #[.slice t1 t2 t3, .slice u1 u2 u3], .int .i64 0]) (by simp [results, Tryz.results202, go_sem, q4, q5]) rfl ⟨_, _, _, _, _, _, rfl, (fin_ok (unhide HB8) (unhide HA8)).1, (fin_ok (unhide HB8) (unhide HA8)).2⟩
            · have hsp : spot = none := by
                obtain ⟨ao', cap', hv, hcap, h1, h2⟩ := unhide HN7
                injection hv with e2
                exact h2 _ e2.symm
              subst hsp
              obtain ⟨ad, had⟩ : ∃ ad : Option Addr, (if c3 = q then some ⟨cb, coff, none⟩ else some ⟨cb, coff + q, none⟩) = ad := ⟨_, rfl⟩
              have HNS : Hid (Nums (Off3 W.heap.size P) w7 (.slice ad (c2 - q) (c3 - q)) (xs.drop q)) := hide (by
                rw [← had]
                exact nums_drop_at (unhide HN7) hqn)
              have hfin : Hid (splice (List.replicate n (Value.int .i64 0)) off (((xs.drop q).take th).map (Value.int .i64)) = ys.map (Value.int .i64)) := hide (by
                rw [← unhide HYS, unhide HXE]
                have e : q = xs.length - th := by rw [← unhide HC2]; exact (unhide HPQ).2.symm
                rw [e]
                exact splice_last (by rw [← unhide HC2]; exact unhide HTH) (unhide HOF).2 (by have := (unhide HOF).1; omega) hn0)
              go_region_with (go_at_call 156; refine (size_any _ s1 s2 s3 (some ⟨cb, coff, none⟩) c2 c3).mono ?_; rintro e w8 ⟨rfl, hw8⟩; have hb8 : Below w7.heap.size w7 w8 := (by rw [hw8]; exact (Below.refl _ _).drew.alloc (by simp) _); clear hw8; have hb58 := (unhide HB7).trans (hb8.mono (unhide HB7).size); obtain ⟨w9, hrun, hg9, hb9⟩ := copy_any (w := w5) (w1 := w8) (g := w5.heap.size) (off := off) (dLen := n - p) (dCap := n - p) (m := th) ((hb8.block w5.heap.size hg7l).trans (unhide HG7)) ((unhide HNS).below hb8) (unhide hcop) (by simpa using (unhide HOF).1) hb58 (Nat.le_refl _); have HG9 := hide hg9; have HB9 := hide hb9; clear hg9 hb9 hb58; have n8 := hb8.size; have X2' := (hb8.cell (p := ⟨W.heap.size + 1, 0, none⟩) N71).trans X2; have X3' := (hb8.cell (p := ⟨W.heap.size + 1, 1, none⟩) N71).trans X3; clear hb8)
              all_goals
                have hS9 := (unhide HS5).keep (unhide HB9)
                have HN9 : Hid (Nums (Off3 W.heap.size P) w9 (.slice (some ⟨w5.heap.size, 0, none⟩) n n) ys) := hide (nums_block (by rw [← unhide hfin]; exact unhide HG9) (unhide HYL) (unhide HOff w5 n3 _ (Nat.le_refl _)))
                have n9 := (unhide HB9).size
                have HRW := hide (row_any (Off3 W.heap.size P) w9 (unhide HOff w9 (by omega)) _ ys (unhide HN9))
                have HS9 := hide hS9
                clear hS9 HN9 HG9 HB9 hfin HNS X2 X3 X2' X3' hrun
                go_wp2_with fail
                refine (unhide HRW).mono ?_
                rintro e wz ⟨t1, t2, t3, u1, u2, u3, rfl, hA8, hb8⟩
                have hS8 := (unhide HS9).keep hb8
                have HA8 := hide hA8
                have q4 := hS8.r0
                have q5 := hS8.r1
                have z4 := hS8.fr (W.heap.size + 1 + 1) 0 (by omega) (by omega)
                have z5 := hS8.fr (W.heap.size + 1 + 1) 1 (by omega) (by omega)
                have nz := hS8.lt
                have HB8 := hide hS8.below
                clear hS8 hA8 hb8 HRW HS9
                go_wp2_with fail
                exact bodyPost_ret (v := .tuple #[.agg #[.slice t1 t2 t3, .slice u1 u2 u3], .int .i64 0]) (by simp [results, Tryz.results202, go_sem, q4, q5]) rfl ⟨_, _, _, _, _, _, rfl, (fin_ok (unhide HB8) (unhide HA8)).1, (fin_ok (unhide HB8) (unhide HA8)).2⟩
    · have hrow' : ((s2 : Int) == 1) = false := by rw [beq_eq_false_iff_ne]; omega
      have hr' : r = (eArr, 5) := by
        rw [← unhide HR]
        unfold takeP
        rw [if_pos (Or.inr (by rw [← (unhide HS2L).2]; exact hrow))]
      subst hr'
      clear hS5 hrow
      go_wp2_with fail
      exact bodyPost_ret (v := .tuple #[.agg #[.slice none 0 0, .slice none 0 0], .int .i64 5]) (by simp [results, Tryz.results202, go_sem, x4, x5]) rfl ⟨_, _, _, _, _, _, rfl, e_arr _ _, (fin_ok (P := P) (unhide HBz) (e_arr _ _)).2⟩
  · have hsc' : ((sn : Int) == 0) = false := by rw [beq_eq_false_iff_ne]; omega
    have hr' : r = (eArr, 5) := by
      rw [← unhide HR]
      unfold takeP
      rw [if_pos (Or.inl (by rw [← unhide HSN]; exact hsc))]
    subst hr'
    clear hsc
    go_wp2_with fail
    exact bodyPost_ret (v := .tuple #[.agg #[.slice none 0 0, .slice none 0 0], .int .i64 5]) (by simp [results, Tryz.results202, go_sem, x4, x5]) rfl ⟨_, _, _, _, _, _, rfl, e_arr _ _, (fin_ok (P := P) (unhide HBz) (e_arr _ _)).2⟩
theorem takeL_len {x : Int} (h : ¬ (64 < x ∨ x < -64)) (xs : List Int) : (takeL x xs).length ≤ 64 := by
  unfold takeL
  split
  · simp; omega
  · simp; omega
theorem takeL_mem {x : Int} {xs : List Int} (hf : ∀ c ∈ xs, fit64 c) : ∀ c ∈ takeL x xs, fit64 c := by
  intro c h
  unfold takeL at h
  split at h
  · rcases List.mem_append.1 h with h | h
    · exact hf c (List.mem_of_mem_take h)
    · rw [(List.mem_replicate.1 h).2]; unfold fit64; omega
  · rcases List.mem_append.1 h with h | h
    · rw [(List.mem_replicate.1 h).2]; unfold fit64; omega
    · exact hf c (List.mem_of_mem_drop h)
theorem take_two : TwoC ⟨#[116, 97, 107, 101]⟩ takeP := ⟨fun w => (find_two (t := ⟨#[116, 97, 107, 101]⟩) (k1 := .string [97, 107, 101]) (k2 := .string [116, 97, 107, 101]) (f := 202) (by decide) (by kernel_rfl) (by kernel_rfl) (by kernel_rfl) (by kernel_rfl) (by kernel_rfl) w).mono (by rintro e w' ⟨rfl, hb⟩; exact ⟨202, #[], rfl, Tryz.enters202, hb, take_fn w'⟩), fun a b ha hb => by
  unfold takeP
  split
  · exact ⟨by simp [eArr], fun h => absurd h (by decide)⟩
  · split
    · exact ⟨by simp [eArr], fun h => absurd h (by decide)⟩
    · rename_i h1 h2
      have hl := takeL_len h2 b.cells
      exact ⟨by show (takeL _ _).length ≤ 200; omega, fun _ => ⟨by simp, fun n hn => by rw [List.mem_singleton.1 hn]; omega, by simp [prodL], by show (takeL _ _).length ≤ 200; omega, takeL_mem hb.fits⟩⟩⟩
end Go.Proofs.YtjobgpahajhbnaaGreatDoor
