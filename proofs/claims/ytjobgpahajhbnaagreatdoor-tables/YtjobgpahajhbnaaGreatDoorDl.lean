import Derived.Test.YtjobgpahajhbnaaGreatDoorDk
namespace Go.Proofs.YtjobgpahajhbnaaGreatDoor
open Go.RowKit Go.Proofs
attribute [local go_sem ↓] Go.wp_at_zero Go.wp_at_succ

theorem nums_two {P : Nat → Prop} {w : World} {x y : Int} {e : TypeId} (hP : P w.heap.size) : Nums P (w.alloc (.cells #[.int .i64 x, .int .i64 y] e)) (.slice (some ⟨w.heap.size, 0, none⟩) 2 2) [x, y] := by
  refine ⟨_, _, rfl, by simp, fun _ => ⟨w.heap.size, 0, rfl, hP, by simp, fun i hi => ?_⟩, fun a e => by cases e; rfl⟩
  match i, hi with
  | 0, _ => exact (World.cell?_alloc_at _ _ _ _ rfl).trans rfl
  | 1, _ => exact (World.cell?_alloc_at _ _ _ _ rfl).trans rfl
theorem is_says {env : ByteArray → Option Arr} {b : ByteArray} {a : Arr} (h : ArrSays env b a) {S : Nat → Prop} {db N : Nat} {w : World} (hD : DkE S db env N w) {Q Q' : Nat → Prop} {u v : Value} (hs : Nums Q w u (a.shape.map Int.ofNat)) (hc : Nums Q' w v a.cells) (hl1 : a.shape.length ≤ 3) (hl2 : a.cells.length ≤ 200) :
    Calls Tryz.prog 28 #[.pointer (some ⟨db, 0, none⟩), .string b, u, v] w fun e w' => e = .returned (.bool true) ∧ Below w.heap.size w w' := by
  obtain ⟨cost, h⟩ := h
  have hs0 := hs
  have hc0 := hc
  obtain ⟨_, _, rfl, _⟩ := hs0
  obtain ⟨_, _, rfl, _⟩ := hc0
  exact is_gen (DkE S db env N) (DkE.lasts S db env N) db b _ _ cost (h S db N) w hD _ _ _ _ _ _ (hs.imp (Q := fun _ => True) (fun _ _ _ => trivial)) (hc.imp (Q := fun _ => True) (fun _ _ _ => trivial)) (by simp; omega) hl2
def envT (r c : Nat) (xs : List Int) : ByteArray → Option Arr := upd env0 ⟨List.toArray [116]⟩ (tabA r c xs)
theorem envT_at (r c : Nat) (xs : List Int) : envT r c xs tT = some (tabA r c xs) := by
  unfold envT upd
  rw [if_pos (by decide)]
theorem cat_tab (tr tc tt : List UInt8) : (⟨#[116, 32, 105, 115, 32]⟩ : ByteArray) ++ ⟨tr.toArray⟩ ++ ⟨#[32]⟩ ++ ⟨tc.toArray⟩ ++ ⟨#[32, 114, 104, 111, 32]⟩ ++ ⟨tt.toArray⟩ = ⟨([116] ++ ([32, 105, 115, 32] ++ ((tr ++ (32 :: tc)) ++ (32 :: ([114, 104, 111] ++ (32 :: tt)))))).toArray⟩ := by
  apply ba_ext
  simp
theorem cat_outer (tr tc : List UInt8) : (⟨#[40, 105, 111, 116, 97, 32]⟩ : ByteArray) ++ ⟨tr.toArray⟩ ++ ⟨#[41, 32, 45, 46, 32, 105, 111, 116, 97, 32]⟩ ++ ⟨tc.toArray⟩ = ⟨((40 :: (([105, 111, 116, 97] ++ (32 :: tr)) ++ [41])) ++ (32 :: ([45, 46] ++ (32 :: ([105, 111, 116, 97] ++ (32 :: tc)))))).toArray⟩ := by
  apply ba_ext
  simp
theorem rowT_ne {l : List Int} {t : List UInt8} (h : RowT l t) (h0 : l ≠ []) : ∃ u, t = 40 :: (([114, 97, 118, 101, 108] ++ (32 :: u)) ++ [41]) ∧ NmRow l u ∧ u.length ≤ 4 * l.length := by
  rcases h with ⟨h, _⟩ | h
  · exact absurd h h0
  · exact h
theorem reC_within {n : Nat} {l : List Int} (h : Few l) : Within 60 (reC n l n) := by
  intro x hx
  simp only [reC, List.mem_map] at hx
  obtain ⟨p, _, rfl⟩ := hx
  split
  · exact within_getD (by omega) h _
  · omega
theorem within_fit {l : List Int} (h : Within 60 l) : ∀ x ∈ l, fit64 x := fun x hx => by have := h x hx; unfold fit64; omega
set_option maxHeartbeats 8000000 in
set_option maxRecDepth 20000 in
theorem tables_law (rows columns : Int) (hrf : fit64 rows) (hcf : fit64 columns) (ao : Option Addr) (n cap : Nat) (xs : List Int) (w : World) (hE : Evs w) (hr : RawIn w ao xs) (hn : xs.length = n) (hlt : 0 < n → ∀ b off, ao = some ⟨b, off, none⟩ → b < w.heap.size) :
    Calls Tryz.prog 6 #[.int .i64 rows, .int .i64 columns, .slice ao n cap] w fun e w' => e = .returned (.bool true) ∧ Below w.heap.size w w' := by
  have HD1 := hide (desk_new hE)
  obtain ⟨W1, hW1⟩ : ∃ W1, w.alloc (.cells #[.int .i64 1000, .map none] 91) = W1 := ⟨_, rfl⟩
  have hb1 : Below w.heap.size w W1 := by rw [← hW1]; exact (Below.refl _ _).alloc (Nat.le_refl _) _
  have hs1 : W1.heap.size = w.heap.size + 1 := by rw [← hW1]; simp
  rw [hW1] at HD1
  have hr1 : RawIn W1 ao xs := ⟨hr.1, fun h0 => by
    obtain ⟨b, off, e, hc⟩ := hr.2 h0
    exact ⟨b, off, e, fun i hi => (hb1.cell (p := ⟨b, off + i, none⟩) (hlt (by omega) b off e)).trans (hc i hi)⟩⟩
  have HS1 := hide (small_any ao n cap xs 12 (by decide) W1 hr1 hn (fun h0 b off e => Nat.lt_of_lt_of_le (hlt h0 b off e) hb1.size))
  have HPr := hide (fun w' => pick_any rows 7 hrf (by decide) w')
  have HPc := hide (fun w' => pick_any columns 7 hcf (by decide) w')
  have HB1 := hide hb1
  have HSz := hide hs1
  clear hE hr hn hlt hr1 hb1 hrf hcf hs1
  go_enter Tryz.func6, Tryz.ntmps6
  go_wp2_with (go_at_call 15; refine (desk_any _).mono ?_; rintro e w' ⟨rfl, rfl⟩)
  try rw [hW1]
  clear hW1
  refine (unhide HPr _).mono ?_
  rintro e w' ⟨⟨r0, rfl, hr0, hr1⟩, hw'⟩
  have hw2 := hw'.symm
  subst hw2
  clear hw'
  obtain ⟨r, rfl⟩ : ∃ r : Nat, r0 = r := ⟨r0.toNat, by omega⟩
  have hr6 : r ≤ 6 := by omega
  clear hr0 hr1
  go_wp2_with fail
  refine (unhide HPc _).mono ?_
  rintro e w' ⟨⟨c0, rfl, hc0, hc1⟩, hw'⟩
  have hw2 := hw'.symm
  subst hw2
  clear hw'
  obtain ⟨c, rfl⟩ : ∃ c : Nat, c0 = c := ⟨c0.toNat, by omega⟩
  have hc6 : c ≤ 6 := by omega
  clear hc0 hc1 HPr HPc
  go_wp2_with fail
  refine (unhide HS1).mono ?_
  rintro e w2 ⟨v1, rfl, l0, hl1, hl2, hl3, hb2⟩
  obtain ⟨lo, lc, rfl⟩ := hl1.shape
  have HL1 := hide (hl1.nums.imp (Q := fun b => W1.heap.size ≤ b) (fun b h _ => h.1))
  have HL3 := hide hl3
  have HB2 := hide hb2
  clear hl1 hl3 hb2 HS1
  go_upto_if 39 with fail
  go_cut [11] from 37 to 40 (fun v11 wx => ∃ (l : List Int) (lo : Option Addr) (lc : Nat), v11 = .slice lo l.length lc ∧ l ≠ [] ∧ l.length ≤ 12 ∧ Few l ∧ Nums (fun b => W1.heap.size ≤ b) wx (.slice lo l.length lc) l ∧ Below W1.heap.size W1 wx)
  case first =>
    by_cases h0 : l0.length = 0
    · have e0 : ((l0.length : Int) == 0) = true := by simpa using h0
      clear h0
      go_wp2_with fail
      go_meet
      exact ⟨[7], some ⟨w2.heap.size, 0, none⟩, 1, rfl, by simp, by simp, (by intro x hx; simp at hx; subst hx; omega), nums_one rfl (unhide HB2).size, (unhide HB2).alloc (unhide HB2).size _⟩
    · have e0 : ((l0.length : Int) == 0) = false := beq_false_of_ne (by omega)
      go_wp2_with fail
      go_meet
      exact ⟨l0, lo, lc, rfl, (fun e => h0 (by rw [e]; rfl)), hl2, unhide HL3, unhide HL1, unhide HB2⟩
  case rest =>
    clear HL1 HL3 HB2 hl2
    obtain ⟨l, lo, lc, rfl, hlne, hl12, hfew, hnl, hbc⟩ := hcut
    rename World => wc
    have hlpos : 0 < l.length := by
      rcases Nat.eq_zero_or_pos l.length with e | e
      · exact absurd (List.eq_nil_of_length_eq_zero e) hlne
      · exact e
    have HNr := hide (fun w' => num_any (r : Int) (by omega) w')
    have HNc := hide (fun w' => num_any (c : Int) (by omega) w')
    have HRT := hide (rowText_any wc lo l.length lc l hnl (by omega) hfew)
    have HNL := hide hnl
    have HFew := hide hfew
    have HBc := hide hbc
    have HNe := hide hlne
    clear hfew hnl hbc hlne
    go_wp2_with fail
    refine (unhide HNr _).mono ?_
    rintro e w' ⟨⟨tr, rfl, htr, hltr⟩, hw'⟩
    have hw3 := hw'.symm
    subst hw3
    have HTr := hide htr
    clear hw' htr
    go_wp2_with fail
    refine (unhide HNc _).mono ?_
    rintro e w' ⟨⟨tc, rfl, htc, hltc⟩, hw'⟩
    have hw3 := hw'.symm
    subst hw3
    have HTc := hide htc
    clear hw' htc
    go_wp2_with fail
    refine (unhide HRT).mono ?_
    rintro e w' ⟨⟨tt, rfl, htt⟩, hw'⟩
    have hw3 := hw'.symm
    subst hw3
    obtain ⟨u, htu, hu, hul⟩ := rowT_ne htt (unhide HNe)
    have HU := hide hu
    have HTU := hide htu
    have hul2 : tt.length ≤ 60 := by rw [htu]; simp; omega
    clear hw' htt hu HRT hul htu
    go_wp2_with fail
    rw [cat_tab]
    obtain ⟨rc, hrc⟩ : ∃ rc, r * c = rc := ⟨_, rfl⟩
    have hrc36 : rc ≤ 36 := by rw [← hrc]; exact Nat.mul_le_mul hr6 hc6
    have hwrc : IntKind.i64.wrap ((r : Int) * (c : Int)) = (rc : Int) := by
      rw [← Int.natCast_mul, hrc]
      exact wrap_pos (by omega) (by omega)
    obtain ⟨cs, hcs⟩ : ∃ cs, reC (r * c) l (r * c) = cs := ⟨_, rfl⟩
    have hcl : cs.length = rc := by rw [← hcs, reC_len, hrc]
    have hcl2 : cs.length = r * c := by rw [hcl, hrc]
    have hcw : Within 60 cs := by rw [← hcs]; exact reC_within (unhide HFew)
    have HRC := hide hrc
    have HCS := hide hcs
    have HCL := hide hcl
    have HCL2 := hide hcl2
    have HCW := hide hcw
    -- the line that names the table
    have hnamed := d_named (env := env0) env0_ok name_t (u_make hr6 hc6 (unhide HTr) (unhide HTc) (unhide HNe) (by omega) (few_fit (unhide HFew)) (unhide HU)) (by omega) (by omega) (by have h1 := unhide HTU; have h2 := congrArg List.length h1; simp at h2 ⊢; omega) (by simp [tabA]) (by simp only [tabA, reC_len]; omega)
    rw [hcs, ← unhide HTU] at hnamed
    obtain ⟨cost, hnamed⟩ := hnamed
    have HNamed := hide hnamed
    obtain ⟨sT, hsT⟩ : ∃ sT : ByteArray, ⟨([116] ++ ([32, 105, 115, 32] ++ ((tr ++ (32 :: tc)) ++ (32 :: ([114, 104, 111] ++ (32 :: tt)))))).toArray⟩ = sT := ⟨_, rfl⟩
    rw [hsT] at HNamed ⊢
    clear hsT hnamed hcs hcl hcl2 hcw hrc HU HTU
    go_loopw [13, 17] (fun v13 v17 wr => ∃ i : Nat, v17 = .int .i64 i ∧ i ≤ rc ∧ OwnL wc.heap.size wr v13 (cs.take i) ∧ Below wc.heap.size wc wr) (fun _ v17 _ => rc - (intOf v17).toNat)
    case atStart => exact ⟨0, rfl, by omega, by simpa using OwnL.nil _ _, Below.refl _ _⟩
    case round =>
      obtain ⟨i, rfl, hi, ho, hb⟩ := hrel
      rename World => wr
      have HO := hide ho
      have HB := hide hb
      by_cases hin : i < rc
      · obtain ⟨m, hm⟩ : ∃ m, i % l.length = m := ⟨_, rfl⟩
        have hml : m < l.length := by rw [← hm]; exact Nat.mod_lt _ hlpos
        obtain ⟨lb, lof, rfl, hlb, hlcell, hlcap⟩ := (unhide HNL).at hml
        have c0 := (hb.cell (p := ⟨lb, lof + m, none⟩) hlb).trans hlcell
        obtain ⟨x, hx⟩ : ∃ x, l[m] = x := ⟨_, rfl⟩
        rw [hx] at c0
        have HT : Hid (cs.take (i + 1) = cs.take i ++ [x]) := hide (take_next (by
          rw [← unhide HCS, unhide HRC, reC_at hin hlpos]
          simp only [hm, hx]))
        have hm1 : (i : Int).tmod (l.length : Int) = (m : Int) := by rw [← hm]; exact (Int.ofNat_tmod i l.length).symm
        have hm2 : (i : Int) % (l.length : Int) = (m : Int) := by rw [← hm]; simp
        have z0 : ((l.length : Int) == 0) = false := beq_false_of_ne (by omega)
        have i0 : (0 : Int) ≤ (i : Int) := by omega
        have i1 : (i : Int) < (rc : Int) := by omega
        have m0 : (0 : Int) ≤ (m : Int) := by omega
        have m1 : (m : Int) < (l.length : Int) := by omega
        have HK : Hid ((cs.take i).length ≤ 64) := hide (by simp; omega)
        clear ho hb hlcell hx hm hlcap
        go_wp2_with (at_builtin; refine wpList_app1 rfl _ _ rfl (unhide HO) (by have := unhide HK; omega) (unhide HB).size x rfl rfl ?_)
        intro v' w4 ho4 hg4
        have HO4 := hide ho4
        have HB4 := hide ((unhide HB).trans hg4.bel)
        clear ho4 hg4
        go_wp2_with fail
        go_roundw
        case rel => exact ⟨i + 1, by go_num, by omega, by rw [unhide HT]; exact unhide HO4, unhide HB4⟩
        case measure => simp [intOf]; omega
      · have hie : i = rc := by omega
        subst hie
        have hT : cs.take i = cs := List.take_of_length_le (by rw [unhide HCL]; exact Nat.le_refl _)
        rw [hT] at ho
        obtain ⟨vo, vc, rfl⟩ := ho.shape
        rw [unhide HCL] at ho ⊢
        have i1 : ¬ (i : Int) < (i : Int) := by omega
        have HNC : Hid (Nums (fun b => W1.heap.size ≤ b) wr (.slice vo i vc) cs) := hide (by
          have h1 := ho.nums
          exact h1.imp (fun b h _ => Nat.le_trans (unhide HBc).size h.1))
        have HB3 : Hid (Below W1.heap.size W1 wr) := hide ((unhide HBc).trans (hb.mono (unhide HBc).size))
        clear ho hb hT HO HB HNL HBc
        -- loop 2: the columns
        obtain ⟨fl, hfl⟩ : ∃ fl, flipT r c cs = fl := ⟨_, rfl⟩
        have hfll : fl.length = i := by rw [← hfl, flipT_len, unhide HRC]
        have HFL := hide hfl
        have HFLL := hide hfll
        clear hfl hfll
        go_wp2_with fail
        go_loopw [14, 18] (fun v14 v18 wx => ∃ k : Nat, v18 = .int .i64 k ∧ k ≤ c ∧ OwnL wr.heap.size wx v14 (fl.take (k * r)) ∧ Below wr.heap.size wr wx) (fun _ v18 _ => c - (intOf v18).toNat)
        case atStart => exact ⟨0, rfl, by omega, by simpa using OwnL.nil _ _, Below.refl _ _⟩
        case round =>
          obtain ⟨k, rfl, hk, ho, hb⟩ := hrel
          rename World => wx
          have HO := hide ho
          have HB := hide hb
          by_cases hkc : k < c
          · have k0 : (0 : Int) ≤ (k : Int) := by omega
            have k1 : (k : Int) < (c : Int) := by omega
            clear ho hb
            go_wp2_with fail
            go_loopw [14, 19] (fun v14 v19 wy => ∃ j : Nat, v19 = .int .i64 j ∧ j ≤ r ∧ OwnL wr.heap.size wy v14 (fl.take (k * r + j)) ∧ Below wr.heap.size wr wy) (fun _ v19 _ => r - (intOf v19).toNat)
            case atStart => exact ⟨0, rfl, by omega, by simpa using unhide HO, unhide HB⟩
            case round =>
              obtain ⟨j, rfl, hj, ho, hb⟩ := hrel
              rename World => wy
              have HO2 := hide ho
              have HB2 := hide hb
              by_cases hjr : j < r
              · have hpl : j * c + k < i := by rw [← unhide HRC]; exact rc_lt hjr hkc
                obtain ⟨jc, hjc⟩ : ∃ jc, j * c = jc := ⟨_, rfl⟩
                obtain ⟨pp, hpp⟩ : ∃ pp, jc + k = pp := ⟨_, rfl⟩
                rw [hjc, hpp] at hpl
                have hpc : pp < cs.length := by rw [unhide HCL]; exact hpl
                obtain ⟨cb, cof, rfl, hcb, hcell, hcap⟩ := (unhide HNC).at hpc
                have c0 := (hb.cell (p := ⟨cb, cof + pp, none⟩) hcb).trans hcell
                obtain ⟨x, hx⟩ : ∃ x, cs[pp] = x := ⟨_, rfl⟩
                rw [hx] at c0
                have HT : Hid (fl.take (k * r + (j + 1)) = fl.take (k * r + j) ++ [x]) := hide (take_next (i := k * r + j) (by
                  rw [← unhide HFL, flipT_at hjr hkc, hjc, hpp, List.getD_eq_getElem?_getD, List.getElem?_eq_getElem hpc, hx]
                  rfl))
                have hw1 : IntKind.i64.wrap ((j : Int) * (c : Int)) = (jc : Int) := by
                  rw [← Int.natCast_mul, hjc]
                  exact wrap_pos (by omega) (by omega)
                have hw2 : IntKind.i64.wrap ((jc : Int) + (k : Int)) = (pp : Int) := by
                  rw [← Int.natCast_add, hpp]
                  exact wrap_pos (by omega) (by omega)
                have j0 : (0 : Int) ≤ (j : Int) := by omega
                have j1 : (j : Int) < (r : Int) := by omega
                have p0 : (0 : Int) ≤ (pp : Int) := by omega
                have p1 : (pp : Int) < (i : Int) := by omega
                have HK : Hid ((fl.take (k * r + j)).length ≤ 64) := hide (by have := unhide HFLL; simp; omega)
                clear ho hb hcell hx hcap hjc hpp hpc
                go_wp2_with (at_builtin; refine wpList_app1 rfl _ _ rfl (unhide HO2) (by have := unhide HK; omega) (unhide HB2).size x rfl rfl ?_)
                intro v' w4 ho4 hg4
                have HO4 := hide ho4
                have HB4 := hide ((unhide HB2).trans hg4.bel)
                clear ho4 hg4
                go_wp2_with fail
                go_roundw
                case rel => exact ⟨j + 1, by go_num, by omega, by rw [unhide HT]; exact unhide HO4, unhide HB4⟩
                case measure => simp [intOf]; omega
              · have hje : j = r := by omega
                have HTx : Hid (fl.take ((k + 1) * r) = fl.take (k * r + j)) := hide (by rw [Nat.add_mul, Nat.one_mul, hje])
                have j1 : ¬ (j : Int) < (r : Int) := by omega
                clear ho hb hje
                go_wp2_with fail
                go_roundw
                case rel => exact ⟨k + 1, by go_num, by omega, by rw [unhide HTx]; exact unhide HO2, unhide HB2⟩
                case measure => simp [intOf]; omega
          · have hke : k = c := by omega
            have hT : fl.take (k * r) = fl := List.take_of_length_le (by rw [unhide HFLL, hke, ← unhide HRC, Nat.mul_comm]; exact Nat.le_refl _)
            rw [hT] at ho
            obtain ⟨fo, fc, rfl⟩ := ho.shape
            have HNF : Hid (Nums (fun b => W1.heap.size ≤ b) wx (.slice fo fl.length fc) fl) := hide (ho.nums.imp (fun b h _ => Nat.le_trans (unhide HB3).size h.1))
            have HNC2 := hide ((unhide HNC).below hb)
            have HB4 : Hid (Below W1.heap.size W1 wx) := hide ((unhide HB3).trans (hb.mono (unhide HB3).size))
            have k1 : ¬ (k : Int) < (c : Int) := by omega
            clear ho hb hT HO HB HNC HB3 hke
            -- loop 3: the rows
            obtain ⟨su, hsu⟩ : ∃ su, rowSums r c cs = su := ⟨_, rfl⟩
            have hsul : su.length = r := by rw [← hsu, rowSums_len]
            obtain ⟨ta, hta⟩ : ∃ ta, tabT r c = ta := ⟨_, rfl⟩
            have htal : ta.length = i := by rw [← hta, tabT_len, unhide HRC]
            have HSU := hide hsu
            have HSUL := hide hsul
            have HTA := hide hta
            have HTAL := hide htal
            clear hsu hsul hta htal
            go_wp2_with fail
            go_loopw [15, 16, 20] (fun v15 v16 v20 wy => ∃ j : Nat, v20 = .int .i64 j ∧ j ≤ r ∧ Three wx wy v15 v16 (.slice none 0 0) (su.take j) (ta.take (j * c)) []) (fun _ _ v20 _ => r - (intOf v20).toNat)
            case atStart => exact ⟨0, rfl, by omega, by simpa using Three.start wx⟩
            case round =>
              obtain ⟨j, rfl, hj, h3⟩ := hrel
              rename World => wy
              have H3 := hide h3
              by_cases hjr : j < r
              · have j0 : (0 : Int) ≤ (j : Int) := by omega
                have j1 : (j : Int) < (r : Int) := by omega
                obtain ⟨qo, qc, rfl⟩ := h3.o1.shape
                have hsl : (su.take j).length = j := by have := unhide HSUL; simp; omega
                rw [hsl] at H3 ⊢
                clear h3 hsl
                go_wp2_with fail
                go_loopw [16, 21, 22] (fun v16 v21 v22 wz => ∃ (q : Nat) (s : Int), v22 = .int .i64 q ∧ v21 = .int .i64 s ∧ q ≤ c ∧ Hid (sumR q (fun e => cs.getD (j * c + e) 0) = s) ∧ Three wx wz (.slice qo j qc) v16 (.slice none 0 0) (su.take j) (ta.take (j * c + q)) []) (fun _ _ v22 _ => c - (intOf v22).toNat)
                case atStart => exact ⟨0, 0, rfl, rfl, by omega, hide rfl, by simpa using unhide H3⟩
                case round =>
                  obtain ⟨q, s, rfl, rfl, hq, HSm, h4⟩ := hrel
                  rename World => wz
                  have H4 := hide h4
                  have hsb := sumR_within (M := 60) (f := fun e => cs.getD (j * c + e) 0) q (fun e _ => within_getD (by omega) (unhide HCW) _)
                  rw [unhide HSm] at hsb
                  have hs1 : -400 ≤ s := by omega
                  have hs2 : s ≤ 400 := by omega
                  clear hsb
                  by_cases hqc : q < c
                  · have hpl : j * c + q < i := by rw [← unhide HRC]; exact rc_lt hjr hqc
                    have hat := tabT_at hjr hqc
                    obtain ⟨jc, hjc⟩ : ∃ jc, j * c = jc := ⟨_, rfl⟩
                    obtain ⟨pp, hpp⟩ : ∃ pp, jc + q = pp := ⟨_, rfl⟩
                    rw [hjc, hpp] at hpl
                    have hpc : pp < cs.length := by rw [unhide HCL]; exact hpl
                    obtain ⟨cb, cof, rfl, hcb, hcell, hcap⟩ := (unhide HNC2).at hpc
                    have c0 := (h4.bel.cell (p := ⟨cb, cof + pp, none⟩) hcb).trans hcell
                    obtain ⟨x, hx⟩ : ∃ x, cs[pp] = x := ⟨_, rfl⟩
                    have hxb := unhide HCW _ (List.getElem_mem hpc)
                    rw [hx] at c0 hxb
                    have HSm2 : Hid (sumR (q + 1) (fun e => cs.getD (j * c + e) 0) = s + x) := hide (by rw [sumR_succ, unhide HSm, hjc, hpp, List.getD_eq_getElem?_getD, List.getElem?_eq_getElem hpc, hx]; rfl)
                    have HT : Hid (ta.take (j * c + (q + 1)) = ta.take (j * c + q) ++ [(j : Int) - (q : Int)]) := hide (take_next (i := j * c + q) (by rw [← unhide HTA]; exact hat))
                    have hw1 : IntKind.i64.wrap ((j : Int) * (c : Int)) = (jc : Int) := by
                      rw [← Int.natCast_mul, hjc]
                      exact wrap_pos (by omega) (by omega)
                    have hw2 : IntKind.i64.wrap ((jc : Int) + (q : Int)) = (pp : Int) := by
                      rw [← Int.natCast_add, hpp]
                      exact wrap_pos (by omega) (by omega)
                    have hw3 : wrap64 (s + x) = s + x := wrap_id (by omega) (by omega)
                    have hw4 : wrap64 ((j : Int) - (q : Int)) = (j : Int) - (q : Int) := wrap_id (by omega) (by omega)
                    have q0 : (0 : Int) ≤ (q : Int) := by omega
                    have q1 : (q : Int) < (c : Int) := by omega
                    have p0 : (0 : Int) ≤ (pp : Int) := by omega
                    have p1 : (pp : Int) < (i : Int) := by omega
                    have HK : Hid ((ta.take (j * c + q)).length ≤ 64) := hide (by have := unhide HTAL; simp; omega)
                    clear h4 hcell hx hcap hjc hpp hpc hat
                    go_wp2_with (at_builtin; refine wpList_app1 rfl _ _ rfl (unhide H4).o2 (by have := unhide HK; omega) (unhide H4).bel.size ((j : Int) - (q : Int)) rfl rfl ?_)
                    intro v' w5 ho5 hg5
                    have H5 := hide ((unhide H4).grow2 ho5 hg5)
                    clear ho5 hg5
                    go_wp2_with fail
                    go_roundw
                    case rel => exact ⟨q + 1, s + x, by go_num, rfl, by omega, HSm2, by rw [unhide HT]; exact unhide H5⟩
                    case measure => simp [intOf]; omega
                  · have hqe : q = c := by omega
                    have HSx : Hid (su.take (j + 1) = su.take j ++ [s]) := hide (take_next (by
                      rw [← unhide HSU, rowSums, List.getElem?_map, List.getElem?_range hjr, ← unhide HSm, hqe]
                      rfl))
                    have HTx : Hid (ta.take ((j + 1) * c) = ta.take (j * c + q)) := hide (by rw [Nat.add_mul, Nat.one_mul, hqe])
                    have q1 : ¬ (q : Int) < (c : Int) := by omega
                    have HK : Hid ((su.take j).length ≤ 64) := hide (by have := unhide HSUL; simp; omega)
                    clear h4 hqe
                    go_wp2_with (at_builtin; refine wpList_app1 rfl _ _ rfl (unhide H4).o1 (by have := unhide HK; omega) (unhide H4).bel.size s rfl rfl ?_)
                    intro v' w5 ho5 hg5
                    have H5 := hide ((unhide H4).grow1 ho5 hg5)
                    clear ho5 hg5
                    go_wp2_with fail
                    go_roundw
                    case rel => exact ⟨j + 1, by go_num, by omega, by rw [unhide HSx, unhide HTx]; exact unhide H5⟩
                    case measure => simp [intOf]; omega
              · have hje : j = r := by omega
                have T1 : su.take j = su := List.take_of_length_le (by rw [unhide HSUL, hje]; exact Nat.le_refl _)
                have T2 : ta.take (j * c) = ta := List.take_of_length_le (by rw [unhide HTAL, hje, unhide HRC]; exact Nat.le_refl _)
                rw [T1, T2] at h3
                obtain ⟨qo, qc, rfl⟩ := h3.o1.shape
                obtain ⟨tao, tcp, rfl⟩ := h3.o2.shape
                have HNS : Hid (Nums (fun b => W1.heap.size ≤ b) wy (.slice qo su.length qc) su) := hide (h3.o1.nums.imp (fun b h _ => Nat.le_trans (unhide HB4).size h.1))
                have HNT : Hid (Nums (fun b => W1.heap.size ≤ b) wy (.slice tao ta.length tcp) ta) := hide (h3.o2.nums.imp (fun b h _ => Nat.le_trans (unhide HB4).size h.1))
                have HNC3 := hide ((unhide HNC2).below h3.bel)
                have HNF3 := hide ((unhide HNF).below h3.bel)
                have HB5 : Hid (Below W1.heap.size W1 wy) := hide ((unhide HB4).trans (h3.bel.mono (unhide HB4).size))
                have j1 : ¬ (j : Int) < (r : Int) := by omega
                clear h3 T1 T2 H3 HNC2 HNF HB4 hje
                obtain ⟨wA, hwA⟩ : ∃ wA, wy.alloc (.cells #[.int .i64 (r : Int), .int .i64 (c : Int)] 3) = wA := ⟨_, rfl⟩
                have hbA : Below wy.heap.size wy wA := by rw [← hwA]; exact (Below.refl _ _).alloc (Nat.le_refl _) _
                have hB1A : Below W1.heap.size W1 wA := (unhide HB5).trans (hbA.mono (unhide HB5).size)
                obtain ⟨S, hS⟩ : ∃ S, (fun b => (6 ≤ b ∧ b < w.heap.size) ∨ (W1.heap.size ≤ b ∧ b < wA.heap.size)) = S := ⟨_, rfl⟩
                have hSl : ∀ b, 6 ≤ b → b < w.heap.size → S b := fun b h1 h2 => by rw [← hS]; exact Or.inl ⟨h1, h2⟩
                have hDA : DkE S w.heap.size env0 0 wA := by rw [← hS]; exact (unhide HD1).more hB1A
                have toS : ∀ {v : Value} {ys : List Int}, Nums (fun b => W1.heap.size ≤ b) wA v ys → Nums S wA v ys := fun h => h.imp (fun b h hl => by rw [← hS]; exact Or.inr ⟨h, hl⟩)
                have hNC : Nums S wA (.slice vo i vc) cs := toS ((unhide HNC3).below hbA)
                have hNF : Nums S wA (.slice fo fl.length fc) fl := toS ((unhide HNF3).below hbA)
                have hNS : Nums S wA (.slice qo su.length qc) su := toS ((unhide HNS).below hbA)
                have hNT : Nums S wA (.slice tao ta.length tcp) ta := toS ((unhide HNT).below hbA)
                have hNsh : Nums S wA (.slice (some ⟨wy.heap.size, 0, none⟩) 2 2) ((tabA r c cs).shape.map Int.ofNat) := toS (by rw [← hwA]; exact nums_two (unhide HB5).size)
                have HIs := hide (is_u S w.heap.size env0 (envT r c cs) 0 1 sT _ _ cost (unhide HNamed w.heap.size 0 (by decide)) wA hDA _ 2 2 vo i vc hNsh hNC (by simp [tabA]) (by show cs.length ≤ 200; rw [unhide HCL]; omega))
                have hBwA : Below w.heap.size w wA := (unhide HB1).trans (hB1A.mono (unhide HB1).size)
                have HBwA := hide hBwA
                have HSl := hide hSl
                have HLowA := hide hDA.low
                have HNa := hide hNC
                have HNb := hide hNF
                have HNc' := hide hNS
                have HNd := hide hNT
                have hok : EnvOk (envT r c cs) := EnvOk.upd env0_ok _ (tab_ok hr6 hc6 (unhide HCL2) (within_fit (unhide HCW)))
                have hat := envT_at r c cs
                have hcl64 : cs.length ≤ 64 := by rw [unhide HCL]; omega
                have HR1 := hide (t_flip hok hat hr6 hc6 (unhide HCL2))
                have HR2 := hide (t_sums hok hat hr6 hc6 (unhide HCW))
                have HR3 := hide (t_rho hok hat)
                have HR4 := hide (t_ravel hok hat hcl64)
                have HR5 := hide (t_flips hok hat hr6 hc6 (unhide HCL2))
                have HR6 := hide (t_self hok hat hcl64)
                have HR7 := hide (t_back hok hat hr6 hc6 (unhide HCL2))
                have HR8 := hide (t_revs hok hat hr6 hc6 (unhide HCL2))
                have HR9 := hide (t_total hok hat hcl64 (unhide HCW))
                have HR10 := hide (t_totals hok hat hr6 hc6 (unhide HCL2) (unhide HCW))
                have HR11 := hide (t_outer hok hr6 hc6 (unhide HTr) (unhide HTc) ⟨hltr, hltc⟩)
                rw [unhide HFL] at HR1
                rw [unhide HSU] at HR2
                rw [unhide HTA] at HR11
                have HLf : Hid (fl.length ≤ 200) := hide (by rw [unhide HFLL]; omega)
                have HLs : Hid (su.length ≤ 200) := hide (by rw [unhide HSUL]; omega)
                have HLt : Hid (ta.length ≤ 200) := hide (by rw [unhide HTAL]; omega)
                have HLc : Hid (cs.length ≤ 200) := hide (by omega)
                clear hbA hB1A hS hSl hDA toS hNC hNF hNS hNT hNsh hBwA hok hat hcl64 HNC3 HNF3 HNS HNT HB5 HD1 HNamed
                go_wp2_with fail
                try rw [hwA]
                clear hwA
                refine (unhide HIs).mono ?_
                rintro e w6 ⟨rfl, hd6, hk6⟩
                have HD6 : Hid (DkE S w.heap.size (envT r c cs) 1 w6) := hide hd6
                have HB6 : Hid (Below w.heap.size w w6) := hide ((unhide HBwA).trans (hk6.whole (by have := (unhide HLowA); omega) (unhide HSl)))
                have HNa6 := hide (hk6.nums (unhide HNa) (fun _ h => h))
                have HNb6 := hide (hk6.nums (unhide HNb) (fun _ h => h))
                have HNc'6 := hide (hk6.nums (unhide HNc') (fun _ h => h))
                have HNd6 := hide (hk6.nums (unhide HNd) (fun _ h => h))
                clear hd6 hk6 HIs HBwA HSl HLowA HNa HNb HNc' HNd
                obtain ⟨v6, hv6⟩ : ∃ v6, w6.alloc (.cells #[.int .i64 (c : Int), .int .i64 (r : Int)] 3) = v6 := ⟨_, rfl⟩
                have hba : Below w6.heap.size w6 v6 := by rw [← hv6]; exact (Below.refl _ _).alloc (Nat.le_refl _) _
                have HDv := hide ((unhide HD6).below hba)
                have HBv : Hid (Below w.heap.size w v6) := hide ((unhide HB6).trans (hba.mono (by have := (unhide HD6).low; omega)))
                have HNv : Hid (Nums (fun _ => True) v6 (.slice (some ⟨w6.heap.size, 0, none⟩) 2 2) ((tabA c r fl).shape.map Int.ofNat)) := hide (by rw [← hv6]; exact nums_two trivial)
                have HNav := hide ((unhide HNa6).below hba)
                have HNbv := hide ((unhide HNb6).below hba)
                have HNc'v := hide ((unhide HNc'6).below hba)
                have HNdv := hide ((unhide HNd6).below hba)
                clear hba
                go_wp2_with fail
                try rw [hv6]
                clear hv6 HD6 HB6 HNa6 HNb6 HNc'6 HNd6
                refine (is_says (unhide HR1) (unhide HDv) (unhide HNv) (unhide HNbv) (by simp [tabA]) (unhide HLf)).mono ?_
                rintro e w7 ⟨rfl, hb7⟩
                have HD7 := hide ((unhide HDv).below hb7)
                have HB7 : Hid (Below w.heap.size w w7) := hide ((unhide HBv).trans (hb7.mono (by have := (unhide HDv).low; omega)))
                have HNa7 := hide ((unhide HNav).below hb7)
                have HNc'7 := hide ((unhide HNc'v).below hb7)
                have HNd7 := hide ((unhide HNdv).below hb7)
                clear hb7 HDv HBv HNav HNbv HNc'v HNdv HNv HR1 HLf
                go_wp2_with fail
                refine (row_says (unhide HR2) (unhide HD7) (unhide HNc'7) (unhide HLs)).mono ?_
                rintro e w8 ⟨rfl, hb8⟩
                have HD8 := hide ((unhide HD7).below hb8)
                have HB8 : Hid (Below w.heap.size w w8) := hide ((unhide HB7).trans (hb8.mono (by have := (unhide HD7).low; omega)))
                have HNa8 := hide ((unhide HNa7).below hb8)
                have HNd8 := hide ((unhide HNd7).below hb8)
                clear hb8 HD7 HB7 HNa7 HNc'7 HNd7 HR2 HLs
                obtain ⟨v8, hv8⟩ : ∃ v8, w8.alloc (.cells #[.int .i64 (r : Int), .int .i64 (c : Int)] 2) = v8 := ⟨_, rfl⟩
                have hba : Below w8.heap.size w8 v8 := by rw [← hv8]; exact (Below.refl _ _).alloc (Nat.le_refl _) _
                have HDv := hide ((unhide HD8).below hba)
                have HBv : Hid (Below w.heap.size w v8) := hide ((unhide HB8).trans (hba.mono (by have := (unhide HD8).low; omega)))
                have HNv : Hid (Nums (fun _ => True) v8 (.slice (some ⟨w8.heap.size, 0, none⟩) 2 2) [(r : Int), (c : Int)]) := hide (by rw [← hv8]; exact nums_two trivial)
                have HNav := hide ((unhide HNa8).below hba)
                have HNdv := hide ((unhide HNd8).below hba)
                clear hba
                go_wp2_with fail
                try rw [hv8]
                clear hv8 HD8 HB8 HNa8 HNd8
                refine (row_says (unhide HR3) (unhide HDv) (unhide HNv) (by simp)).mono ?_
                rintro e w9 ⟨rfl, hb9⟩
                have HD9 := hide ((unhide HDv).below hb9)
                have HB9 : Hid (Below w.heap.size w w9) := hide ((unhide HBv).trans (hb9.mono (by have := (unhide HDv).low; omega)))
                have HNa9 := hide ((unhide HNav).below hb9)
                have HNd9 := hide ((unhide HNdv).below hb9)
                clear hb9 HDv HBv HNav HNdv HNv HR3
                go_wp2_with fail
                refine (row_says (unhide HR4) (unhide HD9) (unhide HNa9) (unhide HLc)).mono ?_
                rintro e w10 ⟨rfl, hb10⟩
                have HD10 := hide ((unhide HD9).below hb10)
                have HB10 : Hid (Below w.heap.size w w10) := hide ((unhide HB9).trans (hb10.mono (by have := (unhide HD9).low; omega)))
                have HNd10 := hide ((unhide HNd9).below hb10)
                clear hb10 HD9 HB9 HNa9 HNd9 HR4
                go_wp2_with fail
                refine (like_says (unhide HR5) (unhide HR6) (unhide HD10) (by simp [tabA]) (unhide HLc)).mono ?_
                rintro e w11 ⟨rfl, hb11⟩
                have HD11 := hide ((unhide HD10).below hb11)
                have HB11 : Hid (Below w.heap.size w w11) := hide ((unhide HB10).trans (hb11.mono (by have := (unhide HD10).low; omega)))
                have HNd11 := hide ((unhide HNd10).below hb11)
                clear hb11 HD10 HB10 HNd10 HR5
                go_wp2_with fail
                refine (like_says (unhide HR7) (unhide HR6) (unhide HD11) (by simp [tabA]) (unhide HLc)).mono ?_
                rintro e w12 ⟨rfl, hb12⟩
                have HD12 := hide ((unhide HD11).below hb12)
                have HB12 : Hid (Below w.heap.size w w12) := hide ((unhide HB11).trans (hb12.mono (by have := (unhide HD11).low; omega)))
                have HNd12 := hide ((unhide HNd11).below hb12)
                clear hb12 HD11 HB11 HNd11 HR7
                go_wp2_with fail
                refine (like_says (unhide HR8) (unhide HR6) (unhide HD12) (by simp [tabA]) (unhide HLc)).mono ?_
                rintro e w13 ⟨rfl, hb13⟩
                have HD13 := hide ((unhide HD12).below hb13)
                have HB13 : Hid (Below w.heap.size w w13) := hide ((unhide HB12).trans (hb13.mono (by have := (unhide HD12).low; omega)))
                have HNd13 := hide ((unhide HNd12).below hb13)
                clear hb13 HD12 HB12 HNd12 HR8 HR6 HLc
                go_wp2_with fail
                refine (like_says (unhide HR9) (unhide HR10) (unhide HD13) (by simp [arrOf]) (by simp [arrOf])).mono ?_
                rintro e w14 ⟨rfl, hb14⟩
                have HD14 := hide ((unhide HD13).below hb14)
                have HB14 : Hid (Below w.heap.size w w14) := hide ((unhide HB13).trans (hb14.mono (by have := (unhide HD13).low; omega)))
                have HNd14 := hide ((unhide HNd13).below hb14)
                clear hb14 HD13 HB13 HNd13 HR9 HR10
                go_wp2_with fail
                refine (unhide HNr _).mono ?_
                rintro e w' ⟨⟨tr2, rfl, htr2, hltr2⟩, hw'⟩
                have hw3 := hw'.symm
                subst hw3
                have HTr2 := hide htr2
                clear hw' htr2
                go_wp2_with fail
                refine (unhide HNc _).mono ?_
                rintro e w' ⟨⟨tc2, rfl, htc2, hltc2⟩, hw'⟩
                have hw3 := hw'.symm
                subst hw3
                have HTc2 := hide htc2
                clear hw' htc2 HR11
                have HR12 := hide (t_outer (env := envT r c cs) (EnvOk.upd env0_ok _ (tab_ok hr6 hc6 (unhide HCL2) (within_fit (unhide HCW)))) hr6 hc6 (unhide HTr2) (unhide HTc2) ⟨hltr2, hltc2⟩)
                rw [unhide HTA, ← cat_outer] at HR12
                obtain ⟨v14, hv14⟩ : ∃ v14, w14.alloc (.cells #[.int .i64 (r : Int), .int .i64 (c : Int)] 3) = v14 := ⟨_, rfl⟩
                have hba : Below w14.heap.size w14 v14 := by rw [← hv14]; exact (Below.refl _ _).alloc (Nat.le_refl _) _
                have HDv := hide ((unhide HD14).below hba)
                have HBv : Hid (Below w.heap.size w v14) := hide ((unhide HB14).trans (hba.mono (by have := (unhide HD14).low; omega)))
                have HNv : Hid (Nums (fun _ => True) v14 (.slice (some ⟨w14.heap.size, 0, none⟩) 2 2) ((tabA r c ta).shape.map Int.ofNat)) := hide (by rw [← hv14]; exact nums_two trivial)
                have HNdv := hide ((unhide HNd14).below hba)
                clear hba
                go_wp2_with fail
                try rw [hv14]
                clear hv14 HD14 HB14 HNd14
                refine (is_says (unhide HR12) (unhide HDv) (unhide HNv) (unhide HNdv) (by simp [tabA]) (unhide HLt)).mono ?_
                rintro e w15 ⟨rfl, hb15⟩
                have HD15 := hide ((unhide HDv).below hb15)
                have HB15 : Hid (Below w.heap.size w w15) := hide ((unhide HBv).trans (hb15.mono (by have := (unhide HDv).low; omega)))
                clear hb15 HDv HBv HNdv HNv HR12
                go_wp2_with fail
                exact bodyPost_ret (v := .bool true) (by simp [results, Tryz.results6, go_sem]) rfl ⟨rfl, unhide HB15⟩
end Go.Proofs.YtjobgpahajhbnaaGreatDoor
