import Derived.Test.YtjobgpahajhbnaaGreatDoorJe
import Derived.BigQuiet
namespace Go.Proofs.YtjobgpahajhbnaaGreatDoor
open Go.RowKit Go.Proofs
attribute [local go_sem ↓] Go.wp_at_zero Go.wp_at_succ

/-- a row whose first cells are what is left of them -/
def remL (m : Int) (l : List Int) (i : Nat) : List Int := (l.take i).map (fun x => x.tmod m) ++ l.drop i
theorem remL_zero (m : Int) (l : List Int) : remL m l 0 = l := by simp [remL]
theorem remL_len (m : Int) (l : List Int) (i : Nat) : (remL m l i).length = l.length := by simp [remL]; omega
theorem remL_at {m : Int} {l : List Int} {i : Nat} (hi : i < l.length) : (remL m l i)[i]? = some l[i] := by
  unfold remL
  rw [List.getElem?_append_right (by simp; omega), List.getElem?_drop]
  have : i + (i - ((l.take i).map (fun x => x.tmod m)).length) = i := by simp; omega
  rw [this, List.getElem?_eq_getElem hi]
theorem remL_succ {m : Int} {l : List Int} {i : Nat} (hi : i < l.length) : (remL m l i).set i (l[i].tmod m) = remL m l (i + 1) := by
  unfold remL
  have h1 : ((l.take i).map (fun x => x.tmod m)).length = i := by simp; omega
  rw [List.set_append_right _ _ (by omega), h1, Nat.sub_self, List.drop_eq_getElem_cons hi, List.set_cons_zero, List.take_add_one, List.getElem?_eq_getElem hi, List.map_append, List.append_assoc]
  rfl
theorem remL_few {m : Int} {l : List Int} (h : Few l) : Few (remL m l l.length) := by
  intro x hx
  simp only [remL, List.take_length, List.drop_length, List.append_nil, List.mem_map] at hx
  obtain ⟨y, hy, rfl⟩ := hx
  have := h y hy
  have h1 : (y.tmod m).natAbs ≤ y.natAbs := by
    rw [Int.natAbs_tmod]
    exact Nat.mod_le _ _
  omega
theorem one_arr {env : ByteArray → Option Arr} {b : ByteArray} {a : Arr} (h : ArrSays env b a) {S : Nat → Prop} {db N : Nat} {w : World} (hD : DkE S db env N w) :
    Calls Tryz.prog 29 #[.pointer (some ⟨db, 0, none⟩), .string b] w fun e w' => ∃ cost so sn sc co cn cc, e = .returned (.tuple #[.agg #[.int .i64 0, .int .i64 0, .slice so sn sc, .slice co cn cc, .int .i64 cost], .bool true]) ∧ Nums (fun b => w.heap.size < b) w' (.slice so sn sc) (a.shape.map Int.ofNat) ∧ Nums (fun b => w.heap.size < b) w' (.slice co cn cc) a.cells ∧ Below w.heap.size w w' := by
  obtain ⟨cost, h⟩ := h
  refine (one_gen (DkE S db env N) (DkE.lasts S db env N) db b _ _ cost (h S db N) w hD).mono ?_
  rintro e w' ⟨so, sn, sc, co, cn, cc, h1, h2, h3, h4⟩
  exact ⟨cost, so, sn, sc, co, cn, cc, h1, h2, h3, h4⟩
set_option maxHeartbeats 8000000 in
set_option maxRecDepth 20000 in
theorem sorted_law (few : Int) (hff : fit64 few) (ao : Option Addr) (n cap : Nat) (xs : List Int) (w : World) (hE : Evs w) (hr : RawIn w ao xs) (hn : xs.length = n) (hlt : 0 < n → ∀ b off, ao = some ⟨b, off, none⟩ → b < w.heap.size) :
    Calls Tryz.prog 8 #[.slice ao n cap, .int .i64 few] w fun e w' => e = .returned (.bool true) ∧ Below w.heap.size w w' := by
  have HD1 := hide (desk_new hE)
  obtain ⟨W1, hW1⟩ : ∃ W1, w.alloc (.cells #[.int .i64 1000, .map none] 91) = W1 := ⟨_, rfl⟩
  have hb1 : Below w.heap.size w W1 := by rw [← hW1]; exact (Below.refl _ _).alloc (Nat.le_refl _) _
  rw [hW1] at HD1
  have hr1 : RawIn W1 ao xs := ⟨hr.1, fun h0 => by
    obtain ⟨b, off, e, hc⟩ := hr.2 h0
    exact ⟨b, off, e, fun i hi => (hb1.cell (p := ⟨b, off + i, none⟩) (hlt (by omega) b off e)).trans (hc i hi)⟩⟩
  have HS1 := hide (small_any ao n cap xs 24 (by decide) W1 hr1 hn (fun h0 b off e => Nat.lt_of_lt_of_le (hlt h0 b off e) hb1.size))
  have HB1 := hide hb1
  have HPk := hide (fun w => pick_any few 30 hff (by decide) w)
  clear hE hr hn hlt hr1 hb1 hff
  go_enter Tryz.func8, Tryz.ntmps8
  go_wp2_with (go_at_call 15; refine (desk_any _).mono ?_; rintro e w' ⟨rfl, rfl⟩)
  try rw [hW1]
  clear hW1
  refine (unhide HS1).mono ?_
  rintro e w2 ⟨v1, rfl, l, hl1, hl2, hl3, hb2⟩
  obtain ⟨lo, lc, rfl⟩ := hl1.shape
  have HL3 := hide hl3
  have HL1 := hide hl1
  have HB2 := hide hb2
  obtain ⟨nn, hnn⟩ : ∃ nn, l.length = nn := ⟨_, rfl⟩
  rw [hnn] at hl2 ⊢
  have HNN := hide hnn
  clear hl1 hl3 hb2 HS1 hnn
  go_wp2_with fail
  refine (unhide HPk w2).mono ?_
  rintro e w' ⟨⟨r, rfl, hr0, hr1⟩, hw'⟩
  have hw3 := hw'.symm
  subst hw3
  obtain ⟨m, hm⟩ : ∃ m, 1 + r = m := ⟨_, rfl⟩
  have hmw : IntKind.i64.wrap (1 + r) = m := by
    rw [hm]
    exact wrap_pos (by omega) (by omega)
  have hm1 : 1 ≤ m := by omega
  have hm2 : m ≤ 30 := by omega
  have hmz : (m == 0) = false := by simp; omega
  clear hw' hr0 hr1 hm HPk
  go_wp2_with fail
  go_loopw [9] (fun v9 wr => ∃ i : Nat, v9 = .int .i64 i ∧ i ≤ nn ∧ wr.ownsRow W1.heap.size 2 1 (.slice lo nn lc) nn ((remL m l i).map (Value.int .i64)) ∧ Below W1.heap.size W1 wr) (fun v9 _ => nn - (intOf v9).toNat)
  case atStart => exact ⟨0, rfl, by omega, by rw [remL_zero]; have h := unhide HL1; unfold OwnL at h; rw [unhide HNN] at h; exact h, unhide HB2⟩
  case round =>
    obtain ⟨i, rfl, hi, ho, hb⟩ := hrel
    rename World => wr
    by_cases hin : i < nn
    · have hlo : ∃ g, W1.heap.size ≤ g ∧ lo = some ⟨g, 0, none⟩ := by
        rcases ho.2 with ⟨h, h2⟩ | ⟨g, c2, cur, h, h2, _⟩
        · omega
        · injection h with h1
          exact ⟨g, h2, h1⟩
      obtain ⟨g, hg, rfl⟩ := hlo
      have c0 := ho.cellAt i (by omega)
      have f0 := ho.frozenAt i
      have hil : i < l.length := by rw [unhide HNN]; exact hin
      rw [List.getElem?_map, remL_at hil, Option.map_some] at c0
      have HO2 : Hid ((wr.setCell ⟨g, i, none⟩ (.int .i64 (l[i].tmod m))).ownsRow W1.heap.size 2 1 (.slice (some ⟨g, 0, none⟩) nn lc) nn ((remL m l (i + 1)).map (Value.int .i64))) := hide (by
        rw [← remL_succ hil, List.map_set]
        exact (ho.stored i _).1)
      obtain ⟨x, hx⟩ : ∃ x, l[i] = x := ⟨_, rfl⟩
      rw [hx] at c0 HO2
      have HB3 := hide hb
      have i0 : (0 : Int) ≤ (i : Int) := by omega
      have i1 : (i : Int) < (nn : Int) := by omega
      clear hx hil ho hb
      go_wp2_with fail
      go_roundw
      case rel => exact ⟨i + 1, by go_num, by omega, unhide HO2, (unhide HB3).setCell hg _⟩
      case measure => simp [intOf]; omega
    · have hie : i = nn := by omega
      have i1 : ¬ (i : Int) < (nn : Int) := by omega
      obtain ⟨k, hk⟩ : ∃ k, remL m l i = k := ⟨_, rfl⟩
      have hkl : k.length = nn := by rw [← hk, remL_len]; exact unhide HNN
      have hkf : Few k := by rw [← hk, hie, ← unhide HNN]; exact remL_few (unhide HL3)
      rw [hk] at ho
      have hno : OwnL W1.heap.size wr (.slice lo nn lc) k := by unfold OwnL; rw [hkl]; exact ho
      have HDk := hide ((unhide HD1).more hb)
      obtain ⟨S, hS⟩ : ∃ S, (fun b => (6 ≤ b ∧ b < w.heap.size) ∨ (W1.heap.size ≤ b ∧ b < wr.heap.size)) = S := ⟨_, rfl⟩
      have hSl : ∀ b, 6 ≤ b → b < w.heap.size → S b := fun b h1 h2 => by rw [← hS]; exact Or.inl ⟨h1, h2⟩
      rw [hS] at HDk
      have HNL : Hid (Nums S wr (.slice lo nn lc) k) := hide (hno.nums.imp (Q := S) (fun b h _ => by rw [← hS]; exact Or.inr ⟨h.1, h.2⟩))
      have HSl := hide hSl
      have HBr : Hid (Below w.heap.size w wr) := hide ((unhide HB1).trans (hb.mono (unhide HB1).size))
      obtain ⟨db, hdb⟩ : ∃ db, w.heap.size = db := ⟨_, rfl⟩
      rw [hdb] at HDk HBr HSl ⊢
      have HDB := hide hdb
      have HFK := hide hkf
      have HOX := hide (envX_ok (l := k) (by omega) (few_fit hkf))
      have HKL := hide hkl
      clear hk hkl hkf ho hb hno hS hSl HD1 HB1 HL1 HL3 HNN HB2 hie
      go_wp2_with fail
      clear hdb
      refine (set_any S db env0 0 [120] name_x (by decide) wr (unhide HDk) (by decide) env0_ok lo nn lc k (unhide HNL) (by have := unhide HKL; omega) (unhide HFK)).mono ?_
      rintro e wS ⟨rfl, hd3, hk3⟩
      have HD3 : Hid (DkE S db (envX k) 1 wS) := hide hd3
      have HB3 : Hid (Below db w wS) := hide ((unhide HBr).trans (hk3.whole (by have := (unhide HDk).low; omega) (unhide HSl)))
      have HNL3 := hide (hk3.nums (unhide HNL) (fun _ h => h))
      have hkl24 : k.length ≤ 24 := by have := unhide HKL; omega
      have HU := hide (w_up (unhide HOX) (envX_at k) hkl24)
      have HDn := hide (w_down (unhide HOX) (envX_at k) hkl24)
      have HLk1 := hide (w_undo (unhide HOX) (envX_at k) hkl24)
      have HLk2 := hide (w_x (unhide HOX) (envX_at k) hkl24)
      have HLk3 := hide (w_three (unhide HOX) (envX_at k) hkl24)
      clear hd3 hk3 HDk HBr HNL HSl hkl24
      go_wp2_with fail
      refine (one_arr (unhide HU) (unhide HD3)).mono ?_
      rintro e w4 ⟨cost1, so1, sn1, sc1, co1, cn1, cc1, rfl, hs1, hc1, hb4⟩
      have es1 : sn1 = 1 := by have := nums_len hs1; simpa [rowA] using this
      have ec1 : nn = cn1 := by have := nums_len hc1; rw [this]; show nn = (upL k).length; rw [(up_perm k).len]; exact (unhide HKL).symm
      subst es1
      subst ec1
      obtain ⟨w5, hw5⟩ : ∃ w5, w4.alloc (.cells #[.int .i64 0, .int .i64 0, .slice so1 1 sc1, .slice co1 nn cc1, .int .i64 cost1] 47) = w5 := ⟨_, rfl⟩
      have hb5 : Below w4.heap.size w4 w5 := by rw [← hw5]; exact (Below.refl _ _).alloc (Nat.le_refl _) _
      obtain ⟨rb, hrb⟩ : ∃ rb, w4.heap.size = rb := ⟨_, rfl⟩
      have hr5 : rb < w5.heap.size := by rw [← hw5, ← hrb]; simp
      have r2 : w5.cell? ⟨rb, 2, none⟩ = some (.slice so1 1 sc1) := by rw [← hw5, ← hrb]; exact (World.cell?_alloc_at _ _ _ _ rfl).trans rfl
      have r3 : w5.cell? ⟨rb, 3, none⟩ = some (.slice co1 nn cc1) := by rw [← hw5, ← hrb]; exact (World.cell?_alloc_at _ _ _ _ rfl).trans rfl
      have HR5 := hide hr5
      have HR2 := hide r2
      have HR3 := hide r3
      have hS5 := below2' hb4 hb5
      have HD5 := hide ((unhide HD3).below hS5)
      have HB5 : Hid (Below db w w5) := hide ((unhide HB3).trans (hS5.mono (by have := (unhide HD3).low; omega)))
      have HNL5 := hide ((unhide HNL3).below hS5)
      have HP5 := hide ((hc1.below hb5).imp (Q := fun _ => True) (fun _ _ _ => trivial))
      clear hr5 r2 r3 hS5 hb5 hb4 hs1 hc1 HD3 HB3 HNL3 HU
      go_wp2_with fail
      try rw [hw5]
      try rw [hrb]
      clear hw5 hrb
      refine (one_arr (unhide HDn) (unhide HD5)).mono ?_
      rintro e w6 ⟨cost2, so2, sn2, sc2, co2, cn2, cc2, rfl, hs2, hc2, hb6⟩
      have es2 : sn2 = 1 := by have := nums_len hs2; simpa [rowA] using this
      have ec2 : nn = cn2 := by have := nums_len hc2; rw [this]; show nn = (dnL k).length; rw [(dn_perm k).len]; exact (unhide HKL).symm
      subst es2
      subst ec2
      obtain ⟨w7, hw7⟩ : ∃ w7, w6.alloc (.cells #[.int .i64 0, .int .i64 0, .slice so2 1 sc2, .slice co2 nn cc2, .int .i64 cost2] 47) = w7 := ⟨_, rfl⟩
      have hb7 : Below w6.heap.size w6 w7 := by rw [← hw7]; exact (Below.refl _ _).alloc (Nat.le_refl _) _
      obtain ⟨qb, hqb⟩ : ∃ qb, w6.heap.size = qb := ⟨_, rfl⟩
      have hq7 : qb < w7.heap.size := by rw [← hw7, ← hqb]; simp
      have q2 : w7.cell? ⟨qb, 2, none⟩ = some (.slice so2 1 sc2) := by rw [← hw7, ← hqb]; exact (World.cell?_alloc_at _ _ _ _ rfl).trans rfl
      have q3 : w7.cell? ⟨qb, 3, none⟩ = some (.slice co2 nn cc2) := by rw [← hw7, ← hqb]; exact (World.cell?_alloc_at _ _ _ _ rfl).trans rfl
      have hS7 := below2' hb6 hb7
      have hr7 : rb < w7.heap.size := Nat.lt_of_lt_of_le (unhide HR5) hS7.size
      have r2 : w7.cell? ⟨rb, 2, none⟩ = some (.slice so1 1 sc1) := (hS7.cell (p := ⟨rb, 2, none⟩) (unhide HR5)).trans (unhide HR2)
      have r3 : w7.cell? ⟨rb, 3, none⟩ = some (.slice co1 nn cc1) := (hS7.cell (p := ⟨rb, 3, none⟩) (unhide HR5)).trans (unhide HR3)
      have HD7 := hide ((unhide HD5).below hS7)
      have HB7 : Hid (Below db w w7) := hide ((unhide HB5).trans (hS7.mono (by have := (unhide HD5).low; omega)))
      have HNL7 := hide ((unhide HNL5).below hS7)
      have HP7 : Hid (Nums (fun _ => True) w7 (.slice co1 nn cc1) (upL k)) := hide ((unhide HP5).below hS7)
      have HQ7 : Hid (Nums (fun _ => True) w7 (.slice co2 nn cc2) (dnL k)) := hide ((hc2.below hb7).imp (Q := fun _ => True) (fun _ _ _ => trivial))
      obtain ⟨p, hp⟩ : ∃ p, upL k = p := ⟨_, rfl⟩
      obtain ⟨q, hq⟩ : ∃ q, dnL k = q := ⟨_, rfl⟩
      have HPp : Hid (PermN nn p) := hide (by rw [← hp, ← unhide HKL]; exact up_perm k)
      have HPq : Hid (PermN nn q) := hide (by rw [← hq, ← unhide HKL]; exact dn_perm k)
      have HSp : Hid (SortedOn (ltU k) p 0 nn) := hide (by rw [← hp, ← unhide HKL]; exact up_sorted k)
      have HSq : Hid (SortedOn (ltD k) q 0 nn) := hide (by rw [← hq, ← unhide HKL]; exact dn_sorted k)
      have HKP : Hid (p.length = nn) := hide (unhide HPp).len
      rw [hp] at HP7 HLk3
      rw [hq] at HQ7
      obtain ⟨i0, hi0, hz0, hz1, hz2⟩ := info_parts Tryz.info3
      have HI := hide hi0
      have HZ0 := hide hz0
      have HZ1 := hide hz1
      have HZ2 := hide hz2
      have HWup := hide (w_up (unhide HOX) (envX_at k) (by have := unhide HKL; omega))
      rw [hp] at HWup
      have hz : (0 : Int) ≤ (nn : Int) := by omega
      clear hp hq hS7 hb7 hb6 hs2 hc2 HD5 HB5 HNL5 HP5 HDn hi0 hz0 hz1 hz2 HR2 HR3 HR5
      go_wp2_with (at_make; (try rw [hw7]); (try rw [hqb]); refine wpList_make_full _ rfl _ _ 37 rfl w7.heap.size 3 i0 (.int .i64 0) 1 Tryz.underlying37 (unhide HI) (unhide HZ0) (unhide HZ1) .i64 .i64 nn nn nn rfl rfl rfl rfl ?c1 ?c2 (Nat.le_refl _) ?_)
      case c1 => rw [unhide HZ2]; omega
      case c2 => unfold maxLen; omega
      clear hw7 hqb
      intro w8 hown hg8
      have hown : w8.ownsRow w7.heap.size 3 1 (.slice (some ⟨w7.heap.size, 0, none⟩) nn nn) nn ((cntL nn [] []).map (Value.int .i64)) := by
        have := toList_madeCells_one (.int .i64 0) (nn * 1)
        rw [Nat.mul_one] at this
        rw [cntL_nil, List.map_replicate, ← this]
        simpa using hown
      have hb8 : Below w7.heap.size w7 w8 := (Below.refl _ _).grown hg8 (Nat.le_refl _) (fun _ h => by cases h)
      have HO8 := hide hown
      have HB8 := hide hb8
      obtain ⟨sb, hsb⟩ : ∃ sb, w7.heap.size = sb := ⟨_, rfl⟩
      rw [hsb] at HO8 HB8 ⊢
      have HSB := hide hsb
      have HQ2 := hide q2
      have HQ3 := hide q3
      have HQ4 := hide hq7
      have HR2 := hide r2
      have HR3 := hide r3
      have HR4 := hide hr7
      clear hown hb8 hg8 HI HZ0 HZ1 HZ2 hsb q2 q3 hq7 r2 r3 hr7
      go_wp2_with fail
      go_loopw [15] (fun v15 wx => ∃ j : Nat, v15 = .int .i64 j ∧ j ≤ nn ∧ wx.ownsRow sb 3 1 (.slice (some ⟨sb, 0, none⟩) nn nn) nn ((cntL nn (p.take j) (q.take j)).map (Value.int .i64)) ∧ Below sb w7 wx) (fun v15 _ => nn - (intOf v15).toNat)
      case atStart => exact ⟨0, rfl, by omega, unhide HO8, unhide HB8⟩
      case round =>
        obtain ⟨j, rfl, hj, ho, hb⟩ := hrel
        rename World => wx
        by_cases hjn : j < nn
        · have hs := unhide HSB
          obtain ⟨pa, hpa⟩ : ∃ pa : Nat, ix p j = (pa : Int) := ⟨(ix p j).toNat, by have := (unhide HPp).rng hjn; omega⟩
          obtain ⟨qa, hqa⟩ : ∃ qa : Nat, ix q j = (qa : Int) := ⟨(ix q j).toNat, by have := (unhide HPq).rng hjn; omega⟩
          have hpn : pa < nn := by have := (unhide HPp).rng hjn; omega
          have hqn : qa < nn := by have := (unhide HPq).rng hjn; omega
          have hpl := (unhide HPp).len
          have hql := (unhide HPq).len
          obtain ⟨-, -, hA⟩ := nums_at (unhide HP7)
          obtain ⟨pb, po, rfl, hpb, hpc⟩ := hA (by omega)
          obtain ⟨-, -, hA⟩ := nums_at (unhide HQ7)
          obtain ⟨tb, tof, rfl, htb, htc⟩ := hA (by omega)
          obtain ⟨-, -, hA⟩ := nums_at (unhide HNL7)
          obtain ⟨lb, lof, rfl, hlb, hlc⟩ := hA (by have := unhide HKL; omega)
          have r3 : wx.cell? ⟨rb, 3, none⟩ = some (.slice (some ⟨pb, po, none⟩) nn cc1) := (hb.cell (p := ⟨rb, 3, none⟩) (by rw [← hs]; exact unhide HR4)).trans (unhide HR3)
          have q3 : wx.cell? ⟨qb, 3, none⟩ = some (.slice (some ⟨tb, tof, none⟩) nn cc2) := (hb.cell (p := ⟨qb, 3, none⟩) (by rw [← hs]; exact unhide HQ4)).trans (unhide HQ3)
          have atp : ∀ e, e < nn → wx.cell? ⟨pb, po + e, none⟩ = some (.int .i64 (ix p e)) := fun e he => by
            rw [hb.cell (p := ⟨pb, po + e, none⟩) (by rw [← hs]; exact hpb), hpc e (by omega)]
            simp [ix, List.getD_eq_getElem?_getD, hpl, he]
          have atq : ∀ e, e < nn → wx.cell? ⟨tb, tof + e, none⟩ = some (.int .i64 (ix q e)) := fun e he => by
            rw [hb.cell (p := ⟨tb, tof + e, none⟩) (by rw [← hs]; exact htb), htc e (by omega)]
            simp [ix, List.getD_eq_getElem?_getD, hql, he]
          have atl : ∀ e, e < nn → wx.cell? ⟨lb, lof + e, none⟩ = some (.int .i64 (ix k e)) := fun e he => by
            rw [hb.cell (p := ⟨lb, lof + e, none⟩) (by rw [← hs]; exact hlb), hlc e (by have := unhide HKL; omega)]
            simp [ix, List.getD_eq_getElem?_getD, unhide HKL, he]
          have c1 := atp j hjn
          have c2 := atq j hjn
          rw [hpa] at c1
          rw [hqa] at c2
          have hpj : p[j]? = some (pa : Int) := by
            rw [← hpa]; simp [ix, List.getD_eq_getElem?_getD, hpl, hjn]
          have hqj : q[j]? = some (qa : Int) := by
            rw [← hqa]; simp [ix, List.getD_eq_getElem?_getD, hql, hjn]
          obtain ⟨s1, hs1⟩ : ∃ s1 : Nat, (p.take j).count (pa : Int) + (q.take j).count (pa : Int) = s1 := ⟨_, rfl⟩
          have d1 := ho.cellAt pa (by omega)
          rw [List.getElem?_map, cntL_at _ _ hpn, Option.map_some, hs1] at d1
          have g1 := ho.frozenAt pa
          have ho1 : (wx.setCell ⟨sb, pa, none⟩ (.int .i64 ((s1 : Int) + 1))).ownsRow sb 3 1 (.slice (some ⟨sb, 0, none⟩) nn nn) nn ((cntL nn (p.take (j + 1)) (q.take j)).map (Value.int .i64)) := by
            rw [take_next hpj, ← cntL_left hpn, hs1, List.map_set]
            exact (ho.stored pa _).1
          obtain ⟨s2, hs2⟩ : ∃ s2 : Nat, (p.take (j + 1)).count (qa : Int) + (q.take j).count (qa : Int) = s2 := ⟨_, rfl⟩
          have d2 := ho1.cellAt qa (by omega)
          rw [List.getElem?_map, cntL_at _ _ hqn, Option.map_some, hs2] at d2
          have g2 := ho1.frozenAt qa
          have HO2 : Hid (((wx.setCell ⟨sb, pa, none⟩ (.int .i64 ((s1 : Int) + 1))).setCell ⟨sb, qa, none⟩ (.int .i64 ((s2 : Int) + 1))).ownsRow sb 3 1 (.slice (some ⟨sb, 0, none⟩) nn nn) nn ((cntL nn (p.take (j + 1)) (q.take (j + 1))).map (Value.int .i64))) := hide (by
            rw [take_next hqj, ← cntL_right hqn, hs2, List.map_set]
            exact (ho1.stored qa _).1)
          have hc1 : s1 ≤ 200 := by
            have a1 := List.count_le_length (a := (pa : Int)) (l := p.take j)
            have a2 := List.count_le_length (a := (pa : Int)) (l := q.take j)
            simp at a1 a2
            omega
          have hc2 : s2 ≤ 200 := by
            have a1 := List.count_le_length (a := (qa : Int)) (l := p.take (j + 1))
            have a2 := List.count_le_length (a := (qa : Int)) (l := q.take j)
            simp at a1 a2
            omega
          have e1 : IntKind.i64.wrap ((s1 : Int) + 1) = (s1 : Int) + 1 := wrap_pos (by omega) (by omega)
          have e2 : IntKind.i64.wrap ((s2 : Int) + 1) = (s2 : Int) + 1 := wrap_pos (by omega) (by omega)
          have HB9 : Hid (Below sb w7 ((wx.setCell ⟨sb, pa, none⟩ (.int .i64 ((s1 : Int) + 1))).setCell ⟨sb, qa, none⟩ (.int .i64 ((s2 : Int) + 1)))) := hide ((hb.setCell (Nat.le_refl _) _).setCell (Nat.le_refl _) _)
          obtain ⟨wy, hwy⟩ : ∃ wy, (wx.setCell ⟨sb, pa, none⟩ (.int .i64 ((s1 : Int) + 1))).setCell ⟨sb, qa, none⟩ (.int .i64 ((s2 : Int) + 1)) = wy := ⟨_, rfl⟩
          rw [hwy] at HO2 HB9
          have a0 : (0 : Int) ≤ (pa : Int) := by omega
          have a1 : (pa : Int) < (nn : Int) := by omega
          have b0 : (0 : Int) ≤ (qa : Int) := by omega
          have b1 : (qa : Int) < (nn : Int) := by omega
          have j0 : (0 : Int) ≤ (j : Int) := by omega
          have j1 : (j : Int) < (nn : Int) := by omega
          have Hp := hide hpa
          have Hq := hide hqa
          have HATp : Hid (∀ e, e < nn → wy.cell? ⟨pb, po + e, none⟩ = some (.int .i64 (ix p e))) := hide (fun e he => by
            rw [(unhide HB9).cell (p := ⟨pb, po + e, none⟩) (by rw [← hs]; exact hpb), hpc e (by omega)]
            simp [ix, List.getD_eq_getElem?_getD, hpl, he])
          have HATq : Hid (∀ e, e < nn → wy.cell? ⟨tb, tof + e, none⟩ = some (.int .i64 (ix q e))) := hide (fun e he => by
            rw [(unhide HB9).cell (p := ⟨tb, tof + e, none⟩) (by rw [← hs]; exact htb), htc e (by omega)]
            simp [ix, List.getD_eq_getElem?_getD, hql, he])
          have HATl : Hid (∀ e, e < nn → wy.cell? ⟨lb, lof + e, none⟩ = some (.int .i64 (ix k e))) := hide (fun e he => by
            rw [(unhide HB9).cell (p := ⟨lb, lof + e, none⟩) (by rw [← hs]; exact hlb), hlc e (by have := unhide HKL; omega)]
            simp [ix, List.getD_eq_getElem?_getD, unhide HKL, he])
          have HR3y : Hid (wy.cell? ⟨rb, 3, none⟩ = some (.slice (some ⟨pb, po, none⟩) nn cc1)) := hide (((unhide HB9).cell (p := ⟨rb, 3, none⟩) (by rw [← hs]; exact unhide HR4)).trans (unhide HR3))
          have HQ3y : Hid (wy.cell? ⟨qb, 3, none⟩ = some (.slice (some ⟨tb, tof, none⟩) nn cc2)) := hide (((unhide HB9).cell (p := ⟨qb, 3, none⟩) (by rw [← hs]; exact unhide HQ4)).trans (unhide HQ3))
          clear hA hpb hpc htb htc hlb hlc atp atq atl hpa hqa hpl hql hs ho ho1 hb hs1 hs2 hpj hqj hc1 hc2
          by_cases hj0 : j = 0
          · have z0 : ((j : Int) == 0) = true := by rw [hj0]; rfl
            clear hj0 HATp HATq HATl HR3y HQ3y
            go_wp2_with fail
            try rw [hwy]
            go_roundw
            case rel => exact ⟨j + 1, by go_num, by omega, unhide HO2, unhide HB9⟩
            case measure => simp [intOf]; omega
          · obtain ⟨jj, hjj⟩ : ∃ jj, jj + 1 = j := ⟨j - 1, by omega⟩
            have z0 : ((j : Int) == 0) = false := beq_false_of_ne (by omega)
            go_upto_region 25 with fail
            try rw [hwy]
            clear hwy d1 d2 g1 g2 e1 e2 r3 q3 c1 c2 z0
            have hjn2 : jj < nn := by omega
            obtain ⟨px, hpx⟩ : ∃ px : Nat, ix p jj = (px : Int) := ⟨(ix p jj).toNat, by have := (unhide HPp).rng hjn2; omega⟩
            obtain ⟨qx, hqx⟩ : ∃ qx : Nat, ix q jj = (qx : Int) := ⟨(ix q jj).toNat, by have := (unhide HPq).rng hjn2; omega⟩
            have hpn2 : px < nn := by have := (unhide HPp).rng hjn2; omega
            have hqn2 : qx < nn := by have := (unhide HPq).rng hjn2; omega
            have c1 := unhide HATp jj hjn2
            have c2 := unhide HATq jj hjn2
            rw [hpx] at c1
            rw [hqx] at c2
            have k1 := unhide HATl pa hpn
            have k2 := unhide HATl px hpn2
            have k3 := unhide HATl qa hqn
            have k4 := unhide HATl qx hqn2
            have o1 := unhide HSp jj j (by omega) (by omega) hjn
            have o2 := unhide HSq jj j (by omega) (by omega) hjn
            unfold ltU at o1
            unfold ltD at o2
            rw [hpx, unhide Hp, Int.toNat_natCast, Int.toNat_natCast] at o1
            rw [hqx, unhide Hq, Int.toNat_natCast, Int.toNat_natCast] at o2
            obtain ⟨la, hla⟩ : ∃ x, ix k pa = x := ⟨_, rfl⟩
            obtain ⟨lx, hlx⟩ : ∃ x, ix k px = x := ⟨_, rfl⟩
            obtain ⟨ma, hma⟩ : ∃ x, ix k qa = x := ⟨_, rfl⟩
            obtain ⟨mx, hmx⟩ : ∃ x, ix k qx = x := ⟨_, rfl⟩
            rw [hla] at k1 o1
            rw [hlx] at k2 o1
            rw [hma] at k3 o2
            rw [hmx] at k4 o2
            have r3 := unhide HR3y
            have q3 := unhide HQ3y
            have hjw : IntKind.i64.wrap ((j : Int) - 1) = (jj : Int) := by
              have e : (j : Int) - 1 = (jj : Int) := by omega
              rw [e]
              exact wrap_pos (by omega) (by omega)
            have jj0 : (0 : Int) ≤ (jj : Int) := by omega
            have jj1 : (jj : Int) < (nn : Int) := by omega
            have x0 : (0 : Int) ≤ (px : Int) := by omega
            have x1 : (px : Int) < (nn : Int) := by omega
            have y0 : (0 : Int) ≤ (qx : Int) := by omega
            have y1 : (qx : Int) < (nn : Int) := by omega
            have t1 : decide (la < lx) = false := decide_eq_false (by omega)
            have t3 : decide (mx < ma) = false := decide_eq_false (by omega)
            obtain ⟨E1, hE1⟩ : ∃ E1, (lx == la) = E1 := ⟨_, rfl⟩
            obtain ⟨E2, hE2⟩ : ∃ E2, (mx == ma) = E2 := ⟨_, rfl⟩
            have t2 : E1 = true → decide ((pa : Int) < (px : Int)) = false ∧ decide (pa < px) = false ∧ (px : Int) ≤ (pa : Int) ∧ px ≤ pa := fun h => by
              rw [h] at hE1
              have : lx = la := by simpa using hE1
              exact ⟨decide_eq_false (by omega), decide_eq_false (by omega), by omega, by omega⟩
            have t4 : E2 = true → decide ((qa : Int) < (qx : Int)) = false ∧ decide (qa < qx) = false ∧ (qx : Int) ≤ (qa : Int) ∧ qx ≤ qa := fun h => by
              rw [h] at hE2
              have : mx = ma := by simpa using hE2
              exact ⟨decide_eq_false (by omega), decide_eq_false (by omega), by omega, by omega⟩
            clear hpx hqx hla hlx hma hmx o1 o2 hj0 hpn2 hqn2 hjn2 HATp HATq HATl HR3y HQ3y
            go_upto_region 27 with fail
            cases E1 <;> cases E2
            all_goals
              (try (obtain ⟨t21, t22, t23, t24⟩ := t2 rfl))
              (try (obtain ⟨t41, t42, t43, t44⟩ := t4 rfl))
              go_quiet (fail)
              go_wp2_with fail
              go_roundw
              case rel => exact ⟨j + 1, by go_num, by omega, owns_below (unhide HO2) (below_nn (Below.refl _ _) _), below_nn (unhide HB9) _⟩
              case measure => simp [intOf]; omega
        · have hje : j = nn := by omega
          have hpl := (unhide HPp).len
          have hql := (unhide HPq).len
          have T1 : cntL nn (p.take j) (q.take j) = List.replicate nn 2 := by
            rw [List.take_of_length_le (by omega), List.take_of_length_le (by omega)]
            exact cntL_all (unhide HPp) (unhide HPq)
          rw [T1] at ho
          have hs := unhide HSB
          have hb' : Below w7.heap.size w7 wx := by rw [hs]; exact hb
          have HD9 := hide ((unhide HD7).below hb')
          have HB9 : Hid (Below db w wx) := hide ((unhide HB7).trans (hb'.mono (by have := (unhide HD7).low; omega)))
          have HO := hide ho
          have j1 : ¬ (j : Int) < (nn : Int) := by omega
          clear hpl hql T1 hs hb' hb ho hje HO8 HB8 HP7 HQ7 HNL7 HD7 HB7 HR2 HR3 HR4 HQ2 HQ3 HQ4 HPp HPq HSp HSq
          go_wp2_with fail
          go_loopw [20] (fun v20 wz => ∃ e : Nat, v20 = .int .i64 e ∧ e ≤ nn ∧ wx = wz) (fun v20 _ => nn - (intOf v20).toNat)
          case atStart => exact ⟨0, rfl, by omega, rfl⟩
          case round =>
            obtain ⟨e, rfl, he, rfl⟩ := hrel
            by_cases hen : e < nn
            · have c0 := (unhide HO).cellAt e (by omega)
              rw [List.map_replicate, List.getElem?_replicate, if_pos hen] at c0
              have e0 : (0 : Int) ≤ (e : Int) := by omega
              have e1 : (e : Int) < (nn : Int) := by omega
              go_wp2_with fail
              go_roundw
              case rel => exact ⟨e + 1, by go_num, by omega, by first | rfl | trivial⟩
              case measure => simp [intOf]; omega
            · have e1 : ¬ (e : Int) < (nn : Int) := by omega
              have HLc : Hid (k.length ≤ 200) := hide (by have := unhide HKL; omega)
              have HLp : Hid (p.length ≤ 200) := hide (by have := unhide HKP; have := unhide HKL; omega)
              go_wp2_with fail
              refine (like_says (unhide HLk1) (unhide HLk2) (unhide HD9) (by simp [rowA]) (unhide HLc)).mono ?_
              rintro e w10 ⟨rfl, hb10⟩
              have HD10 := hide ((unhide HD9).below hb10)
              have HB10 : Hid (Below db w w10) := hide ((unhide HB9).trans (hb10.mono (by have := (unhide HD9).low; omega)))
              clear hb10 HD9 HB9 HLk1 HLk2 HO
              go_wp2_with fail
              refine (like_says (unhide HLk3) (unhide HWup) (unhide HD10) (by simp [rowA]) (unhide HLp)).mono ?_
              rintro e w11 ⟨rfl, hb11⟩
              have HB11 : Hid (Below db w w11) := hide ((unhide HB10).trans (hb11.mono (by have := (unhide HD10).low; omega)))
              clear hb11 HD10 HB10
              go_wp2_with fail
              exact bodyPost_ret (v := .bool true) (by simp [results, Tryz.results8, go_sem]) rfl ⟨rfl, by rw [unhide HDB]; exact unhide HB11⟩
end Go.Proofs.YtjobgpahajhbnaaGreatDoor
