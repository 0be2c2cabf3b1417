import Derived.Test.YtjobgpahajhbnabGreatDoorOk
import Derived.BigQuiet
namespace Go.Proofs.YtjobgpahajhbnabGreatDoor
open Go.RowKit Go.Proofs
attribute [local go_sem ↓] Go.wp_at_zero Go.wp_at_succ
set_option maxHeartbeats 8000000 in
set_option maxRecDepth 20000 in
theorem Jix (ao : Option Addr) (n cap : Nat) (xs : List Int) (ao2 : Option Addr) (n2 cap2 : Nat) (ys : List Int) (bo : Option Addr) (m bcap : Nat) (ls : List ByteArray) (w : World) (hE : Evs w) (hr : Jiz w ao xs) (hn : xs.length = n) (hlt : 0 < n → ∀ b off, ao = some ⟨b, off, none⟩ → b < w.heap.size) (hr2 : Jiz w ao2 ys) (hn2 : ys.length = n2) (hlt2 : 0 < n2 → ∀ b off, ao2 = some ⟨b, off, none⟩ → b < w.heap.size)
    (hT : Txts (fun _ => True) w bo ls) (hm : ls.length = m) (hms : ∀ s ∈ ls, s.size ≤ 9223372036854775807) (hmx : m ≤ 9223372036854775807) :
    Calls Tryz.prog 5 #[.slice ao n cap, .slice ao2 n2 cap2, .slice bo m bcap] w fun e w' => e = .returned (.bool true) ∧ Below w.heap.size w w' := by
  have HD2 := hide (Jnr (F := 1000) hE); obtain ⟨W2, hW2⟩ : ∃ W2, (w.alloc (.cells #[.int .i64 1000, .map none] 59)).alloc (.cells #[.int .i64 1000, .map none] 59) = W2 := ⟨_, rfl⟩; have hb2 : Below w.heap.size w W2 := by rw [← hW2]; exact ((Below.refl _ _).alloc (Nat.le_refl _) _).alloc (by simp) _
  rw [hW2] at HD2; have hr1 : Jiz W2 ao xs := ⟨hr.1, fun h0 => by
    obtain ⟨b, off, e, hc⟩ := hr.2 h0; exact ⟨b, off, e, fun i hi => (hb2.cell (p := ⟨b, off + i, none⟩) (hlt (by omega) b off e)).trans (hc i hi)⟩⟩
  have HS1 := hide (Nk ao n cap xs 20 (by decide) W2 hr1 hn (fun h0 b off e => Nat.lt_of_lt_of_le (hlt h0 b off e) hb2.size)); have HS2 : Hid (∀ w', Below w.heap.size w w' → Calls Tryz.prog 14 #[.slice ao2 n2 cap2, .int .i64 (20 : Nat)] w' fun e w'' => ∃ v, e = .returned v ∧ ∃ l, OwnL w'.heap.size w'' v l ∧ l.length ≤ 20 ∧ Few l ∧ Below w'.heap.size w' w'') := hide (fun w' hb => by
    refine Nk ao2 n2 cap2 ys 20 (by decide) w' ⟨hr2.1, fun h0 => ?_⟩ hn2 (fun h0 b off e => Nat.lt_of_lt_of_le (hlt2 h0 b off e) hb.size); obtain ⟨b, off, e, hc⟩ := hr2.2 h0; exact ⟨b, off, e, fun i hi => (hb.cell (p := ⟨b, off + i, none⟩) (hlt2 (by omega) b off e)).trans (hc i hi)⟩)
  have HB2 := hide hb2; have HT := hide hT; have HMS := hide hms; clear hE hr hn hlt hr2 hn2 hlt2 hr1 hb2 hT hms; go_enter Tryz.func5, Tryz.ntmps5; go_wp2_with (go_at_call 6; refine (Jk9 _).mono ?_; rintro e w' ⟨rfl, rfl⟩); try rw [hW2]
  clear hW2; refine (Ja HS1).mono ?_; rintro e w3 ⟨v1, rfl, l, hl1, hl2, hl3, hb3⟩; obtain ⟨lo, lc, rfl⟩ := hl1.shape; have HL1 := hide hl1; have HL3 := hide hl3; have HB3 : Hid (Below w.heap.size w w3) := hide ((Ja HB2).trans (hb3.mono (Ja HB2).size)); have HB23 := hide hb3; clear hl1 hl3 hb3 HS1; go_wp2_with fail; refine (Ja HS2 _ (Ja HB3)).mono ?_; rintro e w4 ⟨v2, rfl, o, ho1, ho2, ho3, hb4⟩; obtain ⟨oo, oc, rfl⟩ := ho1.shape; have HO3 := hide ho3; have HB4 : Hid (Below w.heap.size w w4) := hide ((Ja HB3).trans (hb4.mono (Ja HB3).size)); have hb24 : Below W2.heap.size W2 w4 := (Ja HB23).trans (hb4.mono (Ja HB23).size); have HDk := hide ((Ja HD2).more hb24); obtain ⟨S, hS⟩ : ∃ S, (fun b => (6 ≤ b ∧ b < w.heap.size) ∨ (W2.heap.size ≤ b ∧ b < w4.heap.size)) = S := ⟨_, rfl⟩; have hSl : ∀ b, 6 ≤ b → b < w.heap.size → S b := fun b h1 h2 => by rw [← hS]; exact Or.inl ⟨h1, h2⟩
  have hS4 : ∀ b, S b → b < w4.heap.size := fun b h => by rw [← hS] at h; have := (Ja HB4).size; rcases h with h | h <;> omega
  rw [hS] at HDk; have hs12 := (Ja HB23).size; have hs23 := hb4.size; have HNL : Hid (Nums S w4 (.slice lo l.length lc) l) := hide (((Ja HL1).nums.imp (Q := S) (fun b h _ => by rw [← hS]; exact Or.inr ⟨h.1, by omega⟩)).below hb4); have HNO : Hid (Nums S w4 (.slice oo o.length oc) o) := hide (ho1.nums.imp (Q := S) (fun b h _ => by rw [← hS]; exact Or.inr ⟨by omega, h.2⟩)); have HSl := hide hSl; have HS4 := hide hS4; have HTw : Hid (∀ wr, KeepS S w4 wr → 0 < ls.length → ∃ lb off, bo = some ⟨lb, off, none⟩ ∧ ∀ i, (h : i < ls.length) → wr.cell? ⟨lb, off + i, none⟩ = some (.string ls[i])) := hide (fun wr hk h0 => by
    obtain ⟨lb, off, e1, _, hlb, hcell⟩ := Ja HT h0; have hlb4 := Nat.lt_of_lt_of_le hlb (Ja HB4).size; exact ⟨lb, off, e1, fun i hi => (hk.lowc hlb4 (fun h6 => hSl lb h6 hlb)).trans (((Ja HB4).cell (p := ⟨lb, off + i, none⟩) hlb).trans (hcell i hi))⟩)
  obtain ⟨db, hdb⟩ : ∃ db, w.heap.size = db := ⟨_, rfl⟩; have HDB := hide hdb; rw [hdb] at HDk; have hfl := Jbx (Ja HL3); have hfo := Jbx ho3; have HOX := hide (Jby (l := l) (by omega) hfl); have HOXo := hide (Jby (l := o) (by omega) hfo); have HOY := hide (Jh5 (l := l) (o := o) (by omega) hfl (by omega) hfo); have HOF : Hid (EnvOk (envF l o)) := hide ((Jh5 (l := l) (o := o) (by omega) hfl (by omega) hfo).upd _ (Jbg (by omega) hfl)); have hdb4 : db ≤ w4.heap.size := by have := (Ja HB4).size; omega
  clear ho1 ho3 hb4 hb24 hS hSl hS4 HS2 HB23 HD2 hs12 hs23 HL1 hfl hfo HT; rw [hdb] at HB4 HSl ⊢; clear HB2 HB3; go_wp2_with fail; refine (Jbd (Ja HDk) Jl0 (by decide) (by decide) env0_ok (Ja HNL) (by omega) (Ja HL3)).mono ?_; rintro e w5 ⟨rfl, hd5, hk5⟩; have HD5 : Hid (Duo 1000 S db (envX l) 1 (db + 1) env0 0 w5) := hide hd5; have HK5 := hide hk5; have HNO5 := hide (hk5.nums (Ja HNO) (fun _ h => h)); clear hd5 hk5 HDk; go_wp2_with fail; refine (Jbd (Ja HD5).symm Jl0 (by decide) (by decide) env0_ok (Ja HNO5) (by omega) (Ja HO3)).mono ?_; rintro e w6 ⟨rfl, hd6, hk6⟩; have HD6 : Hid (Duo 1000 S db (envX l) 1 (db + 1) (envX o) 1 w6) := hide hd6.symm; have HK6 : Hid (KeepS S w4 w6) := hide ((Ja HK5).trans hk6 (fun _ _ h => h)); have HNO6 := hide ((Ja HK6).nums (Ja HNO) (fun _ h => h)); clear hd6 hk6 HD5 HK5 HNO5; go_wp2_with fail; refine (Jbd (Ja HD6) Jop (by decide) (by decide) (Ja HOX) (Ja HNO6) (by omega) (Ja HO3)).mono ?_; rintro e w7 ⟨rfl, hd7, hk7⟩; have HD7 : Hid (Duo 1000 S db (envY l o) 2 (db + 1) (envX o) 1 w7) := hide hd7; have HK7 : Hid (KeepS S w4 w7) := hide ((Ja HK6).trans hk7 (fun _ _ h => h)); clear hd7 hk7 HD6 HK6 HNO6 hdb; go_wp2_with fail; go_loopw [13] (fun v wr => ∃ (k : Nat) (env2 : ByteArray → Option Arr), v = .int .i64 k ∧ k ≤ m ∧ k ≤ 50 ∧ EnvOk env2 ∧ Duo 1000 S db (envY l o) 2 (db + 1) env2 (1 + k) wr ∧ KeepS S w4 wr) (fun v _ => m - (intOf v).toNat)
  case atStart => exact ⟨0, envX o, rfl, by omega, by omega, Ja HOXo, Ja HD7, Ja HK7⟩
  case round =>
    obtain ⟨k, env2, rfl, hk, hk5, he2, hdu, hks⟩ := hrel; have HE2 := hide he2; have HDu := hide hdu; have HKs := hide hks; clear he2 hdu hks HD7 HK7; rcases (by omega : (k < m ∧ k < 50) ∨ ((k : Int) < (m : Int) ∧ ¬ (k : Int) < 50) ∨ ¬ (k : Int) < (m : Int)) with ⟨a1, a2⟩ | ⟨a1, a2⟩ | a1
    case inl =>
      have hkl : k < ls.length := by omega
      obtain ⟨lb, off, rfl, hcell⟩ := Ja HTw wr (Ja HKs) (by omega); have hc := hcell k hkl; obtain ⟨s, hs⟩ : ∃ s, ls[k] = s := ⟨_, rfl⟩; have hsz : s.size ≤ 9223372036854775807 := by rw [← hs]; exact Ja HMS _ (List.getElem_mem hkl)
      rw [hs] at hc; clear hcell; obtain ⟨W8, hW8⟩ : ∃ W8, wr.alloc (.cells #[.string s] 9) = W8 := ⟨_, rfl⟩; have hb8 : Below wr.heap.size wr W8 := by rw [← hW8]; exact (Below.refl _ _).alloc (Nat.le_refl _) _
      have hc8 : W8.cell? ⟨wr.heap.size, 0, none⟩ = some (.string s) := by rw [← hW8]; exact (World.cell?_alloc_at _ _ _ _ rfl).trans rfl
      have hl8 : wr.heap.size < W8.heap.size := by rw [← hW8]; simp
      have HRun := hide (Jf5 (cap := 1) (n := 1) ((Ja HDu).more hb8).symm (Ja HE2) rfl (by decide) (by omega) (by intro t ht; simp at ht; subst ht; exact hsz) (Ji3 (s := s) (fun _ => Or.inr ⟨Nat.le_refl _, hl8⟩) hl8 hc8)); have HB8 := hide hb8; have k0 : (0 : Int) ≤ (k : Int) := by omega
      have k1 : (k : Int) < (m : Int) := by omega
      have k2 : (k : Int) < 50 := by omega
      have km : (m : Int) ≤ 9223372036854775807 := by omega
      clear hb8 hc8 hl8; go_wp2_with fail; try rw [hW8]
      clear hW8; refine (Ja HRun).mono ?_; rintro e w9 ⟨v9, U, rfl, hU, hd9, hk9, -⟩; have HD9 := hide (hd9.symm.less (S' := S) (fun b h => hU b (Or.inl h))); have HK9 : Hid (KeepS S w4 w9) := hide (((Ja HKs).trans (KeepS.of (S := S) (Ja HB8)) (fun _ _ h => h)).trans hk9 (fun _ _ h => Or.inl h)); have HE9 := hide (F0 (F := 1000) (by decide) [s] env2 (Ja HE2)); clear hU hd9 hk9 HRun HB8; go_wp2_with fail; go_roundw
      case rel => exact ⟨k + 1, _, by go_num, by omega, by omega, Ja HE9, Ja HD9, Ja HK9⟩
      case measure => simp [intOf]; omega
    all_goals
      have k0 : (0 : Int) ≤ (k : Int) := by omega
      have km : (m : Int) ≤ 9223372036854775807 := by omega
      obtain ⟨W8, hW8⟩ : ∃ W8, wr.alloc (.cells #[.string ⟨#[120]⟩, .string ⟨#[121, 32, 105, 115, 32, 120]⟩, .string ⟨#[120, 32, 99, 97, 116, 32, 120]⟩] 9) = W8 := ⟨_, rfl⟩; have hb8 : Below wr.heap.size wr W8 := by rw [← hW8]; exact (Below.refl _ _).alloc (Nat.le_refl _) _
      have hl8 : wr.heap.size < W8.heap.size := by rw [← hW8]; simp
      have hs4 : w4.heap.size ≤ wr.heap.size := Bs.size (Ja HKs); have HSB : Hid (∀ b, S b → b < W8.heap.size) := hide (fun b h => by have := Ja HS4 b h; omega); have HRun := hide (Jf5 (cap := 3) (n := 3) (ls := ls3) ((Ja HDu).more hb8) (Ja HOY) rfl (by decide) (by decide) (by intro t ht; simp [ls3] at ht; rcases ht with rfl | rfl | rfl <;> decide) (by rw [← hW8]; exact Ji4 (fun _ => Or.inr ⟨Nat.le_refl _, by simp⟩))); have HB8 := hide hb8; clear hb8 hl8 hs4; go_wp2_with fail; try rw [hW8]
      clear hW8; refine (Ja HRun).mono ?_; rintro e w9 ⟨v9, U, rfl, hU, hd9, hk9, hrp⟩; rw [Jnq] at hd9; have hrl : (K5 1000 (envY l o) ls3).length = 3 := Gf _ _ _; have hrf := Ja2 (F := 1000) (by decide) ls3 (envY l o) (Ja HOY); obtain ⟨rs, hrs⟩ : ∃ rs, K5 1000 (envY l o) ls3 = rs := ⟨_, rfl⟩; rw [hrs] at hrp hrl hrf; have HRF := hide hrf; obtain ⟨zs, hrw⟩ := hrp.rw; obtain ⟨g, gc, hv9, hg1, hg2, hg3, hg4, -⟩ := hrw.form (by omega); subst hv9; have hI9 : ApI S U W8.heap.size db (envF l o) env2 (1 + k) (.slice (some ⟨g, 0, none⟩) rs.length gc) rs zs w4 w9 := ⟨hd9, hrw, ((Ja HKs).trans (KeepS.of (S := S) (Ja HB8)) (fun _ _ h => h)).trans hk9 (fun _ _ h => Or.inl h)⟩; rw [hrl] at hI9; have HI9 := hide hI9; have HGF : Hid (∀ wx, ApI S U W8.heap.size db (envF l o) env2 (1 + k) (.slice (some ⟨g, 0, none⟩) 3 gc) rs zs w4 wx → ∀ i, (hi : i < rs.length) → (hx : i < zs.length) → ∀ j, j < 5 → wx.cell? ⟨g, 5 * i + j, none⟩ = (Kq rs[i] zs[i])[j]?) := hide (fun wx hI i hi hx j hj => by
        obtain ⟨g', c', e1, _, _, _, _, hc⟩ := hI.rw.form (by omega); injection e1 with e1 _ _; injection e1 with e1; injection e1 with e1 _ _; subst e1; exact hc i hi hx j hj)
      have HZl := hide hrw.len; have HRl := hide hrl; have hgc : 3 ≤ gc := by omega
      have hgcI : (3 : Int) ≤ (gc : Int) := by omega
      rw [hrl]; clear hrf hU hd9 hk9 hrp hrw hrl hrs HRun HB8 hg1 hg2 hg3 hg4 hI9; go_wp2_with fail; go_loopw [15] (fun v15 wx => ∃ i : Nat, v15 = .int .i64 i ∧ i ≤ 3 ∧ ApI S U W8.heap.size db (envF l o) env2 (1 + k) (.slice (some ⟨g, 0, none⟩) 3 gc) rs zs w4 wx) (fun v _ => 3 - (intOf v).toNat)
      case atStart => exact ⟨0, rfl, by omega, Ja HI9⟩
      case round =>
        obtain ⟨i, rfl, hi, hI⟩ := hrel; have HI := hide hI; clear hI HI9; by_cases hi3 : i < 3
        · have hir : i < rs.length := by rw [Ja HRl]; exact hi3
          have hiz : i < zs.length := by rw [← Ja HZl]; exact hir
          have hrf := Ja HRF _ (List.getElem_mem hir); obtain ⟨cl, hcl⟩ : ∃ cl, rs[i].cs.length = cl := ⟨_, rfl⟩; obtain ⟨sl, hsl⟩ : ∃ sl, rs[i].sh.length = sl := ⟨_, rfl⟩; have hc2 : cl ≤ 200 := by rw [← hcl]; exact hrf.2
          have hs2 : sl ≤ 200 := by rw [← hsl]; exact hrf.1
          have i0 : (0 : Int) ≤ (i : Int) := by omega
          have i1 : (i : Int) < 3 := by omega
          obtain ⟨z, hz⟩ : ∃ z, zs[i] = z := ⟨_, rfl⟩; have HCS : Hid (∀ wx, ApI S U W8.heap.size db (envF l o) env2 (1 + k) (.slice (some ⟨g, 0, none⟩) 3 gc) rs zs w4 wx → wx.cell? ⟨g, i * 5 + 3, none⟩ = some (.slice z.co z.cn z.cc) ∧ wx.cell? ⟨g, i * 5 + 2, none⟩ = some (.slice z.so z.sn z.sc) ∧ LstW (fun b => U b ∧ W8.heap.size ≤ b ∧ (Value.slice (some ⟨g, 0, none⟩) 3 gc).ownBlock ≠ some b) wx (.slice z.co z.cn z.cc) cl ∧ LstW (fun b => U b ∧ W8.heap.size ≤ b ∧ (Value.slice (some ⟨g, 0, none⟩) 3 gc).ownBlock ≠ some b) wx (.slice z.so z.sn z.sc) sl) := hide (fun wx hI => by
            rw [← hcl, ← hsl, ← hz, Nat.mul_comm i 5]; exact ⟨(Ja HGF wx hI i hir hiz 3 (by decide)).trans rfl, (Ja HGF wx hI i hir hiz 2 (by decide)).trans rfl, hI.rw.cs i hir hiz, hI.rw.sh i hir hiz⟩)
          clear hcl hsl hz hir hiz hrf; go_wp2_with fail; go_loopw [16] (fun v16 wx => ∃ j : Nat, v16 = .int .i64 j ∧ j ≤ cl ∧ ApI S U W8.heap.size db (envF l o) env2 (1 + k) (.slice (some ⟨g, 0, none⟩) 3 gc) rs zs w4 wx) (fun v _ => cl - (intOf v).toNat)
          case atStart => exact ⟨0, rfl, Nat.zero_le _, Ja HI⟩
          case round =>
            obtain ⟨j, rfl, hj, hJ⟩ := hrel; obtain ⟨q3, q2, hlc, hls⟩ := Ja HCS _ hJ; obtain ⟨ec, hcc, hcf⟩ := hlc.at_; rw [ec] at q3; have HJ := hide hJ; clear hJ hls hlc; by_cases hjl : j < cl
            · obtain ⟨cb, co, eo, hcP, hcl2, hcel, hcfz⟩ := hcf (by omega); rw [eo] at q3; obtain ⟨y, hy⟩ := hcel j hjl; have hfz := hcfz (co + j); have HCP := hide hcP; have j0 : (0 : Int) ≤ (j : Int) := by omega
              have j1 : (j : Int) < (cl : Int) := by omega
              clear hcf hcel hcfz hcP; go_wp2_with fail; go_roundw
              case rel => exact ⟨j + 1, by go_num, by omega, (Ja HJ).set (Ja HSB) 77 (Ja HCP) hy⟩
              case measure => simp [intOf]; omega
            · have hje : j = cl := by omega
              subst hje; clear hcf hj hjl; go_wp2_with fail; go_loopw [17] (fun v17 wy => ∃ j : Nat, v17 = .int .i64 j ∧ j ≤ sl ∧ ApI S U W8.heap.size db (envF l o) env2 (1 + k) (.slice (some ⟨g, 0, none⟩) 3 gc) rs zs w4 wy) (fun v _ => sl - (intOf v).toNat)
              case atStart => exact ⟨0, rfl, Nat.zero_le _, Ja HJ⟩
              case round =>
                obtain ⟨p, rfl, hp, hP⟩ := hrel; obtain ⟨r3, r2, hlc, hls⟩ := Ja HCS _ hP; obtain ⟨es, hsc, hsf⟩ := hls.at_; rw [es] at r2; have HP := hide hP; clear hP hls hlc q3 q2 r3; by_cases hpl : p < sl
                · obtain ⟨cb, co, eo, hcP, hcl2, hcel, hcfz⟩ := hsf (by omega); rw [eo] at r2; obtain ⟨y, hy⟩ := hcel p hpl; have hfz := hcfz (co + p); have HCP := hide hcP; have p0 : (0 : Int) ≤ (p : Int) := by omega
                  have p1 : (p : Int) < (sl : Int) := by omega
                  clear hsf hcel hcfz hcP; go_wp2_with fail; go_roundw
                  case rel => exact ⟨p + 1, by go_num, by omega, (Ja HP).set (Ja HSB) 77 (Ja HCP) hy⟩
                  case measure => simp [intOf]; omega
                · have hpe : p = sl := by omega
                  subst hpe; clear hsf hp hpl; go_wp2_with fail; go_roundw
                  case rel => exact ⟨i + 1, by go_num, by omega, Ja HP⟩
                  case measure => simp [intOf]; omega
        · have hie : i = 3 := by omega
          subst hie; clear hi hi3; go_wp2_with fail; refine (N8 (Ja HI).duo (G7 l o) G2 (by decide)).mono ?_; rintro e w10 ⟨nv, rfl, hnv, hb10⟩; have hn2 : ksA.length = 2 := rfl; rw [hn2] at hnv; have HI10 : Hid (ApI S (fun b => U b ∨ (wr.heap.size ≤ b ∧ b < w10.heap.size)) W8.heap.size db (envF l o) env2 (1 + k) (.slice (some ⟨g, 0, none⟩) 3 gc) rs zs w4 w10) := hide ⟨(Ja HI).duo.more hb10, RW.below ((Ja HI).rw.mono (fun b h => Or.inl h)) hb10, (Ja HI).keep.trans (KeepS.of (S := S) hb10) (fun _ _ h => h)⟩; obtain ⟨hnl, ⟨-, h0⟩ | ⟨ng, ncap, ncur, hnf, hng, hnc, hnr⟩⟩ := id hnv
          · omega
          subst hnf; have hng2 := (hnv.lt ng rfl).2; have HNV := hide hnv; have hwB : W8.heap.size ≤ wr.heap.size := by
            obtain ⟨_, _, _, _, q1, q2, _⟩ := (Ja HI).rw.form (by rw [Ja HRl]; decide); omega
          clear hnv hb10 hnl hnc hnr hn2; go_wp2_with fail; go_loopw [19] (fun v19 wx => ∃ j : Nat, v19 = .int .i64 j ∧ j ≤ 2 ∧ Duo 1000 (fun b => U b ∨ (wr.heap.size ≤ b ∧ b < w10.heap.size)) db (envF l o) 5 (db + 1) env2 (1 + k) wx ∧ KeepS S w4 wx ∧ ∃ cells, wx.ownsRow wr.heap.size 9 1 (.slice (some ⟨ng, 0, none⟩) 2 ncap) 2 cells) (fun v _ => 2 - (intOf v).toNat)
          case atStart => exact ⟨0, rfl, by omega, (Ja HI10).duo, (Ja HI10).keep, _, Ja HNV⟩
          case round =>
            obtain ⟨j, rfl, hj, hdu, hks, cells, hown⟩ := hrel; have HDu2 := hide hdu; have HKs2 := hide hks; by_cases hj2 : j < 2
            · have hcl : cells.length = 2 := by have := hown.1; omega
              have hcj := (hown.cellAt j (by omega)).trans (List.getElem?_eq_getElem (by omega : j < cells.length)); obtain ⟨u, hu⟩ : ∃ u, cells[j] = u := ⟨_, rfl⟩; rw [hu] at hcj; have hfz := hown.frozenAt j; have HO2 := hide (hown.stored j (.string ⟨#[109, 105, 110, 101]⟩)).1; have j0 : (0 : Int) ≤ (j : Int) := by omega
              have j1 : (j : Int) < 2 := by omega
              have HNS : Hid (¬ S ng) := hide (fun h => by have := Ja HSB ng h; omega); have h6 : 6 ≤ ng := (hdu.at_ (b := ng) (Or.inr ⟨hng, hng2⟩)).1; clear hdu hks hown hcl hu; go_wp2_with fail; go_roundw
              case rel => exact ⟨j + 1, by go_num, by omega, (Ja HDu2).set (Or.inr ⟨by omega, by omega⟩) j _, (Ja HKs2).set (Ja HNS) h6 j _, _, Ja HO2⟩
              case measure => simp [intOf]; omega
            · have hje : j = 2 := by omega
              subst hje; clear hdu hks hown hj hj2; go_wp2_with fail; refine (N8 (Ja HDu2) (G7 l o) G2 (by decide)).mono ?_; rintro e w11 ⟨mv, rfl, hmv, hb11⟩; have hn2 : ksA.length = 2 := rfl; rw [hn2] at hmv; obtain ⟨hml, ⟨-, h0⟩ | ⟨mg, mcap, mcur, hmf, hmg, hmc, hmr⟩⟩ := id hmv
              · omega
              subst hmf; have hm0 : w11.cell? ⟨mg, 0, none⟩ = some (.string ⟨#[120]⟩) := (hmv.cellAt 0 (by omega)).trans rfl; have hm1 : w11.cell? ⟨mg, 1, none⟩ = some (.string ⟨#[121]⟩) := (hmv.cellAt 1 (by omega)).trans rfl; have hmg2 := (hmv.lt mg rfl).2; have HM0 := hide hm0; have HM1 := hide hm1; have HD11 := hide ((Ja HDu2).below hb11); have HK11 : Hid (KeepS S w4 w11) := hide ((Ja HKs2).trans (KeepS.of (S := S) hb11) (fun _ _ h => h)); have HNL11 := hide ((Ja HK11).nums (Ja HNL) (fun _ h => h)); have hmc2 : 2 ≤ mcap := by omega
              have hs11 : w4.heap.size ≤ w11.heap.size := Bs.size (Ja HK11); clear hmv hb11 hml hmc hmr hn2 hm0 hm1; go_wp2_with fail; refine (Jf7 (Ja HD11) (Ja HOF) (Jpt (Jo8 l o)) Jn6 (Ja HNL11) (by omega)).mono ?_; rintro e w12 ⟨rfl, hb12⟩; have HD12 := hide ((Ja HD11).below hb12); have HNL12 := hide ((Ja HNL11).below hb12); have HB12 := hide hb12; clear hb12; go_wp2_with fail; refine (Jf7 (Ja HD12) (Ja HOF) (Jps (Jo7 l o)) Jn5 (Ja HNL12) (by omega)).mono ?_; rintro e w13 ⟨rfl, hb13⟩; have hb113 := (Ja HB12).trans (hb13.mono (Ja HB12).size); have y0 := (hb113.cell (p := ⟨mg, 0, none⟩) hmg2).trans (Ja HM0); have y1 := (hb113.cell (p := ⟨mg, 1, none⟩) hmg2).trans (Ja HM1); have HK13 : Hid (KeepS S w4 w13) := hide ((Ja HK11).trans (KeepS.of (S := S) hb113) (fun _ _ h => h)); clear hb13 hb113; go_wp2_with fail; exact bodyPost_ret (v := .bool true) (by simp [results, Tryz.results5, go_sem]) rfl ⟨rfl, by rw [Ja HDB]; exact (Ja HB4).trans ((Ja HK13).whole hdb4 (Ja HSl))⟩
end Go.Proofs.YtjobgpahajhbnabGreatDoor
