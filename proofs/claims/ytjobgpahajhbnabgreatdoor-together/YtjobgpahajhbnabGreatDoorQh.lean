import Derived.Test.YtjobgpahajhbnabGreatDoorOg
import Derived.BigQuiet
namespace Go.Proofs.YtjobgpahajhbnabGreatDoor
open Go.RowKit Go.Proofs
attribute [local go_sem ↓] Go.wp_at_zero Go.wp_at_succ
def qL : ByteArray := ⟨#[113, 32, 105, 115, 32, 53]⟩
noncomputable def envQ : ByteArray → Option Arr := envA env0 1000 qL
theorem Jnm : ans env0 1000 qL = .inr (⟨[], [5]⟩, 0) := Joh (by kernel_rfl)
theorem F2 : EnvOk envQ := Jhx (by decide) Jby
theorem Job : EnvN envQ := Jlm (fun t a h => by cases h)
theorem Jmz : ∃ ks, Ks envQ 1 ks := Jhg (ks := []) (n := 0) ⟨List.nodup_nil, fun x => by simp [env0], by simp⟩ qL
theorem Jir {P : Nat → Prop} {w : World} {ao : Option Addr} {ls : List ByteArray} (h : Txts P w ao ls) (k : Nat) : Txts P w ao (ls.take k) := fun h0 => by
  have hl : 0 < ls.length := by simp at h0; omega
  obtain ⟨b, off, e1, e2, e3, e4⟩ := h hl
  exact ⟨b, off, e1, e2, e3, fun i hi => by rw [e4 i (by simp at hi; omega)]; simp⟩
theorem G0 {w : World} {B : Nat} {v : Value} {ks : List (List UInt8)} (h : w.ownsRow B 9 1 v ks.length (ks.map encStr)) : ∃ o c, v = .slice o ks.length c ∧ ks.length ≤ c ∧ (0 < ks.length → ∃ g, o = some ⟨g, 0, none⟩ ∧ g < w.heap.size ∧ ∀ j, (h : j < ks.length) → w.cell? ⟨g, j, none⟩ = some (.string ⟨(ks[j]).toArray⟩)) := by
  have hown := h
  obtain ⟨hl, ⟨rfl, h0⟩ | ⟨g, cap, cur, rfl, hg, hc, r⟩⟩ := h
  · exact ⟨none, 0, by rw [h0], by omega, fun h => by omega⟩
  · refine ⟨some ⟨g, 0, none⟩, cap, rfl, r.1, fun _ => ⟨g, rfl, (hown.lt g rfl).2, fun j hj => ?_⟩⟩
    rw [hown.cellAt j (by omega)]
    simp [hj, encStr]
set_option maxHeartbeats 8000000 in
set_option maxRecDepth 20000 in
theorem Nh (bo : Option Addr) (m bcap : Nat) (ls : List ByteArray) (cut : Int) (hf : Jg cut) (w : World) (hE : Evs w)
    (hT : Txts (fun _ => True) w bo ls) (hm : ls.length = m) (hms : ∀ s ∈ ls, s.size ≤ 9223372036854775807) (hcap : m ≤ bcap) (hmx : bcap ≤ 9223372036854775807) (hsp : ∀ a, bo = some a → a.spot = none ∨ m = 0) :
    Calls Tryz.prog 3 #[.slice bo m bcap, .int .i64 cut] w fun e w' => e = .returned (.bool true) ∧ Below w.heap.size w w' := by
  have HD2 := hide (Jm0 (F := 1000) hE)
  obtain ⟨W2, hW2⟩ : ∃ W2, (w.alloc (.cells #[.int .i64 1000, .map none] 59)).alloc (.cells #[.int .i64 1000, .map none] 59) = W2 := ⟨_, rfl⟩
  have hb2 : Below w.heap.size w W2 := by rw [← hW2]; exact ((Below.refl _ _).alloc (Nat.le_refl _) _).alloc (by simp) _
  rw [hW2] at HD2
  have HPk := hide (fun (q : Int) (hq : 0 < q) w => Jjq cut q hf hq w)
  have HB2 := hide hb2
  have HMS := hide hms
  obtain ⟨S, hS⟩ : ∃ S, (fun b => 6 ≤ b ∧ b < w.heap.size) = S := ⟨_, rfl⟩
  have HSl : Hid (∀ b, 6 ≤ b → b < w.heap.size → S b) := hide (fun b h1 h2 => by rw [← hS]; exact ⟨h1, h2⟩)
  rw [hS] at HD2
  have HTx : Hid (∀ wr, KeepS S W2 wr → Txts (fun b => 6 ≤ b → S b) wr bo ls) := hide (fun wr hk h0 => by
    obtain ⟨lb, off, e1, _, hlb, hcell⟩ := hT h0
    have hlb2 := Nat.lt_of_lt_of_le hlb hb2.size
    exact ⟨lb, off, e1, fun h6 => Ja HSl lb h6 hlb, Nat.lt_of_lt_of_le hlb2 (Bs.size hk), fun i hi => (hk.lowc hlb2 (fun h6 => Ja HSl lb h6 hlb)).trans ((hb2.cell (p := ⟨lb, off + i, none⟩) hlb).trans (hcell i hi))⟩)
  obtain ⟨db, hdb⟩ : ∃ db, w.heap.size = db := ⟨_, rfl⟩
  have HDB := hide hdb
  rw [hdb] at HD2 HSl HB2
  have hdb2 : db ≤ W2.heap.size := by have := hb2.size; omega
  clear hf hE hT hms hb2 hS
  go_enter Tryz.func3, Tryz.ntmps3
  go_wp2_with (go_at_call 6; refine (Jkz _).mono ?_; rintro e w' ⟨rfl, rfl⟩)
  try rw [hW2]
  clear hW2
  clear hdb
  refine (Jc5 (Ja HD2) Jby (by decide) Jnm).mono ?_
  rintro e w3 ⟨rfl, hd3, hk3⟩
  have HD3 : Hid (Duo 1000 S db envQ 1 (db + 1) env0 0 w3) := hide hd3
  have HK3 := hide hk3
  clear hd3 hk3 HD2
  go_wp2_with fail
  refine (Jc5 (Ja HD3).symm Jby (by decide) Jnm).mono ?_
  rintro e w4 ⟨rfl, hd4, hk4⟩
  have HD4 : Hid (Duo 1000 S db envQ 1 (db + 1) envQ 1 w4) := hide hd4.symm
  have HK4 : Hid (KeepS S W2 w4) := hide ((Ja HK3).trans hk4 (fun _ _ h => h))
  clear hd4 hk4 HD3 HK3
  go_upto_if 50 with fail
  go_cut [9] from 51 to 52 (fun v9 wx => wx = w4 ∧ ∃ M : Nat, v9 = .slice bo M bcap ∧ M ≤ 50 ∧ M ≤ m ∧ (m ≤ 50 → M = m))
  case first =>
    by_cases h50 : m ≤ 50
    · have h50' : (m : Int) ≤ 50 := by omega
      go_wp2_with fail
      go_meet
      case rel => exact ⟨rfl, m, rfl, h50, Nat.le_refl _, fun _ => rfl⟩
    · have h50' : (50 : Int) < m := by omega
      have h51 : (50 : Int) ≤ bcap := by omega
      go_wp2_with fail
      go_meet
      case rel => exact ⟨rfl, 50, rfl, by omega, by omega, fun h => by omega⟩
  case rest =>
    obtain ⟨rfl, M, rfl, hM50, hMm, hMe⟩ := hcut
    have hMI : (M : Int) ≤ 50 := by omega
    have hM0 : (0 : Int) ≤ (M : Int) := by omega
    go_wp2_with fail
    refine (Ja HPk _ (by omega) _).mono ?_
    rintro e w' ⟨⟨r, rfl, hr0, hr1⟩, hw'⟩
    have hw'' := hw'.symm
    subst hw''
    clear hw' HPk
    obtain ⟨kk, rfl⟩ : ∃ kk : Nat, r = (kk : Int) := ⟨r.toNat, by omega⟩
    obtain ⟨n2, rfl⟩ : ∃ n2 : Nat, M = kk + n2 := ⟨M - kk, by omega⟩
    have hkI : (kk : Int) ≤ ((kk + n2 : Nat) : Int) := by omega
    have hkc : (kk : Int) ≤ (bcap : Int) := by omega
    have hMc : ((kk + n2 : Nat) : Int) ≤ (bcap : Int) := by omega
    have hsb : kk + n2 - kk = n2 := by omega
    have hLl : kk + n2 ≤ ls.length := by omega
    have hk50 : kk ≤ 50 := by omega
    have hn50 : n2 ≤ 50 := by omega
    have HR1 := hide (Jbi (cap := bcap) (n := kk) (ls := ls.take kk) (Ja HD4) F2 (by simp; omega) (by omega) (by omega) (fun t ht => Ja HMS t (List.mem_of_mem_take ht)) (Jir (Ja HTx _ (Ja HK4)) kk))
    go_wp2_with fail
    refine (Ja HR1).mono ?_
    rintro e w5 ⟨v1, U1, rfl, hU1, hd5, hk5, hrp1⟩
    have hl1 : (Ze 1000 envQ (ls.take kk)).length = kk := by rw [Vb]; simp; omega
    obtain ⟨rs1, hrs1⟩ : ∃ rs1, Ze 1000 envQ (ls.take kk) = rs1 := ⟨_, rfl⟩
    obtain ⟨env1, henv1⟩ : ∃ env1, Yv 1000 envQ (ls.take kk) = env1 := ⟨_, rfl⟩
    have hok1 : EnvOk env1 := by rw [← henv1]; exact Q3 (by decide) _ _ F2
    rw [hrs1] at hrp1 hl1
    rw [henv1] at hd5
    obtain ⟨o1, c1, hv1, hc1⟩ : ∃ o1 c1, v1 = .slice o1 kk c1 ∧ kk ≤ c1 := by
      obtain ⟨xs, _, hown, _⟩ := hrp1
      obtain ⟨_, ⟨rfl, h0⟩ | ⟨g, cap, cur, rfl, _, _, r, _⟩⟩ := hown
      · exact ⟨none, 0, by rw [← hl1, h0], by omega⟩
      · exact ⟨_, cap, by rw [hl1], by omega⟩
    subst hv1
    obtain ⟨ls2, hls2⟩ : ∃ ls2, (ls.take (kk + n2)).drop kk = ls2 := ⟨_, rfl⟩
    have hl2 : ls2.length = n2 := by rw [← hls2]; simp; omega
    have HLS : Hid (ls.take (kk + n2) = ls.take kk ++ ls2) := hide ((List.take_append_drop kk (ls.take (kk + n2))).symm.trans (by rw [List.take_take, Nat.min_eq_left (by omega), hls2]))
    have HK5 : Hid (KeepS S W2 w5) := hide ((Ja HK4).trans hk5 (fun _ _ h => h))
    have HT2 : Hid (∀ ao', (0 < n2 → ao' = bo.map (fun x => x.add kk)) → Txts (fun b => 6 ≤ b → U1 b) w5 ao' ls2) := hide (fun ao' ha h0 => by
      rw [← hls2] at h0 ⊢
      obtain ⟨b, off, e1, e2, e3⟩ := Jdl (Ja HTx _ (Ja HK5)) hLl ha h0
      exact ⟨b, off, e1, fun h6 => hU1 b (e2 h6), e3⟩)
    have HR2 : Hid (∀ ao' cap', (0 < n2 → ao' = bo.map (fun x => x.add kk)) → Calls Tryz.prog 9 #[.pointer (some ⟨db, 0, none⟩), .slice ao' n2 cap'] w5 fun e' w' => ∃ v U, e' = .returned v ∧ (∀ b, U1 b → U b) ∧ Duo 1000 U db (Yv 1000 env1 ls2) (1 + kk + n2) (db + 1) envQ 1 w' ∧ KeepS U1 w5 w' ∧ Reps U w5.heap.size w' v (Ze 1000 env1 ls2)) := hide (fun ao' cap' ha =>
      Jbi (cap := cap') (n := n2) (ls := ls2) hd5 hok1 hl2 hn50 (by omega) (fun t ht => Ja HMS t (by rw [← hls2] at ht; exact List.mem_of_mem_take (List.mem_of_mem_drop ht))) (Ja HT2 ao' ha))
    have hl2r : (Ze 1000 env1 ls2).length = n2 := by rw [Vb]; exact hl2
    obtain ⟨rs2, hrs2⟩ : ∃ rs2, Ze 1000 env1 ls2 = rs2 := ⟨_, rfl⟩
    have HAll : Hid (Ze 1000 envQ (ls.take (kk + n2)) = rs1 ++ rs2) := hide (by rw [Ja HLS, Jaz, hrs1, henv1, hrs2])
    have HEnvM : Hid (Yv 1000 envQ (ls.take (kk + n2)) = Yv 1000 env1 ls2) := hide (by rw [Ja HLS, Jap, henv1])
    rw [hrs2] at HR2 hl2r
    have HU1 := hide hU1
    have HP1 := hide hrp1
    have HL1 := hide hl1
    have HL2 := hide hl2r
    have HHL : Hid (kk + n2 ≤ ls.length) := hide hLl
    have HMe := hide hMe
    have h45 := Bs.size hk5
    clear hd5 hU1 hrp1 hrs1 hl1 hk5 HR1 hl2 hl2r hrs2 hls2 HT2 henv1 hok1 hLl hMe HD4
    go_upto_region 10 with fail
    go_cut [12] from 63 to 67 (fun v12 wx => ∃ o2 c2 U2, v12 = .slice o2 n2 c2 ∧ n2 ≤ c2 ∧ (∀ b, U1 b → U2 b) ∧ Duo 1000 U2 db (Yv 1000 env1 ls2) (1 + kk + n2) (db + 1) envQ 1 wx ∧ KeepS U1 w5 wx ∧ Reps U2 w5.heap.size wx v12 rs2)
    case first =>
      go_wp2_with fail
      all_goals
        refine (Ja HR2 _ _ (by first | (intro _; rfl) | (intro h; omega))).mono ?_
        rintro e w6 ⟨v2, U2, rfl, hU2, hd6, hk6, hrp2⟩
        obtain ⟨o2, c2, hv2, hc2⟩ : ∃ o2 c2, v2 = .slice o2 n2 c2 ∧ n2 ≤ c2 := by
          obtain ⟨xs, _, hown, _⟩ := hrp2
          obtain ⟨_, ⟨rfl, h0⟩ | ⟨g, cap, cur, rfl, _, _, r, _⟩⟩ := hown
          · exact ⟨none, 0, by rw [← Ja HL2, h0], by have := Ja HL2; omega⟩
          · exact ⟨_, cap, by rw [Ja HL2], by have := Ja HL2; omega⟩
        subst hv2
        have HX := hide (show (∀ b, U1 b → U2 b) ∧ Duo 1000 U2 db (Yv 1000 env1 ls2) (1 + kk + n2) (db + 1) envQ 1 w6 ∧ KeepS U1 w5 w6 ∧ Reps U2 w5.heap.size w6 (.slice o2 n2 c2) rs2 from ⟨hU2, hd6, hk6, hrp2⟩)
        clear hU2 hd6 hk6 hrp2
        go_wp2_with fail
        first | subst h | skip
        go_meet
        case rel => exact ⟨o2, c2, U2, rfl, hc2, Ja HX⟩
    case rest =>
      obtain ⟨o2, c2, U2, rfl, hc2, hU2, hd6, hk6, hrp2⟩ := hcut
      have hrp1 := ((Ja HP1).keep hk6 (fun _ h => h)).mono (U := U2) (fun b h _ => hU2 b h)
      have h56 := Bs.size hk6
      have HB1 : Hid (∀ g, (Value.slice o1 kk c1).ownBlock = some g → g < w5.heap.size) := hide (fun g hg => by
        obtain ⟨xs, _, hown, _⟩ := Ja HP1
        exact (hown.lt g hg).2)
      have HRow : Hid (∀ g, (Value.slice o1 kk c1).ownBlock = some g → U2 g) := hide (fun g hg => by
        obtain ⟨xs, _, hown, hb, _⟩ := hrp1
        exact hb g hg)
      have HKD : Hid (∀ g, (Value.slice o1 kk c1).ownBlock = some g → W2.heap.size ≤ g) := hide (fun g hg => by
        obtain ⟨xs, _, hown, hb, _⟩ := hrp1
        have h1 := (hown.lt g hg).1
        have h2 := Bs.size (Ja HK4)
        omega)
      have HK6 : Hid (KeepS S W2 wc) := hide ((Ja HK5).trans hk6 (fun b _ h => Ja HU1 b h))
      have HSU : Hid (∀ b, S b → U2 b) := hide (fun b h => hU2 b (Ja HU1 b h))
      have HP1' := hide hrp1
      have HP2 := hide hrp2
      have HD6 := hide hd6
      have hI2 : ((kk + n2 : Nat) : Int) - (kk : Int) = (n2 : Int) := by omega
      have hlr : rs1.length + rs2.length ≤ 1000 := by have := Ja HL1; have := Ja HL2; omega
      clear hU2 hd6 hk6 hrp1 hrp2 HR2 HP1
      go_wp2_with (at_builtin; refine Ja2 rfl _ _ rfl h45 (Ja HB1) h56 (Ja HP1') (Ja HP2) hlr rfl rfl ?_)
      intro v7 w7 hrp7 hgr
      have h67 := hgr.size
      obtain ⟨U3, hU3⟩ : ∃ U3, (fun b => U2 b ∨ (wc.heap.size ≤ b ∧ b < w7.heap.size)) = U3 := ⟨_, rfl⟩
      have hd7 := (Ja HD6).grown hgr (Ja HRow)
      rw [hU3] at hrp7 hd7
      have HSU3 : Hid (∀ b, S b → U3 b) := hide (fun b h => by rw [← hU3]; exact Or.inl (Ja HSU b h))
      have HK7 : Hid (KeepS S W2 w7) := hide (Bs.grown (Ja HK6) (Below.refl _ _) hgr (Ja HKD))
      obtain ⟨xs7, hrd⟩ := hrp7.rd
      have hl7 : (rs1 ++ rs2).length = kk + n2 := by rw [List.length_append, Ja HL1, Ja HL2]
      rw [← Ja HAll] at hrd hl7
      obtain ⟨RS, hRS⟩ : ∃ RS, Ze 1000 envQ (ls.take (kk + n2)) = RS := ⟨_, rfl⟩
      obtain ⟨envM, hEM⟩ : ∃ envM, Yv 1000 env1 ls2 = envM := ⟨_, rfl⟩
      rw [hRS] at hrd hl7
      rw [hEM] at hd7
      have HEM : Hid (Yv 1000 envQ (ls.take (kk + n2)) = envM) := hide (by rw [Ja HEnvM, hEM])
      obtain ⟨o7, c7, hv7, hc7⟩ : ∃ o7 c7, v7 = .slice o7 (kk + n2) c7 ∧ kk + n2 ≤ c7 := by
        obtain ⟨ao, cap, e1, e2, _⟩ := hrd.frm
        exact ⟨ao, cap, by rw [e1, hl7], by omega⟩
      subst hv7
      have HRS := hide hRS
      have HRd := hide hrd
      have HD7 := hide hd7
      have HL7 := hide hl7
      obtain ⟨M, hMd⟩ : ∃ M, kk + n2 = M := ⟨_, rfl⟩
      rw [hMd] at HL7 HHL HEM HRS HMe hM50 hMm hMI hM0 hc7 ⊢
      rw [show 1 + kk + n2 = 1 + M by omega] at HD7
      clear hrp7 hgr hU3 hd7 hrd hl7 hRS hEM HD6 HP1' HP2 HRow HB1 HKD HK6 HSU HAll HEnvM HLS HK5 HK4 hsb hI2 hkI hkc hMc hr0 hr1 hlr hc1 hc2 hk50 hn50 h45 h56 h67 hMd HL1 HL2 HU1
      go_wp2_with fail
      go_loopw [13] (fun v wr => ∃ i : Nat, v = .int .i64 i ∧ i ≤ M ∧ Duo 1000 U3 db envM (1 + M) (db + 1) (Yv 1000 envQ (ls.take i)) (1 + i) wr ∧ KeepS U3 w7 wr) (fun v _ => M - (intOf v).toNat)
      case atStart => exact ⟨0, rfl, Nat.zero_le _, Ja HD7, KeepS.of (Below.refl _ _)⟩
      case round =>
        obtain ⟨i, rfl, hi, hdu, hks⟩ := hrel
        have HDu := hide hdu
        have HKs := hide hks
        have HKW : Hid (KeepS S W2 wr) := hide ((Ja HK7).trans hks (fun b _ h => Ja HSU3 b h))
        clear hdu hks HD7
        by_cases hiM : i < M
        · have hil : i < ls.length := by have := Ja HHL; omega
          obtain ⟨lb, off, rfl, -, -, hcell⟩ := Ja HTx wr (Ja HKW) (by omega)
          have hc := hcell i hil
          have HTk : Hid (ls.take (i + 1) = ls.take i ++ [ls[i]]) := hide (List.take_succ_eq_append_getElem hil)
          obtain ⟨s, hs⟩ : ∃ s, ls[i] = s := ⟨_, rfl⟩
          have hsz : s.size ≤ 9223372036854775807 := by rw [← hs]; exact Ja HMS _ (List.getElem_mem hil)
          obtain ⟨envi, hei⟩ : ∃ envi, Yv 1000 envQ (ls.take i) = envi := ⟨_, rfl⟩
          have hoki : EnvOk envi := by rw [← hei]; exact Q3 (by decide) _ _ F2
          have hRi : RS[i]? = some (ansR envi 1000 s) := by
            rw [← Ja HRS, Jdc 1000 (ls.take M) envQ i (by simp; omega), List.take_take, Nat.min_eq_left (by omega), hei]
            simp [hs]
          rw [hs] at hc HTk
          rw [hei] at HDu
          have HNx : Hid (Yv 1000 envQ (ls.take (i + 1)) = envA envi 1000 s) := hide (by rw [Ja HTk, Vo, hei])
          obtain ⟨W8, hW8⟩ : ∃ W8, wr.alloc (.cells #[.string s] 9) = W8 := ⟨_, rfl⟩
          have hb8 : Below wr.heap.size wr W8 := by rw [← hW8]; exact (Below.refl _ _).alloc (Nat.le_refl _) _
          have hc8 : W8.cell? ⟨wr.heap.size, 0, none⟩ = some (.string s) := by rw [← hW8]; exact (World.cell?_alloc_at _ _ _ _ rfl).trans rfl
          have hl8 : wr.heap.size < W8.heap.size := by rw [← hW8]; simp
          have HRun := hide (Jbi (cap := 1) (n := 1) (ls := [s]) ((Ja HDu).more hb8).symm hoki rfl (by decide) (by omega) (by intro t ht; simp at ht; subst ht; exact hsz) (Jis (s := s) (fun _ => Or.inr ⟨Nat.le_refl _, hl8⟩) hl8 hc8))
          have HB8 := hide hb8
          have HRi := hide hRi
          have HOKI := hide hoki
          have i0 : (0 : Int) ≤ (i : Int) := by omega
          have i1 : (i : Int) < (M : Int) := by omega
          clear hb8 hc8 hl8 hcell hs hsz hei hoki hRi hil
          go_wp2_with fail
          try rw [hW8]
          clear hW8
          refine (Ja HRun).mono ?_
          rintro e w9 ⟨v9, U, rfl, hU, hd9, hk9, hrp9⟩
          have hU3U : ∀ b, U3 b → U b := fun b h => hU b (Or.inl h)
          have hk79 : KeepS U3 w7 w9 := ((Ja HKs).trans (KeepS.of (S := U3) (Ja HB8)) (fun _ _ h => h)).trans hk9 (fun _ _ h => Or.inl h)
          have HD9 : Hid (Duo 1000 U3 db envM (1 + M) (db + 1) (envA envi 1000 s) (1 + (i + 1)) w9) := hide ((hd9.symm.less (S' := U3) hU3U))
          have hrd7 := (Ja HRd).keep hk79 (fun _ h => h)
          obtain ⟨xs9, hrd9⟩ := hrp9.rd
          obtain ⟨g9, c9, z9, hv9, hc9, hg9, -, hq9, hsh9, hcs9⟩ := RdR.one (r := ansR envi 1000 s) hrd9
          subst hv9
          have hiR : i < RS.length := by rw [Ja HL7]; exact hiM
          have hiX : i < xs7.length := by rw [← hrd7.len]; exact hiR
          have hRe : RS[i] = ansR envi 1000 s := by have := Ja HRi; rw [List.getElem?_eq_getElem hiR] at this; exact Option.some.inj this
          obtain ⟨g7, c7', hv7, -⟩ := hrd7.form (by omega)
          injection hv7 with hv7 hvx hvy
          clear hvx hvy
          subst hv7
          obtain ⟨hg7, hq7⟩ := hrd7.cell hiR hiX
          have hsh7 := hrd7.sh i hiR hiX
          have hcs7 := hrd7.cs i hiR hiX
          rw [hRe] at hq7 hsh7 hcs7
          obtain ⟨⟨er, at_, sh, cs, cost⟩, hR⟩ : ∃ R : Rp, ansR envi 1000 s = R := ⟨_, rfl⟩
          have hfew := Jk8 (env := envi) (F := 1000) (s := s) (by decide) (Ja HOKI)
          obtain ⟨⟨so9, sn9, sc9, co9, cn9, cc9⟩, hz9⟩ : ∃ z, z9 = z := ⟨_, rfl⟩
          obtain ⟨⟨so7, sn7, sc7, co7, cn7, cc7⟩, hz7⟩ : ∃ z, xs7[i] = z := ⟨_, rfl⟩
          rw [hR] at hq9 hsh9 hcs9 hq7 hsh7 hcs7 hfew
          rw [hz9] at hq9 hsh9 hcs9
          rw [hz7] at hq7 hsh7 hcs7
          have a0 : w9.cell? ⟨g9, 0, none⟩ = some (.int .i64 er) := (hq9 0 (by decide)).trans rfl
          have a1 : w9.cell? ⟨g9, 1, none⟩ = some (.int .i64 at_) := (hq9 1 (by decide)).trans rfl
          have a2 : w9.cell? ⟨g9, 2, none⟩ = some (.slice so9 sn9 sc9) := (hq9 2 (by decide)).trans rfl
          have a3 : w9.cell? ⟨g9, 3, none⟩ = some (.slice co9 cn9 cc9) := (hq9 3 (by decide)).trans rfl
          have a4 : w9.cell? ⟨g9, 4, none⟩ = some (.int .i64 cost) := (hq9 4 (by decide)).trans rfl
          have b0 : w9.cell? ⟨g7, i * 5, none⟩ = some (.int .i64 er) := (hq7 0 (by decide)).trans rfl
          have b1 : w9.cell? ⟨g7, i * 5 + 1, none⟩ = some (.int .i64 at_) := (hq7 1 (by decide)).trans rfl
          have b2 : w9.cell? ⟨g7, i * 5 + 2, none⟩ = some (.slice so7 sn7 sc7) := (hq7 2 (by decide)).trans rfl
          have b3 : w9.cell? ⟨g7, i * 5 + 3, none⟩ = some (.slice co7 cn7 cc7) := (hq7 3 (by decide)).trans rfl
          have b4 : w9.cell? ⟨g7, i * 5 + 4, none⟩ = some (.int .i64 cost) := (hq7 4 (by decide)).trans rfl
          have hsh9' : Nums U w9 (.slice so9 sn9 sc9) sh := hsh9
          have hcs9' : Nums U w9 (.slice co9 cn9 cc9) cs := hcs9
          have hsh7' : Nums U3 w9 (.slice so7 sn7 sc7) sh := hsh7
          have hcs7' : Nums U3 w9 (.slice co7 cn7 cc7) cs := hcs7
          obtain ⟨e1, m1, p1⟩ := J1 hsh9'
          obtain ⟨e2, m2, p2⟩ := J1 hcs9'
          obtain ⟨e3, m3, p3⟩ := J1 hsh7'
          obtain ⟨e4, m4, p4⟩ := J1 hcs7'
          have f1 : sh.length ≤ 200 := hfew.1
          have f2 : cs.length ≤ 200 := hfew.2
          subst e1 e2 e3 e4
          have P1 := hide p1
          have P2 := hide p2
          have P3 := hide p3
          have P4 := hide p4
          have HK79 := hide hk79
          have hc7I : (M : Int) ≤ (c7 : Int) := by omega
          clear hU hd9 hk9 hrp9 hU3U hk79 hrd7 hrd9 hq9 hsh9 hcs9 hsh7 hcs7 hq7 hRe hR hz9 hz7 hsh9' hcs9' hsh7' hcs7' p1 p2 p3 p4 hfew hiX hiR
          have n0 : (er != er) = false := by simp
          have n1 : (at_ != at_) = false := by simp
          have n2' : (cost != cost) = false := by simp
          have n3 : ((sh.length : Int) != (sh.length : Int)) = false := by simp
          have n4 : ((cs.length : Int) != (cs.length : Int)) = false := by simp
          go_upto_region 18 with fail
          go_cut [163] from 84 to 213 (fun v163 wx => v163 = .bool false ∧ Below w9.heap.size w9 wx)
          case first =>
            as_aux_lemma =>
              clear HMS HTx HB2 HSl HDB HHL HMe HSU3 HK7 HRd HRS HL7 HEM HKW HTk HNx HB8 HRi HOKI HD9 P1 P2 P3 P4 HK79 HRun HDu HKs
              go_quiet (fail)
              go_wp2_with fail
              go_meet
              case rel => exact ⟨rfl, below_drewN (Below.refl _ _) _⟩
          case rest =>
          obtain ⟨rfl, hbx⟩ := hcut
          have HBX := hide hbx
          clear hbx
          go_wp2_with fail
          go_loopw [15] (fun v wx => ∃ k : Nat, v = .int .i64 k ∧ k ≤ sh.length ∧ Below w9.heap.size w9 wx) (fun v _ => sh.length - (intOf v).toNat)
          case atStart => exact ⟨0, rfl, by omega, Ja HBX⟩
          case round =>
            obtain ⟨k, rfl, hk, hbe⟩ := hrel
            have y2 := (hbe.cell (p := ⟨g9, 2, none⟩) hg9).trans a2
            have y3 := (hbe.cell (p := ⟨g7, i * 5 + 2, none⟩) hg7).trans b2
            by_cases hkl : k < sh.length
            · obtain ⟨d1, x1, rfl, l1, q1⟩ := Ja P1 (by omega)
              obtain ⟨d2, x2, rfl, l2, q2⟩ := Ja P3 (by omega)
              have y4 := (hbe.cell (p := ⟨d1, x1 + k, none⟩) l1).trans (q1 k hkl)
              have y5 := (hbe.cell (p := ⟨d2, x2 + k, none⟩) l2).trans (q2 k hkl)
              obtain ⟨x, hx⟩ : ∃ x, sh[k] = x := ⟨_, rfl⟩
              rw [hx] at y4 y5
              have HBe := hide hbe
              have k0 : (0 : Int) ≤ (k : Int) := by omega
              have k1 : (k : Int) < (sh.length : Int) := by omega
              clear q1 q2 hbe hx a0 a1 a2 a3 a4 b0 b1 b2 b3 b4
              go_wp2_with fail
              go_region
              go_wp2_with fail
              go_roundw
              case rel => exact ⟨k + 1, by go_num, by omega, (Ja HBe).drew⟩
              case measure => simp [intOf]; omega
            · have hke : k = sh.length := by omega
              subst hke
              have HBe := hide hbe
              clear hbe hk hkl
              go_wp2_with fail
              go_loopw [16] (fun v wx => ∃ k : Nat, v = .int .i64 k ∧ k ≤ cs.length ∧ Below w9.heap.size w9 wx) (fun v _ => cs.length - (intOf v).toNat)
              case atStart => exact ⟨0, rfl, by omega, Ja HBe⟩
              case round =>
                obtain ⟨k, rfl, hk, hbe⟩ := hrel
                have t2 := (hbe.cell (p := ⟨g9, 3, none⟩) hg9).trans a3
                have t3 := (hbe.cell (p := ⟨g7, i * 5 + 3, none⟩) hg7).trans b3
                by_cases hkl : k < cs.length
                · obtain ⟨d1, x1, rfl, l1, q1⟩ := Ja P2 (by omega)
                  obtain ⟨d2, x2, rfl, l2, q2⟩ := Ja P4 (by omega)
                  have y4 := (hbe.cell (p := ⟨d1, x1 + k, none⟩) l1).trans (q1 k hkl)
                  have y5 := (hbe.cell (p := ⟨d2, x2 + k, none⟩) l2).trans (q2 k hkl)
                  obtain ⟨x, hx⟩ : ∃ x, cs[k] = x := ⟨_, rfl⟩
                  rw [hx] at y4 y5
                  have HBe2 := hide hbe
                  have k0 : (0 : Int) ≤ (k : Int) := by omega
                  have k1 : (k : Int) < (cs.length : Int) := by omega
                  clear q1 q2 hbe hx a0 a1 a2 a3 a4 b0 b1 b2 b3 b4 y2 y3
                  go_wp2_with fail
                  go_region
                  go_wp2_with fail
                  go_roundw
                  case rel => exact ⟨k + 1, by go_num, by omega, (Ja HBe2).drew⟩
                  case measure => simp [intOf]; omega
                · have hke : k = cs.length := by omega
                  subst hke
                  have HBe2 := hide hbe
                  clear hbe hk hkl a0 a1 a2 a3 a4 b0 b1 b2 b3 b4 y2 y3
                  go_wp2_with fail
                  go_roundw
                  case rel =>
                    refine ⟨i + 1, by go_num, by omega, ?_, (Ja HK79).trans (KeepS.of (S := U3) (Ja HBe2)) (fun _ _ h => h)⟩
                    rw [Ja HNx]
                    exact (Ja HD9).below (Ja HBe2)
                  case measure => simp [intOf]; omega
        · have hie : i = M := by omega
          subst hie
          have HDM : Hid (Duo 1000 U3 db envM (1 + i) (db + 1) envM (1 + i) wr) := hide (by have := Ja HDu; rw [Ja HEM] at this; exact this)
          clear hi hiM
          obtain ⟨ksq, hksq⟩ := Jmz
          obtain ⟨ks0, hks0⟩ := Jcy (F := 1000) (ls.take i) envQ 1 ksq hksq
          rw [Ja HEM] at hks0
          obtain ⟨hks, hso⟩ := Jhf hks0
          obtain ⟨ks, hkse⟩ : ∃ ks, ks0.mergeSort leB = ks := ⟨_, rfl⟩
          rw [hkse] at hks hso
          have hkl : ks.length ≤ 51 := by have := hks.few; have h2 : (ls.take i).length ≤ i := by simp; omega
                                          omega
          have hnf : 1 + (ls.take i).length ≤ 1000 := by simp; omega
          have HKs0 := hide hks
          have HSo := hide hso
          have HNmE : Hid (EnvN envM) := hide (by rw [← Ja HEM]; exact Jhw _ _ Job)
          have HOkE : Hid (EnvOk envM) := hide (by rw [← Ja HEM]; exact Q3 (by decide) _ _ F2)
          clear hksq hks0 hkse hks hso
          go_wp2_with fail
          refine (N5 (Ja HDM) (Ja HKs0) (Ja HSo) hnf).mono ?_
          rintro e x1 ⟨va, rfl, hva, hb1⟩
          obtain ⟨oa, ca, hvf, hca, hcell⟩ : ∃ oa ca, va = .slice oa ks.length ca ∧ ks.length ≤ ca ∧ (0 < ks.length → ∃ g, oa = some ⟨g, 0, none⟩ ∧ g < x1.heap.size ∧ ∀ j, (h : j < ks.length) → x1.cell? ⟨g, j, none⟩ = some (.string ⟨(ks[j]).toArray⟩)) := G0 hva
          subst hvf
          have HCa := hide hcell
          have HD1 := hide ((Ja HDM).below hb1)
          have HB1 := hide hb1
          clear hva hcell hb1
          go_wp2_with fail
          refine (N5 (Ja HD1).symm (Ja HKs0) (Ja HSo) hnf).mono ?_
          rintro e x2 ⟨vb, rfl, hvb, hb2⟩
          obtain ⟨ob, cb, hvf, hcb, hcell⟩ : ∃ ob cb, vb = .slice ob ks.length cb ∧ ks.length ≤ cb ∧ (0 < ks.length → ∃ g, ob = some ⟨g, 0, none⟩ ∧ g < x2.heap.size ∧ ∀ j, (h : j < ks.length) → x2.cell? ⟨g, j, none⟩ = some (.string ⟨(ks[j]).toArray⟩)) := G0 hvb
          subst hvf
          have HCb := hide hcell
          have HD2 := hide ((Ja HD1).below hb2)
          have HB2x := hide hb2
          have HKx : Hid (KeepS S W2 x2) := hide (((Ja HKW).trans (KeepS.of (S := S) (Ja HB1)) (fun _ _ h => h)).trans (KeepS.of (S := S) hb2) (fun _ _ h => h))
          clear hvb hcell hb2 HDM HD1 HKW
          go_wp2_with fail
          go_loopw [19] (fun v wx => ∃ j : Nat, v = .int .i64 j ∧ j ≤ ks.length ∧ Below x2.heap.size x2 wx) (fun v _ => ks.length - (intOf v).toNat)
          case atStart => exact ⟨0, rfl, Nat.zero_le _, Below.refl _ _⟩
          case round =>
            obtain ⟨j, rfl, hj, hbe⟩ := hrel
            have HBe := hide hbe
            by_cases hjl : j < ks.length
            · obtain ⟨ga, rfl, hga, hqa⟩ := Ja HCa (by omega)
              obtain ⟨gb, rfl, hgb, hqb⟩ := Ja HCb (by omega)
              have hsz2 := (Ja HB2x).size
              have HA : Hid (∀ wx, Below x2.heap.size x2 wx → wx.cell? ⟨ga, j, none⟩ = some (.string ⟨(ks[j]).toArray⟩) ∧ wx.cell? ⟨gb, j, none⟩ = some (.string ⟨(ks[j]).toArray⟩)) := hide (fun wx hb => ⟨(hb.cell (p := ⟨ga, j, none⟩) (by show ga < x2.heap.size; omega)).trans (((Ja HB2x).cell (p := ⟨ga, j, none⟩) hga).trans (hqa j hjl)), (hb.cell (p := ⟨gb, j, none⟩) hgb).trans (hqb j hjl)⟩)
              have hmem := ((Ja HKs0).mem ks[j]).1 (List.getElem_mem hjl)
              obtain ⟨t, ht⟩ : ∃ t, (⟨(ks[j]).toArray⟩ : ByteArray) = t := ⟨_, rfl⟩
              rw [show (⟨List.toArray ks[j]⟩ : ByteArray) = t from ht] at hmem
              rw [ht] at HA
              obtain ⟨aa, haa⟩ := Option.isSome_iff_exists.1 hmem
              have hnt := Ja HNmE t aa haa
              have HAns := hide (Jj1 (F := 1000) hnt haa)
              have HNp := hide (N6 hnt).2.1
              have HLk : Hid (∀ wx, Below x2.heap.size x2 wx → Calls Tryz.prog 11 #[.pointer (some ⟨db, 0, none⟩), .string t, .string t] wx fun e' w' => e' = .returned (.bool true) ∧ Below x2.heap.size x2 w') := hide (fun wx hb => (Jka ((Ja HD2).below hb) (Ja HOkE) (Ja HAns) (Ja HNp)).mono (fun _ _ h => ⟨h.1, hb.trans (h.2.mono hb.size)⟩))
              have j0 : (0 : Int) ≤ (j : Int) := by omega
              have j1 : (j : Int) < (ks.length : Int) := by omega
              obtain ⟨za, zb⟩ := Ja HA _ hbe
              have hts : t.size ≤ 9223372036854775807 := by have := hnt.few; omega
              clear hqa hqb hmem haa hnt ht hbe
              go_upto_region 37 with fail
              go_cut [250] from 223 to 271 (fun v250 wx => v250 = .bool false ∧ Below x2.heap.size x2 wx)
              case first =>
                as_aux_lemma =>
                  refine wp_region_any (by kernel_rfl) ?_
                  change wpAny _ _ _ _ _ _ _ (World.drew _)
                  refine wpAny_take (i := 0) (v := .slice (some ⟨ga, 0, none⟩) ks.length ca) rfl (by kernel_rfl) (by kernel_rfl) (by kernel_rfl) (fun _ _ _ h => h) (Or.inl ⟨by rfl, fun w => by go_simp⟩) ?_
                  go_simp
                  refine wpAny_take (i := 1) (v := .int .i64 (j : Int)) rfl (by kernel_rfl) (by kernel_rfl) (by kernel_rfl) (fun _ _ _ h => h) (Or.inl ⟨by rfl, fun w => by go_simp⟩) ?_
                  go_simp
                  refine wpAny_take (i := 2) (v := .pointer (some ⟨ga, j, none⟩)) rfl (by kernel_rfl) (by kernel_rfl) (by kernel_rfl) (fun _ _ _ h => h) (Or.inl ⟨by rfl, fun w => by go_simp⟩) ?_
                  go_simp
                  refine wpAny_take (i := 4) (v := .slice (some ⟨gb, 0, none⟩) ks.length cb) rfl (by kernel_rfl) (by kernel_rfl) (by kernel_rfl) (fun _ _ _ h => h) (Or.inl ⟨by rfl, fun w => by go_simp⟩) ?_
                  go_simp
                  refine wpAny_take (i := 5) (v := .int .i64 (j : Int)) rfl (by kernel_rfl) (by kernel_rfl) (by kernel_rfl) (fun _ _ _ h => h) (Or.inl ⟨by rfl, fun w => by go_simp⟩) ?_
                  go_simp
                  refine wpAny_take (i := 6) (v := .pointer (some ⟨gb, j, none⟩)) rfl (by kernel_rfl) (by kernel_rfl) (by kernel_rfl) (fun _ _ _ h => h) (Or.inl ⟨by rfl, fun w => by go_simp⟩) ?_
                  go_simp
                  refine wpAny_ready (rs := [3, 7]) (by kernel_rfl) (by simp) ?_
                  refine AllReady.cons rfl (fun K hK => ?_) (AllReady.cons rfl (fun K hK => ?_) AllReady.nil)
                  · go_simp
                    refine hK _ _ ?_
                    clear hK K
                    refine wpAny_ready (rs := [7]) (by kernel_rfl) (by simp) ?_
                    refine AllReady.cons rfl (fun K hK => ?_) AllReady.nil
                    go_simp
                    refine hK _ _ ?_
                    clear hK K
                    refine wpAny_take (i := 8) (v := .bool false) rfl (by kernel_rfl) (by kernel_rfl) (by kernel_rfl) (fun _ _ _ h => h) (Or.inl ⟨by rfl, fun w => by go_simp⟩) ?_
                    go_simp
                    refine wpAny_take (i := 9) (v := .bool false) rfl (by kernel_rfl) (by kernel_rfl) (by kernel_rfl) (fun _ _ _ h => h) (Or.inl ⟨by rfl, fun w => by go_simp⟩) ?_
                    go_simp
                    refine wpAny_take (i := 10) (v := .pointer (some ⟨db, 0, none⟩)) rfl (by kernel_rfl) (by kernel_rfl) (by kernel_rfl) (fun _ _ _ h => h) (Or.inl ⟨by rfl, fun w => by go_simp⟩) ?_
                    go_simp
                    refine wpAny_take (i := 11) (v := .slice (some ⟨ga, 0, none⟩) ks.length ca) rfl (by kernel_rfl) (by kernel_rfl) (by kernel_rfl) (fun _ _ _ h => h) (Or.inl ⟨by rfl, fun w => by go_simp⟩) ?_
                    go_simp
                    refine wpAny_take (i := 12) (v := .int .i64 (j : Int)) rfl (by kernel_rfl) (by kernel_rfl) (by kernel_rfl) (fun _ _ _ h => h) (Or.inl ⟨by rfl, fun w => by go_simp⟩) ?_
                    go_simp
                    refine wpAny_take (i := 13) (v := .pointer (some ⟨ga, j, none⟩)) rfl (by kernel_rfl) (by kernel_rfl) (by kernel_rfl) (fun _ _ _ h => h) (Or.inl ⟨by rfl, fun w => by go_simp⟩) ?_
                    go_simp
                    refine wpAny_take (i := 15) (v := .slice (some ⟨ga, 0, none⟩) ks.length ca) rfl (by kernel_rfl) (by kernel_rfl) (by kernel_rfl) (fun _ _ _ h => h) (Or.inl ⟨by rfl, fun w => by go_simp⟩) ?_
                    go_simp
                    refine wpAny_take (i := 16) (v := .int .i64 (j : Int)) rfl (by kernel_rfl) (by kernel_rfl) (by kernel_rfl) (fun _ _ _ h => h) (Or.inl ⟨by rfl, fun w => by go_simp⟩) ?_
                    go_simp
                    refine wpAny_take (i := 17) (v := .pointer (some ⟨ga, j, none⟩)) rfl (by kernel_rfl) (by kernel_rfl) (by kernel_rfl) (fun _ _ _ h => h) (Or.inl ⟨by rfl, fun w => by go_simp⟩) ?_
                    go_simp
                    refine wpAny_ready (rs := [14, 18]) (by kernel_rfl) (by simp) ?_
                    refine AllReady.cons rfl (fun K hK => ?_) (AllReady.cons rfl (fun K hK => ?_) AllReady.nil)
                    · go_simp
                      refine hK _ _ ?_
                      clear hK K
                      refine wpAny_ready (rs := [18]) (by kernel_rfl) (by simp) ?_
                      refine AllReady.cons rfl (fun K hK => ?_) AllReady.nil
                      go_simp
                      refine hK _ _ ?_
                      clear hK K
                      refine wpAny_ready (rs := [19]) (by kernel_rfl) (by simp) ?_
                      refine AllReady.cons rfl (fun K hK => ?_) AllReady.nil
                      go_simp
                      refine (Ja HLk _ (Ja HBe).drew).mono ?_
                      rintro e y1 ⟨rfl, hy1⟩
                      have HY1 := hide hy1
                      clear hy1
                      refine hK _ _ ?_
                      clear hK K
                      refine wpAny_take (i := 20) (v := .bool false) rfl (by kernel_rfl) (by kernel_rfl) (by kernel_rfl) (fun _ _ _ h => h) (Or.inl ⟨by rfl, fun w => by go_simp⟩) ?_
                      go_simp
                      refine wpAny_take (i := 21) (v := .bool false) rfl (by kernel_rfl) (by kernel_rfl) (by kernel_rfl) (fun _ _ _ h => h) (Or.inl ⟨by rfl, fun w => by go_simp⟩) ?_
                      go_simp
                      refine wpAny_done (by kernel_rfl) ?_ _
                      go_wp2_with fail
                      go_meet
                      case rel => exact ⟨rfl, Ja HY1⟩
                    · go_simp
                      refine hK _ _ ?_
                      clear hK K
                      refine wpAny_ready (rs := [14]) (by kernel_rfl) (by simp) ?_
                      refine AllReady.cons rfl (fun K hK => ?_) AllReady.nil
                      go_simp
                      refine hK _ _ ?_
                      clear hK K
                      refine wpAny_ready (rs := [19]) (by kernel_rfl) (by simp) ?_
                      refine AllReady.cons rfl (fun K hK => ?_) AllReady.nil
                      go_simp
                      refine (Ja HLk _ (Ja HBe).drew).mono ?_
                      rintro e y1 ⟨rfl, hy1⟩
                      have HY1 := hide hy1
                      clear hy1
                      refine hK _ _ ?_
                      clear hK K
                      refine wpAny_take (i := 20) (v := .bool false) rfl (by kernel_rfl) (by kernel_rfl) (by kernel_rfl) (fun _ _ _ h => h) (Or.inl ⟨by rfl, fun w => by go_simp⟩) ?_
                      go_simp
                      refine wpAny_take (i := 21) (v := .bool false) rfl (by kernel_rfl) (by kernel_rfl) (by kernel_rfl) (fun _ _ _ h => h) (Or.inl ⟨by rfl, fun w => by go_simp⟩) ?_
                      go_simp
                      refine wpAny_done (by kernel_rfl) ?_ _
                      go_wp2_with fail
                      go_meet
                      case rel => exact ⟨rfl, Ja HY1⟩
                  · go_simp
                    refine hK _ _ ?_
                    clear hK K
                    refine wpAny_ready (rs := [3]) (by kernel_rfl) (by simp) ?_
                    refine AllReady.cons rfl (fun K hK => ?_) AllReady.nil
                    go_simp
                    refine hK _ _ ?_
                    clear hK K
                    refine wpAny_take (i := 8) (v := .bool false) rfl (by kernel_rfl) (by kernel_rfl) (by kernel_rfl) (fun _ _ _ h => h) (Or.inl ⟨by rfl, fun w => by go_simp⟩) ?_
                    go_simp
                    refine wpAny_take (i := 9) (v := .bool false) rfl (by kernel_rfl) (by kernel_rfl) (by kernel_rfl) (fun _ _ _ h => h) (Or.inl ⟨by rfl, fun w => by go_simp⟩) ?_
                    go_simp
                    refine wpAny_take (i := 10) (v := .pointer (some ⟨db, 0, none⟩)) rfl (by kernel_rfl) (by kernel_rfl) (by kernel_rfl) (fun _ _ _ h => h) (Or.inl ⟨by rfl, fun w => by go_simp⟩) ?_
                    go_simp
                    refine wpAny_take (i := 11) (v := .slice (some ⟨ga, 0, none⟩) ks.length ca) rfl (by kernel_rfl) (by kernel_rfl) (by kernel_rfl) (fun _ _ _ h => h) (Or.inl ⟨by rfl, fun w => by go_simp⟩) ?_
                    go_simp
                    refine wpAny_take (i := 12) (v := .int .i64 (j : Int)) rfl (by kernel_rfl) (by kernel_rfl) (by kernel_rfl) (fun _ _ _ h => h) (Or.inl ⟨by rfl, fun w => by go_simp⟩) ?_
                    go_simp
                    refine wpAny_take (i := 13) (v := .pointer (some ⟨ga, j, none⟩)) rfl (by kernel_rfl) (by kernel_rfl) (by kernel_rfl) (fun _ _ _ h => h) (Or.inl ⟨by rfl, fun w => by go_simp⟩) ?_
                    go_simp
                    refine wpAny_take (i := 15) (v := .slice (some ⟨ga, 0, none⟩) ks.length ca) rfl (by kernel_rfl) (by kernel_rfl) (by kernel_rfl) (fun _ _ _ h => h) (Or.inl ⟨by rfl, fun w => by go_simp⟩) ?_
                    go_simp
                    refine wpAny_take (i := 16) (v := .int .i64 (j : Int)) rfl (by kernel_rfl) (by kernel_rfl) (by kernel_rfl) (fun _ _ _ h => h) (Or.inl ⟨by rfl, fun w => by go_simp⟩) ?_
                    go_simp
                    refine wpAny_take (i := 17) (v := .pointer (some ⟨ga, j, none⟩)) rfl (by kernel_rfl) (by kernel_rfl) (by kernel_rfl) (fun _ _ _ h => h) (Or.inl ⟨by rfl, fun w => by go_simp⟩) ?_
                    go_simp
                    refine wpAny_ready (rs := [14, 18]) (by kernel_rfl) (by simp) ?_
                    refine AllReady.cons rfl (fun K hK => ?_) (AllReady.cons rfl (fun K hK => ?_) AllReady.nil)
                    · go_simp
                      refine hK _ _ ?_
                      clear hK K
                      refine wpAny_ready (rs := [18]) (by kernel_rfl) (by simp) ?_
                      refine AllReady.cons rfl (fun K hK => ?_) AllReady.nil
                      go_simp
                      refine hK _ _ ?_
                      clear hK K
                      refine wpAny_ready (rs := [19]) (by kernel_rfl) (by simp) ?_
                      refine AllReady.cons rfl (fun K hK => ?_) AllReady.nil
                      go_simp
                      refine (Ja HLk _ (Ja HBe).drew).mono ?_
                      rintro e y1 ⟨rfl, hy1⟩
                      have HY1 := hide hy1
                      clear hy1
                      refine hK _ _ ?_
                      clear hK K
                      refine wpAny_take (i := 20) (v := .bool false) rfl (by kernel_rfl) (by kernel_rfl) (by kernel_rfl) (fun _ _ _ h => h) (Or.inl ⟨by rfl, fun w => by go_simp⟩) ?_
                      go_simp
                      refine wpAny_take (i := 21) (v := .bool false) rfl (by kernel_rfl) (by kernel_rfl) (by kernel_rfl) (fun _ _ _ h => h) (Or.inl ⟨by rfl, fun w => by go_simp⟩) ?_
                      go_simp
                      refine wpAny_done (by kernel_rfl) ?_ _
                      go_wp2_with fail
                      go_meet
                      case rel => exact ⟨rfl, Ja HY1⟩
                    · go_simp
                      refine hK _ _ ?_
                      clear hK K
                      refine wpAny_ready (rs := [14]) (by kernel_rfl) (by simp) ?_
                      refine AllReady.cons rfl (fun K hK => ?_) AllReady.nil
                      go_simp
                      refine hK _ _ ?_
                      clear hK K
                      refine wpAny_ready (rs := [19]) (by kernel_rfl) (by simp) ?_
                      refine AllReady.cons rfl (fun K hK => ?_) AllReady.nil
                      go_simp
                      refine (Ja HLk _ (Ja HBe).drew).mono ?_
                      rintro e y1 ⟨rfl, hy1⟩
                      have HY1 := hide hy1
                      clear hy1
                      refine hK _ _ ?_
                      clear hK K
                      refine wpAny_take (i := 20) (v := .bool false) rfl (by kernel_rfl) (by kernel_rfl) (by kernel_rfl) (fun _ _ _ h => h) (Or.inl ⟨by rfl, fun w => by go_simp⟩) ?_
                      go_simp
                      refine wpAny_take (i := 21) (v := .bool false) rfl (by kernel_rfl) (by kernel_rfl) (by kernel_rfl) (fun _ _ _ h => h) (Or.inl ⟨by rfl, fun w => by go_simp⟩) ?_
                      go_simp
                      refine wpAny_done (by kernel_rfl) ?_ _
                      go_wp2_with fail
                      go_meet
                      case rel => exact ⟨rfl, Ja HY1⟩
              case rest =>
                obtain ⟨rfl, hbx⟩ := hcut
                have HBX := hide hbx
                obtain ⟨zc, zd⟩ := Ja HA _ hbx
                have HOn : Hid (Calls Tryz.prog 12 #[.pointer (some ⟨db + 1, 0, none⟩), .string t] wc fun e' w' => ∃ so sn sc co cn cc, e' = .returned (.tuple #[.agg #[.int .i64 0, .int .i64 0, .slice so sn sc, .slice co cn cc, .int .i64 0], .bool true]) ∧ Nums (fun b => wc.heap.size < b) w' (.slice so sn sc) (aa.shape.map Int.ofNat) ∧ Nums (fun b => wc.heap.size < b) w' (.slice co cn cc) aa.cells ∧ Below wc.heap.size wc w') := hide (Jma ((Ja HD2).below hbx).symm (Ja HOkE) (Ja HAns) (Ja HNp))
                clear hbx za zb
                go_wp2_with fail
                refine (Ja HOn).mono ?_
                rintro e x3 ⟨so, sn, sc, co, cn, cc, rfl, hsh, hcs, hb3⟩
                have hbx3 : Below x2.heap.size x2 x3 := (Ja HBX).trans (hb3.mono (Ja HBX).size)
                obtain ⟨x4, hx4⟩ : ∃ x4, x3.alloc (.cells #[.int .i64 0, .int .i64 0, .slice so sn sc, .slice co cn cc, .int .i64 0] 34) = x4 := ⟨_, rfl⟩
                have hb4 : Below x3.heap.size x3 x4 := by rw [← hx4]; exact (Below.refl _ _).alloc (Nat.le_refl _) _
                have hl4 : x3.heap.size < x4.heap.size := by rw [← hx4]; simp
                have r2 : x4.cell? ⟨x3.heap.size, 2, none⟩ = some (.slice so sn sc) := by rw [← hx4]; exact (World.cell?_alloc_at _ _ _ _ rfl).trans rfl
                have r3 : x4.cell? ⟨x3.heap.size, 3, none⟩ = some (.slice co cn cc) := by rw [← hx4]; exact (World.cell?_alloc_at _ _ _ _ rfl).trans rfl
                have hbx4 := hbx3.trans (hb4.mono hbx3.size)
                obtain ⟨zm, zn⟩ := Ja HA _ hbx4
                have hN3 := ((hsh.imp (Q := fun _ => True) (fun _ _ _ => trivial)).below hb4)
                have hN4 := ((hcs.imp (Q := fun _ => True) (fun _ _ _ => trivial)).below hb4)
                have HIs : Hid (∀ wx, Below x4.heap.size x4 wx → Calls Tryz.prog 13 #[.pointer (some ⟨db, 0, none⟩), .string t, .slice so sn sc, .slice co cn cc] wx fun e' w' => e' = .returned (.bool true) ∧ Below x2.heap.size x2 w') := hide (fun wx hb => (Jnx (((Ja HD2).below hbx4).below hb) (Ja HOkE) (Ja HAns) (Ja HNp) (hN3.below hb) (hN4.below hb)).mono (fun _ _ h => ⟨h.1, (hbx4.trans (hb.mono hbx4.size)).trans (h.2.mono (Nat.le_trans hbx4.size hb.size))⟩))
                have HX4 := hide hx4
                clear hsh hcs hb3 hbx3 hb4 hbx4 hN3 hN4 HOn HBX HA HLk zc zd hx4
                go_upto_region 40 with fail
                try rw [Ja HX4]
                clear HX4
                go_cut [22] from 223 to 271 (fun v22 wx => v22 = .bool true ∧ Below x2.heap.size x2 wx)
                case first =>
                  as_aux_lemma =>
                    refine wp_region_any (by kernel_rfl) ?_
                    change wpAny _ _ _ _ _ _ _ (World.drew _)
                    refine wpAny_take (i := 0) (v := .pointer (some ⟨db, 0, none⟩)) rfl (by kernel_rfl) (by kernel_rfl) (by kernel_rfl) (fun _ _ _ h => h) (Or.inl ⟨by rfl, fun w => by go_simp⟩) ?_
                    go_simp
                    refine wpAny_take (i := 1) (v := .slice (some ⟨ga, 0, none⟩) ks.length ca) rfl (by kernel_rfl) (by kernel_rfl) (by kernel_rfl) (fun _ _ _ h => h) (Or.inl ⟨by rfl, fun w => by go_simp⟩) ?_
                    go_simp
                    refine wpAny_take (i := 2) (v := .int .i64 (j : Int)) rfl (by kernel_rfl) (by kernel_rfl) (by kernel_rfl) (fun _ _ _ h => h) (Or.inl ⟨by rfl, fun w => by go_simp⟩) ?_
                    go_simp
                    refine wpAny_take (i := 3) (v := .pointer (some ⟨ga, j, none⟩)) rfl (by kernel_rfl) (by kernel_rfl) (by kernel_rfl) (fun _ _ _ h => h) (Or.inl ⟨by rfl, fun w => by go_simp⟩) ?_
                    go_simp
                    refine wpAny_take (i := 5) (v := .pointer (some ⟨x3.heap.size, 2, none⟩)) rfl (by kernel_rfl) (by kernel_rfl) (by kernel_rfl) (fun _ _ _ h => h) (Or.inl ⟨by rfl, fun w => by go_simp⟩) ?_
                    go_simp
                    refine wpAny_take (i := 7) (v := .pointer (some ⟨x3.heap.size, 3, none⟩)) rfl (by kernel_rfl) (by kernel_rfl) (by kernel_rfl) (fun _ _ _ h => h) (Or.inl ⟨by rfl, fun w => by go_simp⟩) ?_
                    go_simp
                    refine wpAny_ready (rs := [4, 6, 8]) (by kernel_rfl) (by simp) ?_
                    refine AllReady.cons rfl (fun K hK => ?_) (AllReady.cons rfl (fun K hK => ?_) (AllReady.cons rfl (fun K hK => ?_) AllReady.nil))
                    · go_simp
                      refine hK _ _ ?_
                      clear hK K
                      refine wpAny_ready (rs := [6, 8]) (by kernel_rfl) (by simp) ?_
                      refine AllReady.cons rfl (fun K hK => ?_) (AllReady.cons rfl (fun K hK => ?_) AllReady.nil)
                      · go_simp
                        refine hK _ _ ?_
                        clear hK K
                        refine wpAny_ready (rs := [8]) (by kernel_rfl) (by simp) ?_
                        refine AllReady.cons rfl (fun K hK => ?_) AllReady.nil
                        go_simp
                        refine hK _ _ ?_
                        clear hK K
                        refine wpAny_ready (rs := [9]) (by kernel_rfl) (by simp) ?_
                        refine AllReady.cons rfl (fun K hK => ?_) AllReady.nil
                        go_simp
                        refine (Ja HIs _ (Below.refl _ _).drew).mono ?_
                        rintro e y3 ⟨rfl, hy3⟩
                        have HY3 := hide hy3
                        clear hy3
                        refine hK _ _ ?_
                        clear hK K
                        refine wpAny_take (i := 10) (v := .bool true) rfl (by kernel_rfl) (by kernel_rfl) (by kernel_rfl) (fun _ _ _ h => h) (Or.inl ⟨by rfl, fun w => by go_simp⟩) ?_
                        go_simp
                        refine wpAny_done (by kernel_rfl) ?_ _
                        go_wp2_with fail
                        go_meet
                        case rel => exact ⟨rfl, Ja HY3⟩
                      · go_simp
                        refine hK _ _ ?_
                        clear hK K
                        refine wpAny_ready (rs := [6]) (by kernel_rfl) (by simp) ?_
                        refine AllReady.cons rfl (fun K hK => ?_) AllReady.nil
                        go_simp
                        refine hK _ _ ?_
                        clear hK K
                        refine wpAny_ready (rs := [9]) (by kernel_rfl) (by simp) ?_
                        refine AllReady.cons rfl (fun K hK => ?_) AllReady.nil
                        go_simp
                        refine (Ja HIs _ (Below.refl _ _).drew).mono ?_
                        rintro e y3 ⟨rfl, hy3⟩
                        have HY3 := hide hy3
                        clear hy3
                        refine hK _ _ ?_
                        clear hK K
                        refine wpAny_take (i := 10) (v := .bool true) rfl (by kernel_rfl) (by kernel_rfl) (by kernel_rfl) (fun _ _ _ h => h) (Or.inl ⟨by rfl, fun w => by go_simp⟩) ?_
                        go_simp
                        refine wpAny_done (by kernel_rfl) ?_ _
                        go_wp2_with fail
                        go_meet
                        case rel => exact ⟨rfl, Ja HY3⟩
                    · go_simp
                      refine hK _ _ ?_
                      clear hK K
                      refine wpAny_ready (rs := [4, 8]) (by kernel_rfl) (by simp) ?_
                      refine AllReady.cons rfl (fun K hK => ?_) (AllReady.cons rfl (fun K hK => ?_) AllReady.nil)
                      · go_simp
                        refine hK _ _ ?_
                        clear hK K
                        refine wpAny_ready (rs := [8]) (by kernel_rfl) (by simp) ?_
                        refine AllReady.cons rfl (fun K hK => ?_) AllReady.nil
                        go_simp
                        refine hK _ _ ?_
                        clear hK K
                        refine wpAny_ready (rs := [9]) (by kernel_rfl) (by simp) ?_
                        refine AllReady.cons rfl (fun K hK => ?_) AllReady.nil
                        go_simp
                        refine (Ja HIs _ (Below.refl _ _).drew).mono ?_
                        rintro e y3 ⟨rfl, hy3⟩
                        have HY3 := hide hy3
                        clear hy3
                        refine hK _ _ ?_
                        clear hK K
                        refine wpAny_take (i := 10) (v := .bool true) rfl (by kernel_rfl) (by kernel_rfl) (by kernel_rfl) (fun _ _ _ h => h) (Or.inl ⟨by rfl, fun w => by go_simp⟩) ?_
                        go_simp
                        refine wpAny_done (by kernel_rfl) ?_ _
                        go_wp2_with fail
                        go_meet
                        case rel => exact ⟨rfl, Ja HY3⟩
                      · go_simp
                        refine hK _ _ ?_
                        clear hK K
                        refine wpAny_ready (rs := [4]) (by kernel_rfl) (by simp) ?_
                        refine AllReady.cons rfl (fun K hK => ?_) AllReady.nil
                        go_simp
                        refine hK _ _ ?_
                        clear hK K
                        refine wpAny_ready (rs := [9]) (by kernel_rfl) (by simp) ?_
                        refine AllReady.cons rfl (fun K hK => ?_) AllReady.nil
                        go_simp
                        refine (Ja HIs _ (Below.refl _ _).drew).mono ?_
                        rintro e y3 ⟨rfl, hy3⟩
                        have HY3 := hide hy3
                        clear hy3
                        refine hK _ _ ?_
                        clear hK K
                        refine wpAny_take (i := 10) (v := .bool true) rfl (by kernel_rfl) (by kernel_rfl) (by kernel_rfl) (fun _ _ _ h => h) (Or.inl ⟨by rfl, fun w => by go_simp⟩) ?_
                        go_simp
                        refine wpAny_done (by kernel_rfl) ?_ _
                        go_wp2_with fail
                        go_meet
                        case rel => exact ⟨rfl, Ja HY3⟩
                    · go_simp
                      refine hK _ _ ?_
                      clear hK K
                      refine wpAny_ready (rs := [4, 6]) (by kernel_rfl) (by simp) ?_
                      refine AllReady.cons rfl (fun K hK => ?_) (AllReady.cons rfl (fun K hK => ?_) AllReady.nil)
                      · go_simp
                        refine hK _ _ ?_
                        clear hK K
                        refine wpAny_ready (rs := [6]) (by kernel_rfl) (by simp) ?_
                        refine AllReady.cons rfl (fun K hK => ?_) AllReady.nil
                        go_simp
                        refine hK _ _ ?_
                        clear hK K
                        refine wpAny_ready (rs := [9]) (by kernel_rfl) (by simp) ?_
                        refine AllReady.cons rfl (fun K hK => ?_) AllReady.nil
                        go_simp
                        refine (Ja HIs _ (Below.refl _ _).drew).mono ?_
                        rintro e y3 ⟨rfl, hy3⟩
                        have HY3 := hide hy3
                        clear hy3
                        refine hK _ _ ?_
                        clear hK K
                        refine wpAny_take (i := 10) (v := .bool true) rfl (by kernel_rfl) (by kernel_rfl) (by kernel_rfl) (fun _ _ _ h => h) (Or.inl ⟨by rfl, fun w => by go_simp⟩) ?_
                        go_simp
                        refine wpAny_done (by kernel_rfl) ?_ _
                        go_wp2_with fail
                        go_meet
                        case rel => exact ⟨rfl, Ja HY3⟩
                      · go_simp
                        refine hK _ _ ?_
                        clear hK K
                        refine wpAny_ready (rs := [4]) (by kernel_rfl) (by simp) ?_
                        refine AllReady.cons rfl (fun K hK => ?_) AllReady.nil
                        go_simp
                        refine hK _ _ ?_
                        clear hK K
                        refine wpAny_ready (rs := [9]) (by kernel_rfl) (by simp) ?_
                        refine AllReady.cons rfl (fun K hK => ?_) AllReady.nil
                        go_simp
                        refine (Ja HIs _ (Below.refl _ _).drew).mono ?_
                        rintro e y3 ⟨rfl, hy3⟩
                        have HY3 := hide hy3
                        clear hy3
                        refine hK _ _ ?_
                        clear hK K
                        refine wpAny_take (i := 10) (v := .bool true) rfl (by kernel_rfl) (by kernel_rfl) (by kernel_rfl) (fun _ _ _ h => h) (Or.inl ⟨by rfl, fun w => by go_simp⟩) ?_
                        go_simp
                        refine wpAny_done (by kernel_rfl) ?_ _
                        go_wp2_with fail
                        go_meet
                        case rel => exact ⟨rfl, Ja HY3⟩
                case rest =>
                  obtain ⟨rfl, hby⟩ := hcut
                  have HBY := hide hby
                  clear hby
                  go_wp2_with fail
                  go_roundw
                  case rel => exact ⟨j + 1, by go_num, by omega, Ja HBY⟩
                  case measure => simp [intOf]; omega
            · have hje : j = ks.length := by omega
              subst hje
              clear hbe hj hjl
              go_wp2_with fail
              exact bodyPost_ret (v := .bool true) (by simp [results, Tryz.results3, go_sem]) rfl ⟨rfl, by rw [Ja HDB]; exact (Ja HB2).trans (((Ja HKx).trans (KeepS.of (S := S) (Ja HBe)) (fun _ _ h => h)).whole hdb2 (Ja HSl))⟩
end Go.Proofs.YtjobgpahajhbnabGreatDoor
