import Derived.Test.YtjobgpahajhbnabGreatDoorOa
import Derived.BigQuiet
namespace Go.Proofs.YtjobgpahajhbnabGreatDoor
open Go.RowKit Go.Proofs
attribute [local go_sem ↓] Go.wp_at_zero Go.wp_at_succ
set_option maxHeartbeats 8000000 in
set_option maxRecDepth 20000 in
theorem Jkg (ao : Option Addr) (n cap : Nat) (xs : List Int) (far : Int) (hf : Jf far) (w : World) (hE : Evs w) (hr : Jlk w ao xs) (hn : xs.length = n) (hlt : 0 < n → ∀ b off, ao = some ⟨b, off, none⟩ → b < w.heap.size) :
    Calls Tryz.prog 4 #[.slice ao n cap, .int .i64 far] w fun e w' => e = .returned (.bool true) ∧ Below w.heap.size w w' := by
  have HPk := hide (fun w => Jb8 far 1099511627776 hf (by decide) w)
  have HD1 := hide (Jk5 hE)
  obtain ⟨W1, hW1⟩ : ∃ W1, w.alloc (.cells #[.int .i64 1000, .map none] 59) = W1 := ⟨_, rfl⟩
  have hb1 : Below w.heap.size w W1 := by rw [← hW1]; exact (Below.refl _ _).alloc (Nat.le_refl _) _
  rw [hW1] at HD1
  have hr1 : Jlk W1 ao xs := ⟨hr.1, fun h0 => by
    obtain ⟨b, off, e, hc⟩ := hr.2 h0
    exact ⟨b, off, e, fun i hi => (hb1.cell (p := ⟨b, off + i, none⟩) (hlt (by omega) b off e)).trans (hc i hi)⟩⟩
  have HS1 := hide (Je3 ao n cap xs 10 (by decide) W1 hr1 hn (fun h0 b off e => Nat.lt_of_lt_of_le (hlt h0 b off e) hb1.size))
  have HB1 := hide hb1
  clear hE hr hn hlt hr1 hb1 hf
  go_enter Tryz.func4, Tryz.ntmps4
  go_wp2_with fail
  refine (Ja HPk _).mono ?_
  rintro e w' ⟨⟨r, rfl, hr0, hr1⟩, hw'⟩
  have hw'' := hw'.symm
  subst hw''
  clear hw' HPk
  go_wp2_with (go_at_call 6; refine (Jk6 _).mono ?_; rintro e w' ⟨rfl, rfl⟩)
  try rw [hW1]
  clear hW1
  refine (Ja HS1).mono ?_
  rintro e w2 ⟨v1, rfl, l, hl1, hl2, hl3, hb2⟩
  obtain ⟨lo, lc, rfl⟩ := hl1.shape
  have HL3 := hide hl3
  have HB2 : Hid (Below w.heap.size w w2) := hide ((Ja HB1).trans (hb2.mono (Ja HB1).size))
  have HDk := hide ((Ja HD1).more hb2)
  obtain ⟨S, hS⟩ : ∃ S, (fun b => (6 ≤ b ∧ b < w.heap.size) ∨ (W1.heap.size ≤ b ∧ b < w2.heap.size)) = S := ⟨_, rfl⟩
  have hSl : ∀ b, 6 ≤ b → b < w.heap.size → S b := fun b h1 h2 => by rw [← hS]; exact Or.inl ⟨h1, h2⟩
  rw [hS] at HDk
  have HNL : Hid (Nums S w2 (.slice lo l.length lc) l) := hide (hl1.nums.imp (Q := S) (fun b h _ => by rw [← hS]; exact Or.inr h))
  have HSl := hide hSl
  obtain ⟨db, hdb⟩ : ∃ db, w.heap.size = db := ⟨_, rfl⟩
  have HDB := hide hdb
  rw [hdb] at HDk
  have HOX := hide (Jnv (l := l) (by omega) (Jhj hl3))
  have hX : IntKind.i64.wrap (1001 + r) = 1001 + r := Jd (by omega) (by omega)
  have hr2 : 1000 < 1001 + r := by omega
  have hr3 : -1 - r < 0 := by omega
  have HNH := hide (Jjp (1001 + r) hr2)
  have HNL2 := hide (Jms (-1 - r) hr3)
  clear hl1 hl3 hb2 hS hSl HS1 HB1 HD1
  rw [hdb] at HB2 HSl ⊢
  go_wp2_with fail
  refine (Ja HNH _).mono ?_
  rintro e w' ⟨rfl, hw'⟩
  have hw'' := hw'.symm
  subst hw''
  clear hw' HNH
  go_wp2_with fail
  refine (Ja HNL2 _).mono ?_
  rintro e w' ⟨rfl, hw'⟩
  have hw'' := hw'.symm
  subst hw''
  clear hw' HNL2 hX hr2 hr3
  go_wp2_with fail
  refine (Jme S db env0 0 [120] Jou (by decide) w2 (Ja HDk) (by decide) env0_ok lo l.length lc l (Ja HNL) (by omega) (Ja HL3)).mono ?_
  rintro e w5 ⟨rfl, hd5, hk5⟩
  have HD5 : Hid (DkF 1000 S db (envX l) 1 w5) := hide (DkE.toF hd5)
  have HB5 : Hid (Below db w w5) := hide ((Ja HB2).trans (hk5.whole (by have := (Ja HDk).low; omega) (Ja HSl)))
  have HNL5 := hide (hk5.nums (Ja HNL) (fun _ h => h))
  have hdb5 : db < w5.heap.size := (Ja HD5).low.2
  clear hd5 hk5 HDk HB2 HNL hdb
  go_wp2_with fail
  obtain ⟨W7, hW7⟩ : ∃ W7, (w5.alloc (.cells #[.string ⟨#[]⟩, .string ⟨#[32, 32]⟩, .string ⟨#[49, 32, 43]⟩, .string ⟨#[105, 111, 116, 97]⟩, .string ⟨#[117, 112, 32, 117, 112]⟩, .string ⟨#[50, 32, 117, 112, 32, 51]⟩, .string ⟨#[37, 32, 51]⟩, .string ⟨#[50, 32, 105, 111, 116, 97, 32, 51]⟩, .string ⟨#[50, 32, 43, 47, 32, 51]⟩, .string ⟨#[43, 46, 32, 51]⟩, .string ⟨#[40, 49]⟩, .string ⟨#[49, 41]⟩, .string ⟨#[40, 41]⟩, .string ⟨#[120, 32, 105, 115]⟩, .string ⟨#[105, 115, 32, 51]⟩, .string ⟨#[120, 32, 105, 115, 32, 105, 115, 32, 51]⟩, .string ⟨#[49, 32, 105, 115, 32, 50]⟩, .string ⟨#[105, 111, 116, 97, 32, 105, 115, 32, 51]⟩, .string ⟨#[40, 40, 40, 40, 40, 40, 40, 40, 49, 41, 41, 41, 41, 41, 41, 41, 41]⟩, .string ⟨#[40, 40, 40, 40, 40, 40, 40, 40, 40, 49]⟩, .string ⟨#[49, 32, 120]⟩, .string ⟨#[120, 32, 120]⟩, .string ⟨#[120, 32, 40, 49, 41]⟩] 9)).alloc (.cells #[.int .i64 0, .int .i64 2, .int .i64 3, .int .i64 4, .int .i64 5, .int .i64 2, .int .i64 0, .int .i64 2, .int .i64 2, .int .i64 0, .int .i64 2, .int .i64 1, .int .i64 1, .int .i64 4, .int .i64 0, .int .i64 5, .int .i64 2, .int .i64 5, .int .i64 (-1), .int .i64 8, .int .i64 2, .int .i64 2, .int .i64 2] 3) = W7 := ⟨_, rfl⟩
  have hb7 : Below w5.heap.size w5 W7 := by rw [← hW7]; exact ((Below.refl _ _).alloc (Nat.le_refl _) _).alloc (by simp) _
  have hz7 : W7.heap.size = w5.heap.size + 1 + 1 := by rw [← hW7]; simp
  have hcL : ∀ k, W7.cell? ⟨w5.heap.size, k, none⟩ = (firmL[k]?).map Value.string := fun k => by
    rw [← hW7, World.cell?_alloc_past _ _ _ (by simp)]
    refine (World.cell?_alloc_at _ _ _ _ rfl).trans ?_
    show ((firmL.map Value.string).toArray)[k]? = _
    simp
  have hcP : ∀ k, W7.cell? ⟨w5.heap.size + 1, k, none⟩ = (firmP[k]?).map (Value.int .i64) := fun k => by
    rw [← hW7]
    refine (World.cell?_alloc_at _ _ _ _ (by simp)).trans ?_
    show ((firmP.map (Value.int .i64)).toArray)[k]? = _
    simp
  have HCell : Hid (∀ wr k s p, Below W7.heap.size W7 wr → firmL[k]? = some s → firmP[k]? = some p → wr.cell? ⟨w5.heap.size, k, none⟩ = some (.string s) ∧ wr.cell? ⟨w5.heap.size + 1, k, none⟩ = some (.int .i64 p)) := hide (fun wr k s p hb e1 e2 => by
    refine ⟨(hb.cell (p := ⟨w5.heap.size, k, none⟩) (by show w5.heap.size < W7.heap.size; omega)).trans ?_, (hb.cell (p := ⟨w5.heap.size + 1, k, none⟩) (by show w5.heap.size + 1 < W7.heap.size; omega)).trans ?_⟩
    · rw [hcL k, e1]; rfl
    · rw [hcP k, e2]; rfl)
  have HD7 := hide ((Ja HD5).below hb7)
  have HB7 : Hid (Below db w W7) := hide ((Ja HB5).trans (hb7.mono (by omega)))
  have HNL7 := hide ((Ja HNL5).below hb7)
  have hdb7 : db ≤ W7.heap.size := by omega
  rw [hW7]
  clear hb7 hcL hcP HD5 HB5 HNL5 hW7 hdb5 hz7
  obtain ⟨lb, hlb⟩ : ∃ lb, w5.heap.size = lb := ⟨_, rfl⟩
  rw [hlb] at HCell ⊢
  clear hlb
  go_loopw [14] (fun v wr => ∃ k : Nat, v = .int .i64 k ∧ k ≤ 23 ∧ Below W7.heap.size W7 wr) (fun v _ => 23 - (intOf v).toNat)
  case atStart => exact ⟨0, rfl, by omega, Below.refl _ _⟩
  case round =>
    obtain ⟨k, rfl, hk, hbe⟩ := hrel
    have HBe := hide hbe
    clear hbe
    by_cases hkl : k < 23
    · obtain ⟨s, p, e1, e2, hsz, hcase⟩ := Jnr hkl
      have HE1 := hide e1
      have HE2 := hide e2
      obtain ⟨hc1, hc2⟩ := Ja HCell wr k s p (Ja HBe) e1 e2
      have k0 : (0 : Int) ≤ (k : Int) := by omega
      have k1 : (k : Int) < 23 := by omega
      clear e1 e2
      rcases hcase with ⟨hp0, hpar, hs0⟩ | ⟨hp0, hp1, hpar⟩
      · have HP := hide (G1 (Ja HD7) (Ja HBe) hsz hpar)
        have HS0 := hide hs0
        clear hpar hs0 hsz hkl hk
        go_wp2_with fail
        refine (Ja HP).mono ?_
        rintro e w8 ⟨rfl, hb8⟩
        obtain ⟨hd1, hd2⟩ := Ja HCell w8 k s p hb8 (Ja HE1) (Ja HE2)
        have HB8 := hide hb8
        clear hb8 hc1 hc2
        go_wp2_with fail
        rw [Ja HS0]
        refine (Jkf (Ja HD7) (Ja HB8) (Ja HOX) (Jk7 _) Jhs).mono ?_
        rintro e w9 ⟨rfl, hb9⟩
        have HB9 := hide hb9
        clear hb9
        go_wp2_with fail
        go_roundw
        case rel => exact ⟨k + 1, by go_num, by omega, Ja HB9⟩
        case measure => simp [intOf]; omega
      · have HP := hide (G1 (Ja HD7) (Ja HBe) hsz hpar)
        have HPar := hide hpar
        have HSz := hide hsz
        clear hpar hsz hkl hk
        go_wp2_with fail
        refine (Ja HP).mono ?_
        rintro e w8 ⟨rfl, hb8⟩
        obtain ⟨hd1, hd2⟩ := Ja HCell w8 k s p hb8 (Ja HE1) (Ja HE2)
        have HB8 := hide hb8
        clear hb8 hc1 hc2
        have hpn : ¬ p < 0 := by omega
        have HF := hide (fun w' (hb : Below W7.heap.size W7 w') => Jk (Ja HD7) hb (Ja HOX) (s := s) (by have := Ja HSz; omega) (Jlg (Ja HPar) (by decide)))
        clear hp0 hp1
        go_wp2_with fail
        refine wp_region_any (by kernel_rfl) ?_
        change wpAny _ _ _ _ _ _ _ (World.drew _)
        refine wpAny_take (i := 0) (v := .int .i64 3) rfl (by kernel_rfl) (by kernel_rfl) (by kernel_rfl) (fun _ _ _ h => h) (Or.inl ⟨by rfl, fun w => by go_simp⟩) ?_
        go_simp
        refine wpAny_take (i := 1) (v := .bool false) rfl (by kernel_rfl) (by kernel_rfl) (by kernel_rfl) (fun _ _ _ h => h) (Or.inl ⟨by rfl, fun w => by go_simp⟩) ?_
        go_simp
        refine wpAny_take (i := 2) (v := .bool false) rfl (by kernel_rfl) (by kernel_rfl) (by kernel_rfl) (fun _ _ _ h => h) (Or.inl ⟨by rfl, fun w => by go_simp⟩) ?_
        go_simp
        refine wpAny_take (i := 3) (v := .int .i64 p) rfl (by kernel_rfl) (by kernel_rfl) (by kernel_rfl) (fun _ _ _ h => h) (Or.inl ⟨by rfl, fun w => by go_simp⟩) ?_
        go_simp
        refine wpAny_take (i := 4) (v := (.slice (some ⟨lb + 1, 0, none⟩) 23 23)) rfl (by kernel_rfl) (by kernel_rfl) (by kernel_rfl) (fun _ _ _ h => h) (Or.inl ⟨by rfl, fun w => by go_simp⟩) ?_
        go_simp
        refine wpAny_take (i := 5) (v := .int .i64 (k : Int)) rfl (by kernel_rfl) (by kernel_rfl) (by kernel_rfl) (fun _ _ _ h => h) (Or.inl ⟨by rfl, fun w => by go_simp⟩) ?_
        go_simp
        refine wpAny_take (i := 6) (v := .pointer (some ⟨lb + 1, k, none⟩)) rfl (by kernel_rfl) (by kernel_rfl) (by kernel_rfl) (fun _ _ _ h => h) (Or.inl ⟨by rfl, fun w => by go_simp⟩) ?_
        go_simp
        refine wpAny_ready (rs := [7]) (by kernel_rfl) (by simp) ?_
        refine AllReady.cons rfl (fun K hK => ?_) AllReady.nil
        go_simp
        refine hK _ _ ?_
        clear hK K
        refine wpAny_take (i := 8) (v := .bool false) rfl (by kernel_rfl) (by kernel_rfl) (by kernel_rfl) (fun _ _ _ h => h) (Or.inl ⟨by rfl, fun w => by go_simp⟩) ?_
        go_simp
        refine wpAny_take (i := 9) (v := .bool false) rfl (by kernel_rfl) (by kernel_rfl) (by kernel_rfl) (fun _ _ _ h => h) (Or.inl ⟨by rfl, fun w => by go_simp⟩) ?_
        go_simp
        refine wpAny_take (i := 10) (v := .bool false) rfl (by kernel_rfl) (by kernel_rfl) (by kernel_rfl) (fun _ _ _ h => h) (Or.inl ⟨by rfl, fun w => by go_simp⟩) ?_
        go_simp
        refine wpAny_take (i := 11) (v := .pointer (some ⟨db, 0, none⟩)) rfl (by kernel_rfl) (by kernel_rfl) (by kernel_rfl) (fun _ _ _ h => h) (Or.inl ⟨by rfl, fun w => by go_simp⟩) ?_
        go_simp
        refine wpAny_take (i := 12) (v := (.slice (some ⟨lb, 0, none⟩) 23 23)) rfl (by kernel_rfl) (by kernel_rfl) (by kernel_rfl) (fun _ _ _ h => h) (Or.inl ⟨by rfl, fun w => by go_simp⟩) ?_
        go_simp
        refine wpAny_take (i := 13) (v := .int .i64 (k : Int)) rfl (by kernel_rfl) (by kernel_rfl) (by kernel_rfl) (fun _ _ _ h => h) (Or.inl ⟨by rfl, fun w => by go_simp⟩) ?_
        go_simp
        refine wpAny_take (i := 14) (v := .pointer (some ⟨lb, k, none⟩)) rfl (by kernel_rfl) (by kernel_rfl) (by kernel_rfl) (fun _ _ _ h => h) (Or.inl ⟨by rfl, fun w => by go_simp⟩) ?_
        go_simp
        refine wpAny_take (i := 16) (v := (.slice (some ⟨lb + 1, 0, none⟩) 23 23)) rfl (by kernel_rfl) (by kernel_rfl) (by kernel_rfl) (fun _ _ _ h => h) (Or.inl ⟨by rfl, fun w => by go_simp⟩) ?_
        go_simp
        refine wpAny_take (i := 17) (v := .int .i64 (k : Int)) rfl (by kernel_rfl) (by kernel_rfl) (by kernel_rfl) (fun _ _ _ h => h) (Or.inl ⟨by rfl, fun w => by go_simp⟩) ?_
        go_simp
        refine wpAny_take (i := 18) (v := .pointer (some ⟨lb + 1, k, none⟩)) rfl (by kernel_rfl) (by kernel_rfl) (by kernel_rfl) (fun _ _ _ h => h) (Or.inl ⟨by rfl, fun w => by go_simp⟩) ?_
        go_simp
        refine wpAny_ready (rs := [15, 19]) (by kernel_rfl) (by simp) ?_
        refine AllReady.cons rfl (fun K hK => ?_) (AllReady.cons rfl (fun K hK => ?_) AllReady.nil)
        · go_simp
          refine hK _ _ ?_
          clear hK K
          refine wpAny_ready (rs := [19]) (by kernel_rfl) (by simp) ?_
          refine AllReady.cons rfl (fun K hK => ?_) AllReady.nil
          go_simp
          refine hK _ _ ?_
          clear hK K
          refine wpAny_ready (rs := [20]) (by kernel_rfl) (by simp) ?_
          refine AllReady.cons rfl (fun K hK => ?_) AllReady.nil
          go_simp
          refine (Ja HF _ (Ja HB8).drew).mono ?_
          rintro e w9 ⟨rfl, hb9⟩
          have HB9 := hide hb9
          clear hb9
          refine hK _ _ ?_
          clear hK K
          refine wpAny_take (i := 21) (v := .bool false) rfl (by kernel_rfl) (by kernel_rfl) (by kernel_rfl) (fun _ _ _ h => h) (Or.inl ⟨by rfl, fun w => by go_simp⟩) ?_
          go_simp
          refine wpAny_take (i := 22) (v := .bool false) rfl (by kernel_rfl) (by kernel_rfl) (by kernel_rfl) (fun _ _ _ h => h) (Or.inl ⟨by rfl, fun w => by go_simp⟩) ?_
          go_simp
          refine wpAny_done (by kernel_rfl) ?_ _
          go_wp2_with fail
          go_roundw
          case rel => exact ⟨k + 1, by go_num, by omega, Ja HB9⟩
          case measure => simp [intOf]; omega
        · go_simp
          refine hK _ _ ?_
          clear hK K
          refine wpAny_ready (rs := [15]) (by kernel_rfl) (by simp) ?_
          refine AllReady.cons rfl (fun K hK => ?_) AllReady.nil
          go_simp
          refine hK _ _ ?_
          clear hK K
          refine wpAny_ready (rs := [20]) (by kernel_rfl) (by simp) ?_
          refine AllReady.cons rfl (fun K hK => ?_) AllReady.nil
          go_simp
          refine (Ja HF _ (Ja HB8).drew).mono ?_
          rintro e w9 ⟨rfl, hb9⟩
          have HB9 := hide hb9
          clear hb9
          refine hK _ _ ?_
          clear hK K
          refine wpAny_take (i := 21) (v := .bool false) rfl (by kernel_rfl) (by kernel_rfl) (by kernel_rfl) (fun _ _ _ h => h) (Or.inl ⟨by rfl, fun w => by go_simp⟩) ?_
          go_simp
          refine wpAny_take (i := 22) (v := .bool false) rfl (by kernel_rfl) (by kernel_rfl) (by kernel_rfl) (fun _ _ _ h => h) (Or.inl ⟨by rfl, fun w => by go_simp⟩) ?_
          go_simp
          refine wpAny_done (by kernel_rfl) ?_ _
          go_wp2_with fail
          go_roundw
          case rel => exact ⟨k + 1, by go_num, by omega, Ja HB9⟩
          case measure => simp [intOf]; omega
    · have hke : k = 23 := by omega
      subst hke
      clear hkl HCell
      have HB_0 := HBe
      clear HBe
      go_wp2_with fail
      refine (Jk (Ja HD7) (Ja HB_0) (Ja HOX) (by decide) (Jnq _)).mono ?_
      rintro e x1 ⟨rfl, hb⟩
      have HB_1 := hide hb
      clear hb HB_0
      go_wp2_with fail
      refine (Jk (Ja HD7) (Ja HB_1) (Ja HOX) (by decide) (Jnp _)).mono ?_
      rintro e x2 ⟨rfl, hb⟩
      have HB_2 := hide hb
      clear hb HB_1
      go_wp2_with fail
      refine (Jk (Ja HD7) (Ja HB_2) (Ja HOX) (by decide) (Jno _)).mono ?_
      rintro e x3 ⟨rfl, hb⟩
      have HB_3 := hide hb
      clear hb HB_2
      go_wp2_with fail
      refine (Jk (Ja HD7) (Ja HB_3) (Ja HOX) (by decide) (Jnn _)).mono ?_
      rintro e x4 ⟨rfl, hb⟩
      have HB_4 := hide hb
      clear hb HB_3
      go_wp2_with fail
      refine (Jk (Ja HD7) (Ja HB_4) (Ja HOX) (by decide) (Jnm _)).mono ?_
      rintro e x5 ⟨rfl, hb⟩
      have HB_5 := hide hb
      clear hb HB_4
      go_wp2_with fail
      refine (Jk (Ja HD7) (Ja HB_5) (Ja HOX) (by decide) (Jnl _)).mono ?_
      rintro e x6 ⟨rfl, hb⟩
      have HB_6 := hide hb
      clear hb HB_5
      go_wp2_with fail
      refine (Jk (Ja HD7) (Ja HB_6) (Ja HOX) (by decide) (Jnk _)).mono ?_
      rintro e x7 ⟨rfl, hb⟩
      have HB_7 := hide hb
      clear hb HB_6
      go_wp2_with fail
      refine (Jk (Ja HD7) (Ja HB_7) (Ja HOX) (by decide) (Jnj _)).mono ?_
      rintro e x8 ⟨rfl, hb⟩
      have HB_8 := hide hb
      clear hb HB_7
      go_wp2_with fail
      refine (Jk (Ja HD7) (Ja HB_8) (Ja HOX) (by decide) (Jni _)).mono ?_
      rintro e x9 ⟨rfl, hb⟩
      have HB_9 := hide hb
      clear hb HB_8
      go_wp2_with fail
      refine (Jk (Ja HD7) (Ja HB_9) (Ja HOX) (by decide) (Jnh _)).mono ?_
      rintro e x10 ⟨rfl, hb⟩
      have HB_10 := hide hb
      clear hb HB_9
      go_wp2_with fail
      refine (Jk (Ja HD7) (Ja HB_10) (Ja HOX) (by decide) (Jkx _)).mono ?_
      rintro e x11 ⟨rfl, hb⟩
      have HB_11 := hide hb
      clear hb HB_10
      go_wp2_with fail
      refine (Jk (Ja HD7) (Ja HB_11) (Ja HOX) (by decide) (Jkw _)).mono ?_
      rintro e x12 ⟨rfl, hb⟩
      have HB_12 := hide hb
      clear hb HB_11
      go_wp2_with fail
      refine (Jk (Ja HD7) (Ja HB_12) (Ja HOX) (by decide) (Jkv _)).mono ?_
      rintro e x13 ⟨rfl, hb⟩
      have HB_13 := hide hb
      clear hb HB_12
      go_wp2_with fail
      refine (Jk (Ja HD7) (Ja HB_13) (Ja HOX) (by decide) (Jku _)).mono ?_
      rintro e x14 ⟨rfl, hb⟩
      have HB_14 := hide hb
      clear hb HB_13
      go_wp2_with fail
      refine (Jk (Ja HD7) (Ja HB_14) (Ja HOX) (by decide) (Jkt _)).mono ?_
      rintro e x15 ⟨rfl, hb⟩
      have HB_15 := hide hb
      clear hb HB_14
      go_wp2_with fail
      refine (Jk (Ja HD7) (Ja HB_15) (Ja HOX) (by decide) (Jks _)).mono ?_
      rintro e x16 ⟨rfl, hb⟩
      have HB_16 := hide hb
      clear hb HB_15
      go_wp2_with fail
      refine (Jk (Ja HD7) (Ja HB_16) (Ja HOX) (by decide) (Jkr _)).mono ?_
      rintro e x17 ⟨rfl, hb⟩
      have HB_17 := hide hb
      clear hb HB_16
      go_wp2_with fail
      refine (Jk (Ja HD7) (Ja HB_17) (Ja HOX) (by decide) (Jkq _)).mono ?_
      rintro e x18 ⟨rfl, hb⟩
      have HB_18 := hide hb
      clear hb HB_17
      go_wp2_with fail
      refine (Jk (Ja HD7) (Ja HB_18) (Ja HOX) (by decide) (Jkp _)).mono ?_
      rintro e x19 ⟨rfl, hb⟩
      have HB_19 := hide hb
      clear hb HB_18
      go_wp2_with fail
      refine (Jk (Ja HD7) (Ja HB_19) (Ja HOX) (by decide) (Jko _)).mono ?_
      rintro e x20 ⟨rfl, hb⟩
      have HB_20 := hide hb
      clear hb HB_19
      go_wp2_with fail
      refine (Jk (Ja HD7) (Ja HB_20) (Ja HOX) (by decide) (Jkn _)).mono ?_
      rintro e x21 ⟨rfl, hb⟩
      have HB_21 := hide hb
      clear hb HB_20
      go_wp2_with fail
      obtain ⟨Wc, hWc⟩ : ∃ Wc, (x21.alloc (.cells #[.int .i64 2, .int .i64 5] 3)).alloc (.cells #[.int .i64 1, .int .i64 1, .int .i64 1, .int .i64 1, .int .i64 1, .int .i64 1, .int .i64 1, .int .i64 1, .int .i64 1, .int .i64 1] 2) = Wc := ⟨_, rfl⟩
      have hbc : Below x21.heap.size x21 Wc := by rw [← hWc]; exact ((Below.refl _ _).alloc (Nat.le_refl _) _).alloc (by simp) _
      have hN1 : Nums (fun _ => True) Wc (.slice (some ⟨x21.heap.size, 0, none⟩) 2 2) ((⟨[2, 5], [1, 1, 1, 1, 1, 1, 1, 1, 1, 1]⟩ : Arr).shape.map Int.ofNat) := by
        rw [← hWc]
        refine ⟨_, 2, rfl, by simp, fun _ => ⟨x21.heap.size, 0, rfl, trivial, by simp; omega, fun i hi => ?_⟩, fun a h => by cases h; rfl⟩
        have hi : i < 2 := hi
        rw [World.cell?_alloc_past _ _ _ (by simp)]
        match i, hi with
        | 0, _ => exact (World.cell?_alloc_at _ _ _ _ rfl).trans rfl
        | 1, _ => exact (World.cell?_alloc_at _ _ _ _ rfl).trans rfl
      have hN2 : Nums (fun _ => True) Wc (.slice (some ⟨x21.heap.size + 1, 0, none⟩) 10 10) (⟨[2, 5], [1, 1, 1, 1, 1, 1, 1, 1, 1, 1]⟩ : Arr).cells := by
        rw [← hWc]
        refine ⟨_, 10, rfl, by simp, fun _ => ⟨x21.heap.size + 1, 0, rfl, trivial, by simp, fun i hi => ?_⟩, fun a h => by cases h; rfl⟩
        have hi : i < 10 := hi
        match i, hi with
        | 0, _ => exact (World.cell?_alloc_at _ _ _ _ (by simp)).trans rfl
        | 1, _ => exact (World.cell?_alloc_at _ _ _ _ (by simp)).trans rfl
        | 2, _ => exact (World.cell?_alloc_at _ _ _ _ (by simp)).trans rfl
        | 3, _ => exact (World.cell?_alloc_at _ _ _ _ (by simp)).trans rfl
        | 4, _ => exact (World.cell?_alloc_at _ _ _ _ (by simp)).trans rfl
        | 5, _ => exact (World.cell?_alloc_at _ _ _ _ (by simp)).trans rfl
        | 6, _ => exact (World.cell?_alloc_at _ _ _ _ (by simp)).trans rfl
        | 7, _ => exact (World.cell?_alloc_at _ _ _ _ (by simp)).trans rfl
        | 8, _ => exact (World.cell?_alloc_at _ _ _ _ (by simp)).trans rfl
        | 9, _ => exact (World.cell?_alloc_at _ _ _ _ (by simp)).trans rfl
      have hBc := (Ja HB_21).trans (hbc.mono (Ja HB_21).size)
      obtain ⟨cc, hcat⟩ := Jky (envX l)
      have HIs := hide (Jg5 (DkF 1000 S db (envX l) 1) (DkF.lasts S db (envX l) 1) db _ _ _ _ (Vk (by decide) (by decide) (Ja HOX) (Jcv hcat) Jhi) Wc ((Ja HD7).below hBc) (Q := fun _ => True) _ _ _ _ _ _ hN1 hN2 (by decide) (by decide))
      have HBc := hide hBc
      rw [hWc]
      clear hWc hbc hN1 hN2 hBc hcat HB_21
      refine (Ja HIs).mono ?_
      rintro e x22 ⟨rfl, hb⟩
      have HB_22 : Hid (Below W7.heap.size W7 x22) := hide ((Ja HBc).trans (hb.mono (Ja HBc).size))
      clear hb HBc HIs
      go_wp2_with fail
      refine (Jk (Ja HD7) (Ja HB_22) (Ja HOX) (by decide) (Jkm _)).mono ?_
      rintro e x23 ⟨rfl, hb⟩
      have HB_23 := hide hb
      clear hb HB_22
      go_wp2_with fail
      refine (Jk (Ja HD7) (Ja HB_23) (Ja HOX) (by decide) (Jkl _)).mono ?_
      rintro e x24 ⟨rfl, hb⟩
      have HB_24 := hide hb
      clear hb HB_23
      go_wp2_with fail
      refine (Jk (Ja HD7) (Ja HB_24) (Ja HOX) (by decide) (Jkk _)).mono ?_
      rintro e x25 ⟨rfl, hb⟩
      have HB_25 := hide hb
      clear hb HB_24
      go_wp2_with fail
      refine (Jk (Ja HD7) (Ja HB_25) (Ja HOX) (by decide) (Jkj _)).mono ?_
      rintro e x26 ⟨rfl, hb⟩
      have HB_26 := hide hb
      clear hb HB_25
      go_wp2_with fail
      refine (Jk (Ja HD7) (Ja HB_26) (Ja HOX) (by decide) (Jki _)).mono ?_
      rintro e x27 ⟨rfl, hb⟩
      have HB_27 := hide hb
      clear hb HB_26
      go_wp2_with fail
      refine (Jk (Ja HD7) (Ja HB_27) (Ja HOX) (by decide) (Jkh _)).mono ?_
      rintro e x28 ⟨rfl, hb⟩
      have HB_28 := hide hb
      clear hb HB_27
      go_wp2_with fail
      refine (Jmt ((Ja HD7).below (Ja HB_28)) (ks := [[120]]) (n := 1) (Jnw l) (List.mergeSort_of_pairwise (by simp)) (by decide)).mono ?_
      rintro e y1 ⟨nv, rfl, hnv, hb⟩
      have hnv1 : y1.ownsRow x28.heap.size 9 1 nv 1 (List.map encStr [[120]]) := hnv
      obtain ⟨hnl, ⟨-, h0⟩ | ⟨ng, ncap, ncur, hnf, hng, hnc, hnr⟩⟩ := hnv1
      · omega
      subst hnf
      have HBy : Hid (Below W7.heap.size W7 y1) := hide ((Ja HB_28).trans (hb.mono (Ja HB_28).size))
      clear hb HB_28 hnl hnc hnr hnv
      go_wp2_with fail
      refine (Jg6 (DkF 1000 S db (envX l) 1) (DkF.lasts S db (envX l) 1) db _ l _ (Vk (by decide) (by decide) (Ja HOX) (Jpn (Jo9 l)) Joa) y1 ((Ja HD7).below (Ja HBy)) lo l.length lc ((Ja HNL7).below (Ja HBy)) (by omega)).mono ?_
      rintro e y2 ⟨rfl, hb⟩
      have HBz : Hid (Below W7.heap.size W7 y2) := hide ((Ja HBy).trans (hb.mono (Ja HBy).size))
      clear hb HBy
      go_wp2_with fail
      exact bodyPost_ret (v := .bool true) (by simp [results, Tryz.results4, go_sem]) rfl ⟨rfl, by rw [Ja HDB]; exact (Ja HB7).trans ((Ja HBz).mono hdb7)⟩
end Go.Proofs.YtjobgpahajhbnabGreatDoor
