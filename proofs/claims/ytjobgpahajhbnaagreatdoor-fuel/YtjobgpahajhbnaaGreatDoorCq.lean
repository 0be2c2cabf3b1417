import Derived.Test.YtjobgpahajhbnaaGreatDoorTe
import Derived.Test.YtjobgpahajhbnaaGreatDoorCg
import Derived.Test.YtjobgpahajhbnaaGreatDoorDg
import Derived.Test.YtjobgpahajhbnaaGreatDoorCf
import Derived.Test.YtjobgpahajhbnaaGreatDoorHg
import Derived.Test.YtjobgpahajhbnaaGreatDoorDb
import Derived.Test.YtjobgpahajhbnaaGreatDoorDf
import Derived.Test.YtjobgpahajhbnaaGreatDoorTq
import Derived.Test.YtjobgpahajhbnaaGreatDoorTr
import Derived.Test.YtjobgpahajhbnaaGreatDoorKg
import Derived.Test.YtjobgpahajhbnaaGreatDoorKb
import Derived.Test.YtjobgpahajhbnaaGreatDoorKc
import Derived.Test.YtjobgpahajhbnaaGreatDoorTl
import Derived.Test.YtjobgpahajhbnaaGreatDoorSi
namespace Go.Proofs.YtjobgpahajhbnaaGreatDoor
open Go.RowKit Go.Proofs Go.Maps
attribute [local go_sem ↓] Go.wp_at_zero Go.wp_at_succ

theorem Tryz.full246 (h : Nat) (w : World) : (binOp .eql 246 (.func (.func h) #[] #[]) .nilFunc).run Tryz.prog w = .ok (.bool false) w := by kernel_rfl
set_option maxHeartbeats 2000000 in
set_option maxRecDepth 20000 in
theorem find_form2 {t : ByteArray} {k1 k2 ks : Lit} {h g : Nat} {z : Int} (h1 : 1 ≤ t.size) (hk2 : keyOf Tryz.prog 9 (.string t) = some k2) (hh : Maps.has signsD k2 = false) (hk1 : keyOf Tryz.prog 9 (.string (t.extract 1 t.size)) = some k1) (ha1 : formsTwoD.atKey k1 (.held .nilFunc) = .held (.func (.func h) #[] #[])) (hks : keyOf Tryz.prog 9 (.string (t.extract 0 1)) = some ks) (has : signsD.atKey ks (.held zSign) = .held (.agg #[.func (.func g) #[] #[], .int .i64 z])) (w : World) :
    Calls Tryz.prog 111 #[.string t] w fun e w' => ∃ b3 b4, e = .returned (.func (.func 159) #[] #[.pointer (some ⟨b3, 0, none⟩), .pointer (some ⟨b4, 0, none⟩)]) ∧ w'.cell? ⟨b3, 0, none⟩ = some (.func (.func h) #[] #[]) ∧ b3 < w'.heap.size ∧ w'.cell? ⟨b4, 0, none⟩ = some (.func (.func g) #[] #[]) ∧ w'.cell? ⟨b4, 1, none⟩ = some (.int .i64 z) ∧ b4 < w'.heap.size ∧ Below w.heap.size w w' := by
  have HL0 : Hid (∀ w' b, w'.ownsMap Tryz.prog 9 selfE b 9 signsD → (Instr.lookup 242 (.map (some b)) (.string t) true).run Tryz.prog w' = .ok (.tuple #[.agg #[.nilFunc, .int .i64 0], .bool false]) w') := hide (fun w' b h => look_self Tryz.underlying242 (Tryz.zero241 w') h hk2 hh (atKey_of_not_has hh _))
  have HL1 : Hid (∀ w' b, w'.ownsMap Tryz.prog 9 selfE b 1 formsTwoD → (Instr.lookup 247 (.map (some b)) (.string (t.extract 1 t.size)) false).run Tryz.prog w' = .ok (.func (.func h) #[] #[]) w') := hide (fun w' b h => look_self0 Tryz.underlying247 (Tryz.zero246 w') h hk1 ha1)
  have HL2 : Hid (∀ w' b, w'.ownsMap Tryz.prog 9 selfE b 9 signsD → (Instr.lookup 242 (.map (some b)) (.string (t.extract 0 1)) false).run Tryz.prog w' = .ok (.agg #[.func (.func g) #[] #[], .int .i64 z]) w') := hide (fun w' b h => look_self0 Tryz.underlying242 (Tryz.zero241 w') h hks has)
  have hnn := Tryz.full246 h
  clear hk1 ha1 hks has hk2 hh
  go_enter Tryz.func111, Tryz.ntmps111
  go_upto_region 4 with (go_at_call 154; refine (signs_any _).mono ?_; rintro e w1 ⟨rfl, ho, hb⟩; have hl0 := unhide HL0 _ _ ho; have HB0 := hide hb; clear ho hb)
  have HW : Hid (Below w.heap.size w (w1.alloc (.cells #[.nilFunc, .int .i64 0] 241))) := hide ((unhide HB0).alloc (unhide HB0).size _)
  obtain ⟨W1, hW1⟩ : ∃ W1, w1.alloc (.cells #[.nilFunc, .int .i64 0] 241) = W1 := ⟨_, rfl⟩
  rw [hW1] at HW ⊢
  clear hW1 hl0 HB0
  go_cut [5] from 16 to 19 (fun v5 wx => ∃ b3, v5 = .pointer (some ⟨b3, 0, none⟩) ∧ wx.cell? ⟨b3, 0, none⟩ = some (.func (.func h) #[] #[]) ∧ b3 < wx.heap.size ∧ Below W1.heap.size W1 wx)
  case first =>
    go_region_with (first | (go_at_call 157; refine (formsTwo_any _).mono ?_; rintro e w1 ⟨rfl, ho, hb⟩; have hl := unhide HL1 _ W1.heap.size (by exact ho); have hl3 := unhide HL1 (w1.alloc (.cells #[.nilFunc] 246)) W1.heap.size (World.ownsMap.alloc (by exact ho) _); have HB := hide hb; obtain ⟨hc, hf⟩ := bcell hb; have hs := hb.size; (try simp at hs); (try have hs2 : W1.heap.size < w1.heap.size := by omega); clear ho hb) | (go_at_call 157; refine (formsTwo_any _).mono ?_; rintro e w1 ⟨rfl, ho, hb⟩; have hl : (Instr.lookup 247 (.map (some (W1.heap.size + 1))) (.string (t.extract 1 t.size)) false).run Tryz.prog w1 = .ok (.func (.func h) #[] #[]) w1 := (by have := unhide HL1 _ _ ho; simpa [World.drew] using this); have HB := hide hb; obtain ⟨hc, hf⟩ := bcell hb; have hs := hb.size; (try simp at hs); (try have hs2 : W1.heap.size < w1.heap.size := by omega); clear ho hb))
    all_goals go_wp2_with fail
    all_goals go_meet
    all_goals first
      | exact ⟨w1.heap.size, rfl, (World.cell?_alloc_at _ _ _ _ rfl).trans rfl, by simp, (below_drew (unhide HB)).alloc (below_drew (unhide HB)).size _⟩
      | exact ⟨W1.heap.size, rfl, World.cell?_setCell_same _ _ _ (u := .nilFunc) ((hc W1.heap.size 0 (by simp)).trans ((World.cell?_alloc_at _ _ _ _ rfl).trans rfl)), by simp; omega, ((((Below.refl W1.heap.size W1).alloc (Nat.le_refl _) _).drew.trans ((unhide HB).mono (by simp))).setCell (p := ⟨W1.heap.size, 0, none⟩) (Nat.le_refl _) _)⟩
      | (trace_state; fail)
  case rest =>
    obtain ⟨b3, rfl, c3, l3, hb3⟩ := hcut
    rename World => wc
    have HB3 : Hid (Below w.heap.size w wc) := hide ((unhide HW).trans (hb3.mono (unhide HW).size))
    clear hb3
    go_upto_region 7 with fail
    go_cut [6] from 25 to 28 (fun v6 wx => ∃ b4, v6 = .pointer (some ⟨b4, 0, none⟩) ∧ wx.cell? ⟨b4, 0, none⟩ = some (.func (.func g) #[] #[]) ∧ wx.cell? ⟨b4, 1, none⟩ = some (.int .i64 z) ∧ b4 < wx.heap.size ∧ Below wc.heap.size wc wx)
    case first =>
      go_region_with (first | (go_at_call 154; refine (signs_any _).mono ?_; rintro e w1 ⟨rfl, ho, hb⟩; have hl := unhide HL2 _ wc.heap.size (by exact ho); have hl3 := unhide HL2 (w1.alloc (.cells #[.nilFunc, .int .i64 0] 241)) wc.heap.size (World.ownsMap.alloc (by exact ho) _); have HB := hide hb; obtain ⟨hc, hf⟩ := bcell hb; have hs := hb.size; (try simp at hs); (try have hs2 : wc.heap.size < w1.heap.size := by omega); clear ho hb) | (go_at_call 154; refine (signs_any _).mono ?_; rintro e w1 ⟨rfl, ho, hb⟩; have hl : (Instr.lookup 242 (.map (some (wc.heap.size + 1))) (.string (t.extract 0 1)) false).run Tryz.prog w1 = .ok (.agg #[.func (.func g) #[] #[], .int .i64 z]) w1 := (by have := unhide HL2 _ _ ho; simpa [World.drew] using this); have HB := hide hb; obtain ⟨hc, hf⟩ := bcell hb; have hs := hb.size; (try simp at hs); (try have hs2 : wc.heap.size < w1.heap.size := by omega); clear ho hb))
      all_goals go_wp2_with fail
      all_goals go_meet
      all_goals first
        | exact ⟨w1.heap.size, rfl, (World.cell?_alloc_at _ _ _ _ rfl).trans rfl, (World.cell?_alloc_at _ _ _ _ rfl).trans rfl, by simp, (below_drew (unhide HB)).alloc (below_drew (unhide HB)).size _⟩
        | exact ⟨wc.heap.size, rfl, (World.cell?_setCell_other _ _ _ _ (by simp)).trans (World.cell?_setCell_same _ _ _ (u := .nilFunc) ((hc wc.heap.size 0 (by simp)).trans ((World.cell?_alloc_at _ _ _ _ rfl).trans rfl))), World.cell?_setCell_same _ _ _ (u := .int .i64 0) ((World.cell?_setCell_other _ _ _ _ (by simp)).trans ((hc wc.heap.size 1 (by simp)).trans ((World.cell?_alloc_at _ _ _ _ rfl).trans rfl))), by simp; omega, (((((Below.refl wc.heap.size wc).alloc (Nat.le_refl _) _).drew.trans ((unhide HB).mono (by simp))).setCell (p := ⟨wc.heap.size, 0, none⟩) (Nat.le_refl _) _).setCell (p := ⟨wc.heap.size, 1, none⟩) (Nat.le_refl _) _)⟩
        | (trace_state; fail)
    case rest =>
      obtain ⟨b4, rfl, c4, c5, l4, hb4⟩ := hcut
      rename World => wd
      have HB4 := hide hb4
      clear hb4
      go_wp2_with fail
      exact bodyPost_ret (v := .func (.func 159) #[] #[.pointer (some ⟨b3, 0, none⟩), .pointer (some ⟨b4, 0, none⟩)]) (by simp [results, Tryz.results111, go_sem]) rfl ⟨b3, b4, rfl, ((unhide HB4).cell (p := ⟨b3, 0, none⟩) l3).trans c3, Nat.lt_of_lt_of_le l3 (unhide HB4).size, c4, c5, l4, (unhide HB3).trans ((unhide HB4).mono (unhide HB3).size)⟩
end Go.Proofs.YtjobgpahajhbnaaGreatDoor
namespace Go.Proofs.YtjobgpahajhbnaaGreatDoor
open Go.RowKit Go.Proofs Go.Maps
attribute [local go_sem ↓] Go.wp_at_zero Go.wp_at_succ

set_option maxHeartbeats 1000000 in
theorem form_fn2 {h g : Nat} {z : Int} (hh : Enters Tryz.prog h) {F : Arr → Arr → Arr × Int} {w' : World} (hF : ∀ (P : Nat → Prop) (W : World), Below w'.heap.size w' W → (∀ b, W.heap.size ≤ b → P b) → ∀ (so : Option Addr) (sn sc : Nat) (co : Option Addr) (cn cc : Nat) (so2 : Option Addr) (sn2 sc2 : Nat) (co2 : Option Addr) (cn2 cc2 : Nat) (a b : Arr), IsArr P W (.agg #[.slice so sn sc, .slice co cn cc]) a → IsArr P W (.agg #[.slice so2 sn2 sc2, .slice co2 cn2 cc2]) b → a.ok → b.ok → Calls Tryz.prog h #[.agg #[.slice so sn sc, .slice co cn cc], .agg #[.slice so2 sn2 sc2, .slice co2 cn2 cc2], .agg #[.func (.func g) #[] #[], .int .i64 z]] W fun e W' => ∃ so sn sc co cn cc, e = .returned (.tuple #[.agg #[.slice so sn sc, .slice co cn cc], .int .i64 (F a b).2]) ∧ IsArr P W' (.agg #[.slice so sn sc, .slice co cn cc]) (F a b).1 ∧ Below W.heap.size W W')
    {b3 b4 : Nat} (c3 : w'.cell? ⟨b3, 0, none⟩ = some (.func (.func h) #[] #[])) (l3 : b3 < w'.heap.size) (c4 : w'.cell? ⟨b4, 0, none⟩ = some (.func (.func g) #[] #[])) (c5 : w'.cell? ⟨b4, 1, none⟩ = some (.int .i64 z)) (l4 : b4 < w'.heap.size) : FnTwo 159 #[.pointer (some ⟨b3, 0, none⟩), .pointer (some ⟨b4, 0, none⟩)] w' F := by
  intro W P u v a b hW hP hA hB hoa hob
  have hA0 := hA
  have hB0 := hB
  obtain ⟨so, sn, sc, co, cn, cc, rfl, _, _⟩ := hA0
  obtain ⟨so2, sn2, sc2, co2, cn2, cc2, rfl, _, _⟩ := hB0
  show Calls Tryz.prog 159 #[.agg #[.slice so sn sc, .slice co cn cc], .agg #[.slice so2 sn2 sc2, .slice co2 cn2 cc2], .pointer (some ⟨b3, 0, none⟩), .pointer (some ⟨b4, 0, none⟩)] W _
  have d3 := (hW.cell (p := ⟨b3, 0, none⟩) l3).trans c3
  have d4 := (hW.cell (p := ⟨b4, 0, none⟩) l4).trans c4
  have d5 := (hW.cell (p := ⟨b4, 1, none⟩) l4).trans c5
  have hsz := hW.size
  have k3 : b3 < W.heap.size := by omega
  have k4 : b4 < W.heap.size := by omega
  have hen2 : ∀ args w, (callFunc h args).run Tryz.prog w = .ok (.enter h args) w := hh
  have hst : Bx W (((W.alloc (.cells #[.slice so sn sc, .slice co cn cc] 89)).alloc (.cells #[.slice so2 sn2 sc2, .slice co2 cn2 cc2] 89)).alloc (.cells #[.slice none 0 0, .slice none 0 0] 89)) [[.slice so sn sc, .slice co cn cc], [.slice so2 sn2 sc2, .slice co2 cn2 cc2], [.slice none 0 0, .slice none 0 0]] := (((Bx.nil W).alloc (by simp) [.slice so sn sc, .slice co cn cc] 89).alloc (by simp) [.slice so2 sn2 sc2, .slice co2 cn2 cc2] 89).alloc (by simp) [.slice none 0 0, .slice none 0 0] 89
  have HST := hide hst
  have HC := hide (hF (OffB W.heap.size 3 P) _ (hW.trans (hst.below.mono hsz)) (fun b hb => OffB.new hP (by have := hst.lt; simp at hb; omega)) so sn sc co cn cc so2 sn2 sc2 co2 cn2 cc2 a b ((hA.imp (Q := OffB W.heap.size 3 P) (fun b h hl => ⟨h, Or.inl hl⟩)).below hst.below) ((hB.imp (Q := OffB W.heap.size 3 P) (fun b h hl => ⟨h, Or.inl hl⟩)).below hst.below) hoa hob)
  have k31 : b3 < W.heap.size + 1 := by omega
  have k32 : b3 < W.heap.size + 1 + 1 := by omega
  have k41 : b4 < W.heap.size + 1 := by omega
  have k42 : b4 < W.heap.size + 1 + 1 := by omega
  clear hst hA hB hoa hob hP hF hh c3 l3 c4 c5 l4 hW hsz
  go_enter Tryz.func159, Tryz.ntmps159
  go_wp2_with (go_at_fn h; refine (unhide HC).mono ?_)
  rintro e w2 ⟨s4, s5, s6, c4, c5, c6, rfl, hA5, hb5⟩
  have HX := hide ((unhide HST).next hb5)
  have HA5 := hide hA5
  clear hA5 hb5 HST HC d3 d4 d5
  have r0 : w2.cell? ⟨W.heap.size + 1 + 1, 0, none⟩ = some (.slice none 0 0) := ((unhide HX).cell 2 0 _ rfl).1
  have r1 : w2.cell? ⟨W.heap.size + 1 + 1, 1, none⟩ = some (.slice none 0 0) := ((unhide HX).cell 2 1 _ rfl).1
  have g0 : w2.frozen? ⟨W.heap.size + 1 + 1, 0, none⟩ = false := ((unhide HX).cell 2 0 _ rfl).2
  have g1 : w2.frozen? ⟨W.heap.size + 1 + 1, 1, none⟩ = false := ((unhide HX).cell 2 1 _ rfl).2
  go_wp2_with fail
  have hf2 := fin_bx (q := 2) (u0 := .slice s4 s5 s6) (u1 := .slice c4 c5 c6) (unhide HX).below (by decide) (unhide HA5)
  exact bodyPost_ret (v := .tuple #[.agg #[.slice s4 s5 s6, .slice c4 c5 c6], .int .i64 (F a b).2]) (by simp [results, Tryz.results159, go_sem, r0, r1]) rfl ⟨_, _, _, _, _, _, rfl, hf2.1, hf2.2⟩
theorem Tryz.enters159 : Enters Tryz.prog 159 := Go.Proofs.enters_of Tryz.func159 (by decide) rfl
theorem Tryz.enters199 : Enters Tryz.prog 199 := Go.Proofs.enters_of Tryz.func199 (by decide) rfl
theorem outer_c {t : ByteArray} {k2 ks : Lit} {g : Nat} {z : Int} {f : Arr → Arr → Arr × Int} (h1 : 1 ≤ t.size) (hk2 : keyOf Tryz.prog 9 (.string t) = some k2) (hh : Maps.has signsD k2 = false) (hk1 : keyOf Tryz.prog 9 (.string (t.extract 1 t.size)) = some (.string [46])) (hks : keyOf Tryz.prog 9 (.string (t.extract 0 1)) = some ks) (has : signsD.atKey ks (.held zSign) = .held (.agg #[.func (.func g) #[] #[], .int .i64 z])) (hen : Enters Tryz.prog g) (hfn : ∀ w, FnTwo g #[] w f) (hsp : Spread f) : TwoC t (outerP f) where
  finds := fun w => (find_form2 h1 hk2 hh hk1 (show formsTwoD.atKey (.string [46]) (.held .nilFunc) = .held (.func (.func 199) #[] #[]) by kernel_rfl) hks has w).mono (by
    rintro e w' ⟨b3, b4, rfl, c3, l3, c4, c5, l4, hb⟩
    exact ⟨159, _, rfl, Tryz.enters159, hb, form_fn2 Tryz.enters199 (fun P W hW hP so sn sc co cn cc so2 sn2 sc2 co2 cn2 cc2 a b ha hb hoa hob => outer_any z hen (hfn w') hsp P W hW hP so sn sc co cn cc so2 sn2 sc2 co2 cn2 cc2 a b ha hb hoa hob) c3 l3 c4 c5 l4⟩)
  ok := fun a b ha hb => outer_ok hsp ha hb
end Go.Proofs.YtjobgpahajhbnaaGreatDoor
namespace Go.Proofs.YtjobgpahajhbnaaGreatDoor
open Go.RowKit Go.Proofs

theorem plus_scan : OneC ⟨#[43, 92]⟩ (scanP (pairP plusF)) := scan_c (z := 0) (by decide) (by kernel_rfl) (ks := .string [43]) (by kernel_rfl) (by kernel_rfl) Tryz.enters190 plus_fn (pair_evens plus_rule.fits)
theorem minus_scan : OneC ⟨#[45, 92]⟩ (scanP (pairP minusF)) := scan_c (z := 0) (by decide) (by kernel_rfl) (ks := .string [45]) (by kernel_rfl) (by kernel_rfl) Tryz.enters191 minus_fn (pair_evens minus_rule.fits)
theorem times_scan : OneC ⟨#[42, 92]⟩ (scanP (pairP timesF)) := scan_c (z := 1) (by decide) (by kernel_rfl) (ks := .string [42]) (by kernel_rfl) (by kernel_rfl) Tryz.enters192 times_fn (pair_evens times_rule.fits)
theorem over_scan : OneC ⟨#[37, 92]⟩ (scanP (pairP overF)) := scan_c (z := 1) (by decide) (by kernel_rfl) (ks := .string [37]) (by kernel_rfl) (by kernel_rfl) Tryz.enters193 over_fn (pair_evens over_rule.fits)
theorem rest_scan : OneC ⟨#[124, 92]⟩ (scanP (pairP restF)) := scan_c (z := 0) (by decide) (by kernel_rfl) (ks := .string [124]) (by kernel_rfl) (by kernel_rfl) Tryz.enters194 rest_fn (pair_evens rest_rule.fits)
theorem lesser_scan : OneC ⟨#[38, 92]⟩ (scanP (pairP lesserF)) := scan_c (z := 9223372036854775807) (by decide) (by kernel_rfl) (ks := .string [38]) (by kernel_rfl) (by kernel_rfl) Tryz.enters195 lesser_fn (pair_evens lesser_rule.fits)
theorem greater_scan : OneC ⟨#[33, 92]⟩ (scanP (pairP greaterF)) := scan_c (z := (-9223372036854775808)) (by decide) (by kernel_rfl) (ks := .string [33]) (by kernel_rfl) (by kernel_rfl) Tryz.enters196 greater_fn (pair_evens greater_rule.fits)
theorem same_scan : OneC ⟨#[61, 92]⟩ (scanP (pairP sameF)) := scan_c (z := 1) (by decide) (by kernel_rfl) (ks := .string [61]) (by kernel_rfl) (by kernel_rfl) Tryz.enters197 same_fn (pair_evens same_rule.fits)
theorem below_scan : OneC ⟨#[60, 92]⟩ (scanP (pairP belowF)) := scan_c (z := 0) (by decide) (by kernel_rfl) (ks := .string [60]) (by kernel_rfl) (by kernel_rfl) Tryz.enters198 below_fn (pair_evens below_rule.fits)
theorem plus_outA : TwoC ⟨#[43, 46]⟩ (outerP (pairP plusF)) := outer_c (z := 0) (by decide) (k2 := .string [43, 46]) (by kernel_rfl) (by kernel_rfl) (by kernel_rfl) (ks := .string [43]) (by kernel_rfl) (by kernel_rfl) Tryz.enters190 plus_fn (pair_spread plus_rule.fits)
theorem minus_outA : TwoC ⟨#[45, 46]⟩ (outerP (pairP minusF)) := outer_c (z := 0) (by decide) (k2 := .string [45, 46]) (by kernel_rfl) (by kernel_rfl) (by kernel_rfl) (ks := .string [45]) (by kernel_rfl) (by kernel_rfl) Tryz.enters191 minus_fn (pair_spread minus_rule.fits)
theorem times_outA : TwoC ⟨#[42, 46]⟩ (outerP (pairP timesF)) := outer_c (z := 1) (by decide) (k2 := .string [42, 46]) (by kernel_rfl) (by kernel_rfl) (by kernel_rfl) (ks := .string [42]) (by kernel_rfl) (by kernel_rfl) Tryz.enters192 times_fn (pair_spread times_rule.fits)
theorem over_outA : TwoC ⟨#[37, 46]⟩ (outerP (pairP overF)) := outer_c (z := 1) (by decide) (k2 := .string [37, 46]) (by kernel_rfl) (by kernel_rfl) (by kernel_rfl) (ks := .string [37]) (by kernel_rfl) (by kernel_rfl) Tryz.enters193 over_fn (pair_spread over_rule.fits)
theorem rest_outA : TwoC ⟨#[124, 46]⟩ (outerP (pairP restF)) := outer_c (z := 0) (by decide) (k2 := .string [124, 46]) (by kernel_rfl) (by kernel_rfl) (by kernel_rfl) (ks := .string [124]) (by kernel_rfl) (by kernel_rfl) Tryz.enters194 rest_fn (pair_spread rest_rule.fits)
theorem lesser_outA : TwoC ⟨#[38, 46]⟩ (outerP (pairP lesserF)) := outer_c (z := 9223372036854775807) (by decide) (k2 := .string [38, 46]) (by kernel_rfl) (by kernel_rfl) (by kernel_rfl) (ks := .string [38]) (by kernel_rfl) (by kernel_rfl) Tryz.enters195 lesser_fn (pair_spread lesser_rule.fits)
theorem greater_outA : TwoC ⟨#[33, 46]⟩ (outerP (pairP greaterF)) := outer_c (z := (-9223372036854775808)) (by decide) (k2 := .string [33, 46]) (by kernel_rfl) (by kernel_rfl) (by kernel_rfl) (ks := .string [33]) (by kernel_rfl) (by kernel_rfl) Tryz.enters196 greater_fn (pair_spread greater_rule.fits)
theorem same_outA : TwoC ⟨#[61, 46]⟩ (outerP (pairP sameF)) := outer_c (z := 1) (by decide) (k2 := .string [61, 46]) (by kernel_rfl) (by kernel_rfl) (by kernel_rfl) (ks := .string [61]) (by kernel_rfl) (by kernel_rfl) Tryz.enters197 same_fn (pair_spread same_rule.fits)
theorem below_outA : TwoC ⟨#[60, 46]⟩ (outerP (pairP belowF)) := outer_c (z := 0) (by decide) (k2 := .string [60, 46]) (by kernel_rfl) (by kernel_rfl) (by kernel_rfl) (ks := .string [60]) (by kernel_rfl) (by kernel_rfl) Tryz.enters198 below_fn (pair_spread below_rule.fits)
/-- a function by its text -/
def lookT {α : Type} (d : α) : List (List UInt8 × α) → List UInt8 → α
  | [], _ => d
  | (k, f) :: r, t => if k = t then f else lookT d r t
theorem lookT_mem {α : Type} {d : α} : ∀ {L : List (List UInt8 × α)} {t : List UInt8}, t ∈ L.map (·.1) → ∃ p ∈ L, p.1 = t ∧ lookT d L t = p.2
  | [], _, h => by cases h
  | (k, f) :: r, t, h => by
    unfold lookT
    by_cases e : k = t
    · exact ⟨(k, f), by simp, e, by rw [if_pos e]⟩
    · rw [if_neg e]
      rw [List.map_cons, List.mem_cons] at h
      rcases h with h | h
      · exact absurd h.symm e
      · obtain ⟨p, h1, h2, h3⟩ := lookT_mem (d := d) h
        exact ⟨p, List.mem_cons_of_mem _ h1, h2, h3⟩
def tab1 : List (List UInt8 × (Arr → Arr × Int)) := [([43], fun a => (a, 0)), ([45], fun a => (⟨a.shape, a.cells.map negatedF⟩, 0)), ([124], fun a => (⟨a.shape, a.cells.map magnitudeF⟩, 0)), ([42], fun a => (⟨a.shape, a.cells.map directionF⟩, 0)), ([114, 97, 118, 101, 108], fun a => (ravelP a, 0)), ([105, 111, 116, 97], iotaP), ([114, 104, 111], lengthsP), ([114, 101, 118], revP), ([117, 112], orderP compF), ([100, 111, 119, 110], orderP (fun x y => compF y x)), ([102, 108, 105, 112], flipP), ([43, 47], foldP (pairP plusF) 0), ([45, 47], foldP (pairP minusF) 0), ([42, 47], foldP (pairP timesF) 1), ([37, 47], foldP (pairP overF) 1), ([124, 47], foldP (pairP restF) 0), ([38, 47], foldP (pairP lesserF) 9223372036854775807), ([33, 47], foldP (pairP greaterF) (-9223372036854775808)), ([61, 47], foldP (pairP sameF) 1), ([60, 47], foldP (pairP belowF) 0), ([43, 92], scanP (pairP plusF)), ([45, 92], scanP (pairP minusF)), ([42, 92], scanP (pairP timesF)), ([37, 92], scanP (pairP overF)), ([124, 92], scanP (pairP restF)), ([38, 92], scanP (pairP lesserF)), ([33, 92], scanP (pairP greaterF)), ([61, 92], scanP (pairP sameF)), ([60, 92], scanP (pairP belowF))]
def tab2 : List (List UInt8 × (Arr → Arr → Arr × Int)) := [([43], pairP plusF), ([45], pairP minusF), ([42], pairP timesF), ([37], pairP overF), ([124], pairP restF), ([38], pairP lesserF), ([33], pairP greaterF), ([61], pairP sameF), ([60], pairP belowF), ([43, 46], outerP (pairP plusF)), ([45, 46], outerP (pairP minusF)), ([42, 46], outerP (pairP timesF)), ([37, 46], outerP (pairP overF)), ([124, 46], outerP (pairP restF)), ([38, 46], outerP (pairP lesserF)), ([33, 46], outerP (pairP greaterF)), ([61, 46], outerP (pairP sameF)), ([60, 46], outerP (pairP belowF)), ([114, 104, 111], reshapeP), ([114, 101, 118], turnP), ([116, 97, 107, 101], takeP), ([100, 114, 111, 112], dropP), ([99, 97, 116], catP), ([105, 110], inP), ([97, 116], atP), ([107, 101, 101, 112], keepP)]
inductive AllC {α : Type} (P : List UInt8 → α → Prop) : List (List UInt8 × α) → Prop where
  | nil : AllC P []
  | cons {k : List UInt8} {f : α} {r : List (List UInt8 × α)} : P k f → AllC P r → AllC P ((k, f) :: r)
theorem AllC.of {α : Type} {P : List UInt8 → α → Prop} {L : List (List UInt8 × α)} (h : AllC P L) : ∀ p ∈ L, P p.1 p.2 := by
  induction h with
  | nil => intro p hp; cases hp
  | cons h1 _ ih =>
    intro p hp
    rcases List.mem_cons.1 hp with rfl | hp
    · exact h1
    · exact ih p hp
theorem tab1_all : AllC (fun k f => OneC ⟨k.toArray⟩ f) tab1 := .cons itself_one (.cons negated_one (.cons magnitude_one (.cons direction_one (.cons ravel_one (.cons iota_one (.cons lengths_one (.cons round_one (.cons up_one (.cons down_one (.cons flip_one (.cons sum_one (.cons alt_one (.cons prod_one (.cons quot_one (.cons rests_one (.cons least_one (.cons most_one (.cons sames_one (.cons belows_one (.cons plus_scan (.cons minus_scan (.cons times_scan (.cons over_scan (.cons rest_scan (.cons lesser_scan (.cons greater_scan (.cons same_scan (.cons below_scan (.nil)))))))))))))))))))))))))))))
theorem tab2_all : AllC (fun k f => TwoC ⟨k.toArray⟩ f) tab2 := .cons plus_two (.cons minus_two (.cons times_two (.cons over_two (.cons rest_two (.cons lesser_two (.cons greater_two (.cons same_two (.cons below_two (.cons plus_outA (.cons minus_outA (.cons times_outA (.cons over_outA (.cons rest_outA (.cons lesser_outA (.cons greater_outA (.cons same_outA (.cons below_outA (.cons reshape_two (.cons turn_two (.cons take_two (.cons drop_two (.cons cat_two (.cons in_two (.cons at_two (.cons keep_two (.nil))))))))))))))))))))))))))
def f1A (t : ByteArray) : Arr → Arr × Int := lookT (fun a => (a, 0)) tab1 t.data.toList
def f2A (t : ByteArray) : Arr → Arr → Arr × Int := lookT (fun a _ => (a, 0)) tab2 t.data.toList
theorem one_A {t : ByteArray} (h : t.data.toList ∈ tab1.map (·.1)) : OneC t (f1A t) := by
  obtain ⟨p, h1, h2, h3⟩ := lookT_mem (d := fun a => (a, 0)) h
  have hc := tab1_all.of p h1
  unfold f1A
  rw [h3]
  have : (⟨p.1.toArray⟩ : ByteArray) = t := by rw [h2]
  rw [← this]
  exact hc
theorem two_A {t : ByteArray} (h : t.data.toList ∈ tab2.map (·.1)) : TwoC t (f2A t) := by
  obtain ⟨p, h1, h2, h3⟩ := lookT_mem (d := fun a _ => (a, 0)) h
  have hc := tab2_all.of p h1
  unfold f2A
  rw [h3]
  have : (⟨p.1.toArray⟩ : ByteArray) = t := by rw [h2]
  rw [← this]
  exact hc
end Go.Proofs.YtjobgpahajhbnaaGreatDoor
namespace Go.Proofs.YtjobgpahajhbnaaGreatDoor
open Go.RowKit Go.Proofs

/-- what the text of a token is like -/
structure TkL (t : List UInt8) : Prop where
  pos : 0 < t.length
  fit : fit64 (worthT ⟨t.toArray⟩)
  one : roleB (roleT ⟨t.toArray⟩) 1 = true → t ∈ tab1.map (·.1)
  two : roleB (roleT ⟨t.toArray⟩) 2 = true → t ∈ tab2.map (·.1)
def signsL : List UInt8 := [43, 45, 42, 37, 124, 38, 33, 61, 60]
theorem sign_mem {c : UInt8} (h : gU c = true) : c ∈ signsL := by
  have key : ∀ n : Nat, n < 256 → sgnB (n : Int) = true → UInt8.ofNat n ∈ signsL := by decide +kernel
  have := key c.toNat (UInt8.toNat_lt c) h
  rwa [UInt8.ofNat_toNat] at this
theorem tailK_mem {d : UInt8} (h : tailU d = true) : d ∈ ([47, 92, 46] : List UInt8) := by
  simp only [tailU, Bool.or_eq_true, beq_iff_eq] at h
  simp
  rcases h with (h | h) | h
  · exact Or.inl h
  · exact Or.inr (Or.inl h)
  · exact Or.inr (Or.inr h)
def okL (t : List UInt8) : Bool := (!(roleB (roleT ⟨t.toArray⟩) 1) || decide (t ∈ tab1.map (·.1))) && (!(roleB (roleT ⟨t.toArray⟩) 2) || decide (t ∈ tab2.map (·.1))) && decide (worthT ⟨t.toArray⟩ = 0)
theorem okL_tk {t : List UInt8} (h : okL t = true) (h0 : 0 < t.length) : TkL t := by
  simp only [okL, Bool.and_eq_true, Bool.or_eq_true, decide_eq_true_eq, Bool.not_eq_true'] at h
  obtain ⟨⟨h1, h2⟩, h3⟩ := h
  exact ⟨h0, by rw [h3]; unfold fit64; omega, fun e => by rcases h1 with h1 | h1; rw [h1] at e; cases e; exact h1, fun e => by rcases h2 with h2 | h2; rw [h2] at e; cases e; exact h2⟩
theorem ok_signs : (signsL.all fun c => okL [c]) = true := by decide +kernel
theorem ok_forms : (signsL.all fun c => ([47, 92, 46] : List UInt8).all fun d => okL [c, d]) = true := by decide +kernel
theorem sign_tk {c : UInt8} (h : gU c = true) : TkL [c] := okL_tk (List.all_eq_true.1 ok_signs c (sign_mem h)) (by simp)
theorem form_tk {c d : UInt8} (h : gU c = true) (hdt : tailU d = true) : TkL [c, d] := okL_tk (List.all_eq_true.1 (List.all_eq_true.1 ok_forms c (sign_mem h)) d (tailK_mem hdt)) (by simp)
theorem role0_tk {t : List UInt8} (h0 : 0 < t.length) (hf : fit64 (worthT ⟨t.toArray⟩)) (hr : roleT ⟨t.toArray⟩ = 0) : TkL t :=
  ⟨h0, hf, fun e => by rw [hr] at e; exact absurd e (by decide), fun e => by rw [hr] at e; exact absurd e (by decide)⟩
theorem num_tk {t ds : List UInt8} (h : t = ds ∨ t = 95 :: ds) (h0 : 0 < ds.length) (hds : ds.all dU = true) (hv : val ds ≤ 9223372036854775807) : TkL t := by
  obtain ⟨c, r, rfl⟩ : ∃ c r, ds = c :: r := by
    cases ds with
    | nil => simp at h0
    | cons c r => exact ⟨c, r, rfl⟩
  have hc : dU c = true := by simp at hds; exact hds.1
  have hc' : digB (c.toNat : Int) = true := hc
  have hc2 : 48 ≤ (c.toNat : Int) ∧ (c.toNat : Int) ≤ 57 := by simpa [digB] using hc'
  rcases h with rfl | rfl
  · have hh : hd ⟨(c :: r).toArray⟩ = (c.toNat : Int) := rfl
    refine role0_tk (by simp) ?_ ?_
    · have : worthT ⟨(c :: r).toArray⟩ = (val (c :: r) : Int) := by
        unfold worthT
        rw [hh, show ((c.toNat : Int) == 95) = false from beq_false_of_ne (by omega), cond_false, hc', cond_true]
      rw [this]
      unfold fit64
      omega
    · unfold roleT
      rw [hh, show ((c.toNat : Int) == 40) = false from beq_false_of_ne (by omega), show ((c.toNat : Int) == 41) = false from beq_false_of_ne (by omega), hc']
      simp
  · have hh : hd ⟨(95 :: c :: r).toArray⟩ = 95 := rfl
    refine role0_tk (by simp) ?_ ?_
    · have : worthT ⟨(95 :: c :: r).toArray⟩ = -(val (c :: r) : Int) := by
        unfold worthT
        rw [hh]
        rfl
      rw [this]
      unfold fit64
      omega
    · unfold roleT
      rw [hh]
      rfl
theorem all_twK (p : UInt8 → Bool) : ∀ l : List UInt8, (l.takeWhile p).all p = true ∧ l.take (l.takeWhile p).length = l.takeWhile p
  | [] => by simp
  | c :: l => by
    have ih := all_twK p l
    cases h : p c
    · simp [h]
    · simp only [List.takeWhile_cons, h, if_true]
      exact ⟨by simp [h], by simp [ih.2]⟩
def words1 : List (List UInt8) := [[105, 111, 116, 97], [117, 112], [100, 111, 119, 110], [102, 108, 105, 112], [114, 97, 118, 101, 108], [114, 104, 111], [114, 101, 118]]
def words2 : List (List UInt8) := [[114, 104, 111], [114, 101, 118], [116, 97, 107, 101], [100, 114, 111, 112], [99, 97, 116], [105, 110], [97, 116], [107, 101, 101, 112]]
theorem word_roles (t : ByteArray) : (roleB (wRole t) 1 = true → t.toList ∈ words1) ∧ (roleB (wRole t) 2 = true → t.toList ∈ words2) := by
  have n10 : ¬ roleB 0 1 = true := by decide
  have n20 : ¬ roleB 0 2 = true := by decide
  have n12 : ¬ roleB 1 2 = true := by decide
  have n21 : ¬ roleB 2 1 = true := by decide
  unfold wRole
  generalize t.toList = l
  have step : ∀ (k : List UInt8) (v : Int) (r : Int), ((l == k) = true → (roleB v 1 = true → l ∈ words1) ∧ (roleB v 2 = true → l ∈ words2)) → ((roleB r 1 = true → l ∈ words1) ∧ (roleB r 2 = true → l ∈ words2)) → (roleB (bif l == k then v else r) 1 = true → l ∈ words1) ∧ (roleB (bif l == k then v else r) 2 = true → l ∈ words2) := by
    intro k v r h1 h2
    cases h : (l == k)
    · exact h2
    · exact h1 h
  refine step _ _ _ (fun h => by rw [beq_iff_eq.1 h]; exact ⟨fun _ => by decide, fun e => absurd e n12⟩) ?_
  refine step _ _ _ (fun h => by rw [beq_iff_eq.1 h]; exact ⟨fun _ => by decide, fun e => absurd e n12⟩) ?_
  refine step _ _ _ (fun h => by rw [beq_iff_eq.1 h]; exact ⟨fun _ => by decide, fun e => absurd e n12⟩) ?_
  refine step _ _ _ (fun h => by rw [beq_iff_eq.1 h]; exact ⟨fun _ => by decide, fun e => absurd e n12⟩) ?_
  refine step _ _ _ (fun h => by rw [beq_iff_eq.1 h]; exact ⟨fun _ => by decide, fun e => absurd e n12⟩) ?_
  refine step _ _ _ (fun h => by rw [beq_iff_eq.1 h]; exact ⟨fun _ => by decide, fun _ => by decide⟩) ?_
  refine step _ _ _ (fun h => by rw [beq_iff_eq.1 h]; exact ⟨fun _ => by decide, fun _ => by decide⟩) ?_
  refine step _ _ _ (fun h => by rw [beq_iff_eq.1 h]; exact ⟨fun e => absurd e n21, fun _ => by decide⟩) ?_
  refine step _ _ _ (fun h => by rw [beq_iff_eq.1 h]; exact ⟨fun e => absurd e n21, fun _ => by decide⟩) ?_
  refine step _ _ _ (fun h => by rw [beq_iff_eq.1 h]; exact ⟨fun e => absurd e n21, fun _ => by decide⟩) ?_
  refine step _ _ _ (fun h => by rw [beq_iff_eq.1 h]; exact ⟨fun e => absurd e n21, fun _ => by decide⟩) ?_
  refine step _ _ _ (fun h => by rw [beq_iff_eq.1 h]; exact ⟨fun e => absurd e n21, fun _ => by decide⟩) ?_
  refine step _ _ _ (fun h => by rw [beq_iff_eq.1 h]; exact ⟨fun e => absurd e n21, fun _ => by decide⟩) ?_
  exact ⟨fun e => absurd e n10, fun e => absurd e n20⟩
theorem words_tab1 : ∀ t ∈ words1, t ∈ tab1.map (·.1) := by
  have : (words1.all fun t => decide (t ∈ tab1.map (·.1))) = true := by decide +kernel
  intro t ht
  exact of_decide_eq_true (List.all_eq_true.1 this t ht)
theorem words_tab2 : ∀ t ∈ words2, t ∈ tab2.map (·.1) := by
  have : (words2.all fun t => decide (t ∈ tab2.map (·.1))) = true := by decide +kernel
  intro t ht
  exact of_decide_eq_true (List.all_eq_true.1 this t ht)
theorem word_tk {c : UInt8} {r : List UInt8} (h : lU c = true) : TkL (c :: r) := by
  have h' : letB (c.toNat : Int) = true := h
  have h2 : 97 ≤ (c.toNat : Int) ∧ (c.toNat : Int) ≤ 122 := by simpa [letB] using h'
  have hh : hd ⟨(c :: r).toArray⟩ = (c.toNat : Int) := rfl
  have hdg : digB (c.toNat : Int) = false := by unfold digB; exact decide_eq_false (by omega)
  have h95 : ((c.toNat : Int) == 95) = false := beq_false_of_ne (by omega)
  have hr : roleT ⟨(c :: r).toArray⟩ = wRole ⟨(c :: r).toArray⟩ := by
    unfold roleT
    rw [hh, show ((c.toNat : Int) == 40) = false from beq_false_of_ne (by omega), show ((c.toNat : Int) == 41) = false from beq_false_of_ne (by omega), h95, hdg, h']
    rfl
  have hw : worthT ⟨(c :: r).toArray⟩ = 0 := by
    unfold worthT
    rw [hh, h95, hdg]
    rfl
  have hl : (⟨(c :: r).toArray⟩ : ByteArray).toList = c :: r := by rw [ByteArray.toList_eq]
  obtain ⟨k1, k2⟩ := word_roles ⟨(c :: r).toArray⟩
  rw [hl] at k1 k2
  exact ⟨by simp, by rw [hw]; unfold fit64; omega, fun e => words_tab1 _ (k1 (by rw [← hr]; exact e)), fun e => words_tab2 _ (k2 (by rw [← hr]; exact e))⟩
theorem tl_tk {l : List UInt8} {n : Nat} (h : tl l = some n) : TkL (l.take n) := by
  cases l with
  | nil => cases h
  | cons c r =>
    simp only [tl] at h
    cases h1 : dU c
    · rw [h1, cond_false] at h
      cases h2 : (c == 95)
      · rw [h2, cond_false] at h
        cases h3 : lU c
        · rw [h3, cond_false] at h
          cases h4 : (c == 40 || c == 41)
          · rw [h4, cond_false] at h
            cases h5 : gU c
            · rw [h5, cond_false] at h; cases h
            · rw [h5, cond_true] at h
              injection h with h
              subst h
              cases r with
              | nil => exact sign_tk h5
              | cons d r =>
                by_cases ht : tailU d = true
                · have : sgnE (d :: r) = 2 := by simp [sgnE, ht]
                  rw [this]
                  exact form_tk h5 ht
                · have : sgnE (d :: r) = 1 := by simp [sgnE, ht]
                  rw [this]
                  exact sign_tk h5
          · rw [h4, cond_true] at h
            injection h with h
            subst h
            simp only [Bool.or_eq_true, beq_iff_eq] at h4
            rcases h4 with rfl | rfl
            · exact role0_tk (by simp) (by show fit64 0; unfold fit64; omega) rfl
            · exact role0_tk (by simp) (by show fit64 0; unfold fit64; omega) rfl
        · rw [h3, cond_true] at h
          unfold wrdE at h
          have hn : n = ((c :: r).takeWhile lU).length := by
            simp only at h
            split at h
            · cases h
            · injection h with h; exact h.symm
          subst hn
          have : (c :: r).take ((c :: r).takeWhile lU).length = c :: r.takeWhile lU := by
            rw [(all_twK lU (c :: r)).2, List.takeWhile_cons, h3]
            rfl
          rw [this]
          exact word_tk h3
      · rw [h2, cond_true] at h
        have hc := beq_iff_eq.1 h2
        subst hc
        unfold numE at h
        simp only at h
        split at h
        · cases h
        · rename_i hb
          injection h with h
          subst h
          have e := all_twK dU r
          rw [Nat.add_comm, List.take_succ_cons, e.2]
          exact num_tk (Or.inr rfl) (by omega) e.1 (by omega)
    · rw [h1, cond_true] at h
      unfold numE at h
      simp only at h
      split at h
      · cases h
      · rename_i hb
        injection h with h
        subst h
        have e := all_twK dU (c :: r)
        rw [Nat.zero_add, e.2]
        exact num_tk (Or.inl rfl) (by omega) e.1 (by omega)
def AllK (s : ByteArray) (A : List (Nat × Nat)) : Prop := ∀ q ∈ A, TkL (s.extract q.1 q.2).data.toList
theorem lex_tk (s : ByteArray) : ∀ (f p : Nat) (A : List (Nat × Nat)), AllK s A → AllK s (lexS s f p A).1
  | 0, _, _, h => h
  | f + 1, p, A, h => by
    unfold lexS
    split
    · rename_i hp
      cases hb : ((s[p].toNat : Int) == 32)
      · rw [cond_false]
        cases ht : tl (s.data.toList.drop p) with
        | none => intro q hq; cases hq
        | some n =>
          apply lex_tk s f
          intro q hq
          rcases List.mem_append.1 hq with hq | hq
          · exact h q hq
          · rw [List.mem_singleton.1 hq]
            show TkL (s.extract p (p + n)).data.toList
            rw [ext_list, Nat.add_sub_cancel_left]
            exact tl_tk ht
      · rw [cond_true]
        exact lex_tk s f _ _ h
    · exact h
/-- every token of a text -/
def TokOk (q : Tok) : Prop := fit64 q.x ∧ q.t.size ≤ 200 ∧ (roleB q.r 1 = true → OneC q.t (f1A q.t)) ∧ (roleB q.r 2 = true → TwoC q.t (f2A q.t))
theorem toks_ok {s : ByteArray} (hs : s.size ≤ 200) : ∀ q ∈ toks s (lexR s).1, TokOk q := by
  intro q hq
  simp only [toks, List.mem_map] at hq
  obtain ⟨p, hp, rfl⟩ := hq
  have h := lex_tk s s.size 0 [] (fun q hq => by cases hq) p hp
  exact ⟨h.fit, by show (s.extract p.1 p.2).size ≤ 200; rw [ByteArray.size_extract]; omega, fun e => one_A (h.one e), fun e => two_A (h.two e)⟩
theorem px_good {S : List Tok} (hS : ∀ q ∈ S, TokOk q) (hl : S.length ≤ 200) {b : Bool} {j o k : Nat} {x : Ex} (h : PX S b j o x k) : Good f1A f2A x := by
  have atf : ∀ {i : Nat} {v : Int}, fB (kr S) i v = true → ∃ q ∈ S, tokAt S i = q ∧ roleB q.r v = true := by
    intro i v hf
    by_cases hi : i < S.length
    · rw [fB_at hi] at hf
      exact ⟨S[i], List.getElem_mem hi, tokAt_lt hi, hf⟩
    · unfold fB at hf
      rw [kr_out (by omega)] at hf
      cases hf
  induction h with
  | nums j o k h1 h2 h3 h4 =>
    refine ⟨by rw [worths_len _ _ _ h2]; omega, by rw [worths_len _ _ _ h2]; omega, fun c hc => ?_⟩
    simp only [worths, List.mem_map] at hc
    obtain ⟨q, hq, rfl⟩ := hc
    exact (hS q (List.mem_of_mem_take (List.mem_of_mem_drop hq))).1
  | name j o h1 =>
    show (tokAt S j).t.size ≤ 200
    by_cases hi : j < S.length
    · rw [tokAt_lt hi]
      exact (hS _ (List.getElem_mem hi)).2.1
    · unfold kB at h1
      rw [kr_out (by omega)] at h1
      cases h1
  | paren j o e k h1 h2 h3 h4 ih => exact ih
  | one j o r k h1 h2 ih =>
    obtain ⟨q, hq, e, hr⟩ := atf h1
    refine ⟨?_, ih⟩
    rw [e]
    exact (hS q hq).2.2.1 hr
  | only j o l k h1 h2 h3 ih => exact ih
  | two j o l k r m h1 h2 h3 h4 ih1 ih2 =>
    obtain ⟨q, hq, e, hr⟩ := atf h3
    refine ⟨?_, ih1, ih2⟩
    rw [e]
    exact (hS q hq).2.2.2 hr
theorem tree_good {s : ByteArray} (hs : s.size ≤ 200) {x : Ex} (h : TreeOf s x) : Good f1A f2A x :=
  px_good (toks_ok hs) (by rw [toks_len]; exact lexR_few hs) h
end Go.Proofs.YtjobgpahajhbnaaGreatDoor
