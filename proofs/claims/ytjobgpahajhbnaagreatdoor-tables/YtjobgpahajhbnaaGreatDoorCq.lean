import Derived.Test.YtjobgpahajhbnaaGreatDoorTe
import Derived.Test.YtjobgpahajhbnaaGreatDoorCg
import Derived.Test.YtjobgpahajhbnaaGreatDoorDg
import Derived.Test.YtjobgpahajhbnaaGreatDoorDb
import Derived.Test.YtjobgpahajhbnaaGreatDoorHd
namespace Go.Proofs.YtjobgpahajhbnaaGreatDoor
open Go.RowKit Go.Proofs Go.Maps
attribute [local go_sem ↓] Go.wp_at_zero Go.wp_at_succ

theorem Tryz.full246 (h : Nat) (w : World) : (binOp .eql 246 (.func (.func h) #[] #[]) .nilFunc).run Tryz.prog w = .ok (.bool false) w := by kernel_rfl
set_option maxHeartbeats 2000000 in
set_option maxRecDepth 20000 in
theorem find_form2 {t : ByteArray} {k1 k2 ks : Lit} {h g : Nat} {z : Int} (h1 : 1 ≤ t.size) (hk2 : keyOf Tryz.prog 9 (.string t) = some k2) (hh : Maps.has signsD k2 = false) (hk1 : keyOf Tryz.prog 9 (.string (t.extract 1 t.size)) = some k1) (ha1 : formsTwoD.atKey k1 (.held .nilFunc) = .held (.func (.func h) #[] #[])) (hks : keyOf Tryz.prog 9 (.string (t.extract 0 1)) = some ks) (has : signsD.atKey ks (.held zSign) = .held (.agg #[.func (.func g) #[] #[], .int .i64 z])) (w : World) :
    Calls Tryz.prog 111 #[.string t] w fun e w' => ∃ b3 b4, e = .returned (.func (.func 159) #[] #[.pointer (some ⟨b3, 0, none⟩), .pointer (some ⟨b4, 0, none⟩)]) ∧ w'.cell? ⟨b3, 0, none⟩ = some (.func (.func h) #[] #[]) ∧ b3 < w'.heap.size ∧ w'.cell? ⟨b4, 0, none⟩ = some (.func (.func g) #[] #[]) ∧ w'.cell? ⟨b4, 1, none⟩ = some (.int .i64 z) ∧ b4 < w'.heap.size ∧ Below w.heap.size w w' := by
  have HL0 : Hid (∀ w' b, w'.ownsMap Tryz.prog 9 selfE b 9 signsD → (Instr.lookup 242 (.map (some b)) (.string t) true).run Tryz.prog w' = .ok (.tuple #[.agg #[.nilFunc, .int .i64 0], .bool false]) w') := hide (fun w' b h => look_self Tryz.underlying242 (Tryz.zero241 w') h hk2 hh (atKey_of_not_has hh _))
  have HL1 : Hid (∀ w' b, w'.ownsMap Tryz.prog 9 selfE b 1 formsTwoD → (Instr.lookup 247 (.map (some b)) (.string (t.extract 1 t.size)) false).run Tryz.prog w' = .ok (.func (.func h) #[] #[]) w') := hide (fun w' b h => look_self0 Tryz.underlying247 (Tryz.zero246 w') h hk1 ha1)
  have HL2 : Hid (∀ w' b, w'.ownsMap Tryz.prog 9 selfE b 9 signsD → (Instr.lookup 242 (.map (some b)) (.string (t.extract 0 1)) false).run Tryz.prog w' = .ok (.agg #[.func (.func g) #[] #[], .int .i64 z]) w') := hide (fun w' b h => look_self0 Tryz.underlying242 (Tryz.zero241 w') h hks has)
  have hnn := Tryz.full246 h
  clear hk1 ha1 hks has hk2 hh
  go_enter Tryz.func111, Tryz.ntmps111
  go_upto_region 4 with (go_at_call 154; refine (signs_any _).mono ?_; rintro e w1 ⟨rfl, ho, hb⟩; have hl0 := unhide HL0 _ _ ho; have HB0 := hide hb; clear ho hb)
  have HW : Hid (Below w.heap.size w (w1.alloc (.cells #[.nilFunc, .int .i64 0] 241))) := hide ((unhide HB0).alloc (unhide HB0).size _)
  obtain ⟨W1, hW1⟩ : ∃ W1, w1.alloc (.cells #[.nilFunc, .int .i64 0] 241) = W1 := ⟨_, rfl⟩
  rw [hW1] at HW ⊢
  clear hW1 hl0 HB0
  go_cut [5] from 16 to 19 (fun v5 wx => ∃ b3, v5 = .pointer (some ⟨b3, 0, none⟩) ∧ wx.cell? ⟨b3, 0, none⟩ = some (.func (.func h) #[] #[]) ∧ b3 < wx.heap.size ∧ Below W1.heap.size W1 wx)
  case first =>
    go_region_with (first | (go_at_call 157; refine (formsTwo_any _).mono ?_; rintro e w1 ⟨rfl, ho, hb⟩; have hl := unhide HL1 _ W1.heap.size (by exact ho); have hl3 := unhide HL1 (w1.alloc (.cells #[.nilFunc] 246)) W1.heap.size (World.ownsMap.alloc (by exact ho) _); have HB := hide hb; obtain ⟨hc, hf⟩ := bcell hb; have hs := hb.size; (try simp at hs); (try have hs2 : W1.heap.size < w1.heap.size := by omega); clear ho hb) | (go_at_call 157; refine (formsTwo_any _).mono ?_; rintro e w1 ⟨rfl, ho, hb⟩; have hl : (Instr.lookup 247 (.map (some (W1.heap.size + 1))) (.string (t.extract 1 t.size)) false).run Tryz.prog w1 = .ok (.func (.func h) #[] #[]) w1 := (by have := unhide HL1 _ _ ho; simpa [World.drew] using this); have HB := hide hb; obtain ⟨hc, hf⟩ := bcell hb; have hs := hb.size; (try simp at hs); (try have hs2 : W1.heap.size < w1.heap.size := by omega); clear ho hb))
    all_goals go_wp2_with fail
    all_goals go_meet
    all_goals first
      | exact ⟨w1.heap.size, rfl, (World.cell?_alloc_at _ _ _ _ rfl).trans rfl, by simp, (below_drew (unhide HB)).alloc (below_drew (unhide HB)).size _⟩
      | exact ⟨W1.heap.size, rfl, World.cell?_setCell_same _ _ _ (u := .nilFunc) ((hc W1.heap.size 0 (by simp)).trans ((World.cell?_alloc_at _ _ _ _ rfl).trans rfl)), by simp; omega, ((((Below.refl W1.heap.size W1).alloc (Nat.le_refl _) _).drew.trans ((unhide HB).mono (by simp))).setCell (p := ⟨W1.heap.size, 0, none⟩) (Nat.le_refl _) _)⟩
      | (trace_state; fail)
  case rest =>
    obtain ⟨b3, rfl, c3, l3, hb3⟩ := hcut
    rename World => wc
    have HB3 : Hid (Below w.heap.size w wc) := hide ((unhide HW).trans (hb3.mono (unhide HW).size))
    clear hb3
    go_upto_region 7 with fail
    go_cut [6] from 25 to 28 (fun v6 wx => ∃ b4, v6 = .pointer (some ⟨b4, 0, none⟩) ∧ wx.cell? ⟨b4, 0, none⟩ = some (.func (.func g) #[] #[]) ∧ wx.cell? ⟨b4, 1, none⟩ = some (.int .i64 z) ∧ b4 < wx.heap.size ∧ Below wc.heap.size wc wx)
    case first =>
      go_region_with (first | (go_at_call 154; refine (signs_any _).mono ?_; rintro e w1 ⟨rfl, ho, hb⟩; have hl := unhide HL2 _ wc.heap.size (by exact ho); have hl3 := unhide HL2 (w1.alloc (.cells #[.nilFunc, .int .i64 0] 241)) wc.heap.size (World.ownsMap.alloc (by exact ho) _); have HB := hide hb; obtain ⟨hc, hf⟩ := bcell hb; have hs := hb.size; (try simp at hs); (try have hs2 : wc.heap.size < w1.heap.size := by omega); clear ho hb) | (go_at_call 154; refine (signs_any _).mono ?_; rintro e w1 ⟨rfl, ho, hb⟩; have hl : (Instr.lookup 242 (.map (some (wc.heap.size + 1))) (.string (t.extract 0 1)) false).run Tryz.prog w1 = .ok (.agg #[.func (.func g) #[] #[], .int .i64 z]) w1 := (by have := unhide HL2 _ _ ho; simpa [World.drew] using this); have HB := hide hb; obtain ⟨hc, hf⟩ := bcell hb; have hs := hb.size; (try simp at hs); (try have hs2 : wc.heap.size < w1.heap.size := by omega); clear ho hb))
      all_goals go_wp2_with fail
      all_goals go_meet
      all_goals first
        | exact ⟨w1.heap.size, rfl, (World.cell?_alloc_at _ _ _ _ rfl).trans rfl, (World.cell?_alloc_at _ _ _ _ rfl).trans rfl, by simp, (below_drew (unhide HB)).alloc (below_drew (unhide HB)).size _⟩
        | exact ⟨wc.heap.size, rfl, (World.cell?_setCell_other _ _ _ _ (by simp)).trans (World.cell?_setCell_same _ _ _ (u := .nilFunc) ((hc wc.heap.size 0 (by simp)).trans ((World.cell?_alloc_at _ _ _ _ rfl).trans rfl))), World.cell?_setCell_same _ _ _ (u := .int .i64 0) ((World.cell?_setCell_other _ _ _ _ (by simp)).trans ((hc wc.heap.size 1 (by simp)).trans ((World.cell?_alloc_at _ _ _ _ rfl).trans rfl))), by simp; omega, (((((Below.refl wc.heap.size wc).alloc (Nat.le_refl _) _).drew.trans ((unhide HB).mono (by simp))).setCell (p := ⟨wc.heap.size, 0, none⟩) (Nat.le_refl _) _).setCell (p := ⟨wc.heap.size, 1, none⟩) (Nat.le_refl _) _)⟩
        | (trace_state; fail)
    case rest =>
      obtain ⟨b4, rfl, c4, c5, l4, hb4⟩ := hcut
      rename World => wd
      have HB4 := hide hb4
      clear hb4
      go_wp2_with fail
      exact bodyPost_ret (v := .func (.func 159) #[] #[.pointer (some ⟨b3, 0, none⟩), .pointer (some ⟨b4, 0, none⟩)]) (by simp [results, Tryz.results111, go_sem]) rfl ⟨b3, b4, rfl, ((unhide HB4).cell (p := ⟨b3, 0, none⟩) l3).trans c3, Nat.lt_of_lt_of_le l3 (unhide HB4).size, c4, c5, l4, (unhide HB3).trans ((unhide HB4).mono (unhide HB3).size)⟩
end Go.Proofs.YtjobgpahajhbnaaGreatDoor
namespace Go.Proofs.YtjobgpahajhbnaaGreatDoor
open Go.RowKit Go.Proofs Go.Maps
attribute [local go_sem ↓] Go.wp_at_zero Go.wp_at_succ

set_option maxHeartbeats 1000000 in
theorem form_fn2 {h g : Nat} {z : Int} (hh : Enters Tryz.prog h) {F : Arr → Arr → Arr × Int} {w' : World} (hF : ∀ (P : Nat → Prop) (W : World), Below w'.heap.size w' W → (∀ b, W.heap.size ≤ b → P b) → ∀ (so : Option Addr) (sn sc : Nat) (co : Option Addr) (cn cc : Nat) (so2 : Option Addr) (sn2 sc2 : Nat) (co2 : Option Addr) (cn2 cc2 : Nat) (a b : Arr), IsArr P W (.agg #[.slice so sn sc, .slice co cn cc]) a → IsArr P W (.agg #[.slice so2 sn2 sc2, .slice co2 cn2 cc2]) b → a.ok → b.ok → Calls Tryz.prog h #[.agg #[.slice so sn sc, .slice co cn cc], .agg #[.slice so2 sn2 sc2, .slice co2 cn2 cc2], .agg #[.func (.func g) #[] #[], .int .i64 z]] W fun e W' => ∃ so sn sc co cn cc, e = .returned (.tuple #[.agg #[.slice so sn sc, .slice co cn cc], .int .i64 (F a b).2]) ∧ IsArr P W' (.agg #[.slice so sn sc, .slice co cn cc]) (F a b).1 ∧ Below W.heap.size W W')
    {b3 b4 : Nat} (c3 : w'.cell? ⟨b3, 0, none⟩ = some (.func (.func h) #[] #[])) (l3 : b3 < w'.heap.size) (c4 : w'.cell? ⟨b4, 0, none⟩ = some (.func (.func g) #[] #[])) (c5 : w'.cell? ⟨b4, 1, none⟩ = some (.int .i64 z)) (l4 : b4 < w'.heap.size) : FnTwo 159 #[.pointer (some ⟨b3, 0, none⟩), .pointer (some ⟨b4, 0, none⟩)] w' F := by
  intro W P u v a b hW hP hA hB hoa hob
  have hA0 := hA
  have hB0 := hB
  obtain ⟨so, sn, sc, co, cn, cc, rfl, _, _⟩ := hA0
  obtain ⟨so2, sn2, sc2, co2, cn2, cc2, rfl, _, _⟩ := hB0
  show Calls Tryz.prog 159 #[.agg #[.slice so sn sc, .slice co cn cc], .agg #[.slice so2 sn2 sc2, .slice co2 cn2 cc2], .pointer (some ⟨b3, 0, none⟩), .pointer (some ⟨b4, 0, none⟩)] W _
  have d3 := (hW.cell (p := ⟨b3, 0, none⟩) l3).trans c3
  have d4 := (hW.cell (p := ⟨b4, 0, none⟩) l4).trans c4
  have d5 := (hW.cell (p := ⟨b4, 1, none⟩) l4).trans c5
  have hsz := hW.size
  have k3 : b3 < W.heap.size := by omega
  have k4 : b4 < W.heap.size := by omega
  have hen2 : ∀ args w, (callFunc h args).run Tryz.prog w = .ok (.enter h args) w := hh
  have hst : Bx W (((W.alloc (.cells #[.slice so sn sc, .slice co cn cc] 89)).alloc (.cells #[.slice so2 sn2 sc2, .slice co2 cn2 cc2] 89)).alloc (.cells #[.slice none 0 0, .slice none 0 0] 89)) [[.slice so sn sc, .slice co cn cc], [.slice so2 sn2 sc2, .slice co2 cn2 cc2], [.slice none 0 0, .slice none 0 0]] := (((Bx.nil W).alloc (by simp) [.slice so sn sc, .slice co cn cc] 89).alloc (by simp) [.slice so2 sn2 sc2, .slice co2 cn2 cc2] 89).alloc (by simp) [.slice none 0 0, .slice none 0 0] 89
  have HST := hide hst
  have HC := hide (hF (OffB W.heap.size 3 P) _ (hW.trans (hst.below.mono hsz)) (fun b hb => OffB.new hP (by have := hst.lt; simp at hb; omega)) so sn sc co cn cc so2 sn2 sc2 co2 cn2 cc2 a b ((hA.imp (Q := OffB W.heap.size 3 P) (fun b h hl => ⟨h, Or.inl hl⟩)).below hst.below) ((hB.imp (Q := OffB W.heap.size 3 P) (fun b h hl => ⟨h, Or.inl hl⟩)).below hst.below) hoa hob)
  have k31 : b3 < W.heap.size + 1 := by omega
  have k32 : b3 < W.heap.size + 1 + 1 := by omega
  have k41 : b4 < W.heap.size + 1 := by omega
  have k42 : b4 < W.heap.size + 1 + 1 := by omega
  clear hst hA hB hoa hob hP hF hh c3 l3 c4 c5 l4 hW hsz
  go_enter Tryz.func159, Tryz.ntmps159
  go_wp2_with (go_at_fn h; refine (unhide HC).mono ?_)
  rintro e w2 ⟨s4, s5, s6, c4, c5, c6, rfl, hA5, hb5⟩
  have HX := hide ((unhide HST).next hb5)
  have HA5 := hide hA5
  clear hA5 hb5 HST HC d3 d4 d5
  have r0 : w2.cell? ⟨W.heap.size + 1 + 1, 0, none⟩ = some (.slice none 0 0) := ((unhide HX).cell 2 0 _ rfl).1
  have r1 : w2.cell? ⟨W.heap.size + 1 + 1, 1, none⟩ = some (.slice none 0 0) := ((unhide HX).cell 2 1 _ rfl).1
  have g0 : w2.frozen? ⟨W.heap.size + 1 + 1, 0, none⟩ = false := ((unhide HX).cell 2 0 _ rfl).2
  have g1 : w2.frozen? ⟨W.heap.size + 1 + 1, 1, none⟩ = false := ((unhide HX).cell 2 1 _ rfl).2
  go_wp2_with fail
  have hf2 := fin_bx (q := 2) (u0 := .slice s4 s5 s6) (u1 := .slice c4 c5 c6) (unhide HX).below (by decide) (unhide HA5)
  exact bodyPost_ret (v := .tuple #[.agg #[.slice s4 s5 s6, .slice c4 c5 c6], .int .i64 (F a b).2]) (by simp [results, Tryz.results159, go_sem, r0, r1]) rfl ⟨_, _, _, _, _, _, rfl, hf2.1, hf2.2⟩
theorem Tryz.enters159 : Enters Tryz.prog 159 := Go.Proofs.enters_of Tryz.func159 (by decide) rfl
theorem Tryz.enters199 : Enters Tryz.prog 199 := Go.Proofs.enters_of Tryz.func199 (by decide) rfl
theorem outer_c {t : ByteArray} {k2 ks : Lit} {g : Nat} {z : Int} {f : Arr → Arr → Arr × Int} (h1 : 1 ≤ t.size) (hk2 : keyOf Tryz.prog 9 (.string t) = some k2) (hh : Maps.has signsD k2 = false) (hk1 : keyOf Tryz.prog 9 (.string (t.extract 1 t.size)) = some (.string [46])) (hks : keyOf Tryz.prog 9 (.string (t.extract 0 1)) = some ks) (has : signsD.atKey ks (.held zSign) = .held (.agg #[.func (.func g) #[] #[], .int .i64 z])) (hen : Enters Tryz.prog g) (hfn : ∀ w, FnTwo g #[] w f) (hsp : Spread f) : TwoC t (outerP f) where
  finds := fun w => (find_form2 h1 hk2 hh hk1 (show formsTwoD.atKey (.string [46]) (.held .nilFunc) = .held (.func (.func 199) #[] #[]) by kernel_rfl) hks has w).mono (by
    rintro e w' ⟨b3, b4, rfl, c3, l3, c4, c5, l4, hb⟩
    exact ⟨159, _, rfl, Tryz.enters159, hb, form_fn2 Tryz.enters199 (fun P W hW hP so sn sc co cn cc so2 sn2 sc2 co2 cn2 cc2 a b ha hb hoa hob => outer_any z hen (hfn w') hsp P W hW hP so sn sc co cn cc so2 sn2 sc2 co2 cn2 cc2 a b ha hb hoa hob) c3 l3 c4 c5 l4⟩)
  ok := fun a b ha hb => outer_ok hsp ha hb
theorem minus_outer : TwoC ⟨#[45, 46]⟩ (outerP (pairP minusF)) := outer_c (z := 0) (by decide) (k2 := .string [45, 46]) (by kernel_rfl) (by kernel_rfl) (by kernel_rfl) (ks := .string [45]) (by kernel_rfl) (by kernel_rfl) Tryz.enters191 minus_fn (pair_spread minus_rule.fits)
end Go.Proofs.YtjobgpahajhbnaaGreatDoor
namespace Go.Proofs.YtjobgpahajhbnaaGreatDoor
open Go.RowKit Go.Proofs

/-- a table of r rows and c columns -/
def tabA (r c : Nat) (xs : List Int) : Arr := ⟨[r, c], xs⟩
def sumR (n : Nat) (f : Nat → Int) : Int := ((List.range n).map f).sum
theorem sumR_succ (n : Nat) (f : Nat → Int) : sumR (n + 1) f = sumR n f + f n := by
  simp [sumR, List.range_succ, List.sum_append]
theorem sumR_zero (f : Nat → Int) : sumR 0 f = 0 := rfl
theorem sumR_congr {n : Nat} {f g : Nat → Int} (h : ∀ i, i < n → f i = g i) : sumR n f = sumR n g := by
  unfold sumR
  rw [List.map_congr_left (fun i hi => h i (by simpa using hi))]
theorem sumR_add (n : Nat) (f g : Nat → Int) : sumR n (fun i => f i + g i) = sumR n f + sumR n g := by
  induction n with
  | zero => rfl
  | succ n ih => rw [sumR_succ, sumR_succ, sumR_succ, ih]; omega
theorem sumR_none (n : Nat) : sumR n (fun _ => 0) = 0 := by
  induction n with
  | zero => rfl
  | succ n ih => rw [sumR_succ, ih]; rfl
theorem sumR_swap (n m : Nat) (f : Nat → Nat → Int) : sumR n (fun i => sumR m (fun j => f i j)) = sumR m (fun j => sumR n (fun i => f i j)) := by
  induction n with
  | zero => simp only [sumR_zero, sumR_none]
  | succ n ih =>
    rw [sumR_succ, ih, ← sumR_add]
    exact sumR_congr (fun j _ => (sumR_succ n (fun i => f i j)).symm)
theorem range_mul (r c : Nat) {α : Type} (g : Nat → α) : (List.range (r * c)).map g = ((List.range r).map fun i => (List.range c).map fun k => g (i * c + k)).flatten := by
  induction r with
  | zero => simp
  | succ r ih =>
    rw [Nat.succ_mul, List.range_add, List.map_append, ih, List.range_succ, List.map_append, List.flatten_append]
    simp [List.map_map, Function.comp_def]
theorem sum_flatten : ∀ L : List (List Int), L.flatten.sum = (L.map List.sum).sum
  | [] => rfl
  | l :: r => by rw [List.flatten_cons, List.sum_append, sum_flatten r, List.map_cons, List.sum_cons]
theorem sumR_mul (r c : Nat) (g : Nat → Int) : sumR (r * c) g = sumR r (fun i => sumR c (fun k => g (i * c + k))) := by
  unfold sumR
  rw [range_mul, sum_flatten, List.map_map]
  rfl
theorem range_getD (xs : List Int) : (List.range xs.length).map (fun p => xs.getD p 0) = xs := by
  apply List.ext_getElem
  · simp
  · intro i h1 h2
    simp [h2]
theorem sum_range (xs : List Int) : xs.sum = sumR xs.length (fun p => xs.getD p 0) := by
  unfold sumR
  rw [range_getD]
theorem reshape_tab {r c : Nat} (hr : r ≤ 6) (hc : c ≤ 6) {l : List Int} (hl : l ≠ []) : reshapeP (rowA [(r : Int), (c : Int)]) (rowA l) = (tabA r c (reC (r * c) l (r * c)), 0) := by
  have h36 : r * c ≤ 6 * 6 := Nat.mul_le_mul hr hc
  have hs : shapeOf [(r : Int), (c : Int)] = [r, c] := by
    simp only [shapeOf, List.map_cons, List.map_nil]
    have e1 : (min (r : Int) 65).toNat = r := by omega
    have e2 : (min (c : Int) 65).toNat = c := by omega
    rw [e1, e2]
  have hp : prodL [r, c] = r * c := by simp [prodL]
  have hn : ([(r : Int), (c : Int)].any negB) = false := by
    have e1 : negB (r : Int) = false := by simp [negB]
    have e2 : negB (c : Int) = false := by simp [negB]
    simp [e1, e2]
  have hf : fitsB [r, c] = true := by
    unfold fitsB
    rw [hp]
    simp
    omega
  unfold reshapeP
  have hcl : (rowA [(r : Int), (c : Int)]).cells = [(r : Int), (c : Int)] := rfl
  have hlc : (rowA l).cells = l := rfl
  rw [if_neg (by simp [rowA]), hcl, hn, if_neg (by simp), hs, hf, if_neg (by simp), hlc, if_neg (by rintro ⟨h, _⟩; exact hl (List.eq_nil_of_length_eq_zero h)), hp]
  rfl
theorem reC_at {n p : Nat} {l : List Int} (hp : p < n) (h0 : 0 < l.length) : (reC n l n)[p]? = some (l[p % l.length]'(Nat.mod_lt _ h0)) := by
  have hm := Nat.mod_lt p h0
  simp only [reC, List.getElem?_map, List.getElem?_range hp, Option.map_some, if_pos hp]
  rw [List.getD_eq_getElem?_getD, List.getElem?_eq_getElem hm]
  rfl
/-- a table flipped -/
def flipT (r c : Nat) (xs : List Int) : List Int := (List.range (r * c)).map fun p => xs.getD ((p % r) * c + (p / r) % c) 0
theorem flipT_len (r c : Nat) (xs : List Int) : (flipT r c xs).length = r * c := by simp [flipT]
theorem flip_tab {r c : Nat} {xs : List Int} (hx : xs.length = r * c) : flipP (tabA r c xs) = (tabA c r (flipT r c xs), 0) := by
  unfold flipP flipC tabA flipT
  simp only [List.reverse_cons, List.reverse_nil, List.nil_append, List.cons_append, hx, fpl, Nat.zero_mul, Nat.zero_add]
theorem at_rc {c i k : Nat} (hk : k < c) : (i * c + k) / c = i ∧ (i * c + k) % c = k := by
  constructor
  · rw [Nat.add_comm, Nat.add_mul_div_right _ _ (by omega), Nat.div_eq_of_lt hk, Nat.zero_add]
  · rw [Nat.add_comm, Nat.add_mul_mod_self_right, Nat.mod_eq_of_lt hk]
theorem rc_lt {r c i k : Nat} (hi : i < r) (hk : k < c) : i * c + k < r * c := by
  have : (i + 1) * c ≤ r * c := Nat.mul_le_mul_right c hi
  rw [Nat.add_mul] at this
  omega
theorem flipT_at {r c i k : Nat} {xs : List Int} (hi : i < r) (hk : k < c) : (flipT r c xs)[k * r + i]? = some (xs.getD (i * c + k) 0) := by
  have hp : k * r + i < r * c := by rw [Nat.mul_comm r c]; exact rc_lt hk hi
  obtain ⟨e1, e2⟩ := at_rc (i := k) hi
  simp only [flipT, List.getElem?_map, List.getElem?_range hp, Option.map_some, e1, e2, Nat.mod_eq_of_lt hk]
theorem flipT_two {r c : Nat} {xs : List Int} (hx : xs.length = r * c) : flipT c r (flipT r c xs) = xs := by
  apply List.ext_getElem?
  intro p
  by_cases hp : p < r * c
  · have hc : 0 < c := by
      rcases Nat.eq_zero_or_pos c with e | e
      · rw [e] at hp; omega
      · exact e
    have hk := Nat.mod_lt p hc
    have hi : p / c < r := Nat.div_lt_of_lt_mul (by rw [Nat.mul_comm]; exact hp)
    have hdm : p / c * c + p % c = p := by rw [Nat.mul_comm]; exact Nat.div_add_mod p c
    have h1 := flipT_at (xs := flipT r c xs) hk hi
    rw [hdm] at h1
    rw [h1, List.getD_eq_getElem?_getD, flipT_at hi hk, hdm, Option.getD_some, List.getD_eq_getElem?_getD, List.getElem?_eq_getElem (by omega)]
    rfl
  · rw [List.getElem?_eq_none (by rw [flipT_len, Nat.mul_comm]; omega), List.getElem?_eq_none (by omega)]
/-- rows of one length, one upon the other -/
theorem zip_plain {F : Int → Int → Int × Int} (hF : ∀ x y, (F x y).2 = 0) : ∀ xs ys : List Int, zipF F xs ys = .inr (List.zipWith (fun x y => (F x y).1) xs ys)
  | x :: xs, y :: ys => by
    unfold zipF
    rw [if_neg (by simp [hF]), zip_plain hF xs ys]
    rfl
  | [], _ => by unfold zipF; simp
  | _ :: _, [] => by unfold zipF; simp
theorem pair_rows {F : Int → Int → Int × Int} (hF : ∀ x y, (F x y).2 = 0) {xs ys : List Int} (hl : xs.length = ys.length) : pairP F (rowA xs) (rowA ys) = (rowA (List.zipWith (fun x y => (F x y).1) xs ys), 0) := by
  unfold pairP
  have hs : (rowA xs).shape = (rowA ys).shape := by simp [rowA, hl]
  rw [if_neg (by simp [rowA]), if_neg (by simp [rowA]), if_neg (by simp [hs]), if_neg (by simp [hs])]
  unfold zipA
  have hc : zipF F (rowA xs).cells (rowA ys).cells = .inr (List.zipWith (fun x y => (F x y).1) xs ys) := zip_plain hF xs ys
  rw [hc]
  simp [rowA, hl]
def chainR (g : Int → Int → Int) (r : Nat) (L : List (List Int)) : List Int := (List.range r).map fun i => chainN g (L.map fun l => l.getD i 0)
theorem chainR_len (g : Int → Int → Int) (r : Nat) (L : List (List Int)) : (chainR g r L).length = r := by simp [chainR]
theorem chain_rows {F : Int → Int → Int × Int} (hF : ∀ x y, (F x y).2 = 0) {r : Nat} : ∀ {L : List (List Int)}, L ≠ [] → (∀ l ∈ L, l.length = r) → chainL (pairP F) (L.map rowA) = (rowA (chainR (fun x y => (F x y).1) r L), 0)
  | [], h, _ => absurd rfl h
  | l :: L, _, hl => by
    have hll := hl l (by simp)
    by_cases hL : L = []
    · subst hL
      rw [List.map_cons, List.map_nil, chain_one]
      have : chainR (fun x y => (F x y).1) r [l] = l := by
        unfold chainR
        simp only [List.map_cons, List.map_nil, chainN_one]
        rw [← hll]
        exact range_getD l
      rw [this]
    · have ih := chain_rows hF hL (fun m hm => hl m (by simp [hm]))
      rw [List.map_cons, chain_cons (by simpa using hL) (by rw [ih]), ih, pair_rows hF (by rw [chainR_len, hll])]
      have : List.zipWith (fun x y => (F x y).1) l (chainR (fun x y => (F x y).1) r L) = chainR (fun x y => (F x y).1) r (l :: L) := by
        apply List.ext_getElem
        · simp [chainR, hll]
        · intro i h1 h2
          simp only [chainR, List.getElem_zipWith, List.getElem_map, List.getElem_range, List.map_cons]
          rw [chainN_cons (by simpa using hL)]
          have hi : i < l.length := by simp at h1; omega
          simp [List.getD_eq_getElem?_getD, hi]
      rw [this]
      simp
/-- the sum of a table's row -/
def rowSum (c : Nat) (xs : List Int) (i : Nat) : Int := sumR c fun k => xs.getD (i * c + k) 0
def rowSums (r c : Nat) (xs : List Int) : List Int := (List.range r).map (rowSum c xs)
theorem rowSums_len (r c : Nat) (xs : List Int) : (rowSums r c xs).length = r := by simp [rowSums]
def Within (M : Int) (l : List Int) : Prop := ∀ x ∈ l, -M ≤ x ∧ x ≤ M
theorem within_getD {M : Int} (h0 : 0 ≤ M) {l : List Int} (h : Within M l) (p : Nat) : -M ≤ l.getD p 0 ∧ l.getD p 0 ≤ M := by
  rw [List.getD_eq_getElem?_getD]
  cases hg : l[p]? with
  | none => simp; omega
  | some v => exact h v (List.mem_of_getElem? hg)
theorem sumR_within {M : Int} {f : Nat → Int} (n : Nat) (h : ∀ i, i < n → -M ≤ f i ∧ f i ≤ M) : -(M * n) ≤ sumR n f ∧ sumR n f ≤ M * n := by
  induction n with
  | zero => simp [sumR_zero]
  | succ n ih =>
    have h1 := ih (fun i hi => h i (by omega))
    have h2 := h n (by omega)
    rw [sumR_succ, Int.natCast_succ, Int.mul_add, Int.mul_one]
    omega
theorem sum_within {M : Int} : ∀ {l : List Int}, Within M l → -(M * (l.length : Int)) ≤ l.sum ∧ l.sum ≤ M * (l.length : Int)
  | [], _ => by simp
  | x :: r, h => by
    have h1 := h x (by simp)
    have h2 := sum_within (l := r) (fun y hy => h y (by simp [hy]))
    rw [List.sum_cons, List.length_cons, Int.natCast_succ, Int.mul_add, Int.mul_one]
    omega
theorem chain_sum {M : Int} (hM : 0 ≤ M) : ∀ {l : List Int}, Within M l → M * (l.length : Int) ≤ 90000 → l ≠ [] → chainN (fun x y => (plusF x y).1) l = l.sum
  | [], _, _, h => absurd rfl h
  | x :: r, hw, hl, _ => by
    by_cases hr : r = []
    · subst hr; rw [chainN_one]; simp
    · have h1 := hw x (by simp)
      have hw2 : Within M r := fun y hy => hw y (by simp [hy])
      have h2 := sum_within hw2
      rw [List.length_cons, Int.natCast_succ, Int.mul_add, Int.mul_one] at hl
      have h0 : 0 ≤ M * (r.length : Int) := Int.mul_nonneg hM (by omega)
      rw [chainN_cons hr, chain_sum hM hw2 (by omega) hr, List.sum_cons]
      show wrap64 (x + r.sum) = _
      exact wrap_id (by omega) (by omega)
theorem fold_sum {M : Int} (hM : 0 ≤ M) {l : List Int} (hw : Within M l) (hl : M * (l.length : Int) ≤ 90000) : foldP (pairP plusF) 0 (rowA l) = (arrOf [l.sum], 0) := by
  rw [fold_row (fun _ _ => rfl)]
  unfold foldN
  by_cases h : l = []
  · subst h; rfl
  · rw [if_neg h, chain_sum hM hw hl h]
theorem tab_cols (r c : Nat) (xs : List Int) : cols (tabA r c xs) = (List.range c).map fun k => rowA (colC xs c k r) := by
  unfold cols
  have hl : lastN (tabA r c xs).shape = c := by simp [tabA, lastN]
  rw [hl]
  apply List.map_congr_left
  intro k _
  unfold col
  rw [hl]
  have hd : (tabA r c xs).shape.dropLast = [r] := rfl
  have hp : prodL [r] = r := prodL_one r
  rw [hd, hp]
  simp [rowA, colC_len, tabA]
theorem fold_tab {M : Int} (hM : 0 ≤ M) {r c : Nat} (hr : r ≤ 6) {xs : List Int} (hw : Within M xs) (hl : M * (c : Int) ≤ 90000) : foldP (pairP plusF) 0 (tabA r c xs) = (rowA (rowSums r c xs), 0) := by
  unfold foldP
  have hd : (tabA r c xs).shape.dropLast = [r] := rfl
  have hla : lastN (tabA r c xs).shape = c := by simp [tabA, lastN]
  have hp : prodL [r] = r := prodL_one r
  have hf : fitsB [r] = true := by
    unfold fitsB
    rw [hp]
    simp
    omega
  rw [if_neg (by simp [tabA]), hd, hf, if_neg (by simp), hla, hp]
  by_cases hc : c = 0
  · rw [if_pos hc]
    subst hc
    have : rowSums r 0 xs = List.replicate r 0 := by
      unfold rowSums rowSum
      simp only [sumR_zero]
      simp [List.map_const']
    rw [this]
    simp [rowA]
  · rw [if_neg hc, tab_cols]
    have hm : ((List.range c).map fun k => rowA (colC xs c k r)) = ((List.range c).map fun k => colC xs c k r).map rowA := by rw [List.map_map]; rfl
    rw [hm, chain_rows (r := r) (fun _ _ => rfl) (by intro e; have := congrArg List.length e; simp at this; exact hc this) (by intro l hl; obtain ⟨k, _, rfl⟩ := List.mem_map.1 hl; exact colC_len _ _ _ _)]
    have : chainR (fun x y => (plusF x y).1) r ((List.range c).map fun k => colC xs c k r) = rowSums r c xs := by
      unfold chainR rowSums
      apply List.map_congr_left
      intro i hi
      have hi : i < r := by simpa using hi
      rw [List.map_map]
      have e : ((fun l : List Int => l.getD i 0) ∘ fun k => colC xs c k r) = fun k => xs.getD (i * c + k) 0 := by
        funext k
        show (colC xs c k r).getD i 0 = _
        rw [List.getD_eq_getElem?_getD, colC, List.getElem?_map, List.getElem?_range hi]
        show xs.getD (k + i * c) 0 = _
        rw [Nat.add_comm]
      rw [e]
      have hW : Within M ((List.range c).map fun k => xs.getD (i * c + k) 0) := by
        intro y hy
        obtain ⟨k, _, rfl⟩ := List.mem_map.1 hy
        exact within_getD hM hw _
      rw [chain_sum hM hW (by simpa using hl) (by intro e; have := congrArg List.length e; simp at this; exact hc this)]
      rfl
    rw [this]
theorem flip_sums {r c : Nat} {xs : List Int} (hx : xs.length = r * c) : (rowSums c r (flipT r c xs)).sum = xs.sum := by
  have h1 : (rowSums c r (flipT r c xs)).sum = sumR c (fun k => sumR r (fun i => xs.getD (i * c + k) 0)) := by
    show sumR c (rowSum r (flipT r c xs)) = _
    refine sumR_congr (fun k hk => sumR_congr (fun i hi => ?_))
    rw [List.getD_eq_getElem?_getD, flipT_at hi hk]
    rfl
  rw [h1, ← sumR_swap, ← sumR_mul r c (fun p => xs.getD p 0), ← hx, ← sum_range]
/-- each with each, by minus -/
def tabT (r c : Nat) : List Int := (List.range (r * c)).map fun p => ((p / c : Nat) : Int) - ((p % c : Nat) : Int)
theorem tabT_len (r c : Nat) : (tabT r c).length = r * c := by simp [tabT]
theorem tabT_at {r c i k : Nat} (hi : i < r) (hk : k < c) : (tabT r c)[i * c + k]? = some ((i : Int) - (k : Int)) := by
  obtain ⟨e1, e2⟩ := at_rc (i := i) hk
  simp only [tabT, List.getElem?_map, List.getElem?_range (rc_lt hi hk), Option.map_some, e1, e2]
def iotaL (n : Nat) : List Int := (List.range n).map Int.ofNat
theorem sc_row (x : Int) (ys : List Int) : pairP minusF ⟨[], [x]⟩ (rowA ys) = (rowA (ys.map fun y => wrap64 (x - y)), 0) := by
  unfold pairP
  rw [if_pos rfl]
  unfold zipA
  have hc : zipF minusF (List.replicate (rowA ys).cells.length (List.headD [x] 0)) (rowA ys).cells = .inr (ys.map fun y => wrap64 (x - y)) := by
    rw [zip_plain (fun _ _ => rfl)]
    congr 1
    apply List.ext_getElem
    · simp [rowA]
    · intro i h1 h2
      simp [rowA]
      rfl
  show (match zipF minusF (List.replicate (rowA ys).cells.length (List.headD [x] 0)) (rowA ys).cells with | .inl e => (eArr, e) | .inr l => (⟨(rowA ys).shape, l⟩, 0)) = _
  rw [hc]
  simp [rowA]
theorem outer_tab {r c : Nat} (hr : r ≤ 6) (hc : c ≤ 6) : outerP (pairP minusF) (rowA (iotaL r)) (rowA (iotaL c)) = (tabA r c (tabT r c), 0) := by
  have h36 : r * c ≤ 6 * 6 := Nat.mul_le_mul hr hc
  have hil : ∀ n, (iotaL n).length = n := fun n => by simp [iotaL]
  have hs : (rowA (iotaL r)).shape ++ (rowA (iotaL c)).shape = [r, c] := by simp [rowA, hil]
  have hf : fitsB [r, c] = true := by
    unfold fitsB
    have hp : prodL [r, c] = r * c := by simp [prodL]
    rw [hp]
    simp
    omega
  have hE : ∀ k, outE (pairP minusF) (rowA (iotaL c)) (iotaL r) k = 0 := by
    intro k
    induction k with
    | zero => rfl
    | succ k ih => rw [outE, ih, if_neg (by simp), sc_row]
  unfold outerP
  have hcl : (rowA (iotaL r)).cells = iotaL r := rfl
  rw [if_neg (by simp [rowA]), hs, hf, if_neg (by simp), hcl, hE, if_neg (by simp)]
  have : outC (pairP minusF) (rowA (iotaL c)) (iotaL r) = tabT r c := by
    unfold outC tabT
    rw [range_mul]
    unfold iotaL
    rw [List.map_map]
    congr 1
    apply List.map_congr_left
    intro i hi
    have hi : i < r := by simpa using hi
    show (pairP minusF ⟨[], [Int.ofNat i]⟩ (rowA ((List.range c).map Int.ofNat))).1.cells = _
    rw [sc_row]
    show ((List.range c).map Int.ofNat).map (fun y => wrap64 (Int.ofNat i - y)) = _
    rw [List.map_map]
    apply List.map_congr_left
    intro k hk
    have hk : k < c := by simpa using hk
    obtain ⟨e1, e2⟩ := at_rc (i := i) hk
    rw [e1, e2]
    show wrap64 ((i : Int) - (k : Int)) = _
    exact wrap_id (by omega) (by omega)
  rw [this]
  rfl
theorem lengths_tab (r c : Nat) (xs : List Int) : lengthsP (tabA r c xs) = (rowA [(r : Int), (c : Int)], 0) := rfl
/-- the place from which rev takes a table's cell -/
def sig (c p : Nat) : Nat := p / c * c + (c - 1 - p % c)
theorem sig_lt {r c p : Nat} (hp : p < r * c) (hc : 0 < c) : sig c p < r * c := by
  have hk := Nat.mod_lt p hc
  have hi : p / c < r := Nat.div_lt_of_lt_mul (by rw [Nat.mul_comm]; exact hp)
  exact rc_lt hi (by omega)
theorem sig_sig {c p : Nat} (hc : 0 < c) : sig c (sig c p) = p := by
  have hk := Nat.mod_lt p hc
  obtain ⟨e1, e2⟩ := at_rc (c := c) (i := p / c) (k := c - 1 - p % c) (by omega)
  have hdm : p / c * c + p % c = p := by rw [Nat.mul_comm]; exact Nat.div_add_mod p c
  unfold sig
  rw [e1, e2]
  omega
theorem revAt_at {L : List Int} {s c p : Nat} (h : s + c ≤ L.length) : (revAt L (s, c))[p]? = if p < s then L[p]? else if p < s + c then L[s + (c - 1 - (p - s))]? else L[p]? := by
  unfold revAt
  by_cases h1 : p < s
  · rw [if_pos h1, List.getElem?_append_left (by simp; omega), List.getElem?_take, if_pos h1]
  · rw [if_neg h1, List.getElem?_append_right (by simp; omega), List.length_take, Nat.min_eq_left (by omega)]
    by_cases h2 : p < s + c
    · rw [if_pos h2, List.getElem?_append_left (by simp; omega), List.getElem?_reverse (by simp; omega), List.length_take, List.length_drop, Nat.min_eq_left (by omega), List.getElem?_take, if_pos (by omega), List.getElem?_drop]
    · rw [if_neg h2, List.getElem?_append_right (by simp; omega), List.getElem?_drop, List.length_reverse, List.length_take, List.length_drop, Nat.min_eq_left (by omega), show s + c + (p - s - c) = p by omega]
theorem revs_at {n r c : Nat} (hc : 0 < c) (hn : n = r * c) {xs : List Int} (hx : xs.length = n) : ∀ k, k ≤ r → ∀ p, (revs (partsL n c hc k) xs)[p]? = if p < k * c then xs[sig c p]? else xs[p]?
  | 0, _, p => by simp [partsL, revs]
  | k + 1, hk, p => by
    have hlt : k * c < n := by
      rw [hn]
      have : (k + 1) * c ≤ r * c := Nat.mul_le_mul_right c hk
      rw [Nat.add_mul] at this
      omega
    have hle : k * c + c ≤ n := by
      rw [hn]
      have : (k + 1) * c ≤ r * c := Nat.mul_le_mul_right c hk
      rw [Nat.add_mul] at this
      omega
    rw [partsL_succ hc hlt, revs_snoc]
    have hch : (chunkAt n c k hc hlt).1 = (k * c, c) := by
      show (k * c, min c (n - k * c)) = _
      rw [Nat.min_eq_left (by omega)]
    rw [hch, revAt_at (by rw [revs_len _ _ hx]; omega)]
    have ih := revs_at hc hn hx k (by omega)
    have hkc : (k + 1) * c = k * c + c := by rw [Nat.add_mul, Nat.one_mul]
    by_cases h1 : p < k * c
    · rw [if_pos h1, ih p, if_pos h1, if_pos (by omega)]
    · rw [if_neg h1]
      by_cases h2 : p < k * c + c
      · obtain ⟨e1, e2⟩ := at_rc (c := c) (i := k) (k := p - k * c) (by omega)
        rw [show k * c + (p - k * c) = p by omega] at e1 e2
        rw [if_pos h2, if_pos (by omega), ih, if_neg (by omega)]
        unfold sig
        rw [e1, e2]
      · rw [if_neg h2, ih p, if_neg h1, if_neg (by omega)]
theorem revC_at {r c : Nat} (hc : 0 < c) {xs : List Int} (hx : xs.length = r * c) {p : Nat} (hp : p < r * c) : (revC xs c)[p]? = xs[sig c p]? := by
  unfold revC
  have hm : ∀ (m : Nat) (hm : 0 < m), m = c → (revs (partsL xs.length m hm xs.length) xs)[p]? = xs[sig c p]? := by
    intro m hm e
    subst e
    have hrn : r ≤ xs.length := by rw [hx]; exact Nat.le_mul_of_pos_right _ hm
    rw [partsL_end (k := r) hm (by omega) _ hrn, revs_at (r := r) hm hx rfl r (Nat.le_refl _), if_pos hp]
  exact hm _ _ (by omega)
theorem revC_len (xs : List Int) (c : Nat) : (revC xs c).length = xs.length := revs_len _ _ rfl
theorem revC_two {r c : Nat} {xs : List Int} (hx : xs.length = r * c) : revC (revC xs c) c = xs := by
  apply List.ext_getElem?
  intro p
  by_cases hp : p < r * c
  · have hc : 0 < c := by
      rcases Nat.eq_zero_or_pos c with e | e
      · rw [e] at hp; omega
      · exact e
    rw [revC_at hc (by rw [revC_len]; exact hx) hp, revC_at hc hx (sig_lt hp hc), sig_sig hc]
  · rw [List.getElem?_eq_none (by rw [revC_len, revC_len]; omega), List.getElem?_eq_none (by omega)]
theorem rev_tab (r c : Nat) (xs : List Int) : revP (tabA r c xs) = (tabA r c (revC xs c), 0) := by
  unfold revP
  rw [if_neg (by simp [tabA])]
  have hl : lastN (tabA r c xs).shape = c := by simp [tabA, lastN]
  rw [hl]
  rfl
theorem reshape_self {r c : Nat} (hr : r ≤ 6) (hc : c ≤ 6) {xs : List Int} (hx : xs.length = r * c) : reshapeP (rowA [(r : Int), (c : Int)]) (rowA xs) = (tabA r c xs, 0) := by
  have h36 : r * c ≤ 6 * 6 := Nat.mul_le_mul hr hc
  have hs : shapeOf [(r : Int), (c : Int)] = [r, c] := by
    simp only [shapeOf, List.map_cons, List.map_nil]
    have e1 : (min (r : Int) 65).toNat = r := by omega
    have e2 : (min (c : Int) 65).toNat = c := by omega
    rw [e1, e2]
  have hp : prodL [r, c] = r * c := by simp [prodL]
  have hn : ([(r : Int), (c : Int)].any negB) = false := by
    have e1 : negB (r : Int) = false := by simp [negB]
    have e2 : negB (c : Int) = false := by simp [negB]
    simp [e1, e2]
  have hf : fitsB [r, c] = true := by
    unfold fitsB
    rw [hp]
    simp
    omega
  unfold reshapeP
  have hcl : (rowA [(r : Int), (c : Int)]).cells = [(r : Int), (c : Int)] := rfl
  have hlc : (rowA xs).cells = xs := rfl
  rw [if_neg (by simp [rowA]), hcl, hn, if_neg (by simp), hs, hf, if_neg (by simp), hlc, hp, if_neg (by rw [hx]; omega)]
  have : reC (r * c) xs (r * c) = xs := by
    apply List.ext_getElem?
    intro p
    by_cases h : p < r * c
    · rw [reC_at h (by omega), List.getElem?_eq_getElem (by omega)]
      congr 1
      have : p % xs.length = p := Nat.mod_eq_of_lt (by omega)
      simp only [this]
    · rw [List.getElem?_eq_none (by rw [reC_len]; omega), List.getElem?_eq_none (by omega)]
  rw [this]
  rfl
end Go.Proofs.YtjobgpahajhbnaaGreatDoor
