import Derived.Test.YtjobgpahajhbnaaGreatDoorEb
import Derived.Test.YtjobgpahajhbnaaGreatDoorEa
import Derived.Deep.RegionHeld3
import Derived.Laws.OwnMore
namespace Go.Proofs.YtjobgpahajhbnaaGreatDoor
open Go.RowKit Go.Proofs Go.Maps
attribute [local go_sem ↓] Go.wp_at_zero Go.wp_at_succ

theorem look_self0 {D : DataW Value} {n : Nat} {w : World} {b : Nat} {m e : TypeId} {zv : Value} (hm : Tryz.prog.underlying m = some (.map 9 e)) (hz : (zeroValue e).run Tryz.prog w = .ok zv w) (h : w.ownsMap Tryz.prog 9 selfE b n D) {t : ByteArray} {kl : Lit} {v : Value} (hk : keyOf Tryz.prog 9 (.string t) = some kl) (hat : D.atKey kl (.held zv) = .held v) :
    (Instr.lookup m (.map (some b)) (.string t) false).run Tryz.prog w = .ok v w := by
  obtain ⟨u, ps, h1, h2⟩ := h.lookup Tryz.law9 hm hz (show selfE zv = some (.held zv, []) from rfl) hk
  rw [hat] at h2
  have h3 : DataW.held u = DataW.held v := congrArg Prod.fst (Option.some.inj h2)
  have h4 : u = v := congrArg heldOf h3
  rw [h1, h4]
theorem Tryz.zero235 (w : World) : (zeroValue 235).run Tryz.prog w = .ok .nilFunc w := by kernel_rfl
theorem Tryz.zero201 (w : World) : (zeroValue 201).run Tryz.prog w = .ok .nilFunc w := by kernel_rfl

theorem Tryz.nil235 (w : World) : (binOp .eql 235 .nilFunc .nilFunc).run Tryz.prog w = .ok (.bool true) w := by kernel_rfl
set_option maxHeartbeats 1000000 in
set_option maxRecDepth 20000 in
theorem find_one {t : ByteArray} {k1 k2 : Lit} {f : Nat} (h1 : 1 ≤ t.size) (hk1 : keyOf Tryz.prog 9 (.string (t.extract 1 t.size)) = some k1) (ha1 : formsOneD.atKey k1 (.held .nilFunc) = .held .nilFunc) (hk2 : keyOf Tryz.prog 9 (.string t) = some k2) (ha2 : onesD.atKey k2 (.held .nilFunc) = .held (.func (.func f) #[] #[])) (w : World) :
    Calls Tryz.prog 109 #[.string t] w fun e w' => e = .returned (.func (.func f) #[] #[]) ∧ Below w.heap.size w w' := by
  have HL1 : Hid (∀ w' b, w'.ownsMap Tryz.prog 9 selfE b 2 formsOneD → (Instr.lookup 236 (.map (some b)) (.string (t.extract 1 t.size)) false).run Tryz.prog w' = .ok .nilFunc w') := hide (fun w' b h => look_self0 Tryz.underlying236 (Tryz.zero235 w') h hk1 ha1)
  have HL2 : Hid (∀ w' b, w'.ownsMap Tryz.prog 9 selfE b 11 onesD → (Instr.lookup 238 (.map (some b)) (.string t) false).run Tryz.prog w' = .ok (.func (.func f) #[] #[]) w') := hide (fun w' b h => look_self0 Tryz.underlying238 (Tryz.zero201 w') h hk2 ha2)
  have hnn := Tryz.nil235
  clear hk1 ha1 hk2 ha2
  go_enter Tryz.func109, Tryz.ntmps109
  go_wp2_with fail
  go_region_with (first | (go_at_call 152; refine (formsOne_any _).mono ?_; rintro e w1 ⟨rfl, ho, hb⟩; have hl := unhide HL1 _ w.heap.size (by exact ho); have hl3 := unhide HL1 (w1.alloc (.cells #[.nilFunc] 235)) w.heap.size (World.ownsMap.alloc (by exact ho) _); have HB := hide hb; obtain ⟨hc, hf⟩ := bcell hb; have hs := hb.size; (try simp at hs); (try have hs2 : w.heap.size < w1.heap.size := by omega); clear ho hb) | (go_at_call 152; refine (formsOne_any _).mono ?_; rintro e w1 ⟨rfl, ho, hb⟩; have hl : (Instr.lookup 236 (.map (some (w.heap.size + 1))) (.string (t.extract 1 t.size)) false).run Tryz.prog w1 = .ok .nilFunc w1 := (by have := unhide HL1 _ _ ho; simpa [World.drew] using this); have HB := hide hb; obtain ⟨hc, hf⟩ := bcell hb; have hs := hb.size; (try simp at hs); (try have hs2 : w.heap.size < w1.heap.size := by omega); clear ho hb))
  all_goals
    go_wp2_with (go_at_call 153; refine (ones_any _).mono ?_; rintro e w2 ⟨rfl, ho, hb⟩; have hl2 := unhide HL2 _ _ ho; (try simp only [World.size_alloc, World.size_setCell] at hl2); have HB2 := hide hb; clear ho hb)
    first
    | (have hA : Below w.heap.size w (w1.alloc (.cells #[.nilFunc] 235)) := (below_drew (unhide HB)).alloc (below_drew (unhide HB)).size _
       exact bodyPost_ret (v := .func (.func f) #[] #[]) (by simp [results, Tryz.results109, go_sem]) rfl ⟨rfl, hA.trans ((unhide HB2).mono hA.size)⟩)
    | (have hA : Below w.heap.size w (w1.setCell ⟨w.heap.size, 0, none⟩ .nilFunc) := ((((Below.refl w.heap.size w).alloc (Nat.le_refl _) _).drew.trans ((unhide HB).mono (by simp))).setCell (p := ⟨w.heap.size, 0, none⟩) (Nat.le_refl _) _)
       exact bodyPost_ret (v := .func (.func f) #[] #[]) (by simp [results, Tryz.results109, go_sem]) rfl ⟨rfl, hA.trans ((unhide HB2).mono hA.size)⟩)
    | trace_state
end Go.Proofs.YtjobgpahajhbnaaGreatDoor
namespace Go.Proofs.YtjobgpahajhbnaaGreatDoor
open Go.RowKit Go.Proofs Go.Maps
attribute [local go_sem ↓] Go.wp_at_zero Go.wp_at_succ

set_option maxHeartbeats 400000 in
theorem isNaN_any (x : Int) (w : World) : Calls Tryz.prog 273 #[.int .i64 x] w fun e w' => e = .returned (.bool false) ∧ w' = w := by
  go_enter Tryz.func273, Tryz.ntmps273
  go_wp2
  exact bodyPost_ret (v := .bool false) (by simp [results, Tryz.results273, go_sem]) rfl ⟨rfl, rfl⟩
set_option maxHeartbeats 400000 in
theorem compare_any (x y r : Int) (hr : (if x < y then -1 else if y < x then 1 else 0) = r) (w : World) : Calls Tryz.prog 230 #[.int .i64 x, .int .i64 y] w fun e w' => e = .returned (.int .i64 r) ∧ w' = w := by
  subst hr
  by_cases h1 : x < y
  · rw [if_pos h1]
    go_enter Tryz.func230, Tryz.ntmps230
    go_wp2_with (go_at_call 273; refine (isNaN_any _ _).mono ?_; rintro e w' ⟨rfl, rfl⟩)
    exact bodyPost_ret (v := .int .i64 (-1)) (by simp [results, Tryz.results230, go_sem]) rfl ⟨rfl, rfl⟩
  · by_cases h2 : y < x
    · rw [if_neg h1, if_pos h2]
      go_enter Tryz.func230, Tryz.ntmps230
      go_wp2_with (go_at_call 273; refine (isNaN_any _ _).mono ?_; rintro e w' ⟨rfl, rfl⟩)
      exact bodyPost_ret (v := .int .i64 1) (by simp [results, Tryz.results230, go_sem]) rfl ⟨rfl, rfl⟩
    · rw [if_neg h1, if_neg h2]
      go_enter Tryz.func230, Tryz.ntmps230
      go_wp2_with (go_at_call 273; refine (isNaN_any _ _).mono ?_; rintro e w' ⟨rfl, rfl⟩)
      exact bodyPost_ret (v := .int .i64 0) (by simp [results, Tryz.results230, go_sem]) rfl ⟨rfl, rfl⟩
end Go.Proofs.YtjobgpahajhbnaaGreatDoor
namespace Go.Proofs.YtjobgpahajhbnaaGreatDoor
open Go.RowKit Go.Proofs Go.Maps
attribute [local go_sem ↓] Go.wp_at_zero Go.wp_at_succ

theorem Tryz.zero246 (w : World) : (zeroValue 246).run Tryz.prog w = .ok .nilFunc w := by kernel_rfl
theorem Tryz.zero205 (w : World) : (zeroValue 205).run Tryz.prog w = .ok .nilFunc w := by kernel_rfl
theorem Tryz.nil246 (w : World) : (binOp .eql 246 .nilFunc .nilFunc).run Tryz.prog w = .ok (.bool true) w := by kernel_rfl
set_option maxHeartbeats 1000000 in
set_option maxRecDepth 20000 in
theorem find_two {t : ByteArray} {k1 k2 : Lit} {f : Nat} (h1 : 1 ≤ t.size) (hk2 : keyOf Tryz.prog 9 (.string t) = some k2) (hh : Maps.has signsD k2 = false) (hk1 : keyOf Tryz.prog 9 (.string (t.extract 1 t.size)) = some k1) (ha1 : formsTwoD.atKey k1 (.held .nilFunc) = .held .nilFunc) (ha2 : twosD.atKey k2 (.held .nilFunc) = .held (.func (.func f) #[] #[])) (w : World) :
    Calls Tryz.prog 111 #[.string t] w fun e w' => e = .returned (.func (.func f) #[] #[]) ∧ Below w.heap.size w w' := by
  have HL0 : Hid (∀ w' b, w'.ownsMap Tryz.prog 9 selfE b 9 signsD → (Instr.lookup 242 (.map (some b)) (.string t) true).run Tryz.prog w' = .ok (.tuple #[.agg #[.nilFunc, .int .i64 0], .bool false]) w') := hide (fun w' b h => look_self Tryz.underlying242 (Tryz.zero241 w') h hk2 hh (atKey_of_not_has hh _))
  have HL1 : Hid (∀ w' b, w'.ownsMap Tryz.prog 9 selfE b 1 formsTwoD → (Instr.lookup 247 (.map (some b)) (.string (t.extract 1 t.size)) false).run Tryz.prog w' = .ok .nilFunc w') := hide (fun w' b h => look_self0 Tryz.underlying247 (Tryz.zero246 w') h hk1 ha1)
  have HL2 : Hid (∀ w' b, w'.ownsMap Tryz.prog 9 selfE b 8 twosD → (Instr.lookup 249 (.map (some b)) (.string t) false).run Tryz.prog w' = .ok (.func (.func f) #[] #[]) w') := hide (fun w' b h => look_self0 Tryz.underlying249 (Tryz.zero205 w') h hk2 ha2)
  have hnn := Tryz.nil246
  clear hk1 ha1 hk2 ha2 hh
  go_enter Tryz.func111, Tryz.ntmps111
  go_wp2_with (go_at_call 154; refine (signs_any _).mono ?_; rintro e w1 ⟨rfl, ho, hb⟩; have hl0 := unhide HL0 _ _ ho; have HB0 := hide hb; clear ho hb)
  have HW : Hid (Below w.heap.size w (w1.alloc (.cells #[.nilFunc, .int .i64 0] 241))) := hide ((unhide HB0).alloc (unhide HB0).size _)
  obtain ⟨W1, hW1⟩ : ∃ W1, w1.alloc (.cells #[.nilFunc, .int .i64 0] 241) = W1 := ⟨_, rfl⟩
  rw [hW1] at HW ⊢
  clear hW1 hl0 HB0
  go_region_with (first | (go_at_call 157; refine (formsTwo_any _).mono ?_; rintro e w1 ⟨rfl, ho, hb⟩; have hl := unhide HL1 _ W1.heap.size (by exact ho); have hl3 := unhide HL1 (w1.alloc (.cells #[.nilFunc] 246)) W1.heap.size (World.ownsMap.alloc (by exact ho) _); have HB := hide hb; obtain ⟨hc, hf⟩ := bcell hb; have hs := hb.size; (try simp at hs); (try have hs2 : W1.heap.size < w1.heap.size := by omega); clear ho hb) | (go_at_call 157; refine (formsTwo_any _).mono ?_; rintro e w1 ⟨rfl, ho, hb⟩; have hl : (Instr.lookup 247 (.map (some (W1.heap.size + 1))) (.string (t.extract 1 t.size)) false).run Tryz.prog w1 = .ok .nilFunc w1 := (by have := unhide HL1 _ _ ho; simpa [World.drew] using this); have HB := hide hb; obtain ⟨hc, hf⟩ := bcell hb; have hs := hb.size; (try simp at hs); (try have hs2 : W1.heap.size < w1.heap.size := by omega); clear ho hb))
  all_goals
    go_wp2_with (go_at_call 158; refine (twos_any _).mono ?_; rintro e w2 ⟨rfl, ho, hb⟩; have hl2 := unhide HL2 _ _ ho; (try simp only [World.size_alloc, World.size_setCell] at hl2); have HB2 := hide hb; clear ho hb)
    first
    | (have hA : Below W1.heap.size W1 (w1.alloc (.cells #[.nilFunc] 246)) := (below_drew (unhide HB)).alloc (below_drew (unhide HB)).size _
       exact bodyPost_ret (v := .func (.func f) #[] #[]) (by simp [results, Tryz.results111, go_sem]) rfl ⟨rfl, (unhide HW).trans ((hA.trans ((unhide HB2).mono hA.size)).mono (unhide HW).size)⟩)
    | (have hA : Below W1.heap.size W1 (w1.setCell ⟨W1.heap.size, 0, none⟩ .nilFunc) := ((((Below.refl W1.heap.size W1).alloc (Nat.le_refl _) _).drew.trans ((unhide HB).mono (by simp))).setCell (p := ⟨W1.heap.size, 0, none⟩) (Nat.le_refl _) _)
       exact bodyPost_ret (v := .func (.func f) #[] #[]) (by simp [results, Tryz.results111, go_sem]) rfl ⟨rfl, (unhide HW).trans ((hA.trans ((unhide HB2).mono hA.size)).mono (unhide HW).size)⟩)
    | trace_state
end Go.Proofs.YtjobgpahajhbnaaGreatDoor
namespace Go.Proofs.YtjobgpahajhbnaaGreatDoor
open Go.RowKit Go.Proofs Go.Maps
attribute [local go_sem ↓] Go.wp_at_zero Go.wp_at_succ

theorem Tryz.enters185 : Enters Tryz.prog 185 := Go.Proofs.enters_of Tryz.func185 (by decide) rfl
def ravelP (a : Arr) : Arr := ⟨[a.cells.length], a.cells⟩
set_option maxHeartbeats 400000 in
theorem ravel_fn (w : World) : FnOne 185 #[] w (fun a => (ravelP a, 0)) := by
  intro W P v a _ hP ha hoa
  obtain ⟨so, sn, sc, co, cn, cc, rfl, ha1, ha2⟩ := ha
  have HC := hide (fun W' (h : Below W.heap.size W W') (hs : W.heap.size + 1 < W'.heap.size) => row_any (fun b => P b ∧ b ≠ W.heap.size + 1) W' (fun b h' => ⟨hP b (by omega), by omega⟩) (.slice co cn cc) a.cells ((ha2.imp (fun b hp hl => ⟨hp, by omega⟩)).below h))
  clear hP hoa ha1 ha2
  obtain ⟨r, hr⟩ : ∃ r : Arr, ravelP a = r := ⟨_, rfl⟩
  have hr2 : (⟨[a.cells.length], a.cells⟩ : Arr) = r := hr
  simp only [hr2] at HC
  simp only [hr]
  clear hr hr2
  go_enter Tryz.func185, Tryz.ntmps185
  go_wp2_with (go_at_call 151; refine (unhide HC _ (((Below.refl W.heap.size W).alloc (Nat.le_refl _) _).alloc (by simp) _) (by simp)).mono ?_; rintro e w1 ⟨s1, s2, s3, c1, c2, c3, rfl, h1, hb1⟩; have HA := hide h1; have HB := hide hb1; obtain ⟨hc, hf⟩ := bcell hb1; have d0 := ((hc (W.heap.size + 1) 0 (by simp)).trans (World.cell?_alloc_at _ _ _ _ (by simp))).trans rfl; have d1 := ((hc (W.heap.size + 1) 1 (by simp)).trans (World.cell?_alloc_at _ _ _ _ (by simp))).trans rfl; have g0 := (hf (W.heap.size + 1) 0 (by simp)).trans (World.frozen?_alloc_at _ _ _ _ (by simp)); have g1 := (hf (W.heap.size + 1) 1 (by simp)).trans (World.frozen?_alloc_at _ _ _ _ (by simp)); clear h1 hb1 hc hf)
  refine bodyPost_ret (v := .tuple #[.agg #[.slice s1 s2 s3, .slice c1 c2 c3], .int .i64 0]) (by simp [results, Tryz.results185, go_sem, d0, d1]) rfl ⟨_, _, _, _, _, _, rfl, ?_, ?_⟩
  · exact (((unhide HA).set (fun h => h.2 rfl) 0 _).set (fun h => h.2 rfl) 1 _).imp (fun b h _ => h.1)
  · exact ((((Below.refl W.heap.size W).alloc (Nat.le_refl _) _).alloc (by simp) _).trans ((unhide HB).mono (by simp <;> omega))).setCell (p := ⟨W.heap.size + 1, 0, none⟩) (Nat.le_succ _) _ |>.setCell (p := ⟨W.heap.size + 1, 1, none⟩) (Nat.le_succ _) _
theorem ravel_one : OneC ⟨#[114, 97, 118, 101, 108]⟩ (fun a => (ravelP a, 0)) := ⟨fun w => (find_one (t := ⟨#[114, 97, 118, 101, 108]⟩) (k1 := .string [97, 118, 101, 108]) (k2 := .string [114, 97, 118, 101, 108]) (f := 185) (by decide) (by kernel_rfl) (by kernel_rfl) (by kernel_rfl) (by kernel_rfl) w).mono (by rintro e w' ⟨rfl, hb⟩; exact ⟨185, #[], rfl, Tryz.enters185, hb, ravel_fn w'⟩), fun a ha => ⟨ha.few, fun _ => ⟨by simp [ravelP], by simp [ravelP]; exact ha.few, by simp [ravelP, prodL], ha.few, ha.fits⟩⟩⟩
end Go.Proofs.YtjobgpahajhbnaaGreatDoor
namespace Go.Proofs.YtjobgpahajhbnaaGreatDoor
open Go.RowKit Go.Proofs Go.Maps
attribute [local go_sem ↓] Go.wp_at_zero Go.wp_at_succ

/-- the places up to n, of which k are laid -/
def placesL (n k : Nat) : List Value := (List.range n).map fun i => .int .i64 (if i < k then (i : Int) else 0)
theorem placesL_zero (n : Nat) : placesL n 0 = List.replicate n (.int .i64 0) := by
  simp [placesL, List.map_const']
theorem placesL_set {n k : Nat} (_h : k < n) : (placesL n k).set k (.int .i64 (k : Int)) = placesL n (k + 1) := by
  apply List.ext_getElem
  · simp [placesL]
  · intro i h1 h2
    simp [placesL, List.getElem_set]
    by_cases e : k = i
    · subst e; simp
    · rw [if_neg e]
      by_cases hi : i < k
      · rw [if_pos hi, if_pos (by omega)]
      · rw [if_neg hi, if_neg (by omega)]
theorem placesL_all (n : Nat) : placesL n n = ((List.range n).map Int.ofNat).map (Value.int .i64) := by
  apply List.ext_getElem
  · simp [placesL]
  · intro i h1 h2
    simp [placesL] at h1 ⊢
    omega
set_option maxHeartbeats 1000000 in
theorem places_any (n : Nat) (hn : n ≤ 200) (w : World) : Calls Tryz.prog 232 #[.int .i64 n] w fun e w' => e = .returned (.slice (some ⟨w.heap.size, 0, none⟩) n n) ∧ w'.ownsRow w.heap.size 2 1 (.slice (some ⟨w.heap.size, 0, none⟩) n n) n (((List.range n).map Int.ofNat).map (Value.int .i64)) ∧ Below w.heap.size w w' := by
  obtain ⟨i0, hi, hz0, hz1, hz2⟩ := info_parts Tryz.info2
  have HI := hide hi
  have HZ0 := hide hz0
  have HZ1 := hide hz1
  have HZ2 := hide hz2
  clear hi hz0 hz1 hz2
  go_enter Tryz.func232, Tryz.ntmps232
  go_wp2_with (at_make; refine wpList_make_full _ rfl _ _ 32 rfl w.heap.size 2 i0 (.int .i64 0) 1 Tryz.underlying32 (unhide HI) (unhide HZ0) (unhide HZ1) .i64 .i64 n n n rfl rfl rfl rfl ?c1 ?c2 (Nat.le_refl _) ?_)
  case c1 => rw [unhide HZ2]; omega
  case c2 => unfold maxLen; omega
  intro w1 hown hg
  have hown : w1.ownsRow w.heap.size 2 1 (.slice (some ⟨w.heap.size, 0, none⟩) n n) n (placesL n 0) := by
    rw [placesL_zero]
    have := toList_madeCells_one (.int .i64 0) (n * 1)
    rw [Nat.mul_one] at this
    rw [← this]
    simpa using hown
  have HO := hide hown
  have HB : Hid (Below w.heap.size w w1) := hide ((Below.refl _ _).grown hg (Nat.le_refl _) (fun _ h => by cases h))
  clear hown hg
  go_wp2_with fail
  go_loopw [9] (fun v wr => ∃ k : Nat, v = .int .i64 k ∧ k ≤ n ∧ wr.ownsRow w.heap.size 2 1 (.slice (some ⟨w.heap.size, 0, none⟩) n n) n (placesL n k) ∧ Below w.heap.size w wr) (fun v _ => n - (intOf v).toNat)
  case atStart => exact ⟨0, rfl, by omega, unhide HO, unhide HB⟩
  case round =>
    obtain ⟨k, rfl, hk, ho, hb⟩ := hrel
    by_cases hkn : k < n
    · have c0 := ho.cellAt k (by omega)
      have f0 := ho.frozenAt k
      rw [List.getElem?_eq_getElem (by simp [placesL]; exact hkn)] at c0
      obtain ⟨u, hu⟩ : ∃ u, (placesL n k)[k]'(by simp [placesL]; exact hkn) = u := ⟨_, rfl⟩
      rw [hu] at c0
      have hs := (ho.stored k (.int .i64 (k : Int))).1
      have HO2 := hide hs
      have HB2 := hide hb
      have hk0 : (0 : Int) ≤ (k : Int) := by omega
      have hk1 : (k : Int) < (n : Int) := by omega
      clear hu ho hb hs
      go_wp2_with fail
      go_roundw
      case rel => exact ⟨k + 1, by go_num, by omega, by rw [← placesL_set hkn]; exact unhide HO2, (unhide HB2).setCell (Nat.le_refl _) _⟩
      case measure => simp [intOf]; omega
    · have hke : k = n := by omega
      subst hke
      rw [placesL_all] at ho
      have HO2 := hide ho
      have HB2 := hide hb
      clear ho hb
      go_wp2_with fail
      exact bodyPost_ret (v := .slice (some ⟨w.heap.size, 0, none⟩) k k) (by simp [results, Tryz.results232, go_sem]) rfl ⟨rfl, unhide HO2, unhide HB2⟩
end Go.Proofs.YtjobgpahajhbnaaGreatDoor
namespace Go.Proofs.YtjobgpahajhbnaaGreatDoor
open Go.RowKit Go.Proofs Go.Maps
attribute [local go_sem ↓] Go.wp_at_zero Go.wp_at_succ

theorem Tryz.enters183 : Enters Tryz.prog 183 := Go.Proofs.enters_of Tryz.func183 (by decide) rfl
def iotaP (a : Arr) : Arr × Int := if a.shape ≠ [] then (eArr, 5) else if a.cells.headD 0 < 0 then (eArr, 7) else if 64 < a.cells.headD 0 then (eArr, 9) else (⟨[(a.cells.headD 0).toNat], (List.range (a.cells.headD 0).toNat).map Int.ofNat⟩, 0)
theorem e_arr (P : Nat → Prop) (w : World) : IsArr P w (.agg #[.slice none 0 0, .slice none 0 0]) eArr := ⟨none, 0, 0, none, 0, 0, rfl, nums_nil _ _, nums_nil _ _⟩
theorem nums_len {P : Nat → Prop} {w : World} {so : Option Addr} {sn sc : Nat} {xs : List Int} (h : Nums P w (.slice so sn sc) xs) : sn = xs.length := by
  obtain ⟨ao, cap, hv, _⟩ := h
  injection hv
/-- a scalar's one cell -/
theorem scalar_cell {P : Nat → Prop} {w : World} {co : Option Addr} {cn cc : Nat} {a : Arr} (h : Nums P w (.slice co cn cc) a.cells) (ho : a.ok) (hs : a.shape = []) : ∃ x b off, a.cells = [x] ∧ cn = 1 ∧ co = some ⟨b, off, none⟩ ∧ P b ∧ b < w.heap.size ∧ w.cell? ⟨b, off, none⟩ = some (.int .i64 x) ∧ 1 ≤ cc := by
  have h1 := ho.size
  rw [hs] at h1
  simp [prodL] at h1
  obtain ⟨x, hx⟩ := List.length_eq_one_iff.1 h1
  rw [hx] at h
  obtain ⟨ao, cap, hv, hcap, h2, _⟩ := h
  obtain ⟨b, off, ha, hp, hl, hc⟩ := h2 (by simp)
  injection hv with e1 e2 e3
  subst e1 e2 e3
  exact ⟨x, b, off, hx, rfl, ha, hp, hl, by simpa using hc 0 (by simp), hcap⟩
theorem cell_res (W : World) (o1 o3 o4 : Obj) (A : Array Value) (i : Nat) : ((((W.alloc o1).alloc (.cells A 89)).alloc o3).alloc o4).cell? ⟨W.heap.size + 1, i, none⟩ = A[i]? := by
  rw [World.cell?_of_block (a := ⟨W.heap.size + 1, i, none⟩) (RowKit.Below.heap_alloc _ _ _ (by simp <;> omega)), World.cell?_of_block (a := ⟨W.heap.size + 1, i, none⟩) (RowKit.Below.heap_alloc _ _ _ (by simp))]
  exact World.cell?_alloc_at _ _ _ _ (by simp)
theorem frozen_res (W : World) (o1 o3 o4 : Obj) (A : Array Value) (i : Nat) : ((((W.alloc o1).alloc (.cells A 89)).alloc o3).alloc o4).frozen? ⟨W.heap.size + 1, i, none⟩ = false := by
  rw [World.frozen?_of_block (a := ⟨W.heap.size + 1, i, none⟩) (RowKit.Below.heap_alloc _ _ _ (by simp <;> omega)), World.frozen?_of_block (a := ⟨W.heap.size + 1, i, none⟩) (RowKit.Below.heap_alloc _ _ _ (by simp))]
  exact World.frozen?_alloc_at _ _ _ _ (by simp)
set_option maxHeartbeats 1000000 in
set_option maxRecDepth 20000 in
theorem upTo_fn (w : World) : FnOne 183 #[] w iotaP := by
  intro W P v a _ hP ha hoa
  obtain ⟨so, sn, sc, co, cn, cc, rfl, ha1, ha2⟩ := ha
  have hsn := nums_len ha1
  simp at hsn
  obtain ⟨r, hr⟩ : ∃ r, iotaP a = r := ⟨_, rfl⟩
  simp only [hr]
  have HS := hide (fun W' => isScalar_any W' so sn sc co cn cc)
  by_cases hsh : a.shape = []
  · obtain ⟨x, b, off, hx, rfl, rfl, hPb, hbl, hcell, hcc⟩ := scalar_cell ha2 hoa hsh
    have h0 : sn = 0 := by rw [hsn, hsh]; rfl
    subst h0
    have hbl1 : b < W.heap.size + 1 := by omega
    have hbl2 : b < W.heap.size + 1 + 1 := by omega
    have hbl3 : b < W.heap.size + 1 + 1 + 1 := by omega
    by_cases hneg : x < 0
    · have hr' : r = (eArr, 7) := by rw [← hr]; unfold iotaP; rw [if_neg (by simp [hsh]), hx]; simp [hneg]
      subst hr'
      clear hr ha1 ha2 hP hoa hx hsn hsh
      go_enter Tryz.func183, Tryz.ntmps183
      go_wp2_with (go_at_call 220; refine (unhide HS _).mono ?_; rintro e w' ⟨rfl, rfl⟩)
      refine bodyPost_ret (v := .tuple #[.agg #[.slice none 0 0, .slice none 0 0], .int .i64 7]) (by simp [results, Tryz.results183, go_sem]) rfl ⟨_, _, _, _, _, _, rfl, e_arr _ _, ?_⟩
      first
      | exact (((((Below.refl W.heap.size W).alloc (Nat.le_refl _) _).alloc (by simp) _).alloc (by simp; omega) _).alloc (by simp; omega) _)
      | (trace_state; fail)
    · by_cases hbig : 64 < x
      · have hr' : r = (eArr, 9) := by rw [← hr]; unfold iotaP; rw [if_neg (by simp [hsh]), hx]; simp [hneg, hbig]
        subst hr'
        clear hr ha1 ha2 hP hoa hx hsn hsh
        go_enter Tryz.func183, Tryz.ntmps183
        go_wp2_with (go_at_call 220; refine (unhide HS _).mono ?_; rintro e w' ⟨rfl, rfl⟩)
        refine bodyPost_ret (v := .tuple #[.agg #[.slice none 0 0, .slice none 0 0], .int .i64 9]) (by simp [results, Tryz.results183, go_sem]) rfl ⟨_, _, _, _, _, _, rfl, e_arr _ _, ?_⟩
        exact (((((Below.refl W.heap.size W).alloc (Nat.le_refl _) _).alloc (by simp) _).alloc (by simp; omega) _).alloc (by simp; omega) _)
      · obtain ⟨n, rfl⟩ : ∃ n : Nat, x = n := ⟨x.toNat, by omega⟩
        have hn : n ≤ 200 := by omega
        have hr' : r = (⟨[n], (List.range n).map Int.ofNat⟩, 0) := by rw [← hr]; unfold iotaP; rw [if_neg (by simp [hsh]), hx]; simp [hneg, hbig]
        subst hr'
        have HPl := hide (fun W' => places_any n hn W')
        have HR := hide (fun W' v' (hb : W.heap.size + 2 ≤ W'.heap.size) (h : Nums (fun b => P b ∧ b ≠ W.heap.size + 1) W' v' ((List.range n).map Int.ofNat)) => row_any (fun b => P b ∧ b ≠ W.heap.size + 1) W' (fun b h' => ⟨hP b (by omega), by omega⟩) v' _ h)
        have HP := hide hP
        clear hr ha1 ha2 hP hoa hx hsn hsh
        go_enter Tryz.func183, Tryz.ntmps183
        go_wp2_with (go_at_call 220; refine (unhide HS _).mono ?_; rintro e w' ⟨rfl, rfl⟩)
        go_at_call 232
        refine (unhide HPl _).mono ?_
        rintro e w1 ⟨rfl, ho1, hb1⟩
        obtain ⟨hc1, hf1⟩ := bcell hb1
        simp only [World.size_alloc] at ho1 hb1 hc1 hf1 ⊢
        have hs1 := hb1.size
        simp at hs1
        have hN := nums_owns (P := fun b => P b ∧ b ≠ W.heap.size + 1) ho1 (fun b h => ⟨unhide HP b (by (try simp at h); omega), by (try simp at h); omega⟩)
        have HN := hide hN
        have HB1 := hide hb1
        have d0 : w1.cell? ⟨W.heap.size + 1, 0, none⟩ = some (.slice none 0 0) := (hc1 (W.heap.size + 1) 0 (by omega)).trans ((cell_res W _ _ _ _ 0).trans rfl)
        have d1 : w1.cell? ⟨W.heap.size + 1, 1, none⟩ = some (.slice none 0 0) := (hc1 (W.heap.size + 1) 1 (by omega)).trans ((cell_res W _ _ _ _ 1).trans rfl)
        have HBW : Hid (Below W.heap.size W w1) := hide ((((((Below.refl W.heap.size W).alloc (Nat.le_refl _) _).alloc (by simp) _).alloc (by simp; omega) _).alloc (by simp; omega) _).trans ((unhide HB1).mono (by omega)))
        clear ho1 hb1 hN
        go_wp2_with fail
        refine (unhide HR _ _ (by omega) (unhide HN)).mono ?_
        rintro e w2 ⟨s1, s2, s3, c1, c2, c3, rfl, hA2, hb2⟩
        have HA2 := hide hA2
        have hs2 := hb2.size
        have e0 := (hb2.cell (p := ⟨W.heap.size + 1, 0, none⟩) (by show W.heap.size + 1 < w1.heap.size; omega)).trans d0
        have e1 := (hb2.cell (p := ⟨W.heap.size + 1, 1, none⟩) (by show W.heap.size + 1 < w1.heap.size; omega)).trans d1
        have g0 := (hb2.frozen (p := ⟨W.heap.size + 1, 0, none⟩) (by show W.heap.size + 1 < w1.heap.size; omega)).trans ((hf1 (W.heap.size + 1) 0 (by omega)).trans (frozen_res W _ _ _ _ 0))
        have g1 := (hb2.frozen (p := ⟨W.heap.size + 1, 1, none⟩) (by show W.heap.size + 1 < w1.heap.size; omega)).trans ((hf1 (W.heap.size + 1) 1 (by omega)).trans (frozen_res W _ _ _ _ 1))
        have HB2 : Hid (Below W.heap.size W w2) := hide ((unhide HBW).trans (hb2.mono (unhide HBW).size))
        have hw2 : W.heap.size + 1 < w2.heap.size := by omega
        have hL : ((List.range n).map Int.ofNat).length = n := by simp
        rw [hL] at HA2
        clear hA2 hb2 d0 d1 hc1 hf1 HN HB1 HBW HR HPl HS
        go_wp2_with fail
        refine bodyPost_ret (v := .tuple #[.agg #[.slice s1 s2 s3, .slice c1 c2 c3], .int .i64 0]) (by simp [results, Tryz.results183, go_sem, e0, e1]) rfl ⟨_, _, _, _, _, _, rfl, ?_, ?_⟩
        · exact (((unhide HA2).set (fun h => h.2 rfl) 0 _).set (fun h => h.2 rfl) 1 _).imp (fun b h _ => h.1)
        · exact ((unhide HB2).setCell (p := ⟨W.heap.size + 1, 0, none⟩) (Nat.le_succ _) _).setCell (p := ⟨W.heap.size + 1, 1, none⟩) (Nat.le_succ _) _
  · have hr' : r = (eArr, 5) := by rw [← hr]; unfold iotaP; rw [if_pos hsh]
    subst hr'
    have h0 : ((sn : Int) == 0) = false := by
      rw [hsn]
      simp [hsh]
    clear hr ha1 ha2 hP hoa hsn hsh
    go_enter Tryz.func183, Tryz.ntmps183
    go_wp2_with (go_at_call 220; refine (unhide HS _).mono ?_; rintro e w' ⟨rfl, rfl⟩)
    refine bodyPost_ret (v := .tuple #[.agg #[.slice none 0 0, .slice none 0 0], .int .i64 5]) (by simp [results, Tryz.results183, go_sem]) rfl ⟨_, _, _, _, _, _, rfl, e_arr _ _, ?_⟩
    exact (((((Below.refl W.heap.size W).alloc (Nat.le_refl _) _).alloc (by simp) _).alloc (by simp; omega) _).alloc (by simp; omega) _)
theorem iota_one : OneC ⟨#[105, 111, 116, 97]⟩ iotaP := ⟨fun w => (find_one (t := ⟨#[105, 111, 116, 97]⟩) (k1 := .string [111, 116, 97]) (k2 := .string [105, 111, 116, 97]) (f := 183) (by decide) (by kernel_rfl) (by kernel_rfl) (by kernel_rfl) (by kernel_rfl) w).mono (by rintro e w' ⟨rfl, hb⟩; exact ⟨183, #[], rfl, Tryz.enters183, hb, upTo_fn w'⟩), fun a ha => by
  unfold iotaP
  split
  · exact ⟨by simp [eArr], fun h => absurd h (by decide)⟩
  · split
    · exact ⟨by simp [eArr], fun h => absurd h (by decide)⟩
    · split
      · exact ⟨by simp [eArr], fun h => absurd h (by decide)⟩
      · rename_i h1 h2 h3
        have hn : (a.cells.headD 0).toNat ≤ 64 := by omega
        obtain ⟨m, hm⟩ : ∃ m, (a.cells.headD 0).toNat = m := ⟨_, rfl⟩
        rw [hm] at hn ⊢
        exact ⟨by simp; omega, fun _ => ⟨by simp, by simp; omega, by simp [prodL], by simp; omega, fun c hc => by simp at hc; obtain ⟨i, hi, rfl⟩ := hc; unfold fit64; omega⟩⟩⟩
end Go.Proofs.YtjobgpahajhbnaaGreatDoor
namespace Go.Proofs.YtjobgpahajhbnaaGreatDoor
open Go.RowKit Go.Proofs Go.Maps
attribute [local go_sem ↓] Go.wp_at_zero Go.wp_at_succ

/-- function g, with a variable of its own in block pb, makes of a cell what h makes of it -/
structure CellB (g pb : Nat) (W0 : World) (Dm : Int → Prop) (h : Int → Int) : Prop where
  enters : Enters Tryz.prog g
  call : ∀ (x : Int) (w : World), Below W0.heap.size W0 w → Dm x → Calls Tryz.prog g #[.int .i64 x, .pointer (some ⟨pb, 0, none⟩)] w fun e w' => e = .returned (.int .i64 (h x)) ∧ w' = w
set_option maxHeartbeats 1000000 in
set_option maxRecDepth 20000 in
theorem each_cap (h : Int → Int) (g pb : Nat) (P : Nat → Prop) (w : World) (Dm : Int → Prop) (hg : CellB g pb w Dm h) (hP : ∀ b, w.heap.size ≤ b → P b) (so : Option Addr) (sn sc : Nat) (co : Option Addr) (cn cc : Nat) (a : Arr) (ha : IsArr P w (.agg #[.slice so sn sc, .slice co cn cc]) a) (hoa : a.ok) (hDm : ∀ c ∈ a.cells, Dm c) :
    Calls Tryz.prog 227 #[.agg #[.slice so sn sc, .slice co cn cc], .func (.func g) #[] #[.pointer (some ⟨pb, 0, none⟩)]] w fun e w' => ∃ c1 c2 c3, e = .returned (.agg #[.slice so sn sc, .slice c1 c2 c3]) ∧ IsArr P w' (.agg #[.slice so sn sc, .slice c1 c2 c3]) ⟨a.shape, a.cells.map h⟩ ∧ Below w.heap.size w w' := by
  obtain ⟨i0, hi, hz0, hz1, hz2⟩ := info_parts Tryz.info2
  have HI := hide hi
  have HZ0 := hide hz0
  have HZ1 := hide hz1
  have HZ2 := hide hz2
  have hen2 : ∀ args w, (callFunc g args).run Tryz.prog w = .ok (.enter g args) w := hg.enters
  have HP : Hid (∀ b, w.heap.size ≤ b → P b) := hP
  have HA := hide ha
  have HG := hide hg
  have hcl := (isArr_len ha).1
  have hN : cn ≤ 200 := by rw [hcl]; exact hoa.few
  have HX : Hid (0 < cn → ∃ b off, co = some ⟨b, off, none⟩ ∧ b < w.heap.size ∧ ∀ i, (hi : i < a.cells.length) → w.cell? ⟨b, off + i, none⟩ = some (.int .i64 a.cells[i])) := by
    intro h0
    obtain ⟨so', sn', sc', co', cn', cc', hv, _, ⟨ao, cap, h2, _, hc, _⟩⟩ := ha
    injection hv with hv
    simp at hv
    obtain ⟨_, rfl, rfl, rfl⟩ := hv
    obtain ⟨b, off, e, _, hlt, hcell⟩ := hc (by omega)
    injection h2 with h2
    exact ⟨b, off, h2.trans e, hlt, hcell⟩
  have HXF := hide hDm
  obtain ⟨xs, hxs⟩ : ∃ xs, a.cells = xs := ⟨_, rfl⟩
  rw [hxs] at hcl
  simp only [hxs] at HX HXF ⊢
  have HCL := hide hcl
  clear hi hz0 hz1 hz2 hP ha hoa hcl hg hDm
  go_enter Tryz.func227, Tryz.ntmps227
  go_wp2_with fail
  have hbW : Below w.heap.size w ((w.alloc (.cells #[.slice so sn sc, .slice co cn cc] 89)).alloc (.cells #[.slice none 0 0, .slice none 0 0] 89)) := ((Below.refl _ _).alloc (Nat.le_refl _) _).alloc (by simp) _
  have z0 : ((w.alloc (.cells #[.slice so sn sc, .slice co cn cc] 89)).alloc (.cells #[.slice none 0 0, .slice none 0 0] 89)).cell? ⟨w.heap.size, 0, none⟩ = some (.slice so sn sc) := by simp
  have r0 : ((w.alloc (.cells #[.slice so sn sc, .slice co cn cc] 89)).alloc (.cells #[.slice none 0 0, .slice none 0 0] 89)).cell? ⟨w.heap.size + 1, 0, none⟩ = some (.slice none 0 0) := (World.cell?_alloc_at _ _ _ _ (by simp)).trans rfl
  have r1 : ((w.alloc (.cells #[.slice so sn sc, .slice co cn cc] 89)).alloc (.cells #[.slice none 0 0, .slice none 0 0] 89)).cell? ⟨w.heap.size + 1, 1, none⟩ = some (.slice none 0 0) := (World.cell?_alloc_at _ _ _ _ (by simp)).trans rfl
  have q0 : ((w.alloc (.cells #[.slice so sn sc, .slice co cn cc] 89)).alloc (.cells #[.slice none 0 0, .slice none 0 0] 89)).frozen? ⟨w.heap.size + 1, 0, none⟩ = false := World.frozen?_alloc_at _ _ _ _ (by simp)
  have q1 : ((w.alloc (.cells #[.slice so sn sc, .slice co cn cc] 89)).alloc (.cells #[.slice none 0 0, .slice none 0 0] 89)).frozen? ⟨w.heap.size + 1, 1, none⟩ = false := World.frozen?_alloc_at _ _ _ _ (by simp)
  have hlt : w.heap.size + 1 < ((w.alloc (.cells #[.slice so sn sc, .slice co cn cc] 89)).alloc (.cells #[.slice none 0 0, .slice none 0 0] 89)).heap.size := by simp
  obtain ⟨wS, hwS⟩ : ∃ wS, (w.alloc (.cells #[.slice so sn sc, .slice co cn cc] 89)).alloc (.cells #[.slice none 0 0, .slice none 0 0] 89) = wS := ⟨_, rfl⟩
  rw [hwS] at hbW z0 r0 r1 q0 q1 hlt ⊢
  have HBS := hide hbW
  clear hwS hbW
  go_loopw [5, 11] (fun v5 v11 wr => ∃ (k : Nat) (L : List Int), v11 = .int .i64 k ∧ k ≤ cn ∧ (xs.take k).map h = L ∧ wr.ownsRow wS.heap.size 2 1 v5 k (L.map (Value.int .i64)) ∧ Below wS.heap.size wS wr) (fun _ v11 _ => cn - (intOf v11).toNat)
  case atStart => exact ⟨0, [], rfl, Nat.zero_le _, rfl, World.ownsRow_nil _ _ _ _, Below.refl _ _⟩
  case round =>
    obtain ⟨k, L, rfl, hk, hL, hown, hbel⟩ := hrel
    have HL := hide hL
    clear hL
    have z0' := (hbel.cell (p := ⟨w.heap.size, 0, none⟩) (show w.heap.size < wS.heap.size by omega)).trans z0
    have r0' := (hbel.cell (p := ⟨w.heap.size + 1, 0, none⟩) hlt).trans r0
    have r1' := (hbel.cell (p := ⟨w.heap.size + 1, 1, none⟩) hlt).trans r1
    have q0' := (hbel.frozen (p := ⟨w.heap.size + 1, 0, none⟩) hlt).trans q0
    have q1' := (hbel.frozen (p := ⟨w.heap.size + 1, 1, none⟩) hlt).trans q1
    have HOw := hide hown
    have HBe := hide hbel
    by_cases hkn : k < cn
    · obtain ⟨xb, xf, rfl, hxb, hxc⟩ := unhide HX (by omega)
      have hkx : k < xs.length := by rw [← unhide HCL]; exact hkn
      have cx := (hbel.cell (p := ⟨xb, xf + k, none⟩) (Nat.lt_of_lt_of_le hxb (unhide HBS).size)).trans (((unhide HBS).cell (p := ⟨xb, xf + k, none⟩) hxb).trans (hxc k hkx))
      have HTk : Hid ((xs.take (k + 1)).map h = (xs.take k).map h ++ [h xs[k]]) := hide (by rw [List.take_succ_eq_append_getElem hkx, List.map_append]; rfl)
      have hfx := unhide HXF _ (List.getElem_mem hkx)
      obtain ⟨x, hx⟩ : ∃ x, xs[k] = x := ⟨_, rfl⟩
      rw [hx] at cx hfx HTk
      have HRule := hide (fun w' hb' => (unhide HG).call x w' hb' hfx)
      have HBw : Hid (Below w.heap.size w wr) := hide ((unhide HBS).trans ((unhide HBe).mono (unhide HBS).size))
      obtain ⟨u, hu⟩ : ∃ u, h x = u := ⟨_, rfl⟩
      rw [hu] at HTk
      simp only [hu] at HRule
      have hk1 : (k : Int) < (cn : Int) := by omega
      clear hown hbel hxc hx hu hfx hxb
      go_wp2_with (first | (go_at_fn g; refine (unhide HRule _ (unhide HBw)).mono ?_; rintro e wr ⟨rfl, rfl⟩) | (at_builtin; refine wpList_append_own _ rfl _ _ 32 rfl wS.heap.size 2 i0 (.int .i64 0) 1 8 Tryz.underlying32 (unhide HI) (unhide HZ0) (unhide HZ1) (unhide HZ2) rfl (by decide) _ _ _ rfl ((unhide HOw).alloc _) ⟨wr.heap.size, 0, none⟩ 1 1 [.int .i64 u] rfl rfl ?c1 ?c2 ?c3 ?c4 ?c5 ?_))
      case c1 => intro j v hj; match j, hj with | 0, hj => simp at hj; subst hj; exact (World.cell?_alloc_at _ _ _ _ rfl).trans rfl
      case c2 => intro v hv; simp at hv; subst hv; rfl
      case c3 => unfold maxLen; omega
      case c4 => omega
      case c5 => have := (unhide HBe).size; simp; omega
      · intro v' w4 hown4 hgrow4 _
        have HB4 : Hid (Below wS.heap.size wS w4) := hide (((unhide HBe).alloc (unhide HBe).size _).grown hgrow4 (by have := (unhide HBe).size; simp; omega) (fun q hq => ((unhide HOw).lt q hq).1))
        have HO4 := hide hown4
        clear hown4 hgrow4
        go_wp2_with fail
        go_roundw
        case rel => exact ⟨k + 1, L ++ [u], by go_num, by omega, by rw [unhide HTk, unhide HL], by rw [List.map_append]; exact unhide HO4, unhide HB4⟩
        case measure => simp [intOf]; omega
    · have hkN : k = cn := by omega
      subst hkN
      obtain ⟨vo, vc, hv8, hvle, hcells⟩ := own_slice (unhide HOw)
      subst hv8
      have hT : xs.take k = xs := List.take_of_length_le (by rw [← unhide HCL]; exact Nat.le_refl _)
      have hLL := unhide HL
      rw [hT] at hLL
      subst hLL
      have hbF := (unhide HBS).trans ((unhide HBe).mono (unhide HBS).size)
      have HBF := hide hbF
      have HN := hide (nums_owns (P := fun b => P b ∧ b ≠ w.heap.size + 1) (unhide HOw) (fun b hb => ⟨unhide HP b (by omega), by omega⟩))
      clear hown hbel hcells hT hbF
      go_wp2_with fail
      refine bodyPost_ret (v := .agg #[.slice so sn sc, .slice vo k vc]) (by simp [results, Tryz.results227, go_sem, r0', r1']) rfl ⟨vo, k, vc, rfl, filled_end (unhide HA) (unhide HBF) (unhide HN), ?_⟩
      exact ((unhide HBF).setCell (p := ⟨w.heap.size + 1, 0, none⟩) (Nat.le_succ _) _).setCell (p := ⟨w.heap.size + 1, 1, none⟩) (Nat.le_succ _) _
end Go.Proofs.YtjobgpahajhbnaaGreatDoor
namespace Go.Proofs.YtjobgpahajhbnaaGreatDoor
open Go.RowKit Go.Proofs Go.Maps
attribute [local go_sem ↓] Go.wp_at_zero Go.wp_at_succ

def oneOf (xs : List Int) (x : Int) : Int := if x ∈ xs then 1 else 0
def inP (a b : Arr) : Arr × Int := (⟨a.shape, a.cells.map (oneOf b.cells)⟩, 0)
end Go.Proofs.YtjobgpahajhbnaaGreatDoor
