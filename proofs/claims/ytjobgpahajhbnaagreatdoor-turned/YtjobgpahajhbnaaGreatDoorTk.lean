import Derived.Test.YtjobgpahajhbnaaGreatDoorTe
import Derived.Test.YtjobgpahajhbnaaGreatDoorTb
import Derived.Laws.OwnMore
namespace Go.Proofs.YtjobgpahajhbnaaGreatDoor
open Go.RowKit Go.Proofs Go.Maps
attribute [local go_sem ↓] Go.wp_at_zero Go.wp_at_succ

theorem Tryz.zero246 (w : World) : (zeroValue 246).run Tryz.prog w = .ok .nilFunc w := by kernel_rfl
theorem Tryz.zero205 (w : World) : (zeroValue 205).run Tryz.prog w = .ok .nilFunc w := by kernel_rfl
theorem Tryz.nil246 (w : World) : (binOp .eql 246 .nilFunc .nilFunc).run Tryz.prog w = .ok (.bool true) w := by kernel_rfl
set_option maxHeartbeats 1000000 in
set_option maxRecDepth 20000 in
theorem find_two {t : ByteArray} {k1 k2 : Lit} {f : Nat} (h1 : 1 ≤ t.size) (hk2 : keyOf Tryz.prog 9 (.string t) = some k2) (hh : Maps.has signsD k2 = false) (hk1 : keyOf Tryz.prog 9 (.string (t.extract 1 t.size)) = some k1) (ha1 : formsTwoD.atKey k1 (.held .nilFunc) = .held .nilFunc) (ha2 : twosD.atKey k2 (.held .nilFunc) = .held (.func (.func f) #[] #[])) (w : World) :
    Calls Tryz.prog 111 #[.string t] w fun e w' => e = .returned (.func (.func f) #[] #[]) ∧ Below w.heap.size w w' := by
  have HL0 : Hid (∀ w' b, w'.ownsMap Tryz.prog 9 selfE b 9 signsD → (Instr.lookup 242 (.map (some b)) (.string t) true).run Tryz.prog w' = .ok (.tuple #[.agg #[.nilFunc, .int .i64 0], .bool false]) w') := hide (fun w' b h => look_self Tryz.underlying242 (Tryz.zero241 w') h hk2 hh (atKey_of_not_has hh _))
  have HL1 : Hid (∀ w' b, w'.ownsMap Tryz.prog 9 selfE b 1 formsTwoD → (Instr.lookup 247 (.map (some b)) (.string (t.extract 1 t.size)) false).run Tryz.prog w' = .ok .nilFunc w') := hide (fun w' b h => look_self0 Tryz.underlying247 (Tryz.zero246 w') h hk1 ha1)
  have HL2 : Hid (∀ w' b, w'.ownsMap Tryz.prog 9 selfE b 8 twosD → (Instr.lookup 249 (.map (some b)) (.string t) false).run Tryz.prog w' = .ok (.func (.func f) #[] #[]) w') := hide (fun w' b h => look_self0 Tryz.underlying249 (Tryz.zero205 w') h hk2 ha2)
  have hnn := Tryz.nil246
  clear hk1 ha1 hk2 ha2 hh
  go_enter Tryz.func111, Tryz.ntmps111
  go_wp2_with (go_at_call 154; refine (signs_any _).mono ?_; rintro e w1 ⟨rfl, ho, hb⟩; have hl0 := unhide HL0 _ _ ho; have HB0 := hide hb; clear ho hb)
  have HW : Hid (Below w.heap.size w (w1.alloc (.cells #[.nilFunc, .int .i64 0] 241))) := hide ((unhide HB0).alloc (unhide HB0).size _)
  obtain ⟨W1, hW1⟩ : ∃ W1, w1.alloc (.cells #[.nilFunc, .int .i64 0] 241) = W1 := ⟨_, rfl⟩
  rw [hW1] at HW ⊢
  clear hW1 hl0 HB0
  go_region_with (first | (go_at_call 157; refine (formsTwo_any _).mono ?_; rintro e w1 ⟨rfl, ho, hb⟩; have hl := unhide HL1 _ W1.heap.size (by exact ho); have hl3 := unhide HL1 (w1.alloc (.cells #[.nilFunc] 246)) W1.heap.size (World.ownsMap.alloc (by exact ho) _); have HB := hide hb; obtain ⟨hc, hf⟩ := bcell hb; have hs := hb.size; (try simp at hs); (try have hs2 : W1.heap.size < w1.heap.size := by omega); clear ho hb) | (go_at_call 157; refine (formsTwo_any _).mono ?_; rintro e w1 ⟨rfl, ho, hb⟩; have hl : (Instr.lookup 247 (.map (some (W1.heap.size + 1))) (.string (t.extract 1 t.size)) false).run Tryz.prog w1 = .ok .nilFunc w1 := (by have := unhide HL1 _ _ ho; simpa [World.drew] using this); have HB := hide hb; obtain ⟨hc, hf⟩ := bcell hb; have hs := hb.size; (try simp at hs); (try have hs2 : W1.heap.size < w1.heap.size := by omega); clear ho hb))
  all_goals
    go_wp2_with (go_at_call 158; refine (twos_any _).mono ?_; rintro e w2 ⟨rfl, ho, hb⟩; have hl2 := unhide HL2 _ _ ho; (try simp only [World.size_alloc, World.size_setCell] at hl2); have HB2 := hide hb; clear ho hb)
    first
    | (have hA : Below W1.heap.size W1 (w1.alloc (.cells #[.nilFunc] 246)) := (below_drew (unhide HB)).alloc (below_drew (unhide HB)).size _
       exact bodyPost_ret (v := .func (.func f) #[] #[]) (by simp [results, Tryz.results111, go_sem]) rfl ⟨rfl, (unhide HW).trans ((hA.trans ((unhide HB2).mono hA.size)).mono (unhide HW).size)⟩)
    | (have hA : Below W1.heap.size W1 (w1.setCell ⟨W1.heap.size, 0, none⟩ .nilFunc) := ((((Below.refl W1.heap.size W1).alloc (Nat.le_refl _) _).drew.trans ((unhide HB).mono (by simp))).setCell (p := ⟨W1.heap.size, 0, none⟩) (Nat.le_refl _) _)
       exact bodyPost_ret (v := .func (.func f) #[] #[]) (by simp [results, Tryz.results111, go_sem]) rfl ⟨rfl, (unhide HW).trans ((hA.trans ((unhide HB2).mono hA.size)).mono (unhide HW).size)⟩)
    | trace_state
end Go.Proofs.YtjobgpahajhbnaaGreatDoor
namespace Go.Proofs.YtjobgpahajhbnaaGreatDoor
open Go.RowKit Go.Proofs Go.Maps
attribute [local go_sem ↓] Go.wp_at_zero Go.wp_at_succ

/-- the places up to n, of which k are laid -/
def placesL (n k : Nat) : List Value := (List.range n).map fun i => .int .i64 (if i < k then (i : Int) else 0)
theorem placesL_zero (n : Nat) : placesL n 0 = List.replicate n (.int .i64 0) := by
  simp [placesL, List.map_const']
theorem placesL_set {n k : Nat} (_h : k < n) : (placesL n k).set k (.int .i64 (k : Int)) = placesL n (k + 1) := by
  apply List.ext_getElem
  · simp [placesL]
  · intro i h1 h2
    simp [placesL, List.getElem_set]
    by_cases e : k = i
    · subst e; simp
    · rw [if_neg e]
      by_cases hi : i < k
      · rw [if_pos hi, if_pos (by omega)]
      · rw [if_neg hi, if_neg (by omega)]
theorem placesL_all (n : Nat) : placesL n n = ((List.range n).map Int.ofNat).map (Value.int .i64) := by
  apply List.ext_getElem
  · simp [placesL]
  · intro i h1 h2
    simp [placesL] at h1 ⊢
    omega
set_option maxHeartbeats 1000000 in
theorem places_any (n : Nat) (hn : n ≤ 200) (w : World) : Calls Tryz.prog 232 #[.int .i64 n] w fun e w' => e = .returned (.slice (some ⟨w.heap.size, 0, none⟩) n n) ∧ w'.ownsRow w.heap.size 2 1 (.slice (some ⟨w.heap.size, 0, none⟩) n n) n (((List.range n).map Int.ofNat).map (Value.int .i64)) ∧ Below w.heap.size w w' := by
  obtain ⟨i0, hi, hz0, hz1, hz2⟩ := info_parts Tryz.info2
  have HI := hide hi
  have HZ0 := hide hz0
  have HZ1 := hide hz1
  have HZ2 := hide hz2
  clear hi hz0 hz1 hz2
  go_enter Tryz.func232, Tryz.ntmps232
  go_wp2_with (at_make; refine wpList_make_full _ rfl _ _ 32 rfl w.heap.size 2 i0 (.int .i64 0) 1 Tryz.underlying32 (unhide HI) (unhide HZ0) (unhide HZ1) .i64 .i64 n n n rfl rfl rfl rfl ?c1 ?c2 (Nat.le_refl _) ?_)
  case c1 => rw [unhide HZ2]; omega
  case c2 => unfold maxLen; omega
  intro w1 hown hg
  have hown : w1.ownsRow w.heap.size 2 1 (.slice (some ⟨w.heap.size, 0, none⟩) n n) n (placesL n 0) := by
    rw [placesL_zero]
    have := toList_madeCells_one (.int .i64 0) (n * 1)
    rw [Nat.mul_one] at this
    rw [← this]
    simpa using hown
  have HO := hide hown
  have HB : Hid (Below w.heap.size w w1) := hide ((Below.refl _ _).grown hg (Nat.le_refl _) (fun _ h => by cases h))
  clear hown hg
  go_wp2_with fail
  go_loopw [9] (fun v wr => ∃ k : Nat, v = .int .i64 k ∧ k ≤ n ∧ wr.ownsRow w.heap.size 2 1 (.slice (some ⟨w.heap.size, 0, none⟩) n n) n (placesL n k) ∧ Below w.heap.size w wr) (fun v _ => n - (intOf v).toNat)
  case atStart => exact ⟨0, rfl, by omega, unhide HO, unhide HB⟩
  case round =>
    obtain ⟨k, rfl, hk, ho, hb⟩ := hrel
    by_cases hkn : k < n
    · have c0 := ho.cellAt k (by omega)
      have f0 := ho.frozenAt k
      rw [List.getElem?_eq_getElem (by simp [placesL]; exact hkn)] at c0
      obtain ⟨u, hu⟩ : ∃ u, (placesL n k)[k]'(by simp [placesL]; exact hkn) = u := ⟨_, rfl⟩
      rw [hu] at c0
      have hs := (ho.stored k (.int .i64 (k : Int))).1
      have HO2 := hide hs
      have HB2 := hide hb
      have hk0 : (0 : Int) ≤ (k : Int) := by omega
      have hk1 : (k : Int) < (n : Int) := by omega
      clear hu ho hb hs
      go_wp2_with fail
      go_roundw
      case rel => exact ⟨k + 1, by go_num, by omega, by rw [← placesL_set hkn]; exact unhide HO2, (unhide HB2).setCell (Nat.le_refl _) _⟩
      case measure => simp [intOf]; omega
    · have hke : k = n := by omega
      subst hke
      rw [placesL_all] at ho
      have HO2 := hide ho
      have HB2 := hide hb
      clear ho hb
      go_wp2_with fail
      exact bodyPost_ret (v := .slice (some ⟨w.heap.size, 0, none⟩) k k) (by simp [results, Tryz.results232, go_sem]) rfl ⟨rfl, unhide HO2, unhide HB2⟩
end Go.Proofs.YtjobgpahajhbnaaGreatDoor
namespace Go.Proofs.YtjobgpahajhbnaaGreatDoor
open Go.RowKit Go.Proofs Go.Maps
attribute [local go_sem ↓] Go.wp_at_zero Go.wp_at_succ

theorem Tryz.enters183 : Enters Tryz.prog 183 := Go.Proofs.enters_of Tryz.func183 (by decide) rfl
def iotaP (a : Arr) : Arr × Int := if a.shape ≠ [] then (eArr, 5) else if a.cells.headD 0 < 0 then (eArr, 7) else if 64 < a.cells.headD 0 then (eArr, 9) else (⟨[(a.cells.headD 0).toNat], (List.range (a.cells.headD 0).toNat).map Int.ofNat⟩, 0)
theorem e_arr (P : Nat → Prop) (w : World) : IsArr P w (.agg #[.slice none 0 0, .slice none 0 0]) eArr := ⟨none, 0, 0, none, 0, 0, rfl, nums_nil _ _, nums_nil _ _⟩
theorem nums_len {P : Nat → Prop} {w : World} {so : Option Addr} {sn sc : Nat} {xs : List Int} (h : Nums P w (.slice so sn sc) xs) : sn = xs.length := by
  obtain ⟨ao, cap, hv, _⟩ := h
  injection hv
/-- a scalar's one cell -/
theorem scalar_cell {P : Nat → Prop} {w : World} {co : Option Addr} {cn cc : Nat} {a : Arr} (h : Nums P w (.slice co cn cc) a.cells) (ho : a.ok) (hs : a.shape = []) : ∃ x b off, a.cells = [x] ∧ cn = 1 ∧ co = some ⟨b, off, none⟩ ∧ P b ∧ b < w.heap.size ∧ w.cell? ⟨b, off, none⟩ = some (.int .i64 x) ∧ 1 ≤ cc := by
  have h1 := ho.size
  rw [hs] at h1
  simp [prodL] at h1
  obtain ⟨x, hx⟩ := List.length_eq_one_iff.1 h1
  rw [hx] at h
  obtain ⟨ao, cap, hv, hcap, h2, _⟩ := h
  obtain ⟨b, off, ha, hp, hl, hc⟩ := h2 (by simp)
  injection hv with e1 e2 e3
  subst e1 e2 e3
  exact ⟨x, b, off, hx, rfl, ha, hp, hl, by simpa using hc 0 (by simp), hcap⟩
theorem cell_res (W : World) (o1 o3 o4 : Obj) (A : Array Value) (i : Nat) : ((((W.alloc o1).alloc (.cells A 89)).alloc o3).alloc o4).cell? ⟨W.heap.size + 1, i, none⟩ = A[i]? := by
  rw [World.cell?_of_block (a := ⟨W.heap.size + 1, i, none⟩) (RowKit.Below.heap_alloc _ _ _ (by simp <;> omega)), World.cell?_of_block (a := ⟨W.heap.size + 1, i, none⟩) (RowKit.Below.heap_alloc _ _ _ (by simp))]
  exact World.cell?_alloc_at _ _ _ _ (by simp)
theorem frozen_res (W : World) (o1 o3 o4 : Obj) (A : Array Value) (i : Nat) : ((((W.alloc o1).alloc (.cells A 89)).alloc o3).alloc o4).frozen? ⟨W.heap.size + 1, i, none⟩ = false := by
  rw [World.frozen?_of_block (a := ⟨W.heap.size + 1, i, none⟩) (RowKit.Below.heap_alloc _ _ _ (by simp <;> omega)), World.frozen?_of_block (a := ⟨W.heap.size + 1, i, none⟩) (RowKit.Below.heap_alloc _ _ _ (by simp))]
  exact World.frozen?_alloc_at _ _ _ _ (by simp)
set_option maxHeartbeats 1000000 in
set_option maxRecDepth 20000 in
theorem upTo_fn (w : World) : FnOne 183 #[] w iotaP := by
  intro W P v a _ hP ha hoa
  obtain ⟨so, sn, sc, co, cn, cc, rfl, ha1, ha2⟩ := ha
  have hsn := nums_len ha1
  simp at hsn
  obtain ⟨r, hr⟩ : ∃ r, iotaP a = r := ⟨_, rfl⟩
  simp only [hr]
  have HS := hide (fun W' => isScalar_any W' so sn sc co cn cc)
  by_cases hsh : a.shape = []
  · obtain ⟨x, b, off, hx, rfl, rfl, hPb, hbl, hcell, hcc⟩ := scalar_cell ha2 hoa hsh
    have h0 : sn = 0 := by rw [hsn, hsh]; rfl
    subst h0
    have hbl1 : b < W.heap.size + 1 := by omega
    have hbl2 : b < W.heap.size + 1 + 1 := by omega
    have hbl3 : b < W.heap.size + 1 + 1 + 1 := by omega
    by_cases hneg : x < 0
    · have hr' : r = (eArr, 7) := by rw [← hr]; unfold iotaP; rw [if_neg (by simp [hsh]), hx]; simp [hneg]
      subst hr'
      clear hr ha1 ha2 hP hoa hx hsn hsh
      go_enter Tryz.func183, Tryz.ntmps183
      go_wp2_with (go_at_call 220; refine (unhide HS _).mono ?_; rintro e w' ⟨rfl, rfl⟩)
      refine bodyPost_ret (v := .tuple #[.agg #[.slice none 0 0, .slice none 0 0], .int .i64 7]) (by simp [results, Tryz.results183, go_sem]) rfl ⟨_, _, _, _, _, _, rfl, e_arr _ _, ?_⟩
      first
      | exact (((((Below.refl W.heap.size W).alloc (Nat.le_refl _) _).alloc (by simp) _).alloc (by simp; omega) _).alloc (by simp; omega) _)
      | (trace_state; fail)
    · by_cases hbig : 64 < x
      · have hr' : r = (eArr, 9) := by rw [← hr]; unfold iotaP; rw [if_neg (by simp [hsh]), hx]; simp [hneg, hbig]
        subst hr'
        clear hr ha1 ha2 hP hoa hx hsn hsh
        go_enter Tryz.func183, Tryz.ntmps183
        go_wp2_with (go_at_call 220; refine (unhide HS _).mono ?_; rintro e w' ⟨rfl, rfl⟩)
        refine bodyPost_ret (v := .tuple #[.agg #[.slice none 0 0, .slice none 0 0], .int .i64 9]) (by simp [results, Tryz.results183, go_sem]) rfl ⟨_, _, _, _, _, _, rfl, e_arr _ _, ?_⟩
        exact (((((Below.refl W.heap.size W).alloc (Nat.le_refl _) _).alloc (by simp) _).alloc (by simp; omega) _).alloc (by simp; omega) _)
      · obtain ⟨n, rfl⟩ : ∃ n : Nat, x = n := ⟨x.toNat, by omega⟩
        have hn : n ≤ 200 := by omega
        have hr' : r = (⟨[n], (List.range n).map Int.ofNat⟩, 0) := by rw [← hr]; unfold iotaP; rw [if_neg (by simp [hsh]), hx]; simp [hneg, hbig]
        subst hr'
        have HPl := hide (fun W' => places_any n hn W')
        have HR := hide (fun W' v' (hb : W.heap.size + 2 ≤ W'.heap.size) (h : Nums (fun b => P b ∧ b ≠ W.heap.size + 1) W' v' ((List.range n).map Int.ofNat)) => row_any (fun b => P b ∧ b ≠ W.heap.size + 1) W' (fun b h' => ⟨hP b (by omega), by omega⟩) v' _ h)
        have HP := hide hP
        clear hr ha1 ha2 hP hoa hx hsn hsh
        go_enter Tryz.func183, Tryz.ntmps183
        go_wp2_with (go_at_call 220; refine (unhide HS _).mono ?_; rintro e w' ⟨rfl, rfl⟩)
        go_at_call 232
        refine (unhide HPl _).mono ?_
        rintro e w1 ⟨rfl, ho1, hb1⟩
        obtain ⟨hc1, hf1⟩ := bcell hb1
        simp only [World.size_alloc] at ho1 hb1 hc1 hf1 ⊢
        have hs1 := hb1.size
        simp at hs1
        have hN := nums_owns (P := fun b => P b ∧ b ≠ W.heap.size + 1) ho1 (fun b h => ⟨unhide HP b (by (try simp at h); omega), by (try simp at h); omega⟩)
        have HN := hide hN
        have HB1 := hide hb1
        have d0 : w1.cell? ⟨W.heap.size + 1, 0, none⟩ = some (.slice none 0 0) := (hc1 (W.heap.size + 1) 0 (by omega)).trans ((cell_res W _ _ _ _ 0).trans rfl)
        have d1 : w1.cell? ⟨W.heap.size + 1, 1, none⟩ = some (.slice none 0 0) := (hc1 (W.heap.size + 1) 1 (by omega)).trans ((cell_res W _ _ _ _ 1).trans rfl)
        have HBW : Hid (Below W.heap.size W w1) := hide ((((((Below.refl W.heap.size W).alloc (Nat.le_refl _) _).alloc (by simp) _).alloc (by simp; omega) _).alloc (by simp; omega) _).trans ((unhide HB1).mono (by omega)))
        clear ho1 hb1 hN
        go_wp2_with fail
        refine (unhide HR _ _ (by omega) (unhide HN)).mono ?_
        rintro e w2 ⟨s1, s2, s3, c1, c2, c3, rfl, hA2, hb2⟩
        have HA2 := hide hA2
        have hs2 := hb2.size
        have e0 := (hb2.cell (p := ⟨W.heap.size + 1, 0, none⟩) (by show W.heap.size + 1 < w1.heap.size; omega)).trans d0
        have e1 := (hb2.cell (p := ⟨W.heap.size + 1, 1, none⟩) (by show W.heap.size + 1 < w1.heap.size; omega)).trans d1
        have g0 := (hb2.frozen (p := ⟨W.heap.size + 1, 0, none⟩) (by show W.heap.size + 1 < w1.heap.size; omega)).trans ((hf1 (W.heap.size + 1) 0 (by omega)).trans (frozen_res W _ _ _ _ 0))
        have g1 := (hb2.frozen (p := ⟨W.heap.size + 1, 1, none⟩) (by show W.heap.size + 1 < w1.heap.size; omega)).trans ((hf1 (W.heap.size + 1) 1 (by omega)).trans (frozen_res W _ _ _ _ 1))
        have HB2 : Hid (Below W.heap.size W w2) := hide ((unhide HBW).trans (hb2.mono (unhide HBW).size))
        have hw2 : W.heap.size + 1 < w2.heap.size := by omega
        have hL : ((List.range n).map Int.ofNat).length = n := by simp
        rw [hL] at HA2
        clear hA2 hb2 d0 d1 hc1 hf1 HN HB1 HBW HR HPl HS
        go_wp2_with fail
        refine bodyPost_ret (v := .tuple #[.agg #[.slice s1 s2 s3, .slice c1 c2 c3], .int .i64 0]) (by simp [results, Tryz.results183, go_sem, e0, e1]) rfl ⟨_, _, _, _, _, _, rfl, ?_, ?_⟩
        · exact (((unhide HA2).set (fun h => h.2 rfl) 0 _).set (fun h => h.2 rfl) 1 _).imp (fun b h _ => h.1)
        · exact ((unhide HB2).setCell (p := ⟨W.heap.size + 1, 0, none⟩) (Nat.le_succ _) _).setCell (p := ⟨W.heap.size + 1, 1, none⟩) (Nat.le_succ _) _
  · have hr' : r = (eArr, 5) := by rw [← hr]; unfold iotaP; rw [if_pos hsh]
    subst hr'
    have h0 : ((sn : Int) == 0) = false := by
      rw [hsn]
      simp [hsh]
    clear hr ha1 ha2 hP hoa hsn hsh
    go_enter Tryz.func183, Tryz.ntmps183
    go_wp2_with (go_at_call 220; refine (unhide HS _).mono ?_; rintro e w' ⟨rfl, rfl⟩)
    refine bodyPost_ret (v := .tuple #[.agg #[.slice none 0 0, .slice none 0 0], .int .i64 5]) (by simp [results, Tryz.results183, go_sem]) rfl ⟨_, _, _, _, _, _, rfl, e_arr _ _, ?_⟩
    exact (((((Below.refl W.heap.size W).alloc (Nat.le_refl _) _).alloc (by simp) _).alloc (by simp; omega) _).alloc (by simp; omega) _)
theorem iota_one : OneC ⟨#[105, 111, 116, 97]⟩ iotaP := ⟨fun w => (find_one (t := ⟨#[105, 111, 116, 97]⟩) (k1 := .string [111, 116, 97]) (k2 := .string [105, 111, 116, 97]) (f := 183) (by decide) (by kernel_rfl) (by kernel_rfl) (by kernel_rfl) (by kernel_rfl) w).mono (by rintro e w' ⟨rfl, hb⟩; exact ⟨183, #[], rfl, Tryz.enters183, hb, upTo_fn w'⟩), fun a ha => by
  unfold iotaP
  split
  · exact ⟨by simp [eArr], fun h => absurd h (by decide)⟩
  · split
    · exact ⟨by simp [eArr], fun h => absurd h (by decide)⟩
    · split
      · exact ⟨by simp [eArr], fun h => absurd h (by decide)⟩
      · rename_i h1 h2 h3
        have hn : (a.cells.headD 0).toNat ≤ 64 := by omega
        obtain ⟨m, hm⟩ : ∃ m, (a.cells.headD 0).toNat = m := ⟨_, rfl⟩
        rw [hm] at hn ⊢
        exact ⟨by simp; omega, fun _ => ⟨by simp, by simp; omega, by simp [prodL], by simp; omega, fun c hc => by simp at hc; obtain ⟨i, hi, rfl⟩ := hc; unfold fit64; omega⟩⟩⟩
end Go.Proofs.YtjobgpahajhbnaaGreatDoor
namespace Go.Proofs.YtjobgpahajhbnaaGreatDoor
open Go.RowKit Go.Proofs Go.Maps
attribute [local go_sem ↓] Go.wp_at_zero Go.wp_at_succ

set_option maxHeartbeats 1000000 in
theorem index_any (P : Nat → Prop) (w : World) (co : Option Addr) (cn cc : Nat) (xs : List Int) (h : Nums P w (.slice co cn cc) xs) (hl : xs.length ≤ 200) (x : Int) :
    Calls Tryz.prog 280 #[.slice co cn cc, .int .i64 x] w fun e w' => ∃ r : Int, e = .returned (.int .i64 r) ∧ (0 ≤ r ↔ x ∈ xs) ∧ w' = w := by
  have hcn := nums_len h
  have HX : Hid (0 < cn → ∃ b off, co = some ⟨b, off, none⟩ ∧ b < w.heap.size ∧ ∀ i, (hi : i < xs.length) → w.cell? ⟨b, off + i, none⟩ = some (.int .i64 xs[i])) := by
    intro h0
    obtain ⟨ao, cap, hv, _, h1, _⟩ := h
    injection hv with e1 e2 e3
    obtain ⟨b, off, ha, _, hlt, hc⟩ := h1 (by omega)
    exact ⟨b, off, e1.trans ha, hlt, hc⟩
  have HN := hide hcn
  have hcl : cn ≤ 200 := by omega
  clear h hcn hl
  go_enter Tryz.func280, Tryz.ntmps280
  go_wp2_with fail
  go_loop [8] (fun v => ∃ k : Nat, v = .int .i64 k ∧ k ≤ cn ∧ ∀ i, (hi : i < xs.length) → i < k → xs[i] ≠ x) (fun v => cn - (intOf v).toNat)
  case atStart => exact ⟨0, rfl, by omega, fun i _ h => absurd h (by omega)⟩
  case round =>
    obtain ⟨k, rfl, hk, hall⟩ := hrel
    by_cases hkn : k < cn
    · obtain ⟨b, off, rfl, hlt, hc⟩ := unhide HX (by omega)
      have hkx : k < xs.length := by rw [← unhide HN]; exact hkn
      have c0 := hc k hkx
      obtain ⟨y, hy⟩ : ∃ y, xs[k] = y := ⟨_, rfl⟩
      rw [hy] at c0
      have HY := hide hy
      have HA := hide hall
      have hk1 : (k : Int) < (cn : Int) := by omega
      have hk0 : (0 : Int) ≤ (k : Int) := by omega
      clear hc hy hall
      by_cases hxy : x = y
      · have hxy' : (x == y) = true := by simpa using hxy
        go_wp2_with fail
        exact bodyPost_ret (v := .int .i64 k) (by simp [results, Tryz.results280, go_sem]) rfl ⟨k, rfl, ⟨fun _ => by have hm := List.getElem_mem hkx; rw [unhide HY] at hm; first | exact hm | (rw [hxy]; exact hm), fun _ => by omega⟩, rfl⟩
      · have hxy' : (x == y) = false := by simpa using hxy
        go_wp2_with fail
        exact ⟨⟨k + 1, by simp, by omega, fun i hi hik => by
          by_cases e : i = k
          · subst e; rw [unhide HY]; exact fun h => hxy h.symm
          · exact unhide HA i hi (by omega)⟩, by simp [intOf]; omega⟩
    · have HA := hide hall
      have hke : k = cn := by omega
      clear hall
      go_wp2_with fail
      refine bodyPost_ret (v := .int .i64 (-1)) (by simp [results, Tryz.results280, go_sem]) rfl ⟨-1, rfl, ⟨fun h => absurd h (by decide), fun h => ?_⟩, rfl⟩
      obtain ⟨i, hi, e⟩ := List.getElem_of_mem h
      exact absurd e (unhide HA i hi (by rw [hke, unhide HN]; exact hi))
set_option maxHeartbeats 400000 in
theorem contains_any (P : Nat → Prop) (w : World) (co : Option Addr) (cn cc : Nat) (xs : List Int) (h : Nums P w (.slice co cn cc) xs) (hl : xs.length ≤ 200) (x : Int) :
    Calls Tryz.prog 260 #[.slice co cn cc, .int .i64 x] w fun e w' => e = .returned (.bool (decide (x ∈ xs))) ∧ w' = w := by
  have HI := hide (index_any P w co cn cc xs h hl x)
  clear h hl
  go_enter Tryz.func260, Tryz.ntmps260
  go_wp2_with (go_at_call 280; refine (unhide HI).mono ?_; rintro e w' ⟨r, rfl, hr, rfl⟩; have HR := hide hr; clear hr)
  refine bodyPost_ret (v := .bool (decide (x ∈ xs))) ?_ rfl ⟨rfl, rfl⟩
  have e : decide (0 ≤ r) = decide (x ∈ xs) := by rw [decide_eq_decide]; exact unhide HR
  simp [results, Tryz.results260, go_sem, ← e]
/-- function g, with a variable of its own in block pb, makes of a cell what h makes of it -/
structure CellB (g pb : Nat) (W0 : World) (Dm : Int → Prop) (h : Int → Int) : Prop where
  enters : Enters Tryz.prog g
  call : ∀ (x : Int) (w : World), Below W0.heap.size W0 w → Dm x → Calls Tryz.prog g #[.int .i64 x, .pointer (some ⟨pb, 0, none⟩)] w fun e w' => e = .returned (.int .i64 (h x)) ∧ w' = w
set_option maxHeartbeats 1000000 in
set_option maxRecDepth 20000 in
theorem each_cap (h : Int → Int) (g pb : Nat) (P : Nat → Prop) (w : World) (Dm : Int → Prop) (hg : CellB g pb w Dm h) (hP : ∀ b, w.heap.size ≤ b → P b) (so : Option Addr) (sn sc : Nat) (co : Option Addr) (cn cc : Nat) (a : Arr) (ha : IsArr P w (.agg #[.slice so sn sc, .slice co cn cc]) a) (hoa : a.ok) (hDm : ∀ c ∈ a.cells, Dm c) :
    Calls Tryz.prog 227 #[.agg #[.slice so sn sc, .slice co cn cc], .func (.func g) #[] #[.pointer (some ⟨pb, 0, none⟩)]] w fun e w' => ∃ c1 c2 c3, e = .returned (.agg #[.slice so sn sc, .slice c1 c2 c3]) ∧ IsArr P w' (.agg #[.slice so sn sc, .slice c1 c2 c3]) ⟨a.shape, a.cells.map h⟩ ∧ Below w.heap.size w w' := by
  obtain ⟨i0, hi, hz0, hz1, hz2⟩ := info_parts Tryz.info2
  have HI := hide hi
  have HZ0 := hide hz0
  have HZ1 := hide hz1
  have HZ2 := hide hz2
  have hen2 : ∀ args w, (callFunc g args).run Tryz.prog w = .ok (.enter g args) w := hg.enters
  have HP : Hid (∀ b, w.heap.size ≤ b → P b) := hP
  have HA := hide ha
  have HG := hide hg
  have hcl := (isArr_len ha).1
  have hN : cn ≤ 200 := by rw [hcl]; exact hoa.few
  have HX : Hid (0 < cn → ∃ b off, co = some ⟨b, off, none⟩ ∧ b < w.heap.size ∧ ∀ i, (hi : i < a.cells.length) → w.cell? ⟨b, off + i, none⟩ = some (.int .i64 a.cells[i])) := by
    intro h0
    obtain ⟨so', sn', sc', co', cn', cc', hv, _, ⟨ao, cap, h2, _, hc, _⟩⟩ := ha
    injection hv with hv
    simp at hv
    obtain ⟨_, rfl, rfl, rfl⟩ := hv
    obtain ⟨b, off, e, _, hlt, hcell⟩ := hc (by omega)
    injection h2 with h2
    exact ⟨b, off, h2.trans e, hlt, hcell⟩
  have HXF := hide hDm
  obtain ⟨xs, hxs⟩ : ∃ xs, a.cells = xs := ⟨_, rfl⟩
  rw [hxs] at hcl
  simp only [hxs] at HX HXF ⊢
  have HCL := hide hcl
  clear hi hz0 hz1 hz2 hP ha hoa hcl hg hDm
  go_enter Tryz.func227, Tryz.ntmps227
  go_wp2_with fail
  have hbW : Below w.heap.size w ((w.alloc (.cells #[.slice so sn sc, .slice co cn cc] 89)).alloc (.cells #[.slice none 0 0, .slice none 0 0] 89)) := ((Below.refl _ _).alloc (Nat.le_refl _) _).alloc (by simp) _
  have z0 : ((w.alloc (.cells #[.slice so sn sc, .slice co cn cc] 89)).alloc (.cells #[.slice none 0 0, .slice none 0 0] 89)).cell? ⟨w.heap.size, 0, none⟩ = some (.slice so sn sc) := by simp
  have r0 : ((w.alloc (.cells #[.slice so sn sc, .slice co cn cc] 89)).alloc (.cells #[.slice none 0 0, .slice none 0 0] 89)).cell? ⟨w.heap.size + 1, 0, none⟩ = some (.slice none 0 0) := (World.cell?_alloc_at _ _ _ _ (by simp)).trans rfl
  have r1 : ((w.alloc (.cells #[.slice so sn sc, .slice co cn cc] 89)).alloc (.cells #[.slice none 0 0, .slice none 0 0] 89)).cell? ⟨w.heap.size + 1, 1, none⟩ = some (.slice none 0 0) := (World.cell?_alloc_at _ _ _ _ (by simp)).trans rfl
  have q0 : ((w.alloc (.cells #[.slice so sn sc, .slice co cn cc] 89)).alloc (.cells #[.slice none 0 0, .slice none 0 0] 89)).frozen? ⟨w.heap.size + 1, 0, none⟩ = false := World.frozen?_alloc_at _ _ _ _ (by simp)
  have q1 : ((w.alloc (.cells #[.slice so sn sc, .slice co cn cc] 89)).alloc (.cells #[.slice none 0 0, .slice none 0 0] 89)).frozen? ⟨w.heap.size + 1, 1, none⟩ = false := World.frozen?_alloc_at _ _ _ _ (by simp)
  have hlt : w.heap.size + 1 < ((w.alloc (.cells #[.slice so sn sc, .slice co cn cc] 89)).alloc (.cells #[.slice none 0 0, .slice none 0 0] 89)).heap.size := by simp
  obtain ⟨wS, hwS⟩ : ∃ wS, (w.alloc (.cells #[.slice so sn sc, .slice co cn cc] 89)).alloc (.cells #[.slice none 0 0, .slice none 0 0] 89) = wS := ⟨_, rfl⟩
  rw [hwS] at hbW z0 r0 r1 q0 q1 hlt ⊢
  have HBS := hide hbW
  clear hwS hbW
  go_loopw [5, 11] (fun v5 v11 wr => ∃ (k : Nat) (L : List Int), v11 = .int .i64 k ∧ k ≤ cn ∧ (xs.take k).map h = L ∧ wr.ownsRow wS.heap.size 2 1 v5 k (L.map (Value.int .i64)) ∧ Below wS.heap.size wS wr) (fun _ v11 _ => cn - (intOf v11).toNat)
  case atStart => exact ⟨0, [], rfl, Nat.zero_le _, rfl, World.ownsRow_nil _ _ _ _, Below.refl _ _⟩
  case round =>
    obtain ⟨k, L, rfl, hk, hL, hown, hbel⟩ := hrel
    have HL := hide hL
    clear hL
    have z0' := (hbel.cell (p := ⟨w.heap.size, 0, none⟩) (show w.heap.size < wS.heap.size by omega)).trans z0
    have r0' := (hbel.cell (p := ⟨w.heap.size + 1, 0, none⟩) hlt).trans r0
    have r1' := (hbel.cell (p := ⟨w.heap.size + 1, 1, none⟩) hlt).trans r1
    have q0' := (hbel.frozen (p := ⟨w.heap.size + 1, 0, none⟩) hlt).trans q0
    have q1' := (hbel.frozen (p := ⟨w.heap.size + 1, 1, none⟩) hlt).trans q1
    have HOw := hide hown
    have HBe := hide hbel
    by_cases hkn : k < cn
    · obtain ⟨xb, xf, rfl, hxb, hxc⟩ := unhide HX (by omega)
      have hkx : k < xs.length := by rw [← unhide HCL]; exact hkn
      have cx := (hbel.cell (p := ⟨xb, xf + k, none⟩) (Nat.lt_of_lt_of_le hxb (unhide HBS).size)).trans (((unhide HBS).cell (p := ⟨xb, xf + k, none⟩) hxb).trans (hxc k hkx))
      have HTk : Hid ((xs.take (k + 1)).map h = (xs.take k).map h ++ [h xs[k]]) := hide (by rw [List.take_succ_eq_append_getElem hkx, List.map_append]; rfl)
      have hfx := unhide HXF _ (List.getElem_mem hkx)
      obtain ⟨x, hx⟩ : ∃ x, xs[k] = x := ⟨_, rfl⟩
      rw [hx] at cx hfx HTk
      have HRule := hide (fun w' hb' => (unhide HG).call x w' hb' hfx)
      have HBw : Hid (Below w.heap.size w wr) := hide ((unhide HBS).trans ((unhide HBe).mono (unhide HBS).size))
      obtain ⟨u, hu⟩ : ∃ u, h x = u := ⟨_, rfl⟩
      rw [hu] at HTk
      simp only [hu] at HRule
      have hk1 : (k : Int) < (cn : Int) := by omega
      clear hown hbel hxc hx hu hfx hxb
      go_wp2_with (first | (go_at_fn g; refine (unhide HRule _ (unhide HBw)).mono ?_; rintro e wr ⟨rfl, rfl⟩) | (at_builtin; refine wpList_append_own _ rfl _ _ 32 rfl wS.heap.size 2 i0 (.int .i64 0) 1 8 Tryz.underlying32 (unhide HI) (unhide HZ0) (unhide HZ1) (unhide HZ2) rfl (by decide) _ _ _ rfl ((unhide HOw).alloc _) ⟨wr.heap.size, 0, none⟩ 1 1 [.int .i64 u] rfl rfl ?c1 ?c2 ?c3 ?c4 ?c5 ?_))
      case c1 => intro j v hj; match j, hj with | 0, hj => simp at hj; subst hj; exact (World.cell?_alloc_at _ _ _ _ rfl).trans rfl
      case c2 => intro v hv; simp at hv; subst hv; rfl
      case c3 => unfold maxLen; omega
      case c4 => omega
      case c5 => have := (unhide HBe).size; simp; omega
      · intro v' w4 hown4 hgrow4 _
        have HB4 : Hid (Below wS.heap.size wS w4) := hide (((unhide HBe).alloc (unhide HBe).size _).grown hgrow4 (by have := (unhide HBe).size; simp; omega) (fun q hq => ((unhide HOw).lt q hq).1))
        have HO4 := hide hown4
        clear hown4 hgrow4
        go_wp2_with fail
        go_roundw
        case rel => exact ⟨k + 1, L ++ [u], by go_num, by omega, by rw [unhide HTk, unhide HL], by rw [List.map_append]; exact unhide HO4, unhide HB4⟩
        case measure => simp [intOf]; omega
    · have hkN : k = cn := by omega
      subst hkN
      obtain ⟨vo, vc, hv8, hvle, hcells⟩ := own_slice (unhide HOw)
      subst hv8
      have hT : xs.take k = xs := List.take_of_length_le (by rw [← unhide HCL]; exact Nat.le_refl _)
      have hLL := unhide HL
      rw [hT] at hLL
      subst hLL
      have hbF := (unhide HBS).trans ((unhide HBe).mono (unhide HBS).size)
      have HBF := hide hbF
      have HN := hide (nums_owns (P := fun b => P b ∧ b ≠ w.heap.size + 1) (unhide HOw) (fun b hb => ⟨unhide HP b (by omega), by omega⟩))
      clear hown hbel hcells hT hbF
      go_wp2_with fail
      refine bodyPost_ret (v := .agg #[.slice so sn sc, .slice vo k vc]) (by simp [results, Tryz.results227, go_sem, r0', r1']) rfl ⟨vo, k, vc, rfl, filled_end (unhide HA) (unhide HBF) (unhide HN), ?_⟩
      exact ((unhide HBF).setCell (p := ⟨w.heap.size + 1, 0, none⟩) (Nat.le_succ _) _).setCell (p := ⟨w.heap.size + 1, 1, none⟩) (Nat.le_succ _) _
end Go.Proofs.YtjobgpahajhbnaaGreatDoor
namespace Go.Proofs.YtjobgpahajhbnaaGreatDoor
open Go.RowKit Go.Proofs Go.Maps
attribute [local go_sem ↓] Go.wp_at_zero Go.wp_at_succ

theorem Tryz.enters258 : Enters Tryz.prog 258 := Go.Proofs.enters_of Tryz.func258 (by decide) rfl
theorem Tryz.enters205 : Enters Tryz.prog 205 := Go.Proofs.enters_of Tryz.func205 (by decide) rfl
def oneOf (xs : List Int) (x : Int) : Int := if x ∈ xs then 1 else 0
set_option maxHeartbeats 400000 in
theorem in_cell {P : Nat → Prop} {W0 : World} (pb : Nat) (hpb : pb < W0.heap.size) (co : Option Addr) (cn cc : Nat) (xs : List Int) (c1 : W0.cell? ⟨pb, 1, none⟩ = some (.slice co cn cc)) (h : Nums P W0 (.slice co cn cc) xs) (hl : xs.length ≤ 200) : CellB 258 pb W0 fit64 (oneOf xs) where
  enters := Tryz.enters258
  call := by
    intro x w hb _
    have c1' := (hb.cell (p := ⟨pb, 1, none⟩) hpb).trans c1
    have HC := hide (contains_any P w co cn cc xs (h.below hb) hl x)
    obtain ⟨d, hd⟩ : ∃ d, decide (x ∈ xs) = d := ⟨_, rfl⟩
    rw [hd] at HC
    have hv : (if d = true then (1 : Int) else 0) = oneOf xs x := by
      unfold oneOf
      rw [← hd]
      by_cases hx : x ∈ xs
      · simp [hx]
      · simp [hx]
    obtain ⟨u, hu⟩ : ∃ u, oneOf xs x = u := ⟨_, rfl⟩
    rw [hu] at hv
    rw [hu]
    have HO := hide (fun w' => oneIf_any d u hv w')
    clear hd hv hu h c1 hb
    go_enter Tryz.func258, Tryz.ntmps258
    go_wp2_with (first | (go_at_call 260; refine (unhide HC).mono ?_; rintro e w' ⟨rfl, rfl⟩) | (go_at_call 259; refine (unhide HO _).mono ?_; rintro e w' ⟨rfl, rfl⟩))
    exact bodyPost_ret (v := .int .i64 u) (by simp [results, Tryz.results258, go_sem]) rfl ⟨rfl, rfl⟩
def inP (a b : Arr) : Arr × Int := (⟨a.shape, a.cells.map (oneOf b.cells)⟩, 0)
set_option maxHeartbeats 1000000 in
set_option maxRecDepth 20000 in
theorem in_fn (w : World) : FnTwo 205 #[] w inP := by
  intro W P u v a b _ hP ha hb hoa hob
  obtain ⟨so, sn, sc, co, cn, cc, rfl, ha1, ha2⟩ := ha
  obtain ⟨so2, sn2, sc2, co2, cn2, cc2, rfl, hb1, hb2⟩ := hb
  have ha : IsArr P W (.agg #[.slice so sn sc, .slice co cn cc]) a := ⟨_, _, _, _, _, _, rfl, ha1, ha2⟩
  obtain ⟨W1, hW1⟩ : ∃ W1, ((W.alloc (.cells #[.slice so sn sc, .slice co cn cc] 89)).alloc (.cells #[.slice so2 sn2 sc2, .slice co2 cn2 cc2] 89)).alloc (.cells #[.slice none 0 0, .slice none 0 0] 89) = W1 := ⟨_, rfl⟩
  have hbW : Below W.heap.size W W1 := by rw [← hW1]; exact (((Below.refl _ _).alloc (Nat.le_refl _) _).alloc (by simp) _).alloc (by simp; omega) _
  have hs1 : W1.heap.size = W.heap.size + 1 + 1 + 1 := by rw [← hW1]; simp
  have k1 : W1.cell? ⟨W.heap.size + 1, 1, none⟩ = some (.slice co2 cn2 cc2) := by
    rw [← hW1, World.cell?_of_block (a := ⟨W.heap.size + 1, 1, none⟩) (RowKit.Below.heap_alloc _ _ _ (by simp))]
    exact (World.cell?_alloc_at _ _ _ _ (by simp)).trans rfl
  have b0 : W1.cell? ⟨W.heap.size, 0, none⟩ = some (.slice so sn sc) := by
    rw [← hW1, World.cell?_of_block (a := ⟨W.heap.size, 0, none⟩) (RowKit.Below.heap_alloc _ _ _ (by simp; omega)), World.cell?_of_block (a := ⟨W.heap.size, 0, none⟩) (RowKit.Below.heap_alloc _ _ _ (by simp))]
    exact (World.cell?_alloc_at _ _ _ _ rfl).trans rfl
  have b1 : W1.cell? ⟨W.heap.size, 1, none⟩ = some (.slice co cn cc) := by
    rw [← hW1, World.cell?_of_block (a := ⟨W.heap.size, 1, none⟩) (RowKit.Below.heap_alloc _ _ _ (by simp; omega)), World.cell?_of_block (a := ⟨W.heap.size, 1, none⟩) (RowKit.Below.heap_alloc _ _ _ (by simp))]
    exact (World.cell?_alloc_at _ _ _ _ rfl).trans rfl
  have r0 : W1.cell? ⟨W.heap.size + 1 + 1, 0, none⟩ = some (.slice none 0 0) := by rw [← hW1]; exact (World.cell?_alloc_at _ _ _ _ (by simp)).trans rfl
  have r1 : W1.cell? ⟨W.heap.size + 1 + 1, 1, none⟩ = some (.slice none 0 0) := by rw [← hW1]; exact (World.cell?_alloc_at _ _ _ _ (by simp)).trans rfl
  have f0 : ∀ i, W1.frozen? ⟨W.heap.size + 1 + 1, i, none⟩ = false := fun i => by rw [← hW1]; exact World.frozen?_alloc_at _ _ _ _ (by simp)
  have HC := hide (each_cap (oneOf b.cells) 258 (W.heap.size + 1) (fun b => P b ∧ b ≠ W.heap.size + 1 + 1) W1 fit64 (in_cell (W.heap.size + 1) (by omega) co2 cn2 cc2 b.cells k1 (hb2.below hbW) hob.few) (fun b h' => ⟨hP b (by omega), by omega⟩) so sn sc co cn cc a ((ha.imp (fun b hp hl => ⟨hp, by omega⟩)).below hbW) hoa hoa.fits)
  have HBW := hide hbW
  obtain ⟨r, hr⟩ : ∃ r : Arr, (⟨a.shape, a.cells.map (oneOf b.cells)⟩ : Arr) = r := ⟨_, rfl⟩
  have hin : inP a b = (r, 0) := by unfold inP; rw [hr]
  simp only [hr] at HC
  simp only [hin]
  have q0 := f0 0
  have q1 := f0 1
  clear hP hoa hob ha ha1 ha2 hb1 hb2 hr hin k1 hbW f0
  go_enter Tryz.func205, Tryz.ntmps205
  go_wp2_with fail
  try rw [hW1]
  refine (unhide HC).mono ?_
  rintro e w1 ⟨c1, c2, c3, rfl, h1, hb1⟩
  have HA := hide h1
  have hsz := hb1.size
  have d0 := (hb1.cell (p := ⟨W.heap.size + 1 + 1, 0, none⟩) (by show W.heap.size + 1 + 1 < W1.heap.size; omega)).trans r0
  have d1 := (hb1.cell (p := ⟨W.heap.size + 1 + 1, 1, none⟩) (by show W.heap.size + 1 + 1 < W1.heap.size; omega)).trans r1
  have g0 := (hb1.frozen (p := ⟨W.heap.size + 1 + 1, 0, none⟩) (by show W.heap.size + 1 + 1 < W1.heap.size; omega)).trans q0
  have g1 := (hb1.frozen (p := ⟨W.heap.size + 1 + 1, 1, none⟩) (by show W.heap.size + 1 + 1 < W1.heap.size; omega)).trans q1
  have HB : Hid (Below W.heap.size W w1) := hide ((unhide HBW).trans (hb1.mono (unhide HBW).size))
  have hw1 : W.heap.size + 1 + 1 < w1.heap.size := by omega
  clear h1 hb1 r0 r1 q0 q1 HC hW1
  go_wp2_with fail
  refine bodyPost_ret (v := .tuple #[.agg #[.slice so sn sc, .slice c1 c2 c3], .int .i64 0]) (by simp [results, Tryz.results205, go_sem, d0, d1]) rfl ⟨_, _, _, _, _, _, rfl, ?_, ?_⟩
  · exact (((unhide HA).set (fun h => h.2 rfl) 0 _).set (fun h => h.2 rfl) 1 _).imp (fun b h _ => h.1)
  · exact ((unhide HB).setCell (p := ⟨W.heap.size + 1 + 1, 0, none⟩) (by show W.heap.size ≤ W.heap.size + 1 + 1; omega) _).setCell (p := ⟨W.heap.size + 1 + 1, 1, none⟩) (by show W.heap.size ≤ W.heap.size + 1 + 1; omega) _
theorem in_two : TwoC ⟨#[105, 110]⟩ inP := ⟨fun w => (find_two (t := ⟨#[105, 110]⟩) (k1 := .string [110]) (k2 := .string [105, 110]) (f := 205) (by decide) (by kernel_rfl) (by kernel_rfl) (by kernel_rfl) (by kernel_rfl) (by kernel_rfl) w).mono (by rintro e w' ⟨rfl, hb⟩; exact ⟨205, #[], rfl, Tryz.enters205, hb, in_fn w'⟩), fun a b ha hb => ⟨by simpa [inP] using ha.few, fun _ => ⟨ha.rank, ha.lens, by simpa [inP] using ha.size, by simpa [inP] using ha.few, by intro c hc; obtain ⟨x, _, rfl⟩ := List.mem_map.1 hc; unfold oneOf fit64; split <;> omega⟩⟩⟩
end Go.Proofs.YtjobgpahajhbnaaGreatDoor
namespace Go.Proofs.YtjobgpahajhbnaaGreatDoor
open Go.RowKit Go.Proofs Go.Maps
attribute [local go_sem ↓] Go.wp_at_zero Go.wp_at_succ

/-- function g tells of a cell what p tells -/
structure PredC (g : Nat) (lb : Array Value) (W0 : World) (p : Int → Bool) : Prop where
  enters : Enters Tryz.prog g
  call : ∀ (x : Int) (w : World), Below W0.heap.size W0 w → Calls Tryz.prog g (#[.int .i64 x] ++ lb) w fun e w' => e = .returned (.bool (p x)) ∧ w' = w
set_option maxHeartbeats 1000000 in
theorem indexF_any (P : Nat → Prop) (w W0 : World) (hW : Below W0.heap.size W0 w) (g : Nat) (lb : Array Value) (p : Int → Bool) (hg : PredC g lb W0 p) (co : Option Addr) (cn cc : Nat) (xs : List Int) (h : Nums P w (.slice co cn cc) xs) (hl : xs.length ≤ 200) :
    Calls Tryz.prog 289 #[.slice co cn cc, .func (.func g) #[] lb] w fun e w' => ∃ r : Int, e = .returned (.int .i64 r) ∧ (decide (0 ≤ r) = xs.any p) ∧ w' = w := by
  have hcn := nums_len h
  have HX : Hid (0 < cn → ∃ b off, co = some ⟨b, off, none⟩ ∧ b < w.heap.size ∧ ∀ i, (hi : i < xs.length) → w.cell? ⟨b, off + i, none⟩ = some (.int .i64 xs[i])) := by
    intro h0
    obtain ⟨ao, cap, hv, _, h1, _⟩ := h
    injection hv with e1 e2 e3
    obtain ⟨b, off, ha, _, hlt, hc⟩ := h1 (by omega)
    exact ⟨b, off, e1.trans ha, hlt, hc⟩
  have HN := hide hcn
  have HG := hide (fun x => hg.call x w hW)
  have hen2 : ∀ args w, (callFunc g args).run Tryz.prog w = .ok (.enter g args) w := hg.enters
  have hcl : cn ≤ 200 := by omega
  clear h hcn hl hg hW
  go_enter Tryz.func289, Tryz.ntmps289
  go_wp2_with fail
  go_loop [8] (fun v => ∃ k : Nat, v = .int .i64 k ∧ k ≤ cn ∧ ∀ i, (hi : i < xs.length) → i < k → p xs[i] = false) (fun v => cn - (intOf v).toNat)
  case atStart => exact ⟨0, rfl, by omega, fun i _ h => absurd h (by omega)⟩
  case round =>
    obtain ⟨k, rfl, hk, hall⟩ := hrel
    by_cases hkn : k < cn
    · obtain ⟨b, off, rfl, hlt, hc⟩ := unhide HX (by omega)
      have hkx : k < xs.length := by rw [← unhide HN]; exact hkn
      have c0 := hc k hkx
      obtain ⟨y, hy⟩ : ∃ y, xs[k] = y := ⟨_, rfl⟩
      rw [hy] at c0
      have HY := hide hy
      have HA := hide hall
      have hk1 : (k : Int) < (cn : Int) := by omega
      have hk0 : (0 : Int) ≤ (k : Int) := by omega
      have HGy := hide (unhide HG y)
      clear hc hy hall
      cases hp : p y
      · rw [hp] at HGy
        have HP := hide hp
        clear hp
        go_wp2_with (go_at_fn g; refine (unhide HGy).mono ?_; rintro e w' ⟨rfl, rfl⟩)
        exact ⟨⟨k + 1, by simp, by omega, fun i hi hik => by
          by_cases e : i = k
          · subst e; rw [unhide HY]; exact unhide HP
          · exact unhide HA i hi (by omega)⟩, by simp [intOf]; omega⟩
      · rw [hp] at HGy
        have HP := hide hp
        clear hp
        go_wp2_with (go_at_fn g; refine (unhide HGy).mono ?_; rintro e w' ⟨rfl, rfl⟩)
        refine bodyPost_ret (v := .int .i64 k) (by simp [results, Tryz.results289, go_sem]) rfl ⟨k, rfl, ?_, rfl⟩
        have hm : xs.any p = true := List.any_eq_true.2 ⟨y, by rw [← unhide HY]; exact List.getElem_mem hkx, unhide HP⟩
        rw [hm]
        simp
    · have HA := hide hall
      have hke : k = cn := by omega
      clear hall
      go_wp2_with fail
      refine bodyPost_ret (v := .int .i64 (-1)) (by simp [results, Tryz.results289, go_sem]) rfl ⟨-1, rfl, ?_, rfl⟩
      have hm : xs.any p = false := by
        rw [List.any_eq_false]
        intro x hx
        obtain ⟨i, hi, e⟩ := List.getElem_of_mem hx
        have := unhide HA i hi (by rw [hke, unhide HN]; exact hi)
        rw [e] at this
        simp [this]
      rw [hm]
      simp
set_option maxHeartbeats 400000 in
theorem containsF_any (P : Nat → Prop) (w W0 : World) (hW : Below W0.heap.size W0 w) (g : Nat) (lb : Array Value) (p : Int → Bool) (hg : PredC g lb W0 p) (co : Option Addr) (cn cc : Nat) (xs : List Int) (h : Nums P w (.slice co cn cc) xs) (hl : xs.length ≤ 200) :
    Calls Tryz.prog 278 #[.slice co cn cc, .func (.func g) #[] lb] w fun e w' => e = .returned (.bool (xs.any p)) ∧ w' = w := by
  have HI := hide (indexF_any P w W0 hW g lb p hg co cn cc xs h hl)
  clear h hl hg hW
  go_enter Tryz.func278, Tryz.ntmps278
  go_wp2_with (go_at_call 289; refine (unhide HI).mono ?_; rintro e w' ⟨r, rfl, hr, rfl⟩; have HR := hide hr; clear hr)
  refine bodyPost_ret (v := .bool (xs.any p)) ?_ rfl ⟨rfl, rfl⟩
  simp [results, Tryz.results278, go_sem, ← unhide HR]
set_option maxHeartbeats 400000 in
theorem has_any (P : Nat → Prop) (w W0 : World) (hW : Below W0.heap.size W0 w) (g : Nat) (lb : Array Value) (p : Int → Bool) (hg : PredC g lb W0 p) (so : Option Addr) (sn sc : Nat) (co : Option Addr) (cn cc : Nat) (xs : List Int) (h : Nums P w (.slice co cn cc) xs) (hl : xs.length ≤ 200) :
    Calls Tryz.prog 251 #[.agg #[.slice so sn sc, .slice co cn cc], .func (.func g) #[] lb] w fun e w' => e = .returned (.bool (xs.any p)) ∧ w' = w.alloc (.cells #[.slice so sn sc, .slice co cn cc] 89) := by
  have hb0 : Below w.heap.size w (w.alloc (.cells #[.slice so sn sc, .slice co cn cc] 89)) := (Below.refl _ _).alloc (Nat.le_refl _) _
  have HI := hide (containsF_any P (w.alloc (.cells #[.slice so sn sc, .slice co cn cc] 89)) W0 (hW.trans (hb0.mono hW.size)) g lb p hg co cn cc xs (h.below hb0) hl)
  obtain ⟨d, hd⟩ : ∃ d, xs.any p = d := ⟨_, rfl⟩
  rw [hd] at HI ⊢
  clear h hl hg hW hb0 hd
  go_enter Tryz.func251, Tryz.ntmps251
  go_wp2_with (go_at_call 278; refine (unhide HI).mono ?_; rintro e w' ⟨rfl, rfl⟩)
  exact bodyPost_ret (v := .bool d) (by simp [results, Tryz.results251, go_sem]) rfl ⟨rfl, rfl⟩
set_option maxHeartbeats 400000 in
theorem isRow_any (w : World) (so : Option Addr) (sn sc : Nat) (co : Option Addr) (cn cc : Nat) :
    Calls Tryz.prog 255 #[.agg #[.slice so sn sc, .slice co cn cc]] w fun e w' => e = .returned (.bool ((sn : Int) == 1)) ∧ w' = (w.alloc (.cells #[.slice so sn sc, .slice co cn cc] 89)).alloc (.cells #[.slice so sn sc, .slice co cn cc] 89) := by
  go_enter Tryz.func255, Tryz.ntmps255
  go_wp2_with (go_at_call 221; refine (rank_any _ so sn sc co cn cc).mono ?_; rintro e w' ⟨rfl, rfl⟩)
  exact bodyPost_ret (v := .bool ((sn : Int) == 1)) (by simp [results, Tryz.results255, go_sem]) rfl ⟨rfl, rfl⟩
end Go.Proofs.YtjobgpahajhbnaaGreatDoor
namespace Go.Proofs.YtjobgpahajhbnaaGreatDoor
open Go.RowKit Go.Proofs Go.Maps
attribute [local go_sem ↓] Go.wp_at_zero Go.wp_at_succ

theorem Tryz.enters261 : Enters Tryz.prog 261 := Go.Proofs.enters_of Tryz.func261 (by decide) rfl
theorem Tryz.enters262 : Enters Tryz.prog 262 := Go.Proofs.enters_of Tryz.func262 (by decide) rfl
theorem Tryz.enters206 : Enters Tryz.prog 206 := Go.Proofs.enters_of Tryz.func206 (by decide) rfl
def outB (n : Nat) (x : Int) : Bool := decide (x < 0) || decide ((n : Int) ≤ x)
set_option maxHeartbeats 400000 in
theorem out_pred {W0 : World} (pb n : Nat) (hpb : pb < W0.heap.size) (c0 : W0.cell? ⟨pb, 0, none⟩ = some (.int .i64 n)) : PredC 261 #[.pointer (some ⟨pb, 0, none⟩)] W0 (outB n) where
  enters := Tryz.enters261
  call := by
    intro x w hb
    have c0' := (hb.cell (p := ⟨pb, 0, none⟩) hpb).trans c0
    clear c0 hb
    unfold outB
    by_cases h : x < 0
    · go_enter Tryz.func261, Tryz.ntmps261
      go_wp2
      exact bodyPost_ret (v := .bool true) (by simp [results, Tryz.results261, go_sem]) rfl ⟨by simp [h], rfl⟩
    · by_cases h2 : (n : Int) ≤ x
      · go_enter Tryz.func261, Tryz.ntmps261
        go_wp2
        exact bodyPost_ret (v := .bool true) (by simp [results, Tryz.results261, go_sem]) rfl ⟨by simp, rfl⟩
      · go_enter Tryz.func261, Tryz.ntmps261
        go_wp2
        exact bodyPost_ret (v := .bool false) (by simp [results, Tryz.results261, go_sem]) rfl ⟨by simp; omega, rfl⟩
def atF (xs : List Int) (x : Int) : Int := xs.getD x.toNat 0
set_option maxHeartbeats 400000 in
theorem at_cell {P : Nat → Prop} {W0 : World} (pb : Nat) (hpb : pb < W0.heap.size) (co : Option Addr) (cn cc : Nat) (xs : List Int) (c1 : W0.cell? ⟨pb, 1, none⟩ = some (.slice co cn cc)) (h : Nums P W0 (.slice co cn cc) xs) : CellB 262 pb W0 (fun x => 0 ≤ x ∧ x < xs.length) (atF xs) where
  enters := Tryz.enters262
  call := by
    intro x w hb hx
    obtain ⟨k, rfl⟩ : ∃ k : Nat, x = k := ⟨x.toNat, by omega⟩
    have hk : k < xs.length := by omega
    have c1' := (hb.cell (p := ⟨pb, 1, none⟩) hpb).trans c1
    have hcn := nums_len h
    obtain ⟨ao, cap, hv, _, h1, _⟩ := h.below hb
    injection hv with e1 e2 e3
    obtain ⟨b, off, ha, _, hlt, hc⟩ := h1 (by omega)
    subst e1
    subst ha
    have c2 := hc k hk
    have hv : atF xs (k : Int) = xs[k] := by simp [atF, List.getD_eq_getElem?_getD, hk]
    rw [hv]
    obtain ⟨y, hy⟩ : ∃ y, xs[k] = y := ⟨_, rfl⟩
    rw [hy] at c2 ⊢
    have hk0 : (0 : Int) ≤ (k : Int) := by omega
    have hk1 : (k : Int) < (cn : Int) := by omega
    clear h hc hv hy hx c1 hb h1 hcn e2 e3
    go_enter Tryz.func262, Tryz.ntmps262
    go_wp2
    exact bodyPost_ret (v := .int .i64 y) (by simp [results, Tryz.results262, go_sem]) rfl ⟨rfl, rfl⟩
def atP (a b : Arr) : Arr × Int := if b.shape.length ≠ 1 then (eArr, 5) else if a.cells.any (outB b.cells.length) = true then (eArr, 8) else (⟨a.shape, a.cells.map (atF b.cells)⟩, 0)
set_option maxHeartbeats 1000000 in
set_option maxRecDepth 20000 in
theorem at_fn (w : World) : FnTwo 206 #[] w atP := by
  intro W P u v a b _ hP ha hb hoa hob
  obtain ⟨so, sn, sc, co, cn, cc, rfl, ha1, ha2⟩ := ha
  obtain ⟨so2, sn2, sc2, co2, cn2, cc2, rfl, hb1, hb2⟩ := hb
  have ha : IsArr P W (.agg #[.slice so sn sc, .slice co cn cc]) a := ⟨_, _, _, _, _, _, rfl, ha1, ha2⟩
  have hcn2 := nums_len hb2
  have hsn2 := nums_len hb1
  simp at hsn2
  obtain ⟨W1, hW1⟩ : ∃ W1, ((W.alloc (.cells #[.slice so sn sc, .slice co cn cc] 89)).alloc (.cells #[.slice so2 sn2 sc2, .slice co2 cn2 cc2] 89)).alloc (.cells #[.slice none 0 0, .slice none 0 0] 89) = W1 := ⟨_, rfl⟩
  have hbW : Below W.heap.size W W1 := by rw [← hW1]; exact (((Below.refl _ _).alloc (Nat.le_refl _) _).alloc (by simp) _).alloc (by simp; omega) _
  have hs1 : W1.heap.size = W.heap.size + 1 + 1 + 1 := by rw [← hW1]; simp
  have k0 : W1.cell? ⟨W.heap.size + 1, 0, none⟩ = some (.slice so2 sn2 sc2) := by
    rw [← hW1, World.cell?_of_block (a := ⟨W.heap.size + 1, 0, none⟩) (RowKit.Below.heap_alloc _ _ _ (by simp))]
    exact (World.cell?_alloc_at _ _ _ _ (by simp)).trans rfl
  have k1 : W1.cell? ⟨W.heap.size + 1, 1, none⟩ = some (.slice co2 cn2 cc2) := by
    rw [← hW1, World.cell?_of_block (a := ⟨W.heap.size + 1, 1, none⟩) (RowKit.Below.heap_alloc _ _ _ (by simp))]
    exact (World.cell?_alloc_at _ _ _ _ (by simp)).trans rfl
  have b0 : W1.cell? ⟨W.heap.size, 0, none⟩ = some (.slice so sn sc) := by
    rw [← hW1, World.cell?_of_block (a := ⟨W.heap.size, 0, none⟩) (RowKit.Below.heap_alloc _ _ _ (by simp; omega)), World.cell?_of_block (a := ⟨W.heap.size, 0, none⟩) (RowKit.Below.heap_alloc _ _ _ (by simp))]
    exact (World.cell?_alloc_at _ _ _ _ rfl).trans rfl
  have b1 : W1.cell? ⟨W.heap.size, 1, none⟩ = some (.slice co cn cc) := by
    rw [← hW1, World.cell?_of_block (a := ⟨W.heap.size, 1, none⟩) (RowKit.Below.heap_alloc _ _ _ (by simp; omega)), World.cell?_of_block (a := ⟨W.heap.size, 1, none⟩) (RowKit.Below.heap_alloc _ _ _ (by simp))]
    exact (World.cell?_alloc_at _ _ _ _ rfl).trans rfl
  have r0 : W1.cell? ⟨W.heap.size + 1 + 1, 0, none⟩ = some (.slice none 0 0) := by rw [← hW1]; exact (World.cell?_alloc_at _ _ _ _ (by simp)).trans rfl
  have r1 : W1.cell? ⟨W.heap.size + 1 + 1, 1, none⟩ = some (.slice none 0 0) := by rw [← hW1]; exact (World.cell?_alloc_at _ _ _ _ (by simp)).trans rfl
  have f0 : ∀ i, W1.frozen? ⟨W.heap.size + 1 + 1, i, none⟩ = false := fun i => by rw [← hW1]; exact World.frozen?_alloc_at _ _ _ _ (by simp)
  have HF : Hid (∀ w', Below W1.heap.size W1 w' → (w'.cell? ⟨W.heap.size, 0, none⟩ = some (.slice so sn sc) ∧ w'.cell? ⟨W.heap.size, 1, none⟩ = some (.slice co cn cc) ∧ w'.cell? ⟨W.heap.size + 1, 0, none⟩ = some (.slice so2 sn2 sc2) ∧ w'.cell? ⟨W.heap.size + 1, 1, none⟩ = some (.slice co2 cn2 cc2) ∧ w'.cell? ⟨W.heap.size + 1 + 1, 0, none⟩ = some (.slice none 0 0) ∧ w'.cell? ⟨W.heap.size + 1 + 1, 1, none⟩ = some (.slice none 0 0)) ∧ w'.frozen? ⟨W.heap.size + 1 + 1, 0, none⟩ = false ∧ w'.frozen? ⟨W.heap.size + 1 + 1, 1, none⟩ = false) := hide (fun w' hb => ⟨⟨(hb.cell (p := ⟨W.heap.size, 0, none⟩) (by show W.heap.size < W1.heap.size; omega)).trans b0, (hb.cell (p := ⟨W.heap.size, 1, none⟩) (by show W.heap.size < W1.heap.size; omega)).trans b1, (hb.cell (p := ⟨W.heap.size + 1, 0, none⟩) (by show W.heap.size + 1 < W1.heap.size; omega)).trans k0, (hb.cell (p := ⟨W.heap.size + 1, 1, none⟩) (by show W.heap.size + 1 < W1.heap.size; omega)).trans k1, (hb.cell (p := ⟨W.heap.size + 1 + 1, 0, none⟩) (by show W.heap.size + 1 + 1 < W1.heap.size; omega)).trans r0, (hb.cell (p := ⟨W.heap.size + 1 + 1, 1, none⟩) (by show W.heap.size + 1 + 1 < W1.heap.size; omega)).trans r1⟩, (hb.frozen (p := ⟨W.heap.size + 1 + 1, 0, none⟩) (by show W.heap.size + 1 + 1 < W1.heap.size; omega)).trans (f0 0), (hb.frozen (p := ⟨W.heap.size + 1 + 1, 1, none⟩) (by show W.heap.size + 1 + 1 < W1.heap.size; omega)).trans (f0 1)⟩)
  have HRow := hide (fun w' => (isRow_any w' so2 sn2 sc2 co2 cn2 cc2).mono (fun e w'' h => (⟨h.1, by rw [h.2]; exact ((Below.refl _ _).alloc (Nat.le_refl _) _).alloc (by simp) _⟩ : e = .returned (.bool ((sn2 : Int) == 1)) ∧ Below w'.heap.size w' w'')))
  have HSize := hide (fun w' => (size_any w' so2 sn2 sc2 co2 cn2 cc2).mono (fun e w'' h => (⟨h.1, by rw [h.2]; exact (Below.refl _ _).alloc (Nat.le_refl _) _⟩ : e = .returned (.int .i64 cn2) ∧ Below w'.heap.size w' w'')))
  have HHas : Hid (∀ w', Below W1.heap.size W1 w' → ∀ pb, pb < w'.heap.size → w'.cell? ⟨pb, 0, none⟩ = some (.int .i64 cn2) → Calls Tryz.prog 251 #[.agg #[.slice so sn sc, .slice co cn cc], .func (.func 261) #[] #[.pointer (some ⟨pb, 0, none⟩)]] w' fun e w'' => e = .returned (.bool (a.cells.any (outB cn2))) ∧ Below w'.heap.size w' w'') := hide (fun w' hb pb hpb hc => (has_any P w' w' (Below.refl _ _) 261 _ (outB cn2) (out_pred pb cn2 hpb hc) so sn sc co cn cc a.cells ((ha2.below hbW).below hb) hoa.few).mono (fun e w'' h => ⟨h.1, by rw [h.2]; exact (Below.refl _ _).alloc (Nat.le_refl _) _⟩))
  have HEach : Hid ((∀ c ∈ a.cells, 0 ≤ c ∧ c < b.cells.length) → ∀ w', Below W1.heap.size W1 w' → Calls Tryz.prog 227 #[.agg #[.slice so sn sc, .slice co cn cc], .func (.func 262) #[] #[.pointer (some ⟨W.heap.size + 1, 0, none⟩)]] w' fun e w'' => ∃ c1 c2 c3, e = .returned (.agg #[.slice so sn sc, .slice c1 c2 c3]) ∧ IsArr (fun b => P b ∧ b ≠ W.heap.size + 1 + 1) w'' (.agg #[.slice so sn sc, .slice c1 c2 c3]) ⟨a.shape, a.cells.map (atF b.cells)⟩ ∧ Below w'.heap.size w' w'') := hide (fun hall w' hb => each_cap (atF b.cells) 262 (W.heap.size + 1) (fun b => P b ∧ b ≠ W.heap.size + 1 + 1) w' _ (at_cell (W.heap.size + 1) (by have := hb.size; omega) co2 cn2 cc2 b.cells ((unhide HF w' hb).1.2.2.2.1) ((hb2.below hbW).below hb)) (fun b h' => ⟨hP b (by have := hb.size; omega), by have := hb.size; omega⟩) so sn sc co cn cc a (((ha.imp (fun b hp hl => ⟨hp, by omega⟩)).below hbW).below hb) hoa hall)
  have HBW := hide hbW
  obtain ⟨r, hr⟩ : ∃ r, atP a b = r := ⟨_, rfl⟩
  simp only [hr]
  have HR := hide hr
  have HC2 := hide hcn2
  have HS2 := hide hsn2
  obtain ⟨⟨b0', b1', k0', k1', r0', r1'⟩, q0, q1⟩ := unhide HF W1 (Below.refl _ _)
  clear hP hoa hob ha ha1 ha2 hb1 hb2 hr k0 k1 b0 b1 r0 r1 hbW f0 hcn2 hsn2
  go_enter Tryz.func206, Tryz.ntmps206
  go_wp2_with fail
  try rw [hW1]
  clear hW1
  clear b0' b1' k0' k1' r0' r1' q0 q1
  refine (unhide HRow _).mono ?_
  rintro e w2 ⟨rfl, hb2⟩
  obtain ⟨⟨x0, x1, x2, x3, x4, x5⟩, y0, y1⟩ := unhide HF w2 hb2
  have HB2 := hide hb2
  have hz2 := hb2.size
  have n1 : W.heap.size < w2.heap.size := by omega
  have n2 : W.heap.size + 1 < w2.heap.size := by omega
  have n3 : W.heap.size + 1 + 1 < w2.heap.size := by omega
  clear hb2
  by_cases hrow : sn2 = 1
  · have hrow' : ((sn2 : Int) == 1) = true := by rw [hrow]; rfl
    have HROW := hide hrow
    clear hrow
    go_wp2_with fail
    refine (unhide HSize _).mono ?_
    rintro e w3 ⟨rfl, hb3⟩
    have hb3' := (unhide HB2).trans (hb3.mono (unhide HB2).size)
    have hb4 := hb3'.alloc hb3'.size (.cells #[.int .i64 cn2] 2)
    obtain ⟨w4, hw4⟩ : ∃ w4, w3.alloc (.cells #[.int .i64 cn2] 2) = w4 := ⟨_, rfl⟩
    rw [hw4] at hb4
    have hz4 : w4.heap.size = w3.heap.size + 1 := by rw [← hw4]; simp
    have hpc : w4.cell? ⟨w3.heap.size, 0, none⟩ = some (.int .i64 cn2) := by rw [← hw4]; exact (World.cell?_alloc_at _ _ _ _ rfl).trans rfl
    obtain ⟨⟨s0, s1, s2, s3, s4, s5⟩, t0, t1⟩ := unhide HF w4 hb4
    have HH := hide (unhide HHas w4 hb4 w3.heap.size (by omega) hpc)
    have HB4 := hide hb4
    have hz5 := hb4.size
    have m1 : W.heap.size < w4.heap.size := by omega
    have m2 : W.heap.size + 1 < w4.heap.size := by omega
    have m3 : W.heap.size + 1 + 1 < w4.heap.size := by omega
    clear x0 x1 x2 x3 x4 x5 y0 y1 hb3 hb3' hb4 hpc n1 n2 n3
    go_wp2_with fail
    try rw [hw4]
    clear hw4
    refine (unhide HH).mono ?_
    rintro e w5 ⟨rfl, hb5⟩
    have hb5' := (unhide HB4).trans (hb5.mono (unhide HB4).size)
    obtain ⟨⟨x0, x1, x2, x3, x4, x5⟩, y0, y1⟩ := unhide HF w5 hb5'
    have HB5 := hide hb5'
    have hz6 := hb5.size
    have n1 : W.heap.size < w5.heap.size := by omega
    have n2 : W.heap.size + 1 < w5.heap.size := by omega
    have n3 : W.heap.size + 1 + 1 < w5.heap.size := by omega
    have HBz : Hid (Below W.heap.size W w5) := hide ((unhide HBW).trans ((unhide HB5).mono (unhide HBW).size))
    clear s0 s1 s2 s3 s4 s5 t0 t1 hb5 hb5' m1 m2 m3
    cases hany : a.cells.any (outB cn2)
    · have hall : ∀ c ∈ a.cells, 0 ≤ c ∧ c < b.cells.length := by
        intro c hc
        have := List.any_eq_false.1 hany c hc
        rw [← unhide HC2]
        simp [outB] at this
        omega
      have hr' : r = (⟨a.shape, a.cells.map (atF b.cells)⟩, 0) := by
        rw [← unhide HR]
        unfold atP
        rw [if_neg (by rw [← unhide HS2, unhide HROW]; decide), if_neg (by rw [← unhide HC2, hany]; decide)]
      have HE := hide (unhide HEach hall w5 (unhide HB5))
      obtain ⟨q, hq⟩ : ∃ q : Arr, (⟨a.shape, a.cells.map (atF b.cells)⟩ : Arr) = q := ⟨_, rfl⟩
      rw [hq] at hr'
      simp only [hq] at HE
      subst hr'
      clear hall hany hq
      go_wp2_with fail
      refine (unhide HE).mono ?_
      rintro e w6 ⟨c1, c2, c3, rfl, hA, hb6⟩
      have HA := hide hA
      have d0 := (hb6.cell (p := ⟨W.heap.size + 1 + 1, 0, none⟩) n3).trans x4
      have d1 := (hb6.cell (p := ⟨W.heap.size + 1 + 1, 1, none⟩) n3).trans x5
      have g0 := (hb6.frozen (p := ⟨W.heap.size + 1 + 1, 0, none⟩) n3).trans y0
      have g1 := (hb6.frozen (p := ⟨W.heap.size + 1 + 1, 1, none⟩) n3).trans y1
      have hz7 := hb6.size
      have n4 : W.heap.size + 1 + 1 < w6.heap.size := by omega
      have HB6 : Hid (Below W.heap.size W w6) := hide ((unhide HBz).trans (hb6.mono (unhide HBz).size))
      clear x0 x1 x2 x3 x4 x5 y0 y1 hA hb6
      go_wp2_with fail
      refine bodyPost_ret (v := .tuple #[.agg #[.slice so sn sc, .slice c1 c2 c3], .int .i64 0]) (by simp [results, Tryz.results206, go_sem, d0, d1]) rfl ⟨_, _, _, _, _, _, rfl, ?_, ?_⟩
      · exact (((unhide HA).set (fun h => h.2 rfl) 0 _).set (fun h => h.2 rfl) 1 _).imp (fun b h _ => h.1)
      · exact ((unhide HB6).setCell (p := ⟨W.heap.size + 1 + 1, 0, none⟩) (by show W.heap.size ≤ W.heap.size + 1 + 1; omega) _).setCell (p := ⟨W.heap.size + 1 + 1, 1, none⟩) (by show W.heap.size ≤ W.heap.size + 1 + 1; omega) _
    · have hr' : r = (eArr, 8) := by
        rw [← unhide HR]
        unfold atP
        rw [if_neg (by rw [← unhide HS2, unhide HROW]; decide), if_pos (by rw [← unhide HC2, hany])]
      subst hr'
      clear hany
      go_wp2_with fail
      refine bodyPost_ret (v := .tuple #[.agg #[.slice none 0 0, .slice none 0 0], .int .i64 8]) (by simp [results, Tryz.results206, go_sem, x4, x5]) rfl ⟨_, _, _, _, _, _, rfl, e_arr _ _, ?_⟩
      exact ((unhide HBz).setCell (p := ⟨W.heap.size + 1 + 1, 0, none⟩) (by show W.heap.size ≤ W.heap.size + 1 + 1; omega) _).setCell (p := ⟨W.heap.size + 1 + 1, 1, none⟩) (by show W.heap.size ≤ W.heap.size + 1 + 1; omega) _
  · have hrow' : ((sn2 : Int) == 1) = false := by
      rw [beq_eq_false_iff_ne]
      omega
    have hr' : r = (eArr, 5) := by
      rw [← unhide HR]
      unfold atP
      rw [if_pos (by rw [← unhide HS2]; exact hrow)]
    subst hr'
    clear hrow
    have HBz : Hid (Below W.heap.size W w2) := hide ((unhide HBW).trans ((unhide HB2).mono (unhide HBW).size))
    go_wp2_with fail
    refine bodyPost_ret (v := .tuple #[.agg #[.slice none 0 0, .slice none 0 0], .int .i64 5]) (by simp [results, Tryz.results206, go_sem, x4, x5]) rfl ⟨_, _, _, _, _, _, rfl, e_arr _ _, ?_⟩
    exact ((unhide HBz).setCell (p := ⟨W.heap.size + 1 + 1, 0, none⟩) (by show W.heap.size ≤ W.heap.size + 1 + 1; omega) _).setCell (p := ⟨W.heap.size + 1 + 1, 1, none⟩) (by show W.heap.size ≤ W.heap.size + 1 + 1; omega) _
theorem at_two : TwoC ⟨#[97, 116]⟩ atP := ⟨fun w => (find_two (t := ⟨#[97, 116]⟩) (k1 := .string [116]) (k2 := .string [97, 116]) (f := 206) (by decide) (by kernel_rfl) (by kernel_rfl) (by kernel_rfl) (by kernel_rfl) (by kernel_rfl) w).mono (by rintro e w' ⟨rfl, hb⟩; exact ⟨206, #[], rfl, Tryz.enters206, hb, at_fn w'⟩), fun a b ha hb => by
  unfold atP
  split
  · exact ⟨by simp [eArr], fun h => absurd h (by decide)⟩
  · split
    · exact ⟨by simp [eArr], fun h => absurd h (by decide)⟩
    · refine ⟨by simpa using ha.few, fun _ => ⟨ha.rank, ha.lens, by simpa using ha.size, by simpa using ha.few, ?_⟩⟩
      intro c hc
      obtain ⟨x, _, rfl⟩ := List.mem_map.1 hc
      unfold atF
      by_cases hx : x.toNat < b.cells.length
      · rw [List.getD_eq_getElem?_getD, List.getElem?_eq_getElem hx]
        exact hb.fits _ (List.getElem_mem hx)
      · rw [List.getD_eq_getElem?_getD, List.getElem?_eq_none (by omega)]
        simp [fit64]⟩
end Go.Proofs.YtjobgpahajhbnaaGreatDoor
namespace Go.Proofs.YtjobgpahajhbnaaGreatDoor
open Go.RowKit Go.Proofs Go.Maps
attribute [local go_sem ↓] Go.wp_at_zero Go.wp_at_succ

theorem Tryz.enters207 : Enters Tryz.prog 207 := Go.Proofs.enters_of Tryz.func207 (by decide) rfl
theorem Tryz.enters252 : Enters Tryz.prog 252 := Go.Proofs.enters_of Tryz.func252 (by decide) rfl
def keepL : List Int → List Int → List Int → Option (List Int)
  | t :: ts, b :: bs, acc => if 64 - (acc.length : Int) < t then none else keepL ts bs (acc ++ List.replicate t.toNat b)
  | _, _, acc => some acc
def keepR (ts bs : List Int) : Arr × Int := match keepL ts bs [] with
  | none => (eArr, 9)
  | some cs => (⟨[cs.length], cs⟩, 0)
def negB (x : Int) : Bool := decide (x < 0)
def keepP (a b : Arr) : Arr × Int := if b.shape.length ≠ 1 ∨ 1 < a.shape.length then (eArr, 5) else if a.shape.length = 1 ∧ a.cells.length ≠ b.cells.length then (eArr, 6) else if a.cells.any negB = true then (eArr, 7) else keepR (if a.shape.length = 0 then List.replicate b.cells.length (a.cells.headD 0) else a.cells) b.cells
set_option maxHeartbeats 400000 in
theorem neg_pred (W0 : World) : PredC 252 #[] W0 negB where
  enters := Tryz.enters252
  call := by
    intro x w _
    unfold negB
    go_enter Tryz.func252, Tryz.ntmps252
    go_wp2
    exact bodyPost_ret (v := .bool (decide (x < 0))) (by simp [results, Tryz.results252, go_sem]) rfl ⟨rfl, rfl⟩
theorem keepL_drop {ts bs L : List Int} {k : Nat} (h : k < ts.length) (h2 : k < bs.length) : keepL (ts.drop k) (bs.drop k) L = if 64 - (L.length : Int) < ts[k] then none else keepL (ts.drop (k + 1)) (bs.drop (k + 1)) (L ++ List.replicate ts[k].toNat bs[k]) := by
  rw [List.drop_eq_getElem_cons h, List.drop_eq_getElem_cons h2]
  rfl
theorem keepL_end {ts bs L : List Int} {k : Nat} (h : ts.length ≤ k) : keepL (ts.drop k) (bs.drop k) L = some L := by
  rw [List.drop_of_length_le h]
  rfl
theorem reps_src {P : Nat → Prop} {w : World} {g n : Nat} {x : Int} (h : Nums P w (.slice (some ⟨g, 0, none⟩) n n) (List.replicate n x)) : ∀ j u, (List.replicate n (Value.int .i64 x))[j]? = some u → w.cell? ((⟨g, 0, none⟩ : Addr).add j) = some u := by
  intro j u hu
  rw [List.getElem?_replicate] at hu
  split at hu
  · rename_i hj
    obtain ⟨ao, cap, hv, _, hc, _⟩ := h
    obtain ⟨b, off, ha, _, _, hcell⟩ := hc (by simp; omega)
    injection hv with e1 e2 e3
    rw [ha] at e1
    injection e1 with e1
    injection e1 with e4 e5
    subst e4
    subst e5
    have hx := hcell j (by simpa using hj)
    have e : (⟨g, 0, none⟩ : Addr).add j = ⟨g, 0 + j, none⟩ := by cases j <;> simp [Addr.add]
    rw [e, hx, ← Option.some.inj hu]
    simp
  · cases hu
theorem reps_one {n : Nat} {x : Int} : ∀ u ∈ List.replicate n (Value.int .i64 x), u.oneCell' = true := by
  intro u hu
  rw [(List.mem_replicate.1 hu).2]
  rfl
structure TailF (W wr : World) (P : Nat → Prop) (co2 : Option Addr) (cn2 cc2 : Nat) (co' : Option Addr) (cn' cc' : Nat) (ts bs : List Int) : Prop where
  below : Below W.heap.size W wr
  lt : W.heap.size + 1 + 1 < wr.heap.size
  a1 : wr.cell? ⟨W.heap.size, 1, none⟩ = some (.slice co' cn' cc')
  b1 : wr.cell? ⟨W.heap.size + 1, 1, none⟩ = some (.slice co2 cn2 cc2)
  r0 : wr.cell? ⟨W.heap.size + 1 + 1, 0, none⟩ = some (.slice none 0 0)
  r1 : wr.cell? ⟨W.heap.size + 1 + 1, 1, none⟩ = some (.slice none 0 0)
  q0 : wr.frozen? ⟨W.heap.size + 1 + 1, 0, none⟩ = false
  q1 : wr.frozen? ⟨W.heap.size + 1 + 1, 1, none⟩ = false
  nums : ∃ Q, Nums Q wr (.slice co' cn' cc') ts
  len : ts.length = bs.length
  pos : ∀ t ∈ ts, 0 ≤ t
theorem tail_set {W w7 : World} {P : Nat → Prop} {co2 : Option Addr} {cn2 cc2 : Nat} {co' : Option Addr} {cn' cc' : Nat} {ts bs : List Int} (v0 : Value) {u1 : Value} (hb : Below W.heap.size W w7) (lt : W.heap.size + 1 + 1 < w7.heap.size) (a1 : w7.cell? ⟨W.heap.size, 1, none⟩ = some u1)
    (b1 : w7.cell? ⟨W.heap.size + 1, 1, none⟩ = some (.slice co2 cn2 cc2)) (r0 : w7.cell? ⟨W.heap.size + 1 + 1, 0, none⟩ = some (.slice none 0 0)) (r1 : w7.cell? ⟨W.heap.size + 1 + 1, 1, none⟩ = some (.slice none 0 0)) (q0 : w7.frozen? ⟨W.heap.size + 1 + 1, 0, none⟩ = false) (q1 : w7.frozen? ⟨W.heap.size + 1 + 1, 1, none⟩ = false)
    (hn : Nums (fun b => P b ∧ b ≠ W.heap.size) w7 (.slice co' cn' cc') ts) (hl : ts.length = bs.length) (hp : ∀ t ∈ ts, 0 ≤ t) : TailF W ((w7.setCell ⟨W.heap.size, 0, none⟩ v0).setCell ⟨W.heap.size, 1, none⟩ (.slice co' cn' cc')) P co2 cn2 cc2 co' cn' cc' ts bs := by
  have hbl : ∀ b, b ≠ W.heap.size → ((w7.setCell ⟨W.heap.size, 0, none⟩ v0).setCell ⟨W.heap.size, 1, none⟩ (.slice co' cn' cc')).heap[b]? = w7.heap[b]? := fun b hne => (RowKit.Below.heap_setCell _ _ _ _ (fun e => hne e)).trans (RowKit.Below.heap_setCell _ _ _ _ (fun e => hne e))
  refine ⟨(hb.setCell (p := ⟨W.heap.size, 0, none⟩) (Nat.le_refl _) _).setCell (p := ⟨W.heap.size, 1, none⟩) (Nat.le_refl _) _, by simpa using lt, ?_, ?_, ?_, ?_, ?_, ?_, ⟨_, (hn.set (fun h => h.2 rfl) 0 _).set (fun h => h.2 rfl) 1 _⟩, hl, hp⟩
  · exact World.cell?_setCell_same _ _ _ (u := u1) ((World.cell?_setCell_other _ _ _ _ (by simp)).trans a1)
  · rw [World.cell?_of_block (a := ⟨W.heap.size + 1, 1, none⟩) (hbl _ (by show W.heap.size + 1 ≠ W.heap.size; omega))]; exact b1
  · rw [World.cell?_of_block (a := ⟨W.heap.size + 1 + 1, 0, none⟩) (hbl _ (by show W.heap.size + 1 + 1 ≠ W.heap.size; omega))]; exact r0
  · rw [World.cell?_of_block (a := ⟨W.heap.size + 1 + 1, 1, none⟩) (hbl _ (by show W.heap.size + 1 + 1 ≠ W.heap.size; omega))]; exact r1
  · rw [World.frozen?_of_block (a := ⟨W.heap.size + 1 + 1, 0, none⟩) (hbl _ (by show W.heap.size + 1 + 1 ≠ W.heap.size; omega))]; exact q0
  · rw [World.frozen?_of_block (a := ⟨W.heap.size + 1 + 1, 1, none⟩) (hbl _ (by show W.heap.size + 1 + 1 ≠ W.heap.size; omega))]; exact q1
theorem isArr_cells {P : Nat → Prop} {w : World} {so : Option Addr} {sn sc : Nat} {co : Option Addr} {cn cc : Nat} {a : Arr} (h : IsArr P w (.agg #[.slice so sn sc, .slice co cn cc]) a) : Nums P w (.slice co cn cc) a.cells := by
  obtain ⟨so', sn', sc', co', cn', cc', hv, _, h2⟩ := h
  injection hv with hv
  simp at hv
  obtain ⟨_, rfl, rfl, rfl⟩ := hv
  exact h2
theorem negs {xs : List Int} (h : xs.any negB = false) : ∀ t ∈ xs, 0 ≤ t := by
  intro t ht
  have := List.any_eq_false.1 h t ht
  simp [negB] at this
  exact this
theorem Nums.at {P : Nat → Prop} {w : World} {co : Option Addr} {cn cc : Nat} {xs : List Int} (h : Nums P w (.slice co cn cc) xs) {k : Nat} (hk : k < xs.length) : ∃ b off, co = some ⟨b, off, none⟩ ∧ b < w.heap.size ∧ w.cell? ⟨b, off + k, none⟩ = some (.int .i64 xs[k]) ∧ xs.length ≤ cc := by
  obtain ⟨ao, cap, hv, hcap, h1, _⟩ := h
  injection hv with e1 e2 e3
  obtain ⟨b, off, ha, _, hlt, hc⟩ := h1 (by omega)
  subst e3
  exact ⟨b, off, e1.trans ha, hlt, hc k hk, hcap⟩
set_option maxHeartbeats 2000000 in
set_option maxRecDepth 20000 in
theorem keep_fn (w : World) : FnTwo 207 #[] w keepP := by
  intro W P u v a b _ hP ha hb hoa hob
  obtain ⟨so, sn, sc, co, cn, cc, rfl, ha1, ha2⟩ := ha
  obtain ⟨so2, sn2, sc2, co2, cn2, cc2, rfl, hb1, hb2⟩ := hb
  have hcn2 := nums_len hb2
  have hsn2 := nums_len hb1
  have hcn := nums_len ha2
  have hsn := nums_len ha1
  simp at hsn2 hsn
  obtain ⟨i0, hi, hz0, hz1, hz2⟩ := info_parts Tryz.info2
  have HI := hide hi
  have HZ0 := hide hz0
  have HZ1 := hide hz1
  have HZ2 := hide hz2
  have HP : Hid (∀ b, W.heap.size ≤ b → P b) := hP
  have HB : Hid (∀ wr, Below W.heap.size W wr → Nums P wr (.slice co2 cn2 cc2) b.cells) := hide (fun wr h => hb2.below h)
  have HBA : Hid (IsArr P W (.agg #[.slice so2 sn2 sc2, .slice co2 cn2 cc2]) b) := hide ⟨_, _, _, _, _, _, rfl, hb1, hb2⟩
  have HA : Hid (∀ wr, Below W.heap.size W wr → Nums P wr (.slice co cn cc) a.cells) := hide (fun wr h => ha2.below h)
  have HAok := hide hoa
  obtain ⟨bs, hbs⟩ : ∃ bs, b.cells = bs := ⟨_, rfl⟩
  have hfew := hob.few
  rw [hbs] at HB hcn2 hfew
  have HBS := hide hbs
  have HC2 := hide hcn2
  have HC := hide hcn
  have HS2 := hide hsn2
  have HS := hide hsn
  have hN : cn2 ≤ 200 := by omega
  obtain ⟨r, hr⟩ : ∃ r, keepP a b = r := ⟨_, rfl⟩
  simp only [hr]
  have HR := hide hr
  obtain ⟨W1, hW1⟩ : ∃ W1, ((W.alloc (.cells #[.slice so sn sc, .slice co cn cc] 89)).alloc (.cells #[.slice so2 sn2 sc2, .slice co2 cn2 cc2] 89)).alloc (.cells #[.slice none 0 0, .slice none 0 0] 89) = W1 := ⟨_, rfl⟩
  have hbW : Below W.heap.size W W1 := by rw [← hW1]; exact (((Below.refl _ _).alloc (Nat.le_refl _) _).alloc (by simp) _).alloc (by simp; omega) _
  have hs1 : W1.heap.size = W.heap.size + 1 + 1 + 1 := by rw [← hW1]; simp
  have k0 : W1.cell? ⟨W.heap.size + 1, 0, none⟩ = some (.slice so2 sn2 sc2) := by
    rw [← hW1, World.cell?_of_block (a := ⟨W.heap.size + 1, 0, none⟩) (RowKit.Below.heap_alloc _ _ _ (by simp))]
    exact (World.cell?_alloc_at _ _ _ _ (by simp)).trans rfl
  have k1 : W1.cell? ⟨W.heap.size + 1, 1, none⟩ = some (.slice co2 cn2 cc2) := by
    rw [← hW1, World.cell?_of_block (a := ⟨W.heap.size + 1, 1, none⟩) (RowKit.Below.heap_alloc _ _ _ (by simp))]
    exact (World.cell?_alloc_at _ _ _ _ (by simp)).trans rfl
  have b0 : W1.cell? ⟨W.heap.size, 0, none⟩ = some (.slice so sn sc) := by
    rw [← hW1, World.cell?_of_block (a := ⟨W.heap.size, 0, none⟩) (RowKit.Below.heap_alloc _ _ _ (by simp; omega)), World.cell?_of_block (a := ⟨W.heap.size, 0, none⟩) (RowKit.Below.heap_alloc _ _ _ (by simp))]
    exact (World.cell?_alloc_at _ _ _ _ rfl).trans rfl
  have b1 : W1.cell? ⟨W.heap.size, 1, none⟩ = some (.slice co cn cc) := by
    rw [← hW1, World.cell?_of_block (a := ⟨W.heap.size, 1, none⟩) (RowKit.Below.heap_alloc _ _ _ (by simp; omega)), World.cell?_of_block (a := ⟨W.heap.size, 1, none⟩) (RowKit.Below.heap_alloc _ _ _ (by simp))]
    exact (World.cell?_alloc_at _ _ _ _ rfl).trans rfl
  have r0 : W1.cell? ⟨W.heap.size + 1 + 1, 0, none⟩ = some (.slice none 0 0) := by rw [← hW1]; exact (World.cell?_alloc_at _ _ _ _ (by simp)).trans rfl
  have r1 : W1.cell? ⟨W.heap.size + 1 + 1, 1, none⟩ = some (.slice none 0 0) := by rw [← hW1]; exact (World.cell?_alloc_at _ _ _ _ (by simp)).trans rfl
  have f0 : ∀ b i, W.heap.size ≤ b → b < W1.heap.size → W1.frozen? ⟨b, i, none⟩ = false := fun b i h1 h2 => by
    rw [← hW1]
    by_cases e : b = W.heap.size + 1 + 1
    · subst e; exact World.frozen?_alloc_at _ _ _ _ (by simp)
    · by_cases e2 : b = W.heap.size + 1
      · subst e2
        rw [World.frozen?_of_block (a := ⟨W.heap.size + 1, i, none⟩) (RowKit.Below.heap_alloc _ _ _ (by simp))]
        exact World.frozen?_alloc_at _ _ _ _ (by simp)
      · have e3 : b = W.heap.size := by omega
        subst e3
        rw [World.frozen?_of_block (a := ⟨W.heap.size, i, none⟩) (RowKit.Below.heap_alloc _ _ _ (by simp; omega)), World.frozen?_of_block (a := ⟨W.heap.size, i, none⟩) (RowKit.Below.heap_alloc _ _ _ (by simp))]
        exact World.frozen?_alloc_at _ _ _ _ rfl
  have HFr : Hid (∀ w', Below W1.heap.size W1 w' → w'.frozen? ⟨W.heap.size, 0, none⟩ = false ∧ w'.frozen? ⟨W.heap.size, 1, none⟩ = false) := hide (fun w' hb => ⟨(hb.frozen (p := ⟨W.heap.size, 0, none⟩) (by show W.heap.size < W1.heap.size; omega)).trans (f0 _ 0 (by omega) (by omega)), (hb.frozen (p := ⟨W.heap.size, 1, none⟩) (by show W.heap.size < W1.heap.size; omega)).trans (f0 _ 1 (by omega) (by omega))⟩)
  have HF : Hid (∀ w', Below W1.heap.size W1 w' → (w'.cell? ⟨W.heap.size, 0, none⟩ = some (.slice so sn sc) ∧ w'.cell? ⟨W.heap.size, 1, none⟩ = some (.slice co cn cc) ∧ w'.cell? ⟨W.heap.size + 1, 0, none⟩ = some (.slice so2 sn2 sc2) ∧ w'.cell? ⟨W.heap.size + 1, 1, none⟩ = some (.slice co2 cn2 cc2) ∧ w'.cell? ⟨W.heap.size + 1 + 1, 0, none⟩ = some (.slice none 0 0) ∧ w'.cell? ⟨W.heap.size + 1 + 1, 1, none⟩ = some (.slice none 0 0)) ∧ w'.frozen? ⟨W.heap.size + 1 + 1, 0, none⟩ = false ∧ w'.frozen? ⟨W.heap.size + 1 + 1, 1, none⟩ = false) := hide (fun w' hb => ⟨⟨(hb.cell (p := ⟨W.heap.size, 0, none⟩) (by show W.heap.size < W1.heap.size; omega)).trans b0, (hb.cell (p := ⟨W.heap.size, 1, none⟩) (by show W.heap.size < W1.heap.size; omega)).trans b1, (hb.cell (p := ⟨W.heap.size + 1, 0, none⟩) (by show W.heap.size + 1 < W1.heap.size; omega)).trans k0, (hb.cell (p := ⟨W.heap.size + 1, 1, none⟩) (by show W.heap.size + 1 < W1.heap.size; omega)).trans k1, (hb.cell (p := ⟨W.heap.size + 1 + 1, 0, none⟩) (by show W.heap.size + 1 + 1 < W1.heap.size; omega)).trans r0, (hb.cell (p := ⟨W.heap.size + 1 + 1, 1, none⟩) (by show W.heap.size + 1 + 1 < W1.heap.size; omega)).trans r1⟩, (hb.frozen (p := ⟨W.heap.size + 1 + 1, 0, none⟩) (by show W.heap.size + 1 + 1 < W1.heap.size; omega)).trans (f0 _ 0 (by omega) (by omega)), (hb.frozen (p := ⟨W.heap.size + 1 + 1, 1, none⟩) (by show W.heap.size + 1 + 1 < W1.heap.size; omega)).trans (f0 _ 1 (by omega) (by omega))⟩)
  have HRow := hide (fun w' => (isRow_any w' so2 sn2 sc2 co2 cn2 cc2).mono (fun e w'' h => (⟨h.1, by rw [h.2]; exact ((Below.refl _ _).alloc (Nat.le_refl _) _).alloc (by simp) _⟩ : e = .returned (.bool ((sn2 : Int) == 1)) ∧ Below w'.heap.size w' w'')))
  have HRank := hide (fun w' => (rank_any w' so sn sc co cn cc).mono (fun e w'' h => (⟨h.1, by rw [h.2]; exact (Below.refl _ _).alloc (Nat.le_refl _) _⟩ : e = .returned (.int .i64 sn) ∧ Below w'.heap.size w' w'')))
  have HScal := hide (fun w' => (isScalar_any w' so sn sc co cn cc).mono (fun e w'' h => (⟨h.1, by rw [h.2]; exact ((Below.refl _ _).alloc (Nat.le_refl _) _).alloc (by simp) _⟩ : e = .returned (.bool ((sn : Int) == 0)) ∧ Below w'.heap.size w' w'')))
  have HHas : Hid (∀ w', Below W.heap.size W w' → Calls Tryz.prog 251 #[.agg #[.slice so sn sc, .slice co cn cc], .func (.func 252) #[] #[]] w' fun e w'' => e = .returned (.bool (a.cells.any negB)) ∧ Below w'.heap.size w' w'') := hide (fun w' hb => (has_any P w' w' (Below.refl _ _) 252 #[] negB (neg_pred w') so sn sc co cn cc a.cells (ha2.below hb) hoa.few).mono (fun e w'' h => ⟨h.1, by rw [h.2]; exact (Below.refl _ _).alloc (Nat.le_refl _) _⟩))
  have HFill : Hid (∀ w' x, Below W.heap.size W w' → W.heap.size + 1 + 1 < w'.heap.size → Calls Tryz.prog 263 #[.agg #[.slice so2 sn2 sc2, .slice co2 cn2 cc2], .int .i64 x] w' fun e w'' => ∃ co' cn' cc', e = .returned (.agg #[.slice so2 sn2 sc2, .slice co' cn' cc']) ∧ IsArr (fun b => P b ∧ b ≠ W.heap.size) w'' (.agg #[.slice so2 sn2 sc2, .slice co' cn' cc']) ⟨b.shape, List.replicate b.cells.length x⟩ ∧ Below w'.heap.size w' w'') := hide (fun w' x hb hlt => filled_any (fun b => P b ∧ b ≠ W.heap.size) w' (fun b h => ⟨hP b (by omega), by omega⟩) so2 sn2 sc2 co2 cn2 cc2 b (((unhide HBA).imp (fun b hp hl => ⟨hp, by omega⟩)).below hb) hob.few x)
  have HBW := hide hbW
  clear k0 k1 b0 b1 r0 r1 f0 hbW
  clear hi hz0 hz1 hz2 hP hr hb2 hb1 ha1 ha2 hoa hob hbs hcn2 hfew hcn hsn2 hsn
  obtain ⟨⟨b0', b1', k0', k1', r0', r1'⟩, q0', q1'⟩ := unhide HF W1 (Below.refl _ _)
  go_enter Tryz.func207, Tryz.ntmps207
  go_wp2_with fail
  clear b0' b1' k0' k1' r0' r1' q0' q1'
  rename_i Q' KT hKT K1 hK1 K0 hK0
  have TAIL : ∀ {x0 x1 x5 x6 x7 x8 x9 x10 x11 x12 x13 x14 x15 x16 x17 x18 x19 x20 x21 x22 x23 x24 x25 x26 x27 x28 x29 x30 x31 x32 x33 x34 x35 x36 x37 x38 x39 x40 x41 x42 x43 x44 x45 x46 x47 x48 x49 x50 x51 x52 x53 x54 x55 x56 x57 x58 x59 x60 x61 x62 x63 x64 x65 x66 x67 x68 x69 : Value} {wT : World} (co' : Option Addr) (cn' cc' : Nat) (ts : List Int), Hid (TailF W wT P co2 cn2 cc2 co' cn' cc' ts bs) → Hid (r = keepR ts bs) → KT ⟨#[x0, x1, .pointer (some ⟨W.heap.size, 0, none⟩), .pointer (some ⟨W.heap.size + 1, 0, none⟩), .pointer (some ⟨W.heap.size + 1 + 1, 0, none⟩), x5, x6, x7, x8, x9, x10, x11, x12, x13, x14, x15, x16, x17, x18, x19, x20, x21, x22, x23, x24, x25, x26, x27, x28, x29, x30, x31, x32, x33, x34, x35, x36, x37, x38, x39, x40, x41, x42, x43, x44, x45, x46, x47, x48, x49, x50, x51, x52, x53, x54, x55, x56, x57, x58, x59, x60, x61, x62, x63, x64, x65, x66, x67, x68, x69], []⟩ wT := by
    clear hK1 hK0
    intro x0 x1 x5 x6 x7 x8 x9 x10 x11 x12 x13 x14 x15 x16 x17 x18 x19 x20 x21 x22 x23 x24 x25 x26 x27 x28 x29 x30 x31 x32 x33 x34 x35 x36 x37 x38 x39 x40 x41 x42 x43 x44 x45 x46 x47 x48 x49 x50 x51 x52 x53 x54 x55 x56 x57 x58 x59 x60 x61 x62 x63 x64 x65 x66 x67 x68 x69 wT co' cn' cc' ts HT HRR
    refine hKT _ _ ?_
    clear hKT
    have c1 := (unhide HT).a1
    have hlt := (unhide HT).lt
    have hlt1 : W.heap.size < wT.heap.size := by omega
    have hlt2 : W.heap.size + 1 < wT.heap.size := by omega
    obtain ⟨Q, hn⟩ := (unhide HT).nums
    have hcn' : cn' = ts.length := nums_len hn
    have hcc : cn' = cn2 := by rw [hcn', (unhide HT).len, unhide HC2]
    have HCN := hide hcn'
    have HNT := hide hn
    have HCC := hide hcc
    have hN' : cn' ≤ 200 := by omega
    clear hn hcn' hcc
    go_wp2_with fail
    go_loopw [6, 46] (fun v6 v46 wr => ∃ (k : Nat) (L : List Int), v46 = .int .i64 k ∧ k ≤ cn' ∧ L.length ≤ 64 ∧ keepL (ts.drop k) (bs.drop k) L = keepL ts bs [] ∧ wr.ownsRow wT.heap.size 2 1 v6 L.length (L.map (Value.int .i64)) ∧ Below wT.heap.size wT wr) (fun _ v46 _ => cn' - (intOf v46).toNat)
    case atStart => exact ⟨0, [], rfl, Nat.zero_le _, by simp, rfl, World.ownsRow_nil _ _ _ _, Below.refl _ _⟩
    case round =>
      obtain ⟨k, L, rfl, hk, hL64, hL, hown, hbel⟩ := hrel
      have HL := hide hL
      have HOw := hide hown
      have HBe := hide hbel
      obtain ⟨vo, vc, rfl, hvle, -⟩ := own_slice (unhide HOw)
      have b1 := (hbel.cell (p := ⟨W.heap.size + 1, 1, none⟩) hlt2).trans (unhide HT).b1
      have r0 := (hbel.cell (p := ⟨W.heap.size + 1 + 1, 0, none⟩) hlt).trans (unhide HT).r0
      have r1 := (hbel.cell (p := ⟨W.heap.size + 1 + 1, 1, none⟩) hlt).trans (unhide HT).r1
      have q0 := (hbel.frozen (p := ⟨W.heap.size + 1 + 1, 0, none⟩) hlt).trans (unhide HT).q0
      have q1 := (hbel.frozen (p := ⟨W.heap.size + 1 + 1, 1, none⟩) hlt).trans (unhide HT).q1
      have hzb := hbel.size
      have m1 : W.heap.size + 1 < wT.heap.size := hlt2
      clear hL hown hbel
      by_cases hkn : k < cn'
      · have hkt : k < ts.length := by rw [← unhide HCN]; exact hkn
        have hkb : k < bs.length := by rw [← (unhide HT).len]; exact hkt
        obtain ⟨tb, tf, rfl, htb, htc, -⟩ := (unhide HNT).at hkt
        obtain ⟨bb, bf, hbe, hbb, hbc, hbcc⟩ := (unhide HB wT (unhide HT).below).at hkb
        have ct := ((unhide HBe).cell (p := ⟨tb, tf + k, none⟩) htb).trans htc
        have cb := ((unhide HBe).cell (p := ⟨bb, bf + k, none⟩) hbb).trans hbc
        have hstep := keepL_drop (L := L) hkt hkb
        have ht0 := (unhide HT).pos _ (List.getElem_mem hkt)
        obtain ⟨t, ht⟩ : ∃ t, ts[k] = t := ⟨_, rfl⟩
        obtain ⟨y, hy⟩ : ∃ y, bs[k] = y := ⟨_, rfl⟩
        rw [ht] at ct hstep ht0
        rw [hy] at cb hstep
        have hk1 : (k : Int) < (cn' : Int) := by omega
        have hk0 : (0 : Int) ≤ (k : Int) := by omega
        have hk2 : k < cn2 := by rw [unhide HC2]; exact hkb
        have hcc2 : cn2 ≤ cc2 := by rw [unhide HC2]; exact hbcc
        subst hbe
        have hw64 : IntKind.i64.wrap (64 - (L.length : Int)) = 64 - (L.length : Int) := wrap_pos (by omega) (by omega)
        have hbq : bb < wr.heap.size := by omega
        clear htc hbc ht hy hbcc htb hbb
        by_cases hbig : 64 - (L.length : Int) < t
        · rw [if_pos hbig] at hstep
          have hr' : r = (eArr, 9) := by
            rw [unhide HRR]
            unfold keepR
            rw [← unhide HL, hstep]
          clear hstep
          subst hr'
          have HBz : Hid (Below W.heap.size W wr) := hide ((unhide HT).below.trans ((unhide HBe).mono (unhide HT).below.size))
          go_wp2_with fail
          refine bodyPost_ret (v := .tuple #[.agg #[.slice none 0 0, .slice none 0 0], .int .i64 9]) (by simp [results, Tryz.results207, go_sem, r0, r1]) rfl ⟨_, _, _, _, _, _, rfl, e_arr _ _, ?_⟩
          exact ((unhide HBz).setCell (p := ⟨W.heap.size + 1 + 1, 0, none⟩) (by show W.heap.size ≤ W.heap.size + 1 + 1; omega) _).setCell (p := ⟨W.heap.size + 1 + 1, 1, none⟩) (by show W.heap.size ≤ W.heap.size + 1 + 1; omega) _
        · rw [if_neg hbig] at hstep
          obtain ⟨n, rfl⟩ : ∃ n : Nat, t = n := ⟨t.toNat, by omega⟩
          have hn64 : L.length + n ≤ 64 := by omega
          have HST := hide hstep
          have HRep := hide (repeat_any (fun _ => True) wr (fun _ _ => trivial) bb (bf + k) (cc2 - k) y n (by omega) cb hbq)
          have hbig' : ¬ (64 - (L.length : Int) < (n : Int)) := hbig
          have hkk : ((k : Int) + 1 ≤ (cc2 : Int)) := by omega
          clear hstep ht0
          go_wp2_with fail
          refine (unhide HRep).mono ?_
          rintro e w2 ⟨g, rfl, hn2, hb2⟩
          have HN2 := hide hn2
          have HB2 : Hid (Below wT.heap.size wT w2) := hide ((unhide HBe).trans (hb2.mono (unhide HBe).size))
          have HO2 := hide (owns_below (unhide HOw) hb2)
          have hz2 := hb2.size
          clear hn2 hb2
          go_wp2_with (at_builtin; refine wpList_append_own _ rfl _ _ 32 rfl wT.heap.size 2 i0 (.int .i64 0) 1 8 Tryz.underlying32 (unhide HI) (unhide HZ0) (unhide HZ1) (unhide HZ2) rfl (by decide) _ _ _ rfl (unhide HO2) ⟨g, 0, none⟩ n n (List.replicate n (.int .i64 y)) rfl (by simp) (reps_src (unhide HN2)) reps_one ?c3 ?c4 ?c5 ?_)
          case c3 => unfold maxLen; omega
          case c4 => omega
          case c5 => omega
          intro v' w4 hown4 hgrow4 _
          have HB4 : Hid (Below wT.heap.size wT w4) := hide ((unhide HB2).grown hgrow4 (by omega) (fun q hq => ((unhide HO2).lt q hq).1))
          have HO4 : Hid (w4.ownsRow wT.heap.size 2 1 v' (L ++ List.replicate n y).length ((L ++ List.replicate n y).map (Value.int .i64))) := hide (by
            rw [List.map_append, List.map_replicate, List.length_append, List.length_replicate]
            exact hown4)
          clear hown4 hgrow4
          go_wp2_with fail
          go_roundw
          case rel => exact ⟨k + 1, L ++ List.replicate n y, by go_num, by omega, by simp; omega, by rw [← unhide HL]; exact (unhide HST).symm, unhide HO4, unhide HB4⟩
          case measure => simp [intOf]; omega
      · have hkN : k = cn' := by omega
        have hend := keepL_end (ts := ts) (bs := bs) (L := L) (k := k) (by rw [hkN, unhide HCN]; exact Nat.le_refl _)
        have hr' : r = (⟨[L.length], L⟩, 0) := by
          rw [unhide HRR]
          unfold keepR
          rw [← unhide HL, hend]
        subst hr'
        clear hend
        have HBz : Hid (Below W.heap.size W wr) := hide ((unhide HT).below.trans ((unhide HBe).mono (unhide HT).below.size))
        have HRow := hide (row_any (fun b => P b ∧ b ≠ W.heap.size + 1 + 1) wr (fun b h => ⟨unhide HP b (by omega), by omega⟩) _ L (nums_owns (unhide HOw) (fun b h => ⟨unhide HP b (by omega), by omega⟩)))
        go_wp2_with fail
        refine (unhide HRow).mono ?_
        rintro e w2 ⟨s1, s2, s3, c1', c2', c3', rfl, hA2, hb2⟩
        have HA2 := hide hA2
        have e0 := (hb2.cell (p := ⟨W.heap.size + 1 + 1, 0, none⟩) (by show W.heap.size + 1 + 1 < wr.heap.size; omega)).trans r0
        have e1 := (hb2.cell (p := ⟨W.heap.size + 1 + 1, 1, none⟩) (by show W.heap.size + 1 + 1 < wr.heap.size; omega)).trans r1
        have g0 := (hb2.frozen (p := ⟨W.heap.size + 1 + 1, 0, none⟩) (by show W.heap.size + 1 + 1 < wr.heap.size; omega)).trans q0
        have g1 := (hb2.frozen (p := ⟨W.heap.size + 1 + 1, 1, none⟩) (by show W.heap.size + 1 + 1 < wr.heap.size; omega)).trans q1
        have HB2 : Hid (Below W.heap.size W w2) := hide ((unhide HBz).trans (hb2.mono (unhide HBz).size))
        have hz2 := hb2.size
        have hw2 : W.heap.size + 1 + 1 < w2.heap.size := by omega
        clear hA2 hb2 r0 r1 q0 q1
        go_wp2_with fail
        refine bodyPost_ret (v := .tuple #[.agg #[.slice s1 s2 s3, .slice c1' c2' c3'], .int .i64 0]) (by simp [results, Tryz.results207, go_sem, e0, e1]) rfl ⟨_, _, _, _, _, _, rfl, ?_, ?_⟩
        · exact (((unhide HA2).set (fun h => h.2 rfl) 0 _).set (fun h => h.2 rfl) 1 _).imp (fun b h _ => h.1)
        · exact ((unhide HB2).setCell (p := ⟨W.heap.size + 1 + 1, 0, none⟩) (by show W.heap.size ≤ W.heap.size + 1 + 1; omega) _).setCell (p := ⟨W.heap.size + 1 + 1, 1, none⟩) (by show W.heap.size ≤ W.heap.size + 1 + 1; omega) _
  clear hKT
  (try rw [hW1])
  clear hW1
  refine (unhide HRow _).mono ?_
  rintro e w2 ⟨rfl, hb2⟩
  obtain ⟨⟨x0, x1, x2, x3, x4, x5⟩, y0, y1⟩ := unhide HF w2 hb2
  have HB2 := hide hb2
  have hz2 := hb2.size
  have n1 : W.heap.size < w2.heap.size := by omega
  have n2 : W.heap.size + 1 < w2.heap.size := by omega
  have n3 : W.heap.size + 1 + 1 < w2.heap.size := by omega
  clear hb2
  by_cases hrow : sn2 = 1
  · have hrow' : ((sn2 : Int) == 1) = true := by rw [hrow]; rfl
    have HROW := hide hrow
    clear hrow
    go_wp2_with fail
    refine (unhide HRank _).mono ?_
    rintro e w3 ⟨rfl, hb3⟩
    have hb3' := (unhide HB2).trans (hb3.mono (unhide HB2).size)
    obtain ⟨⟨s0, s1, s2, s3, s4, s5⟩, t0, t1⟩ := unhide HF w3 hb3'
    have HB3 := hide hb3'
    have hz3 := hb3'.size
    have m1 : W.heap.size < w3.heap.size := by omega
    have m2 : W.heap.size + 1 < w3.heap.size := by omega
    have m3 : W.heap.size + 1 + 1 < w3.heap.size := by omega
    have HBz : Hid (Below W.heap.size W w3) := hide ((unhide HBW).trans ((unhide HB3).mono (unhide HBW).size))
    clear x0 x1 x2 x3 x4 x5 y0 y1 hb3 hb3' n1 n2 n3
    by_cases hmany : 1 < sn
    · have hr' : r = (eArr, 5) := by
        rw [← unhide HR]
        unfold keepP
        rw [if_pos (Or.inr (by rw [← unhide HS]; exact hmany))]
      subst hr'
      have hm : (1 : Int) < (sn : Int) := by omega
      clear hmany
      go_wp2_with fail
      refine bodyPost_ret (v := .tuple #[.agg #[.slice none 0 0, .slice none 0 0], .int .i64 5]) (by simp [results, Tryz.results207, go_sem, s4, s5]) rfl ⟨_, _, _, _, _, _, rfl, e_arr _ _, ?_⟩
      exact ((unhide HBz).setCell (p := ⟨W.heap.size + 1 + 1, 0, none⟩) (by show W.heap.size ≤ W.heap.size + 1 + 1; omega) _).setCell (p := ⟨W.heap.size + 1 + 1, 1, none⟩) (by show W.heap.size ≤ W.heap.size + 1 + 1; omega) _
    · have hm : ¬ (1 : Int) < (sn : Int) := by omega
      by_cases hone : sn = 1
      · have hone' : ((sn : Int) == 1) = true := by rw [hone]; rfl
        have hone0 : ((sn : Int) == 0) = false := by rw [hone]; rfl
        have HONE := hide hone
        have g1 : W.heap.size < w3.heap.size + 1 := by omega
        have g2 : W.heap.size < w3.heap.size + 1 + 1 := by omega
        have g3 : W.heap.size < w3.heap.size + 1 + 1 + 1 := by omega
        have g4 : W.heap.size + 1 < w3.heap.size + 1 := by omega
        have g5 : W.heap.size + 1 < w3.heap.size + 1 + 1 := by omega
        have g6 : W.heap.size + 1 < w3.heap.size + 1 + 1 + 1 := by omega
        clear hmany hone
        go_wp2_with fail
        go_region_with (first | (go_at_call 255; refine (isRow_any _ _ _ _ _ _ _).mono ?_; rintro e w' ⟨rfl, rfl⟩) | (go_at_call 156; refine (size_any _ _ _ _ _ _ _).mono ?_; rintro e w' ⟨rfl, rfl⟩))
        all_goals
          clear g1 g2 g3 g4 g5 g6
          obtain ⟨w4, hw4⟩ : ∃ w4, ((((w3.alloc (.cells #[.slice so sn sc, .slice co cn cc] 89)).alloc (.cells #[.slice so sn sc, .slice co cn cc] 89)).alloc (.cells #[.slice so sn sc, .slice co cn cc] 89)).alloc (.cells #[.slice so2 sn2 sc2, .slice co2 cn2 cc2] 89)).drew = w4 := ⟨_, rfl⟩
          have hb4 : Below w3.heap.size w3 w4 := by rw [← hw4]; exact (((((Below.refl w3.heap.size w3).alloc (Nat.le_refl _) _).alloc (by simp) _).alloc (by simp; omega) _).alloc (by simp; omega) _).drew
          rw [hw4]
          clear hw4
          have hb4' := (unhide HB3).trans (hb4.mono (unhide HB3).size)
          obtain ⟨⟨x0, x1, x2, x3, x4, x5⟩, y0, y1⟩ := unhide HF w4 hb4'
          have HB4 := hide hb4'
          have hz4 := hb4'.size
          have n1 : W.heap.size < w4.heap.size := by omega
          have n2 : W.heap.size + 1 < w4.heap.size := by omega
          have n3 : W.heap.size + 1 + 1 < w4.heap.size := by omega
          have HBz4 : Hid (Below W.heap.size W w4) := hide ((unhide HBW).trans ((unhide HB4).mono (unhide HBW).size))
          have HH := hide (unhide HHas w4 (unhide HBz4))
          clear hb4 hb4' s0 s1 s2 s3 s4 s5 t0 t1 m1 m2 m3
          by_cases hcc : cn = cn2
          · have hcc' : ((cn : Int) != (cn2 : Int)) = false := by rw [hcc]; simp
            have HCC := hide hcc
            clear hcc
            go_wp2_with fail
            refine (unhide HH).mono ?_
            rintro e w5 ⟨rfl, hb5⟩
            have hb5' := (unhide HB4).trans (hb5.mono (unhide HB4).size)
            obtain ⟨⟨s0, s1, s2, s3, s4, s5⟩, t0, t1⟩ := unhide HF w5 hb5'
            have HB5 := hide hb5'
            have hz5 := hb5'.size
            have m1 : W.heap.size < w5.heap.size := by omega
            have m2 : W.heap.size + 1 < w5.heap.size := by omega
            have m3 : W.heap.size + 1 + 1 < w5.heap.size := by omega
            have HBz5 : Hid (Below W.heap.size W w5) := hide ((unhide HBW).trans ((unhide HB5).mono (unhide HBW).size))
            clear hb5 hb5' x0 x1 x2 x3 x4 x5 y0 y1 n1 n2 n3 HH
            cases hany : a.cells.any negB
            · have hr' : r = keepR a.cells bs := by
                rw [← unhide HR]
                unfold keepP
                rw [if_neg (by rw [← unhide HS2, unhide HROW, ← unhide HS, unhide HONE]; omega), if_neg (by rw [← unhide HC, unhide HCC, unhide HC2, unhide HBS]; simp), if_neg (by rw [hany]; decide), if_neg (by rw [← unhide HS, unhide HONE]; decide), unhide HBS]
              have HR' := hide hr'
              have HANY := hide hany
              clear hany hr'
              go_wp2_with fail
              refine (unhide HScal _).mono ?_
              rintro e w6 ⟨rfl, hb6⟩
              have hb6' := (unhide HB5).trans (hb6.mono (unhide HB5).size)
              obtain ⟨⟨x0, x1, x2, x3, x4, x5⟩, y0, y1⟩ := unhide HF w6 hb6'
              have hz6 := hb6'.size
              have HBz6 : Hid (Below W.heap.size W w6) := hide ((unhide HBW).trans (hb6'.mono (unhide HBW).size))
              have HTF : Hid (TailF W w6 P co2 cn2 cc2 co cn cc a.cells bs) := hide ⟨unhide HBz6, by omega, x1, x3, x4, x5, y0, y1, ⟨_, unhide HA w6 (unhide HBz6)⟩, by rw [← unhide HC, unhide HCC, unhide HC2], negs (unhide HANY)⟩
              clear hb6 hb6' s0 s1 s2 s3 s4 s5 t0 t1 m1 m2 m3
              go_wp2_with fail
              exact TAIL co cn cc a.cells HTF HR'
            · have hr' : r = (eArr, 7) := by
                rw [← unhide HR]
                unfold keepP
                rw [if_neg (by rw [← unhide HS2, unhide HROW, ← unhide HS, unhide HONE]; omega), if_neg (by rw [← unhide HC, unhide HCC, unhide HC2, unhide HBS]; simp), if_pos hany]
              subst hr'
              clear hany
              go_wp2_with fail
              refine bodyPost_ret (v := .tuple #[.agg #[.slice none 0 0, .slice none 0 0], .int .i64 7]) (by simp [results, Tryz.results207, go_sem, s4, s5]) rfl ⟨_, _, _, _, _, _, rfl, e_arr _ _, ?_⟩
              exact ((unhide HBz5).setCell (p := ⟨W.heap.size + 1 + 1, 0, none⟩) (by show W.heap.size ≤ W.heap.size + 1 + 1; omega) _).setCell (p := ⟨W.heap.size + 1 + 1, 1, none⟩) (by show W.heap.size ≤ W.heap.size + 1 + 1; omega) _
          · have hcc' : ((cn : Int) != (cn2 : Int)) = true := by simp; omega
            have hr' : r = (eArr, 6) := by
              rw [← unhide HR]
              unfold keepP
              rw [if_neg (by rw [← unhide HS2, unhide HROW, ← unhide HS, unhide HONE]; omega), if_pos ⟨by rw [← unhide HS, unhide HONE], by rw [← unhide HC, unhide HBS, ← unhide HC2]; exact hcc⟩]
            subst hr'
            clear hcc
            go_wp2_with fail
            refine bodyPost_ret (v := .tuple #[.agg #[.slice none 0 0, .slice none 0 0], .int .i64 6]) (by simp [results, Tryz.results207, go_sem, x4, x5]) rfl ⟨_, _, _, _, _, _, rfl, e_arr _ _, ?_⟩
            exact ((unhide HBz4).setCell (p := ⟨W.heap.size + 1 + 1, 0, none⟩) (by show W.heap.size ≤ W.heap.size + 1 + 1; omega) _).setCell (p := ⟨W.heap.size + 1 + 1, 1, none⟩) (by show W.heap.size ≤ W.heap.size + 1 + 1; omega) _
      · have h0 : sn = 0 := by omega
        subst h0
        clear hmany hone
        have hscal : a.shape.length = 0 := (unhide HS).symm
        go_wp2_with fail
        go_region_with (first | (go_at_call 255; refine (isRow_any _ _ _ _ _ _ _).mono ?_; rintro e w' ⟨rfl, rfl⟩) | (go_at_call 156; refine (size_any _ _ _ _ _ _ _).mono ?_; rintro e w' ⟨rfl, rfl⟩))
        all_goals
          obtain ⟨w4, hw4⟩ : ∃ w4, ((w3.alloc (.cells #[.slice so 0 sc, .slice co cn cc] 89)).alloc (.cells #[.slice so 0 sc, .slice co cn cc] 89)).drew = w4 := ⟨_, rfl⟩
          have hb4 : Below w3.heap.size w3 w4 := by rw [← hw4]; exact (((Below.refl w3.heap.size w3).alloc (Nat.le_refl _) _).alloc (by simp) _).drew
          rw [hw4]
          clear hw4
          have hb4' := (unhide HB3).trans (hb4.mono (unhide HB3).size)
          obtain ⟨⟨x0, x1, x2, x3, x4, x5⟩, y0, y1⟩ := unhide HF w4 hb4'
          have HB4 := hide hb4'
          have hz4 := hb4'.size
          have n1 : W.heap.size < w4.heap.size := by omega
          have n2 : W.heap.size + 1 < w4.heap.size := by omega
          have n3 : W.heap.size + 1 + 1 < w4.heap.size := by omega
          have HH := hide (unhide HHas w4 ((unhide HBW).trans ((unhide HB4).mono (unhide HBW).size)))
          clear hb4 hb4' s0 s1 s2 s3 s4 s5 t0 t1 m1 m2 m3
          go_wp2_with fail
          refine (unhide HH).mono ?_
          rintro e w5 ⟨rfl, hb5⟩
          have hb5' := (unhide HB4).trans (hb5.mono (unhide HB4).size)
          obtain ⟨⟨s0, s1, s2, s3, s4, s5⟩, t0, t1⟩ := unhide HF w5 hb5'
          have HB5 := hide hb5'
          have hz5 := hb5'.size
          have m1 : W.heap.size < w5.heap.size := by omega
          have m2 : W.heap.size + 1 < w5.heap.size := by omega
          have m3 : W.heap.size + 1 + 1 < w5.heap.size := by omega
          have HBz5 : Hid (Below W.heap.size W w5) := hide ((unhide HBW).trans ((unhide HB5).mono (unhide HBW).size))
          clear hb5 hb5' x0 x1 x2 x3 x4 x5 y0 y1 n1 n2 n3 HH
          cases hany : a.cells.any negB
          · have HANY := hide hany
            clear hany
            go_wp2_with fail
            refine (unhide HScal _).mono ?_
            rintro e w6 ⟨rfl, hb6⟩
            have hb6' := (unhide HB5).trans (hb6.mono (unhide HB5).size)
            obtain ⟨⟨x0, x1, x2, x3, x4, x5⟩, y0, y1⟩ := unhide HF w6 hb6'
            obtain ⟨y2, y3⟩ := unhide HFr w6 hb6'
            have HB6 := hide hb6'
            have hz6 := hb6'.size
            have n1 : W.heap.size < w6.heap.size := by omega
            have n2 : W.heap.size + 1 < w6.heap.size := by omega
            have n3 : W.heap.size + 1 + 1 < w6.heap.size := by omega
            have HBz6 : Hid (Below W.heap.size W w6) := hide ((unhide HBW).trans ((unhide HB6).mono (unhide HBW).size))
            obtain ⟨x, xb, xo, hx, rfl, rfl, -, hxl, hxc, hcc1⟩ := scalar_cell (unhide HA w6 (unhide HBz6)) (unhide HAok) (List.eq_nil_of_length_eq_zero hscal)
            have HX := hide hx
            have HFl := hide (unhide HFill w6.drew x (unhide HBz6).drew n3)
            have hcc0 : (0 : Int) < ((1 : Nat) : Int) := by decide
            clear hb6 hb6' s0 s1 s2 s3 s4 s5 t0 t1 m1 m2 m3 hx
            have hr' : r = keepR (List.replicate bs.length x) bs := by
              rw [← unhide HR]
              unfold keepP
              rw [if_neg (by rw [← unhide HS2, unhide HROW, hscal]; omega), if_neg (by rw [hscal]; omega), if_neg (by rw [unhide HANY]; decide), if_pos hscal, unhide HBS, unhide HX]
              rfl
            have HR' := hide hr'
            have hx0 : 0 ≤ x := negs (unhide HANY) x (by rw [unhide HX]; simp)
            rw [unhide HBS] at HFl
            clear hr'
            go_wp2_with fail
            have HF8 : Hid (∀ w7, Below w6.drew.heap.size w6.drew w7 → (w7.cell? ⟨W.heap.size, 0, none⟩ = some (.slice so 0 sc) ∧ w7.cell? ⟨W.heap.size, 1, none⟩ = some (.slice (some ⟨xb, xo, none⟩) 1 cc) ∧ w7.cell? ⟨W.heap.size + 1, 1, none⟩ = some (.slice co2 cn2 cc2) ∧ w7.cell? ⟨W.heap.size + 1 + 1, 0, none⟩ = some (.slice none 0 0) ∧ w7.cell? ⟨W.heap.size + 1 + 1, 1, none⟩ = some (.slice none 0 0)) ∧ (w7.frozen? ⟨W.heap.size, 0, none⟩ = false ∧ w7.frozen? ⟨W.heap.size, 1, none⟩ = false ∧ w7.frozen? ⟨W.heap.size + 1 + 1, 0, none⟩ = false ∧ w7.frozen? ⟨W.heap.size + 1 + 1, 1, none⟩ = false) ∧ Below W.heap.size W w7 ∧ W.heap.size < w7.heap.size ∧ W.heap.size + 1 + 1 < w7.heap.size) := hide (fun w7 hb => by
              have hd : Below w6.heap.size w6 w7 := (Below.refl w6.heap.size w6).drew.trans hb
              have := hd.size
              exact ⟨⟨(hd.cell (p := ⟨W.heap.size, 0, none⟩) n1).trans x0, (hd.cell (p := ⟨W.heap.size, 1, none⟩) n1).trans x1, (hd.cell (p := ⟨W.heap.size + 1, 1, none⟩) n2).trans x3, (hd.cell (p := ⟨W.heap.size + 1 + 1, 0, none⟩) n3).trans x4, (hd.cell (p := ⟨W.heap.size + 1 + 1, 1, none⟩) n3).trans x5⟩, ⟨(hd.frozen (p := ⟨W.heap.size, 0, none⟩) n1).trans y2, (hd.frozen (p := ⟨W.heap.size, 1, none⟩) n1).trans y3, (hd.frozen (p := ⟨W.heap.size + 1 + 1, 0, none⟩) n3).trans y0, (hd.frozen (p := ⟨W.heap.size + 1 + 1, 1, none⟩) n3).trans y1⟩, (unhide HBz6).trans (hd.mono (unhide HBz6).size), by omega, by omega⟩)
            go_region_with (go_at_call 263; (refine (unhide HFl).mono ?_; rintro e w7 ⟨c1', c2', c3', rfl, hA7, hb7⟩; have HA7 := hide hA7; obtain ⟨⟨e0, e1, e3, e4, e5⟩, ⟨g0, g1, g2, g3⟩, hbz7, p1, p2⟩ := unhide HF8 w7 hb7; have HBz7 := hide hbz7; clear hA7 hb7 hbz7))
            all_goals
              have HTF : Hid (TailF W ((w7.setCell ⟨W.heap.size, 0, none⟩ (.slice so2 sn2 sc2)).setCell ⟨W.heap.size, 1, none⟩ (.slice c1' c2' c3')) P co2 cn2 cc2 c1' c2' c3' (List.replicate bs.length x) bs) := hide (tail_set _ (unhide HBz7) p2 e1 e3 e4 e5 g2 g3 (isArr_cells (unhide HA7)) (by simp) (by intro t ht; rw [(List.mem_replicate.1 ht).2]; exact hx0))
              exact TAIL c1' c2' c3' _ HTF HR'
          · have hr' : r = (eArr, 7) := by
              rw [← unhide HR]
              unfold keepP
              rw [if_neg (by rw [← unhide HS2, unhide HROW, hscal]; omega), if_neg (by rw [hscal]; omega), if_pos hany]
            subst hr'
            clear hany
            go_wp2_with fail
            refine bodyPost_ret (v := .tuple #[.agg #[.slice none 0 0, .slice none 0 0], .int .i64 7]) (by simp [results, Tryz.results207, go_sem, s4, s5]) rfl ⟨_, _, _, _, _, _, rfl, e_arr _ _, ?_⟩
            exact ((unhide HBz5).setCell (p := ⟨W.heap.size + 1 + 1, 0, none⟩) (by show W.heap.size ≤ W.heap.size + 1 + 1; omega) _).setCell (p := ⟨W.heap.size + 1 + 1, 1, none⟩) (by show W.heap.size ≤ W.heap.size + 1 + 1; omega) _
  · have hrow' : ((sn2 : Int) == 1) = false := by
      rw [beq_eq_false_iff_ne]
      omega
    have hr' : r = (eArr, 5) := by
      rw [← unhide HR]
      unfold keepP
      rw [if_pos (Or.inl (by rw [← unhide HS2]; exact hrow))]
    subst hr'
    clear hrow
    have HBz : Hid (Below W.heap.size W w2) := hide ((unhide HBW).trans ((unhide HB2).mono (unhide HBW).size))
    go_wp2_with fail
    refine bodyPost_ret (v := .tuple #[.agg #[.slice none 0 0, .slice none 0 0], .int .i64 5]) (by simp [results, Tryz.results207, go_sem, x4, x5]) rfl ⟨_, _, _, _, _, _, rfl, e_arr _ _, ?_⟩
    exact ((unhide HBz).setCell (p := ⟨W.heap.size + 1 + 1, 0, none⟩) (by show W.heap.size ≤ W.heap.size + 1 + 1; omega) _).setCell (p := ⟨W.heap.size + 1 + 1, 1, none⟩) (by show W.heap.size ≤ W.heap.size + 1 + 1; omega) _
theorem keepL_len : ∀ (ts bs acc cs : List Int), keepL ts bs acc = some cs → acc.length ≤ 64 → (∀ t ∈ ts, 0 ≤ t) → cs.length ≤ 64
  | [], _, acc, cs, h, ha, _ => by simp only [keepL] at h; injection h with h; rw [← h]; exact ha
  | _ :: _, [], acc, cs, h, ha, _ => by simp only [keepL] at h; injection h with h; rw [← h]; exact ha
  | t :: ts, b :: bs, acc, cs, h, ha, hp => by
    simp only [keepL] at h
    split at h
    · cases h
    · have := hp t (List.mem_cons_self ..)
      exact keepL_len ts bs _ cs h (by simp; omega) (fun t ht => hp t (List.mem_cons_of_mem _ ht))
theorem keepL_mem : ∀ (ts bs acc cs : List Int), keepL ts bs acc = some cs → ∀ c ∈ cs, c ∈ acc ∨ c ∈ bs
  | [], _, acc, cs, h => by simp only [keepL] at h; injection h with h; rw [← h]; exact fun c hc => Or.inl hc
  | _ :: _, [], acc, cs, h => by simp only [keepL] at h; injection h with h; rw [← h]; exact fun c hc => Or.inl hc
  | t :: ts, b :: bs, acc, cs, h => by
    simp only [keepL] at h
    split at h
    · cases h
    · intro c hc
      rcases keepL_mem ts bs _ cs h c hc with h1 | h1
      · rcases List.mem_append.1 h1 with h2 | h2
        · exact Or.inl h2
        · exact Or.inr (by rw [(List.mem_replicate.1 h2).2]; exact List.mem_cons_self ..)
      · exact Or.inr (List.mem_cons_of_mem _ h1)
theorem keepR_ok {ts bs : List Int} (hb : ∀ c ∈ bs, fit64 c) (hp : ∀ t ∈ ts, 0 ≤ t) : (keepR ts bs).1.cells.length ≤ 200 ∧ ((keepR ts bs).2 = 0 → (keepR ts bs).1.ok) := by
  unfold keepR
  cases h : keepL ts bs [] with
  | none => exact ⟨by simp [eArr], fun h => absurd h (by decide)⟩
  | some cs =>
    have hl := keepL_len ts bs [] cs h (by simp) hp
    have hm := keepL_mem ts bs [] cs h
    exact ⟨by simp; omega, fun _ => ⟨by simp, by simp; omega, by simp [prodL], by simp; omega, fun c hc => by
      rcases hm c hc with h1 | h1
      · cases h1
      · exact hb c h1⟩⟩
theorem keep_two : TwoC ⟨#[107, 101, 101, 112]⟩ keepP := ⟨fun w => (find_two (t := ⟨#[107, 101, 101, 112]⟩) (k1 := .string [101, 101, 112]) (k2 := .string [107, 101, 101, 112]) (f := 207) (by decide) (by kernel_rfl) (by kernel_rfl) (by kernel_rfl) (by kernel_rfl) (by kernel_rfl) w).mono (by rintro e w' ⟨rfl, hb⟩; exact ⟨207, #[], rfl, Tryz.enters207, hb, keep_fn w'⟩), fun a b ha hb => by
  unfold keepP
  split
  · exact ⟨by simp [eArr], fun h => absurd h (by decide)⟩
  · split
    · exact ⟨by simp [eArr], fun h => absurd h (by decide)⟩
    · split
      · exact ⟨by simp [eArr], fun h => absurd h (by decide)⟩
      · rename_i h1 h2 h3
        have h4 : a.cells.any negB = false := by simpa using h3
        have h5 := negs h4
        refine keepR_ok hb.fits ?_
        split
        · rename_i h6
          intro t ht
          rw [(List.mem_replicate.1 ht).2]
          have := ha.size
          rw [List.eq_nil_of_length_eq_zero h6] at this
          simp [prodL] at this
          obtain ⟨x, hx⟩ := List.length_eq_one_iff.1 this
          rw [hx]
          exact h5 x (by rw [hx]; simp)
        · exact h5⟩
end Go.Proofs.YtjobgpahajhbnaaGreatDoor
