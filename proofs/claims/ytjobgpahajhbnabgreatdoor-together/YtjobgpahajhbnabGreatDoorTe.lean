import Derived.Test.YtjobgpahajhbnabGreatDoorTa
import Derived.Test.YtjobgpahajhbnabGreatDoorTd
import Derived.Test.YtjobgpahajhbnabGreatDoorSh
import Derived.Test.YtjobgpahajhbnabGreatDoorMd
import Derived.Test.YtjobgpahajhbnabGreatDoorVh
import Derived.Lib.LaidTab
import Derived.Lib.AppendIntMem
import Derived.Laws.OwnMore
namespace Go.Proofs.YtjobgpahajhbnabGreatDoor
open Go.RowKit Go.Proofs Go.Maps
attribute [local go_sem ↓] Go.wp_at_zero Go.wp_at_succ
theorem Yy {D : DataW Value} {n : Nat} {w : World} {b : Nat} {m e : TypeId} {zv : Value} (hm : Tryz.prog.underlying m = some (.map 9 e)) (hz : (zeroValue e).run Tryz.prog w = .ok zv w) (h : w.ownsMap Tryz.prog 9 Jm b n D) {t : ByteArray} {kl : Lit} {v : Value} (hk : keyOf Tryz.prog 9 (.string t) = some kl) (hat : D.atKey kl (.held zv) = .held v) :
    (Instr.lookup m (.map (some b)) (.string t) false).run Tryz.prog w = .ok v w := by
  obtain ⟨u, ps, h1, h2⟩ := h.lookup Tryz.law9 hm hz (show Jm zv = some (.held zv, []) from rfl) hk
  rw [hat] at h2
  have h3 : DataW.held u = DataW.held v := congrArg Prod.fst (Option.some.inj h2)
  have h4 : u = v := congrArg Jli h3
  rw [h1, h4]
theorem Tryz.zero137 (w : World) : (zeroValue 137).run Tryz.prog w = .ok .nilFunc w := by kernel_rfl
theorem Tryz.zero110 (w : World) : (zeroValue 110).run Tryz.prog w = .ok .nilFunc w := by kernel_rfl
theorem Tryz.nil235 (w : World) : (binOp .eql 137 .nilFunc .nilFunc).run Tryz.prog w = .ok (.bool true) w := by kernel_rfl
set_option maxHeartbeats 1000000 in
set_option maxRecDepth 20000 in
theorem Za {t : ByteArray} {k1 k2 : Lit} {f : Nat} (h1 : 1 ≤ t.size) (hk1 : keyOf Tryz.prog 9 (.string (t.extract 1 t.size)) = some k1) (ha1 : formsOneD.atKey k1 (.held .nilFunc) = .held .nilFunc) (hk2 : keyOf Tryz.prog 9 (.string t) = some k2) (ha2 : onesD.atKey k2 (.held .nilFunc) = .held (.func (.func f) #[] #[])) (w : World) :
    Calls Tryz.prog 47 #[.string t] w fun e w' => e = .returned (.func (.func f) #[] #[]) ∧ Below w.heap.size w w' := by
  have HL1 : Hid (∀ w' b, w'.ownsMap Tryz.prog 9 Jm b 2 formsOneD → (Instr.lookup 138 (.map (some b)) (.string (t.extract 1 t.size)) false).run Tryz.prog w' = .ok .nilFunc w') := hide (fun w' b h => Yy Tryz.underlying138 (Tryz.zero137 w') h hk1 ha1)
  have HL2 : Hid (∀ w' b, w'.ownsMap Tryz.prog 9 Jm b 11 onesD → (Instr.lookup 140 (.map (some b)) (.string t) false).run Tryz.prog w' = .ok (.func (.func f) #[] #[]) w') := hide (fun w' b h => Yy Tryz.underlying140 (Tryz.zero110 w') h hk2 ha2)
  have hnn := Tryz.nil235
  clear hk1 ha1 hk2 ha2
  go_enter Tryz.func47, Tryz.ntmps47
  go_wp2_with fail
  go_region_with (first | (go_at_call 72; refine (Z2 _).mono ?_; rintro e w1 ⟨rfl, ho, hb⟩; have hl := Ja HL1 _ w.heap.size (by exact ho); have hl3 := Ja HL1 (w1.alloc (.cells #[.nilFunc] 137)) w.heap.size (World.ownsMap.alloc (by exact ho) _); have HB := hide hb; obtain ⟨hc, hf⟩ := Jr hb; have hs := hb.size; (try simp at hs); (try have hs2 : w.heap.size < w1.heap.size := by omega); clear ho hb) | (go_at_call 72; refine (Z2 _).mono ?_; rintro e w1 ⟨rfl, ho, hb⟩; have hl : (Instr.lookup 138 (.map (some (w.heap.size + 1))) (.string (t.extract 1 t.size)) false).run Tryz.prog w1 = .ok .nilFunc w1 := (by have := Ja HL1 _ _ ho; simpa [World.drew] using this); have HB := hide hb; obtain ⟨hc, hf⟩ := Jr hb; have hs := hb.size; (try simp at hs); (try have hs2 : w.heap.size < w1.heap.size := by omega); clear ho hb))
  all_goals
    go_wp2_with (go_at_call 73; refine (Jjy _).mono ?_; rintro e w2 ⟨rfl, ho, hb⟩; have hl2 := Ja HL2 _ _ ho; (try simp only [World.size_alloc, World.size_setCell] at hl2); have HB2 := hide hb; clear ho hb)
    first
    | (have hA : Below w.heap.size w (w1.alloc (.cells #[.nilFunc] 137)) := (Jk (Ja HB)).alloc (Jk (Ja HB)).size _
       exact bodyPost_ret (v := .func (.func f) #[] #[]) (by simp [results, Tryz.results47, go_sem]) rfl ⟨rfl, hA.trans ((Ja HB2).mono hA.size)⟩)
    | (have hA : Below w.heap.size w (w1.setCell ⟨w.heap.size, 0, none⟩ .nilFunc) := ((((Below.refl w.heap.size w).alloc (Nat.le_refl _) _).drew.trans ((Ja HB).mono (by simp))).setCell (p := ⟨w.heap.size, 0, none⟩) (Nat.le_refl _) _)
       exact bodyPost_ret (v := .func (.func f) #[] #[]) (by simp [results, Tryz.results47, go_sem]) rfl ⟨rfl, hA.trans ((Ja HB2).mono hA.size)⟩)
    | trace_state
end Go.Proofs.YtjobgpahajhbnabGreatDoor
namespace Go.Proofs.YtjobgpahajhbnabGreatDoor
open Go.RowKit Go.Proofs Go.Maps
attribute [local go_sem ↓] Go.wp_at_zero Go.wp_at_succ
theorem Tryz.enters99 : Enters Tryz.prog 99 := Go.Proofs.enters_of Tryz.func99 (by decide) rfl
set_option maxHeartbeats 400000 in
theorem Jhm (w : World) : FnOne 99 #[] w (fun a => (a, 0)) := by
  intro W P v a _ hP ha hoa
  have HA := hide ha
  obtain ⟨so, sn, sc, co, cn, cc, rfl, _, _⟩ := ha
  clear hP hoa
  go_enter Tryz.func99, Tryz.ntmps99
  go_wp2_with fail
  have hb : Below W.heap.size W ((W.alloc (.cells #[.slice so sn sc, .slice co cn cc] 57)).alloc (.cells #[.slice so sn sc, .slice co cn cc] 57)) := ((Below.refl W.heap.size W).alloc (Nat.le_refl _) _).alloc (by simp) _
  exact bodyPost_ret (v := .tuple #[.agg #[.slice so sn sc, .slice co cn cc], .int .i64 0]) (by simp [results, Tryz.results99, go_sem]) rfl ⟨_, _, _, _, _, _, rfl, (Ja HA).below hb, hb⟩
theorem Jeh : OneC ⟨#[43]⟩ (fun a => (a, 0)) := ⟨fun w => (Za (t := ⟨#[43]⟩) (k1 := .string []) (k2 := .string [43]) (f := 99) (by decide) (by kernel_rfl) (by kernel_rfl) (by kernel_rfl) (by kernel_rfl) w).mono (by rintro e w' ⟨rfl, hb⟩; exact ⟨99, #[], rfl, Tryz.enters99, hb, Jhm w'⟩), fun a ha => ⟨ha.few, fun _ => ha⟩⟩
end Go.Proofs.YtjobgpahajhbnabGreatDoor
namespace Go.Proofs.YtjobgpahajhbnabGreatDoor
open Go.RowKit Go.Proofs Go.Maps
attribute [local go_sem ↓] Go.wp_at_zero Go.wp_at_succ
structure CellC (g : Nat) (h : Int → Int) : Prop where
  enters : Enters Tryz.prog g
  call : ∀ (x : Int) (w : World), Jg x → Calls Tryz.prog g #[.int .i64 x] w fun e w' => e = .returned (.int .i64 (h x)) ∧ w' = w
  fits : ∀ x : Int, Jg x → Jg (h x)
set_option maxHeartbeats 1000000 in
set_option maxRecDepth 20000 in
theorem F3 (h : Int → Int) (g : Nat) (hg : CellC g h) (P : Nat → Prop) (w : World) (hP : ∀ b, w.heap.size ≤ b → P b) (so : Option Addr) (sn sc : Nat) (co : Option Addr) (cn cc : Nat) (a : Arr) (ha : IsArr P w (.agg #[.slice so sn sc, .slice co cn cc]) a) (hoa : a.ok) :
    Calls Tryz.prog 150 #[.agg #[.slice so sn sc, .slice co cn cc], .func (.func g) #[] #[]] w fun e w' => ∃ c1 c2 c3, e = .returned (.agg #[.slice so sn sc, .slice c1 c2 c3]) ∧ IsArr P w' (.agg #[.slice so sn sc, .slice c1 c2 c3]) ⟨a.shape, a.cells.map h⟩ ∧ Below w.heap.size w w' := by
  obtain ⟨i0, hi, hz0, hz1, hz2⟩ := info_parts Tryz.info2
  have HI := hide hi
  have HZ0 := hide hz0
  have HZ1 := hide hz1
  have HZ2 := hide hz2
  have hen2 : ∀ args w, (callFunc g args).run Tryz.prog w = .ok (.enter g args) w := hg.enters
  have HP : Hid (∀ b, w.heap.size ≤ b → P b) := hP
  have HA := hide ha
  have HG := hide hg
  have hcl := (Jc ha).1
  have hN : cn ≤ 200 := by rw [hcl]; exact hoa.few
  have HX : Hid (0 < cn → ∃ b off, co = some ⟨b, off, none⟩ ∧ b < w.heap.size ∧ ∀ i, (hi : i < a.cells.length) → w.cell? ⟨b, off + i, none⟩ = some (.int .i64 a.cells[i])) := by
    intro h0
    obtain ⟨so', sn', sc', co', cn', cc', hv, _, ⟨ao, cap, h2, _, hc, _⟩⟩ := ha
    injection hv with hv
    simp at hv
    obtain ⟨_, rfl, rfl, rfl⟩ := hv
    obtain ⟨b, off, e, _, hlt, hcell⟩ := hc (by omega)
    injection h2 with h2
    exact ⟨b, off, h2.trans e, hlt, hcell⟩
  have HXF := hide hoa.fits
  obtain ⟨xs, hxs⟩ : ∃ xs, a.cells = xs := ⟨_, rfl⟩
  rw [hxs] at hcl
  simp only [hxs] at HX HXF ⊢
  have HCL := hide hcl
  clear hi hz0 hz1 hz2 hP ha hoa hcl hg
  go_enter Tryz.func150, Tryz.ntmps150
  go_wp2_with fail
  have hbW : Below w.heap.size w ((w.alloc (.cells #[.slice so sn sc, .slice co cn cc] 57)).alloc (.cells #[.slice none 0 0, .slice none 0 0] 57)) := ((Below.refl _ _).alloc (Nat.le_refl _) _).alloc (by simp) _
  have z0 : ((w.alloc (.cells #[.slice so sn sc, .slice co cn cc] 57)).alloc (.cells #[.slice none 0 0, .slice none 0 0] 57)).cell? ⟨w.heap.size, 0, none⟩ = some (.slice so sn sc) := by simp
  have r0 : ((w.alloc (.cells #[.slice so sn sc, .slice co cn cc] 57)).alloc (.cells #[.slice none 0 0, .slice none 0 0] 57)).cell? ⟨w.heap.size + 1, 0, none⟩ = some (.slice none 0 0) := (World.cell?_alloc_at _ _ _ _ (by simp)).trans rfl
  have r1 : ((w.alloc (.cells #[.slice so sn sc, .slice co cn cc] 57)).alloc (.cells #[.slice none 0 0, .slice none 0 0] 57)).cell? ⟨w.heap.size + 1, 1, none⟩ = some (.slice none 0 0) := (World.cell?_alloc_at _ _ _ _ (by simp)).trans rfl
  have q0 : ((w.alloc (.cells #[.slice so sn sc, .slice co cn cc] 57)).alloc (.cells #[.slice none 0 0, .slice none 0 0] 57)).frozen? ⟨w.heap.size + 1, 0, none⟩ = false := World.frozen?_alloc_at _ _ _ _ (by simp)
  have q1 : ((w.alloc (.cells #[.slice so sn sc, .slice co cn cc] 57)).alloc (.cells #[.slice none 0 0, .slice none 0 0] 57)).frozen? ⟨w.heap.size + 1, 1, none⟩ = false := World.frozen?_alloc_at _ _ _ _ (by simp)
  have hlt : w.heap.size + 1 < ((w.alloc (.cells #[.slice so sn sc, .slice co cn cc] 57)).alloc (.cells #[.slice none 0 0, .slice none 0 0] 57)).heap.size := by simp
  obtain ⟨wS, hwS⟩ : ∃ wS, (w.alloc (.cells #[.slice so sn sc, .slice co cn cc] 57)).alloc (.cells #[.slice none 0 0, .slice none 0 0] 57) = wS := ⟨_, rfl⟩
  rw [hwS] at hbW z0 r0 r1 q0 q1 hlt ⊢
  have HBS := hide hbW
  clear hwS hbW
  go_loopw [5, 11] (fun v5 v11 wr => ∃ (k : Nat) (L : List Int), v11 = .int .i64 k ∧ k ≤ cn ∧ (xs.take k).map h = L ∧ wr.ownsRow wS.heap.size 2 1 v5 k (L.map (Value.int .i64)) ∧ Below wS.heap.size wS wr) (fun _ v11 _ => cn - (intOf v11).toNat)
  case atStart => exact ⟨0, [], rfl, Nat.zero_le _, rfl, World.ownsRow_nil _ _ _ _, Below.refl _ _⟩
  case round =>
    obtain ⟨k, L, rfl, hk, hL, hown, hbel⟩ := hrel
    have HL := hide hL
    clear hL
    have z0' := (hbel.cell (p := ⟨w.heap.size, 0, none⟩) (show w.heap.size < wS.heap.size by omega)).trans z0
    have r0' := (hbel.cell (p := ⟨w.heap.size + 1, 0, none⟩) hlt).trans r0
    have r1' := (hbel.cell (p := ⟨w.heap.size + 1, 1, none⟩) hlt).trans r1
    have q0' := (hbel.frozen (p := ⟨w.heap.size + 1, 0, none⟩) hlt).trans q0
    have q1' := (hbel.frozen (p := ⟨w.heap.size + 1, 1, none⟩) hlt).trans q1
    have HOw := hide hown
    have HBe := hide hbel
    by_cases hkn : k < cn
    · obtain ⟨xb, xf, rfl, hxb, hxc⟩ := Ja HX (by omega)
      have hkx : k < xs.length := by rw [← Ja HCL]; exact hkn
      have cx := (hbel.cell (p := ⟨xb, xf + k, none⟩) (Nat.lt_of_lt_of_le hxb (Ja HBS).size)).trans (((Ja HBS).cell (p := ⟨xb, xf + k, none⟩) hxb).trans (hxc k hkx))
      have HTk : Hid ((xs.take (k + 1)).map h = (xs.take k).map h ++ [h xs[k]]) := hide (by rw [List.take_succ_eq_append_getElem hkx, List.map_append]; rfl)
      have hfx := Ja HXF _ (List.getElem_mem hkx)
      obtain ⟨x, hx⟩ : ∃ x, xs[k] = x := ⟨_, rfl⟩
      rw [hx] at cx hfx HTk
      have HRule := hide (fun w => (Ja HG).call x w hfx)
      obtain ⟨u, hu⟩ : ∃ u, h x = u := ⟨_, rfl⟩
      rw [hu] at HTk
      simp only [hu] at HRule
      have hk1 : (k : Int) < (cn : Int) := by omega
      clear hown hbel hxc hx hu hfx hxb
      go_wp2_with (first | (go_at_fn g; refine (Ja HRule _).mono ?_; rintro e wr ⟨rfl, rfl⟩) | (at_builtin; refine wpList_append_own _ rfl _ _ 32 rfl wS.heap.size 2 i0 (.int .i64 0) 1 8 Tryz.underlying32 (Ja HI) (Ja HZ0) (Ja HZ1) (Ja HZ2) rfl (by decide) _ _ _ rfl ((Ja HOw).alloc _) ⟨wr.heap.size, 0, none⟩ 1 1 [.int .i64 u] rfl rfl ?c1 ?c2 ?c3 ?c4 ?c5 ?_))
      case c1 => intro j v hj; match j, hj with | 0, hj => simp at hj; subst hj; exact (World.cell?_alloc_at _ _ _ _ rfl).trans rfl
      case c2 => intro v hv; simp at hv; subst hv; rfl
      case c3 => unfold maxLen; omega
      case c4 => omega
      case c5 => have := (Ja HBe).size; simp; omega
      · intro v' w4 hown4 hgrow4 _
        have HB4 : Hid (Below wS.heap.size wS w4) := hide (((Ja HBe).alloc (Ja HBe).size _).grown hgrow4 (by have := (Ja HBe).size; simp; omega) (fun q hq => ((Ja HOw).lt q hq).1))
        have HO4 := hide hown4
        clear hown4 hgrow4
        go_wp2_with fail
        go_roundw
        case rel => exact ⟨k + 1, L ++ [u], by go_num, by omega, by rw [Ja HTk, Ja HL], by rw [List.map_append]; exact Ja HO4, Ja HB4⟩
        case measure => simp [intOf]; omega
    · have hkN : k = cn := by omega
      subst hkN
      obtain ⟨vo, vc, hv8, hvle, hcells⟩ := J9 (Ja HOw)
      subst hv8
      have hT : xs.take k = xs := List.take_of_length_le (by rw [← Ja HCL]; exact Nat.le_refl _)
      have hLL := Ja HL
      rw [hT] at hLL
      subst hLL
      have hbF := (Ja HBS).trans ((Ja HBe).mono (Ja HBS).size)
      have HBF := hide hbF
      have HN := hide (Js (P := fun b => P b ∧ b ≠ w.heap.size + 1) (Ja HOw) (fun b hb => ⟨Ja HP b (by omega), by omega⟩))
      clear hown hbel hcells hT hbF
      go_wp2_with fail
      refine bodyPost_ret (v := .agg #[.slice so sn sc, .slice vo k vc]) (by simp [results, Tryz.results150, go_sem, r0', r1']) rfl ⟨vo, k, vc, rfl, Vm (Ja HA) (Ja HBF) (Ja HN), ?_⟩
      exact ((Ja HBF).setCell (p := ⟨w.heap.size + 1, 0, none⟩) (Nat.le_succ _) _).setCell (p := ⟨w.heap.size + 1, 1, none⟩) (Nat.le_succ _) _
end Go.Proofs.YtjobgpahajhbnabGreatDoor
namespace Go.Proofs.YtjobgpahajhbnabGreatDoor
open Go.RowKit Go.Proofs Go.Maps
attribute [local go_sem ↓] Go.wp_at_zero Go.wp_at_succ
def Zy (x : Int) : Int := wrap64 (-x)
theorem Tryz.enters151 : Enters Tryz.prog 151 := Go.Proofs.enters_of Tryz.func151 (by decide) rfl
theorem Tryz.enters100 : Enters Tryz.prog 100 := Go.Proofs.enters_of Tryz.func100 (by decide) rfl
set_option maxHeartbeats 400000 in
theorem negated_cell : CellC 151 Zy where
  enters := Tryz.enters151
  call := by
    intro x w _
    unfold Zy
    go_enter Tryz.func151, Tryz.ntmps151
    go_wp2
    exact bodyPost_ret (v := .int .i64 (wrap64 (-x))) (by simp [results, Tryz.results151, go_sem]) rfl ⟨rfl, rfl⟩
  fits := by
    intro x hx
    unfold Zy Jg wrap64 at *
    omega
set_option maxHeartbeats 400000 in
theorem Jd8 (w : World) : FnOne 100 #[] w (fun a => (⟨a.shape, a.cells.map Zy⟩, 0)) := by
  intro W P v a _ hP ha hoa
  obtain ⟨so, sn, sc, co, cn, cc, rfl, ha1, ha2⟩ := ha
  have ha : IsArr P W (.agg #[.slice so sn sc, .slice co cn cc]) a := ⟨_, _, _, _, _, _, rfl, ha1, ha2⟩
  have HC := hide (fun W' (h : Below W.heap.size W W') (hs : W.heap.size + 1 < W'.heap.size) => F3 Zy 151 negated_cell (fun b => P b ∧ b ≠ W.heap.size + 1) W' (fun b h' => ⟨hP b (by omega), by omega⟩) so sn sc co cn cc a ((ha.imp (fun b hp hl => ⟨hp, by omega⟩)).below h) hoa)
  clear hP hoa ha ha1 ha2
  obtain ⟨r, hr⟩ : ∃ r : Arr, (⟨a.shape, a.cells.map Zy⟩ : Arr) = r := ⟨_, rfl⟩
  simp only [hr] at HC ⊢
  clear hr
  go_enter Tryz.func100, Tryz.ntmps100
  go_wp2_with (go_at_call 150; refine (Ja HC _ (((Below.refl W.heap.size W).alloc (Nat.le_refl _) _).alloc (by simp) _) (by simp)).mono ?_; rintro e w1 ⟨c1, c2, c3, rfl, h1, hb1⟩; have HA := hide h1; have HB := hide hb1; obtain ⟨hc, hf⟩ := Jr hb1; have d0 := ((hc (W.heap.size + 1) 0 (by simp)).trans (World.cell?_alloc_at _ _ _ _ (by simp))).trans rfl; have d1 := ((hc (W.heap.size + 1) 1 (by simp)).trans (World.cell?_alloc_at _ _ _ _ (by simp))).trans rfl; have g0 := (hf (W.heap.size + 1) 0 (by simp)).trans (World.frozen?_alloc_at _ _ _ _ (by simp)); have g1 := (hf (W.heap.size + 1) 1 (by simp)).trans (World.frozen?_alloc_at _ _ _ _ (by simp)); clear h1 hb1 hc hf)
  refine bodyPost_ret (v := .tuple #[.agg #[.slice so sn sc, .slice c1 c2 c3], .int .i64 0]) (by simp [results, Tryz.results100, go_sem, d0, d1]) rfl ⟨_, _, _, _, _, _, rfl, ?_, ?_⟩
  · exact (((Ja HA).set (fun h => h.2 rfl) 0 _).set (fun h => h.2 rfl) 1 _).imp (fun b h _ => h.1)
  · exact ((((Below.refl W.heap.size W).alloc (Nat.le_refl _) _).alloc (by simp) _).trans ((Ja HB).mono (by simp <;> omega))).setCell (p := ⟨W.heap.size + 1, 0, none⟩) (Nat.le_succ _) _ |>.setCell (p := ⟨W.heap.size + 1, 1, none⟩) (Nat.le_succ _) _
theorem Jbr : OneC ⟨#[45]⟩ (fun a => (⟨a.shape, a.cells.map Zy⟩, 0)) := ⟨fun w => (Za (t := ⟨#[45]⟩) (k1 := .string []) (k2 := .string [45]) (f := 100) (by decide) (by kernel_rfl) (by kernel_rfl) (by kernel_rfl) (by kernel_rfl) w).mono (by rintro e w' ⟨rfl, hb⟩; exact ⟨100, #[], rfl, Tryz.enters100, hb, Jd8 w'⟩), fun a ha => ⟨by simpa using ha.few, fun _ => ⟨ha.rank, ha.lens, by simpa using ha.size, by simpa using ha.few, by intro c hc; obtain ⟨x, hx, rfl⟩ := List.mem_map.1 hc; exact negated_cell.fits x (ha.fits x hx)⟩⟩⟩
def Yx (x : Int) : Int := max x (wrap64 (-x))
theorem Tryz.enters154 : Enters Tryz.prog 154 := Go.Proofs.enters_of Tryz.func154 (by decide) rfl
theorem Tryz.enters102 : Enters Tryz.prog 102 := Go.Proofs.enters_of Tryz.func102 (by decide) rfl
set_option maxHeartbeats 400000 in
theorem magnitude_cell : CellC 154 Yx where
  enters := Tryz.enters154
  call := by
    intro x w _
    unfold Yx
    go_enter Tryz.func154, Tryz.ntmps154
    go_wp2
    exact bodyPost_ret (v := .int .i64 (max x (wrap64 (-x)))) (by simp [results, Tryz.results154, go_sem]) rfl ⟨rfl, rfl⟩
  fits := by
    intro x hx
    unfold Yx Jg wrap64 at *
    omega
set_option maxHeartbeats 400000 in
theorem N9 (w : World) : FnOne 102 #[] w (fun a => (⟨a.shape, a.cells.map Yx⟩, 0)) := by
  intro W P v a _ hP ha hoa
  obtain ⟨so, sn, sc, co, cn, cc, rfl, ha1, ha2⟩ := ha
  have ha : IsArr P W (.agg #[.slice so sn sc, .slice co cn cc]) a := ⟨_, _, _, _, _, _, rfl, ha1, ha2⟩
  have HC := hide (fun W' (h : Below W.heap.size W W') (hs : W.heap.size + 1 < W'.heap.size) => F3 Yx 154 magnitude_cell (fun b => P b ∧ b ≠ W.heap.size + 1) W' (fun b h' => ⟨hP b (by omega), by omega⟩) so sn sc co cn cc a ((ha.imp (fun b hp hl => ⟨hp, by omega⟩)).below h) hoa)
  clear hP hoa ha ha1 ha2
  obtain ⟨r, hr⟩ : ∃ r : Arr, (⟨a.shape, a.cells.map Yx⟩ : Arr) = r := ⟨_, rfl⟩
  simp only [hr] at HC ⊢
  clear hr
  go_enter Tryz.func102, Tryz.ntmps102
  go_wp2_with (go_at_call 150; refine (Ja HC _ (((Below.refl W.heap.size W).alloc (Nat.le_refl _) _).alloc (by simp) _) (by simp)).mono ?_; rintro e w1 ⟨c1, c2, c3, rfl, h1, hb1⟩; have HA := hide h1; have HB := hide hb1; obtain ⟨hc, hf⟩ := Jr hb1; have d0 := ((hc (W.heap.size + 1) 0 (by simp)).trans (World.cell?_alloc_at _ _ _ _ (by simp))).trans rfl; have d1 := ((hc (W.heap.size + 1) 1 (by simp)).trans (World.cell?_alloc_at _ _ _ _ (by simp))).trans rfl; have g0 := (hf (W.heap.size + 1) 0 (by simp)).trans (World.frozen?_alloc_at _ _ _ _ (by simp)); have g1 := (hf (W.heap.size + 1) 1 (by simp)).trans (World.frozen?_alloc_at _ _ _ _ (by simp)); clear h1 hb1 hc hf)
  refine bodyPost_ret (v := .tuple #[.agg #[.slice so sn sc, .slice c1 c2 c3], .int .i64 0]) (by simp [results, Tryz.results102, go_sem, d0, d1]) rfl ⟨_, _, _, _, _, _, rfl, ?_, ?_⟩
  · exact (((Ja HA).set (fun h => h.2 rfl) 0 _).set (fun h => h.2 rfl) 1 _).imp (fun b h _ => h.1)
  · exact ((((Below.refl W.heap.size W).alloc (Nat.le_refl _) _).alloc (by simp) _).trans ((Ja HB).mono (by simp <;> omega))).setCell (p := ⟨W.heap.size + 1, 0, none⟩) (Nat.le_succ _) _ |>.setCell (p := ⟨W.heap.size + 1, 1, none⟩) (Nat.le_succ _) _
theorem Fy : OneC ⟨#[124]⟩ (fun a => (⟨a.shape, a.cells.map Yx⟩, 0)) := ⟨fun w => (Za (t := ⟨#[124]⟩) (k1 := .string []) (k2 := .string [124]) (f := 102) (by decide) (by kernel_rfl) (by kernel_rfl) (by kernel_rfl) (by kernel_rfl) w).mono (by rintro e w' ⟨rfl, hb⟩; exact ⟨102, #[], rfl, Tryz.enters102, hb, N9 w'⟩), fun a ha => ⟨by simpa using ha.few, fun _ => ⟨ha.rank, ha.lens, by simpa using ha.size, by simpa using ha.few, by intro c hc; obtain ⟨x, hx, rfl⟩ := List.mem_map.1 hc; exact magnitude_cell.fits x (ha.fits x hx)⟩⟩⟩
end Go.Proofs.YtjobgpahajhbnabGreatDoor
namespace Go.Proofs.YtjobgpahajhbnabGreatDoor
open Go.RowKit Go.Proofs Go.Maps
attribute [local go_sem ↓] Go.wp_at_zero Go.wp_at_succ
def Yp (x : Int) : Int := if x < 0 then -1 else if 0 < x then 1 else 0
theorem Tryz.enters152 : Enters Tryz.prog 152 := Go.Proofs.enters_of Tryz.func152 (by decide) rfl
theorem Tryz.enters101 : Enters Tryz.prog 101 := Go.Proofs.enters_of Tryz.func101 (by decide) rfl
set_option maxHeartbeats 400000 in
theorem Xx (x : Int) (w : World) : Calls Tryz.prog 198 #[.int .i64 x] w fun e w' => e = .returned (.bool false) ∧ w' = w := by
  go_enter Tryz.func198, Tryz.ntmps198
  go_wp2
  exact bodyPost_ret (v := .bool false) (by simp [results, Tryz.results198, go_sem]) rfl ⟨rfl, rfl⟩
set_option maxHeartbeats 400000 in
theorem X1 (x y r : Int) (hr : (if x < y then -1 else if y < x then 1 else 0) = r) (w : World) : Calls Tryz.prog 153 #[.int .i64 x, .int .i64 y] w fun e w' => e = .returned (.int .i64 r) ∧ w' = w := by
  subst hr
  by_cases h1 : x < y
  · rw [if_pos h1]
    go_enter Tryz.func153, Tryz.ntmps153
    go_wp2_with (go_at_call 198; refine (Xx _ _).mono ?_; rintro e w' ⟨rfl, rfl⟩)
    exact bodyPost_ret (v := .int .i64 (-1)) (by simp [results, Tryz.results153, go_sem]) rfl ⟨rfl, rfl⟩
  · by_cases h2 : y < x
    · rw [if_neg h1, if_pos h2]
      go_enter Tryz.func153, Tryz.ntmps153
      go_wp2_with (go_at_call 198; refine (Xx _ _).mono ?_; rintro e w' ⟨rfl, rfl⟩)
      exact bodyPost_ret (v := .int .i64 1) (by simp [results, Tryz.results153, go_sem]) rfl ⟨rfl, rfl⟩
    · rw [if_neg h1, if_neg h2]
      go_enter Tryz.func153, Tryz.ntmps153
      go_wp2_with (go_at_call 198; refine (Xx _ _).mono ?_; rintro e w' ⟨rfl, rfl⟩)
      exact bodyPost_ret (v := .int .i64 0) (by simp [results, Tryz.results153, go_sem]) rfl ⟨rfl, rfl⟩
set_option maxHeartbeats 400000 in
theorem direction_cell : CellC 152 Yp where
  enters := Tryz.enters152
  call := by
    intro x w _
    obtain ⟨r, hr⟩ : ∃ r, Yp x = r := ⟨_, rfl⟩
    rw [hr]
    unfold Yp at hr
    have HC := hide (X1 x 0 r hr)
    clear hr
    go_enter Tryz.func152, Tryz.ntmps152
    go_wp2_with (go_at_call 153; refine (Ja HC _).mono ?_; rintro e w' ⟨rfl, rfl⟩)
    exact bodyPost_ret (v := .int .i64 r) (by simp [results, Tryz.results152, go_sem]) rfl ⟨rfl, rfl⟩
  fits := by
    intro x hx
    unfold Yp Jg
    split
    · omega
    · split <;> omega
set_option maxHeartbeats 400000 in
theorem Jar (w : World) : FnOne 101 #[] w (fun a => (⟨a.shape, a.cells.map Yp⟩, 0)) := by
  intro W P v a _ hP ha hoa
  obtain ⟨so, sn, sc, co, cn, cc, rfl, ha1, ha2⟩ := ha
  have ha : IsArr P W (.agg #[.slice so sn sc, .slice co cn cc]) a := ⟨_, _, _, _, _, _, rfl, ha1, ha2⟩
  have HC := hide (fun W' (h : Below W.heap.size W W') (hs : W.heap.size + 1 < W'.heap.size) => F3 Yp 152 direction_cell (fun b => P b ∧ b ≠ W.heap.size + 1) W' (fun b h' => ⟨hP b (by omega), by omega⟩) so sn sc co cn cc a ((ha.imp (fun b hp hl => ⟨hp, by omega⟩)).below h) hoa)
  clear hP hoa ha ha1 ha2
  obtain ⟨r, hr⟩ : ∃ r : Arr, (⟨a.shape, a.cells.map Yp⟩ : Arr) = r := ⟨_, rfl⟩
  simp only [hr] at HC ⊢
  clear hr
  go_enter Tryz.func101, Tryz.ntmps101
  go_wp2_with (go_at_call 150; refine (Ja HC _ (((Below.refl W.heap.size W).alloc (Nat.le_refl _) _).alloc (by simp) _) (by simp)).mono ?_; rintro e w1 ⟨c1, c2, c3, rfl, h1, hb1⟩; have HA := hide h1; have HB := hide hb1; obtain ⟨hc, hf⟩ := Jr hb1; have d0 := ((hc (W.heap.size + 1) 0 (by simp)).trans (World.cell?_alloc_at _ _ _ _ (by simp))).trans rfl; have d1 := ((hc (W.heap.size + 1) 1 (by simp)).trans (World.cell?_alloc_at _ _ _ _ (by simp))).trans rfl; have g0 := (hf (W.heap.size + 1) 0 (by simp)).trans (World.frozen?_alloc_at _ _ _ _ (by simp)); have g1 := (hf (W.heap.size + 1) 1 (by simp)).trans (World.frozen?_alloc_at _ _ _ _ (by simp)); clear h1 hb1 hc hf)
  refine bodyPost_ret (v := .tuple #[.agg #[.slice so sn sc, .slice c1 c2 c3], .int .i64 0]) (by simp [results, Tryz.results101, go_sem, d0, d1]) rfl ⟨_, _, _, _, _, _, rfl, ?_, ?_⟩
  · exact (((Ja HA).set (fun h => h.2 rfl) 0 _).set (fun h => h.2 rfl) 1 _).imp (fun b h _ => h.1)
  · exact ((((Below.refl W.heap.size W).alloc (Nat.le_refl _) _).alloc (by simp) _).trans ((Ja HB).mono (by simp <;> omega))).setCell (p := ⟨W.heap.size + 1, 0, none⟩) (Nat.le_succ _) _ |>.setCell (p := ⟨W.heap.size + 1, 1, none⟩) (Nat.le_succ _) _
theorem F4 : OneC ⟨#[42]⟩ (fun a => (⟨a.shape, a.cells.map Yp⟩, 0)) := ⟨fun w => (Za (t := ⟨#[42]⟩) (k1 := .string []) (k2 := .string [42]) (f := 101) (by decide) (by kernel_rfl) (by kernel_rfl) (by kernel_rfl) (by kernel_rfl) w).mono (by rintro e w' ⟨rfl, hb⟩; exact ⟨101, #[], rfl, Tryz.enters101, hb, Jar w'⟩), fun a ha => ⟨by simpa using ha.few, fun _ => ⟨ha.rank, ha.lens, by simpa using ha.size, by simpa using ha.few, by intro c hc; obtain ⟨x, hx, rfl⟩ := List.mem_map.1 hc; exact direction_cell.fits x (ha.fits x hx)⟩⟩⟩
end Go.Proofs.YtjobgpahajhbnabGreatDoor
namespace Go.Proofs.YtjobgpahajhbnabGreatDoor
open Go.RowKit Go.Proofs Go.Maps
attribute [local go_sem ↓] Go.wp_at_zero Go.wp_at_succ
theorem Tryz.enters105 : Enters Tryz.prog 105 := Go.Proofs.enters_of Tryz.func105 (by decide) rfl
def Kn (a : Arr) : Arr := ⟨[a.cells.length], a.cells⟩
set_option maxHeartbeats 400000 in
theorem Jjl (w : World) : FnOne 105 #[] w (fun a => (Kn a, 0)) := by
  intro W P v a _ hP ha hoa
  obtain ⟨so, sn, sc, co, cn, cc, rfl, ha1, ha2⟩ := ha
  have HC := hide (fun W' (h : Below W.heap.size W W') (hs : W.heap.size + 1 < W'.heap.size) => Zp (fun b => P b ∧ b ≠ W.heap.size + 1) W' (fun b h' => ⟨hP b (by omega), by omega⟩) (.slice co cn cc) a.cells ((ha2.imp (fun b hp hl => ⟨hp, by omega⟩)).below h))
  clear hP hoa ha1 ha2
  obtain ⟨r, hr⟩ : ∃ r : Arr, Kn a = r := ⟨_, rfl⟩
  have hr2 : (⟨[a.cells.length], a.cells⟩ : Arr) = r := hr
  simp only [hr2] at HC
  simp only [hr]
  clear hr hr2
  go_enter Tryz.func105, Tryz.ntmps105
  go_wp2_with (go_at_call 71; refine (Ja HC _ (((Below.refl W.heap.size W).alloc (Nat.le_refl _) _).alloc (by simp) _) (by simp)).mono ?_; rintro e w1 ⟨s1, s2, s3, c1, c2, c3, rfl, h1, hb1⟩; have HA := hide h1; have HB := hide hb1; obtain ⟨hc, hf⟩ := Jr hb1; have d0 := ((hc (W.heap.size + 1) 0 (by simp)).trans (World.cell?_alloc_at _ _ _ _ (by simp))).trans rfl; have d1 := ((hc (W.heap.size + 1) 1 (by simp)).trans (World.cell?_alloc_at _ _ _ _ (by simp))).trans rfl; have g0 := (hf (W.heap.size + 1) 0 (by simp)).trans (World.frozen?_alloc_at _ _ _ _ (by simp)); have g1 := (hf (W.heap.size + 1) 1 (by simp)).trans (World.frozen?_alloc_at _ _ _ _ (by simp)); clear h1 hb1 hc hf)
  refine bodyPost_ret (v := .tuple #[.agg #[.slice s1 s2 s3, .slice c1 c2 c3], .int .i64 0]) (by simp [results, Tryz.results105, go_sem, d0, d1]) rfl ⟨_, _, _, _, _, _, rfl, ?_, ?_⟩
  · exact (((Ja HA).set (fun h => h.2 rfl) 0 _).set (fun h => h.2 rfl) 1 _).imp (fun b h _ => h.1)
  · exact ((((Below.refl W.heap.size W).alloc (Nat.le_refl _) _).alloc (by simp) _).trans ((Ja HB).mono (by simp <;> omega))).setCell (p := ⟨W.heap.size + 1, 0, none⟩) (Nat.le_succ _) _ |>.setCell (p := ⟨W.heap.size + 1, 1, none⟩) (Nat.le_succ _) _
theorem Jgb : OneC ⟨#[114, 97, 118, 101, 108]⟩ (fun a => (Kn a, 0)) := ⟨fun w => (Za (t := ⟨#[114, 97, 118, 101, 108]⟩) (k1 := .string [97, 118, 101, 108]) (k2 := .string [114, 97, 118, 101, 108]) (f := 105) (by decide) (by kernel_rfl) (by kernel_rfl) (by kernel_rfl) (by kernel_rfl) w).mono (by rintro e w' ⟨rfl, hb⟩; exact ⟨105, #[], rfl, Tryz.enters105, hb, Jjl w'⟩), fun a ha => ⟨ha.few, fun _ => ⟨by simp [Kn], by simp [Kn]; exact ha.few, by simp [Kn, Jj], ha.few, ha.fits⟩⟩⟩
end Go.Proofs.YtjobgpahajhbnabGreatDoor
namespace Go.Proofs.YtjobgpahajhbnabGreatDoor
open Go.RowKit Go.Proofs Go.Maps
attribute [local go_sem ↓] Go.wp_at_zero Go.wp_at_succ
def KeepS (S : Nat → Prop) (w w' : World) : Prop := Bs (fun b => ¬ S b ∧ 6 ≤ b) w w'
theorem KeepS.of {S : Nat → Prop} {w w' : World} (h : Below w.heap.size w w') : KeepS S w w' := Bs.of h
theorem KeepS.block {S : Nat → Prop} {w w' : World} (h : KeepS S w w') {b : Nat} (hb : b < w.heap.size) (hs : S b) : w'.heap[b]? = w.heap[b]? := Bs.block h b hb (fun hn => hn.1 hs)
theorem KeepS.cell {S : Nat → Prop} {w w' : World} (h : KeepS S w w') {b o : Nat} (hb : b < w.heap.size) (hs : S b) : w'.cell? ⟨b, o, none⟩ = w.cell? ⟨b, o, none⟩ := World.cell?_of_block (h.block hb hs)
theorem KeepS.frozen {S : Nat → Prop} {w w' : World} (h : KeepS S w w') {b o : Nat} (hb : b < w.heap.size) (hs : S b) : w'.frozen? ⟨b, o, none⟩ = w.frozen? ⟨b, o, none⟩ := World.frozen?_of_block (a := ⟨b, o, none⟩) (h.block hb hs)
theorem KeepS.nums {S Q : Nat → Prop} {w w' : World} {v : Value} {xs : List Int} (h : KeepS S w w') (hn : Nums Q w v xs) (hq : ∀ b, Q b → S b) : Nums Q w' v xs := hn.keep (Bs.size h) (fun b hb hl => h.block hl (hq b hb))
theorem KeepS.trans {S S' : Nat → Prop} {w w1 w2 : World} (h : KeepS S w w1) (h' : KeepS S' w1 w2) (hs : ∀ b, b < w.heap.size → S b → S' b) : KeepS S w w2 := Bs.trans h h' (fun k hk hn => ⟨fun h => hn.1 (hs k hk h), hn.2⟩)
theorem KeepS.lower {S S' : Nat → Prop} {w w1 : World} (h : KeepS S w w1) (hs : ∀ b, b < w.heap.size → S' b → S b) : KeepS S' w w1 := ⟨h.os, h.tape, h.output, h.size, fun k hk hn => Bs.block h k hk (fun hn' => hn ⟨fun h' => hn'.1 (hs k hk h'), hn'.2⟩)⟩
theorem KeepS.set {S : Nat → Prop} {w w1 : World} (h : KeepS S w w1) {r : Nat} (hr : ¬ S r) (h6 : 6 ≤ r) (i : Nat) (u : Value) : KeepS S w (w1.setCell ⟨r, i, none⟩ u) := ⟨h.os, h.tape, h.output, by simpa using h.size, fun k hk hn => (RowKit.Below.heap_setCell _ _ _ _ (fun e => by have e : k = r := e; subst e; exact hn ⟨hr, h6⟩)).trans (Bs.block h k hk hn)⟩
end Go.Proofs.YtjobgpahajhbnabGreatDoor
namespace Go.Proofs.YtjobgpahajhbnabGreatDoor
open Go.RowKit Go.Proofs Go.Maps
attribute [local go_sem ↓] Go.wp_at_zero Go.wp_at_succ
theorem Tryz.zero148 (w : World) : (zeroValue 148).run Tryz.prog w = .ok .nilFunc w := by kernel_rfl
theorem Tryz.zero114 (w : World) : (zeroValue 114).run Tryz.prog w = .ok .nilFunc w := by kernel_rfl
theorem Tryz.nil246 (w : World) : (binOp .eql 148 .nilFunc .nilFunc).run Tryz.prog w = .ok (.bool true) w := by kernel_rfl
set_option maxHeartbeats 1000000 in
set_option maxRecDepth 20000 in
theorem Z3 {t : ByteArray} {k1 k2 : Lit} {f : Nat} (h1 : 1 ≤ t.size) (hk2 : keyOf Tryz.prog 9 (.string t) = some k2) (hh : Maps.has signsD k2 = false) (hk1 : keyOf Tryz.prog 9 (.string (t.extract 1 t.size)) = some k1) (ha1 : formsTwoD.atKey k1 (.held .nilFunc) = .held .nilFunc) (ha2 : twosD.atKey k2 (.held .nilFunc) = .held (.func (.func f) #[] #[])) (w : World) :
    Calls Tryz.prog 49 #[.string t] w fun e w' => e = .returned (.func (.func f) #[] #[]) ∧ Below w.heap.size w w' := by
  have HL0 : Hid (∀ w' b, w'.ownsMap Tryz.prog 9 Jm b 9 signsD → (Instr.lookup 144 (.map (some b)) (.string t) true).run Tryz.prog w' = .ok (.tuple #[.agg #[.nilFunc, .int .i64 0], .bool false]) w') := hide (fun w' b h => Kw Tryz.underlying144 (Tryz.zero143 w') h hk2 hh (atKey_of_not_has hh _))
  have HL1 : Hid (∀ w' b, w'.ownsMap Tryz.prog 9 Jm b 1 formsTwoD → (Instr.lookup 149 (.map (some b)) (.string (t.extract 1 t.size)) false).run Tryz.prog w' = .ok .nilFunc w') := hide (fun w' b h => Yy Tryz.underlying149 (Tryz.zero148 w') h hk1 ha1)
  have HL2 : Hid (∀ w' b, w'.ownsMap Tryz.prog 9 Jm b 8 twosD → (Instr.lookup 151 (.map (some b)) (.string t) false).run Tryz.prog w' = .ok (.func (.func f) #[] #[]) w') := hide (fun w' b h => Yy Tryz.underlying151 (Tryz.zero114 w') h hk2 ha2)
  have hnn := Tryz.nil246
  clear hk1 ha1 hk2 ha2 hh
  go_enter Tryz.func49, Tryz.ntmps49
  go_wp2_with (go_at_call 74; refine (Zn _).mono ?_; rintro e w1 ⟨rfl, ho, hb⟩; have hl0 := Ja HL0 _ _ ho; have HB0 := hide hb; clear ho hb)
  have HW : Hid (Below w.heap.size w (w1.alloc (.cells #[.nilFunc, .int .i64 0] 143))) := hide ((Ja HB0).alloc (Ja HB0).size _)
  obtain ⟨W1, hW1⟩ : ∃ W1, w1.alloc (.cells #[.nilFunc, .int .i64 0] 143) = W1 := ⟨_, rfl⟩
  rw [hW1] at HW ⊢
  clear hW1 hl0 HB0
  go_region_with (first | (go_at_call 77; refine (Z1 _).mono ?_; rintro e w1 ⟨rfl, ho, hb⟩; have hl := Ja HL1 _ W1.heap.size (by exact ho); have hl3 := Ja HL1 (w1.alloc (.cells #[.nilFunc] 148)) W1.heap.size (World.ownsMap.alloc (by exact ho) _); have HB := hide hb; obtain ⟨hc, hf⟩ := Jr hb; have hs := hb.size; (try simp at hs); (try have hs2 : W1.heap.size < w1.heap.size := by omega); clear ho hb) | (go_at_call 77; refine (Z1 _).mono ?_; rintro e w1 ⟨rfl, ho, hb⟩; have hl : (Instr.lookup 149 (.map (some (W1.heap.size + 1))) (.string (t.extract 1 t.size)) false).run Tryz.prog w1 = .ok .nilFunc w1 := (by have := Ja HL1 _ _ ho; simpa [World.drew] using this); have HB := hide hb; obtain ⟨hc, hf⟩ := Jr hb; have hs := hb.size; (try simp at hs); (try have hs2 : W1.heap.size < w1.heap.size := by omega); clear ho hb))
  all_goals
    go_wp2_with (go_at_call 78; refine (Jit _).mono ?_; rintro e w2 ⟨rfl, ho, hb⟩; have hl2 := Ja HL2 _ _ ho; (try simp only [World.size_alloc, World.size_setCell] at hl2); have HB2 := hide hb; clear ho hb)
    first
    | (have hA : Below W1.heap.size W1 (w1.alloc (.cells #[.nilFunc] 148)) := (Jk (Ja HB)).alloc (Jk (Ja HB)).size _
       exact bodyPost_ret (v := .func (.func f) #[] #[]) (by simp [results, Tryz.results49, go_sem]) rfl ⟨rfl, (Ja HW).trans ((hA.trans ((Ja HB2).mono hA.size)).mono (Ja HW).size)⟩)
    | (have hA : Below W1.heap.size W1 (w1.setCell ⟨W1.heap.size, 0, none⟩ .nilFunc) := ((((Below.refl W1.heap.size W1).alloc (Nat.le_refl _) _).drew.trans ((Ja HB).mono (by simp))).setCell (p := ⟨W1.heap.size, 0, none⟩) (Nat.le_refl _) _)
       exact bodyPost_ret (v := .func (.func f) #[] #[]) (by simp [results, Tryz.results49, go_sem]) rfl ⟨rfl, (Ja HW).trans ((hA.trans ((Ja HB2).mono hA.size)).mono (Ja HW).size)⟩)
    | trace_state
end Go.Proofs.YtjobgpahajhbnabGreatDoor
namespace Go.Proofs.YtjobgpahajhbnabGreatDoor
open Go.RowKit Go.Proofs Go.Maps
attribute [local go_sem ↓] Go.wp_at_zero Go.wp_at_succ
def Y4 (n k : Nat) : List Value := (List.range n).map fun i => .int .i64 (if i < k then (i : Int) else 0)
theorem Ns (n : Nat) : Y4 n 0 = List.replicate n (.int .i64 0) := by
  simp [Y4, List.map_const']
theorem Jbm {n k : Nat} (_h : k < n) : (Y4 n k).set k (.int .i64 (k : Int)) = Y4 n (k + 1) := by
  apply List.ext_getElem
  · simp [Y4]
  · intro i h1 h2
    simp [Y4, List.getElem_set]
    by_cases e : k = i
    · subst e; simp
    · rw [if_neg e]
      by_cases hi : i < k
      · rw [if_pos hi, if_pos (by omega)]
      · rw [if_neg hi, if_neg (by omega)]
theorem Jbn (n : Nat) : Y4 n n = ((List.range n).map Int.ofNat).map (Value.int .i64) := by
  apply List.ext_getElem
  · simp [Y4]
  · intro i h1 h2
    simp [Y4] at h1 ⊢
    omega
set_option maxHeartbeats 1000000 in
theorem Gv (n : Nat) (hn : n ≤ 200) (w : World) : Calls Tryz.prog 155 #[.int .i64 n] w fun e w' => e = .returned (.slice (some ⟨w.heap.size, 0, none⟩) n n) ∧ w'.ownsRow w.heap.size 2 1 (.slice (some ⟨w.heap.size, 0, none⟩) n n) n (((List.range n).map Int.ofNat).map (Value.int .i64)) ∧ Below w.heap.size w w' := by
  obtain ⟨i0, hi, hz0, hz1, hz2⟩ := info_parts Tryz.info2
  have HI := hide hi
  have HZ0 := hide hz0
  have HZ1 := hide hz1
  have HZ2 := hide hz2
  clear hi hz0 hz1 hz2
  go_enter Tryz.func155, Tryz.ntmps155
  go_wp2_with (at_make; refine wpList_make_full _ rfl _ _ 32 rfl w.heap.size 2 i0 (.int .i64 0) 1 Tryz.underlying32 (Ja HI) (Ja HZ0) (Ja HZ1) .i64 .i64 n n n rfl rfl rfl rfl ?c1 ?c2 (Nat.le_refl _) ?_)
  case c1 => rw [Ja HZ2]; omega
  case c2 => unfold maxLen; omega
  intro w1 hown hg
  have hown : w1.ownsRow w.heap.size 2 1 (.slice (some ⟨w.heap.size, 0, none⟩) n n) n (Y4 n 0) := by
    rw [Ns]
    have := toList_madeCells_one (.int .i64 0) (n * 1)
    rw [Nat.mul_one] at this
    rw [← this]
    simpa using hown
  have HO := hide hown
  have HB : Hid (Below w.heap.size w w1) := hide ((Below.refl _ _).grown hg (Nat.le_refl _) (fun _ h => by cases h))
  clear hown hg
  go_wp2_with fail
  go_loopw [9] (fun v wr => ∃ k : Nat, v = .int .i64 k ∧ k ≤ n ∧ wr.ownsRow w.heap.size 2 1 (.slice (some ⟨w.heap.size, 0, none⟩) n n) n (Y4 n k) ∧ Below w.heap.size w wr) (fun v _ => n - (intOf v).toNat)
  case atStart => exact ⟨0, rfl, by omega, Ja HO, Ja HB⟩
  case round =>
    obtain ⟨k, rfl, hk, ho, hb⟩ := hrel
    by_cases hkn : k < n
    · have c0 := ho.cellAt k (by omega)
      have f0 := ho.frozenAt k
      rw [List.getElem?_eq_getElem (by simp [Y4]; exact hkn)] at c0
      obtain ⟨u, hu⟩ : ∃ u, (Y4 n k)[k]'(by simp [Y4]; exact hkn) = u := ⟨_, rfl⟩
      rw [hu] at c0
      have hs := (ho.stored k (.int .i64 (k : Int))).1
      have HO2 := hide hs
      have HB2 := hide hb
      have hk0 : (0 : Int) ≤ (k : Int) := by omega
      have hk1 : (k : Int) < (n : Int) := by omega
      clear hu ho hb hs
      go_wp2_with fail
      go_roundw
      case rel => exact ⟨k + 1, by go_num, by omega, by rw [← Jbm hkn]; exact Ja HO2, (Ja HB2).setCell (Nat.le_refl _) _⟩
      case measure => simp [intOf]; omega
    · have hke : k = n := by omega
      subst hke
      rw [Jbn] at ho
      have HO2 := hide ho
      have HB2 := hide hb
      clear ho hb
      go_wp2_with fail
      exact bodyPost_ret (v := .slice (some ⟨w.heap.size, 0, none⟩) k k) (by simp [results, Tryz.results155, go_sem]) rfl ⟨rfl, Ja HO2, Ja HB2⟩
end Go.Proofs.YtjobgpahajhbnabGreatDoor
