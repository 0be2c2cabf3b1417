import Derived.Test.YtjobgpahajhbnaaGreatDoorEa
import Derived.Laws.CopyOwn
import Derived.Deep.RegionLaw
import Derived.Deep.DrawnRows
namespace Go.Proofs.YtjobgpahajhbnaaGreatDoor
open Go.RowKit Go.Proofs

theorem Tryz.size2 : (Tryz.prog.info? 2).map (·.size) = some 1 := by kernel_rfl
theorem owns_block {w : World} {B g n : Nat} {e : TypeId} {xs : List Value} (h : w.ownsRow B e 1 (.slice (some ⟨g, 0, none⟩) n n) n xs) : ∃ cur : List Value, w.heap[g]? = some (.cells cur.toArray e (0, 0)) ∧ cur.length = n := by
  obtain ⟨_, ⟨h, _⟩ | ⟨g', cap, cur, hv, hg, hc, hn, hm, hz, ht⟩⟩ := h
  · cases h
  · injection hv with h1 h2 h3
    injection h1 with h1
    injection h1 with h1
    subst h1 h3
    exact ⟨cur.toList, by simpa using hc, by simpa using hz⟩
theorem row_cell {w : World} {g i : Nat} {e : TypeId} {cur : List Value} {u : Value} (h : w.heap[g]? = some (.cells cur.toArray e (0, 0))) (hu : cur[i]? = some u) : w.cell? ⟨g, i, none⟩ = some u := by
  unfold World.cell?
  rw [h]
  simp
  simpa using hu
/-- the first m of a row are v -/
def FirstV (cur : List Value) (m : Nat) (v : Value) : Prop := ∀ i, i < m → cur[i]? = some v
theorem first_splice {cur : List Value} {m k : Nat} {v : Value} (h : FirstV cur m v) (hl : m + k ≤ cur.length) : FirstV (splice cur m (List.replicate k v)) (m + k) v := by
  intro i hi
  unfold splice
  by_cases h1 : i < m
  · rw [List.getElem?_append_left (by simp; omega), List.getElem?_take, if_pos h1]
    exact h i h1
  · rw [List.getElem?_append_right (by simp; omega), List.length_take, Nat.min_eq_left (by omega), List.getElem?_append_left (by simp; omega), List.getElem?_replicate, if_pos (by omega)]
theorem nums_first {P : Nat → Prop} {w : World} {g n : Nat} {e : TypeId} {cur : List Value} {x : Int} (h : w.heap[g]? = some (.cells cur.toArray e (0, 0))) (hf : FirstV cur n (.int .i64 x)) (hP : P g) : Nums P w (.slice (some ⟨g, 0, none⟩) n n) (List.replicate n x) := by
  refine ⟨some ⟨g, 0, none⟩, n, by simp, by simp, fun _ => ⟨g, 0, rfl, hP, (Array.getElem?_eq_some_iff.1 h).1, fun i hi => ?_⟩, fun a h => by cases h; rfl⟩
  rw [Nat.zero_add]
  simp at hi ⊢
  exact row_cell h (hf i hi)

theorem cp_len {cs : List Value} {m n k : Nat} (h : cs.length = k) (h2 : Nat.min m (n - m) = k) : cs.length = Nat.min m (n - m) := by rw [h, h2]
theorem cp_src' {w : World} {g m k : Nat} {e : TypeId} {cu cs : List Value} {x : Int} (hg : w.heap[g]? = some (.cells cu.toArray e (0, 0))) (hf : FirstV cu m (.int .i64 x)) (hcs : List.replicate k (Value.int .i64 x) = cs) (hk : k ≤ m) : ∀ j v, cs[j]? = some v → w.drew.cell? ((⟨g, 0, none⟩ : Addr).add j) = some v := by
  intro j v hv
  rw [← hcs, List.getElem?_replicate] at hv
  split at hv
  · rw [← Option.some.inj hv]
    have e : (⟨g, 0, none⟩ : Addr).add j = ⟨g, j, none⟩ := by cases j <;> simp [Addr.add]
    rw [e]
    exact row_cell hg (hf j (by omega))
  · cases hv
theorem cp_fit {cs cu : List Value} {m n k : Nat} (h : cs.length = k) (h2 : cu.length = n) (h3 : m + k ≤ n) : m + cs.length ≤ cu.length := by omega
theorem cp_one {cs : List Value} {k : Nat} {x : Int} (hcs : List.replicate k (Value.int .i64 x) = cs) : ∀ v ∈ cs, v.oneCell' = true := by
  intro v hv
  rw [← hcs] at hv
  rw [(List.mem_replicate.1 hv).2]
  rfl
theorem copy_run {w w1 : World} {g off dLen dCap : Nat} {ad : Addr} {sLen sCap : Nat} {cur cs : List Value} (hg : w1.heap[g]? = some (.cells cur.toArray 2 (0, 0))) (hn : cs.length = Nat.min sLen dLen) (hsrc : ∀ j v, cs[j]? = some v → w1.cell? (ad.add j) = some v) (hfit : off + cs.length ≤ cur.length) (h1 : ∀ v ∈ cs, v.oneCell' = true) (hb : Below w.heap.size w w1) (hBg : w.heap.size ≤ g) :
    ∃ w2, (Builtin.copy_ #[32, 32] 3 #[.slice (some ⟨g, off, none⟩) dLen dCap, .slice (some ad) sLen sCap]).run Tryz.prog w1 = .ok (.int .i64 (cs.length : Int)) w2 ∧ w2.heap[g]? = some (.cells (splice cur off cs).toArray 2 (0, 0)) ∧ Below w.heap.size w w2 := by
  have hrun := run_copy_row (P := Tryz.prog) w1 32 32 3 2 g off dLen dCap ad sLen sCap cur.toArray 2 cs Tryz.underlying32 Tryz.size2 hg hn hsrc (by simpa using hfit) h1
  exact ⟨_, hrun, (show _ = _ by simpa [splice] using setRow_heap w1 g _ _ 2 _ hg), below_setRow hb hBg _⟩

set_option maxHeartbeats 2000000 in
set_option maxRecDepth 10000 in
theorem repeat_any (P : Nat → Prop) (w : World) (hP : ∀ b, w.heap.size ≤ b → P b) (xb xo xc : Nat) (x : Int) (n : Nat) (hn : n ≤ 200) (hx : w.cell? ⟨xb, xo, none⟩ = some (.int .i64 x)) (hxb : xb < w.heap.size) :
    Calls Tryz.prog 224 #[.slice (some ⟨xb, xo, none⟩) 1 xc, .int .i64 n] w fun e w' => ∃ g, e = .returned (.slice (some ⟨g, 0, none⟩) n n) ∧ Nums P w' (.slice (some ⟨g, 0, none⟩) n n) (List.replicate n x) ∧ Below w.heap.size w w' := by
  obtain ⟨i0, hi, hz0, hz1, hz2⟩ := info_parts Tryz.info2
  have HI := hide hi
  have HZ0 := hide hz0
  have HZ1 := hide hz1
  have HZ2 := hide hz2
  have HP : Hid (∀ b, w.heap.size ≤ b → P b) := hP
  have HX := hide hx
  have HXB := hide hxb
  have hmul := Tryz.bits_Mul 1 n (by omega) (by omega) w
  rw [show (1 * n / 18446744073709551616 : Nat) = 0 by omega, show (1 * n % 18446744073709551616 : Nat) = n by omega] at hmul
  have HM := hide hmul
  clear hi hz0 hz1 hz2 hP hmul hx hxb
  go_enter Tryz.func224, Tryz.ntmps224
  go_wp2_with (first | (go_at_call 272; refine (unhide HM).mono ?_; rintro e w' ⟨rfl, hw'⟩; have hw2 := hw'.symm; subst hw2; clear hw') | (at_make; refine wpList_make_full _ rfl _ _ 32 rfl w.heap.size 2 i0 (.int .i64 0) 1 Tryz.underlying32 (unhide HI) (unhide HZ0) (unhide HZ1) .i64 .i64 _ _ n rfl rfl ?_ ?_ (by rw [unhide HZ2]; omega) (by unfold maxLen; omega) (Nat.le_refl _) ?_))
  · rfl
  · rfl
  intro w1 hown hgrow
  obtain ⟨cur, hg, hlen⟩ := owns_block hown
  have hb1 : Below w.heap.size w w1 := (Below.refl _ _).grown hgrow (Nat.le_refl _) (fun k hk => by cases hk)
  have x1 := (hb1.cell (p := ⟨xb, xo, none⟩) (unhide HXB)).trans (unhide HX)
  have HG := hide hg
  have HB1 := hide hb1
  have HX1 := hide x1
  have HL := hide hlen
  clear hown hgrow hg hb1 x1 hlen
  obtain ⟨k, hk⟩ : ∃ k, Nat.min 1 n = k := ⟨_, rfl⟩
  have hkn : k ≤ n := by rw [← hk]; exact Nat.min_le_right _ _
  have hk1 : k ≤ 1 := by rw [← hk]; exact Nat.min_le_left _ _
  have hk0 : 0 < n → 0 < k := by intro h; rw [← hk]; exact Nat.lt_min.2 ⟨by omega, h⟩
  obtain ⟨cs, hcs⟩ : ∃ cs, List.replicate k (Value.int .i64 x) = cs := ⟨_, rfl⟩
  have hcl : cs.length = k := by rw [← hcs]; simp
  have HK := hide hk
  have HCS := hide hcs
  have HCL := hide hcl
  have HK0 := hide hk0
  clear hk hcs hcl hk0
  obtain ⟨w2, hrun, hg2, hb2⟩ := copy_run (w := w) (w1 := w1) (g := w.heap.size) (off := 0) (dLen := n) (dCap := n) (ad := ⟨xb, xo, none⟩) (sLen := 1) (sCap := xc) (cur := cur) (cs := cs) (unhide HG) (by rw [unhide HCL, ← unhide HK]) (by
    intro j v hv
    rw [← unhide HCS, List.getElem?_replicate] at hv
    split at hv
    · have : j = 0 := by omega
      subst this
      rw [← Option.some.inj hv]
      exact unhide HX1
    · cases hv) (by rw [unhide HCL, unhide HL]; omega) (cp_one (unhide HCS)) (unhide HB1) (Nat.le_refl _)
  rw [unhide HCL] at hrun
  have hg2 := hide hg2
  have HF : Hid (FirstV (splice cur 0 cs) k (.int .i64 x)) := hide (by
    rw [← unhide HCS]
    have := first_splice (cur := cur) (m := 0) (k := k) (v := .int .i64 x) (fun i h => by omega) (by rw [unhide HL]; omega)
    rwa [Nat.zero_add] at this)
  have HLS : Hid ((splice cur 0 cs).length = n) := hide (by rw [length_splice _ _ _ (by rw [unhide HCL, unhide HL]; omega)]; exact unhide HL)
  have HB2 := hide hb2
  clear hb2
  go_wp2_with fail
  go_loopw [8] (fun v8 wr => ∃ (m : Nat) (cu : List Value), v8 = .int .i64 m ∧ m ≤ n ∧ (0 < n → 0 < m) ∧ wr.heap[w.heap.size]? = some (.cells cu.toArray 2 (0, 0)) ∧ cu.length = n ∧ FirstV cu m (.int .i64 x) ∧ Below w.heap.size w wr) (fun v8 _ => n - (intOf v8).toNat)
  case atStart => exact ⟨k, _, rfl, hkn, unhide HK0, unhide hg2, unhide HLS, unhide HF, unhide HB2⟩
  case round =>
    obtain ⟨m, cu, rfl, hmn, hm0, hgr, hlr, hfr, hbr⟩ := hrel
    have HGr := hide hgr
    have HLr := hide hlr
    have HFr := hide hfr
    have HBr := hide hbr
    clear hgr hlr hfr hbr
    by_cases hlt : m < n
    · have hm1 : 0 < m := hm0 (by omega)
      clear hm0
      obtain ⟨k2, hk2⟩ : ∃ k2, Nat.min m (n - m) = k2 := ⟨_, rfl⟩
      have hk2m : k2 ≤ m := by rw [← hk2]; exact Nat.min_le_left _ _
      have hk2n : m + k2 ≤ n := by have : k2 ≤ n - m := (by rw [← hk2]; exact Nat.min_le_right _ _); omega
      have hk20 : 0 < k2 := by rw [← hk2]; exact Nat.lt_min.2 ⟨hm1, by omega⟩
      obtain ⟨cs2, hcs2⟩ : ∃ cs, List.replicate k2 (Value.int .i64 x) = cs := ⟨_, rfl⟩
      have hcl2 : cs2.length = k2 := by rw [← hcs2]; simp
      have HK2 := hide hk2
      have HCS2 := hide hcs2
      have HCL2 := hide hcl2
      have hi0 : (0 : Int) ≤ (m : Int) := by omega
      have hi1 : (m : Int) ≤ (n : Int) := by omega
      have hi2 : (m : Int) < (n : Int) := by omega
      clear hk2 hcs2 hcl2
      have hnm : ¬ n = m := by omega
      obtain ⟨w4, hrun4, hg4, hb4⟩ := copy_run (w := w) (w1 := wr.drew) (g := w.heap.size) (off := m) (dLen := n - m) (dCap := n - m) (ad := ⟨w.heap.size, 0, none⟩) (sLen := m) (sCap := n) (cur := cu) (cs := cs2) (unhide HGr) (cp_len (unhide HCL2) (unhide HK2)) (cp_src' (unhide HGr) (unhide HFr) (unhide HCS2) hk2m) (cp_fit (unhide HCL2) (unhide HLr) hk2n) (cp_one (unhide HCS2)) (unhide HBr).drew (Nat.le_refl _)
      rw [unhide HCL2] at hrun4
      have HG4 := hide hg4
      have HB4 := hide hb4
      have HF4 : Hid (FirstV (splice cu m cs2) (m + k2) (.int .i64 x)) := hide (by rw [← unhide HCS2]; exact first_splice (unhide HFr) (by rw [unhide HLr]; exact hk2n))
      have HL4 : Hid ((splice cu m cs2).length = n) := hide (by rw [length_splice _ _ _ (cp_fit (unhide HCL2) (unhide HLr) hk2n)]; exact unhide HLr)
      clear hg4 hb4
      go_wp2_with fail
      go_region
      all_goals
        go_wp2_with fail
        go_roundw
        case rel => exact ⟨m + k2, _, by go_num, hk2n, fun _ => by omega, unhide HG4, unhide HL4, unhide HF4, unhide HB4⟩
        case measure => simp [intOf]; omega
    · have hmn' : m = n := by omega
      subst hmn'
      go_wp2_with fail
      go_ret
      exact ⟨w.heap.size, rfl, nums_first (unhide HGr) (unhide HFr) (unhide HP _ (Nat.le_refl _)), unhide HBr⟩
end Go.Proofs.YtjobgpahajhbnaaGreatDoor
namespace Go.Proofs.YtjobgpahajhbnaaGreatDoor
open Go.RowKit Go.Proofs
attribute [local go_sem ↓] Go.wp_at_zero Go.wp_at_succ

set_option maxHeartbeats 600000 in
theorem rank_any (w : World) (so : Option Addr) (sn sc : Nat) (co : Option Addr) (cn cc : Nat) :
    Calls Tryz.prog 221 #[.agg #[.slice so sn sc, .slice co cn cc]] w fun e w' => e = .returned (.int .i64 sn) ∧ w' = w.alloc (.cells #[.slice so sn sc, .slice co cn cc] 89) := by
  go_enter Tryz.func221, Tryz.ntmps221
  go_wp2
  go_ret
  exact ⟨rfl, rfl⟩
set_option maxHeartbeats 600000 in
theorem isScalar_any (w : World) (so : Option Addr) (sn sc : Nat) (co : Option Addr) (cn cc : Nat) :
    Calls Tryz.prog 220 #[.agg #[.slice so sn sc, .slice co cn cc]] w fun e w' => e = .returned (.bool ((sn : Int) == 0)) ∧ w' = (w.alloc (.cells #[.slice so sn sc, .slice co cn cc] 89)).alloc (.cells #[.slice so sn sc, .slice co cn cc] 89) := by
  go_enter Tryz.func220, Tryz.ntmps220
  go_wp2_with (go_at_call 221; refine (rank_any _ so sn sc co cn cc).mono ?_; rintro e w' ⟨rfl, rfl⟩)
  go_ret
  exact ⟨rfl, rfl⟩

theorem lit_cell1 {W : World} {n : Nat} (h : W.heap.size = n) (v : Value) (e : TypeId) (o : Obj) : ((W.alloc (.cells #[v] e)).alloc o).drew.cell? ⟨n, 0, none⟩ = some v := by
  subst h
  show ((W.alloc (.cells #[v] e)).alloc o).cell? ⟨W.heap.size, 0, none⟩ = some v
  simp
theorem lit_cell2 {W : World} {n : Nat} (h : W.heap.size + 1 = n) (v : Value) (e : TypeId) (o : Obj) : ((W.alloc o).alloc (.cells #[v] e)).drew.cell? ⟨n, 0, none⟩ = some v := by
  subst h
  show ((W.alloc o).alloc (.cells #[v] e)).cell? ⟨W.heap.size + 1, 0, none⟩ = some v
  simp

theorem Nums.set {P : Nat → Prop} {w : World} {v : Value} {a : List Int} (h : Nums P w v a) {b : Nat} (hb : ¬ P b) (i : Nat) (u : Value) : Nums P (w.setCell ⟨b, i, none⟩ u) v a :=
  h.keep (by simp) (fun c hc _ => RowKit.Below.heap_setCell _ _ _ _ (fun e => hb (by rw [← show c = b from e]; exact hc)))
theorem filled_end {P : Nat → Prop} {w w2 : World} {so : Option Addr} {sn sc : Nat} {cv : Value} {co : Option Addr} {cn cc : Nat} {a : Arr} {ys : List Int} {u0 u1 : Value} (ha : IsArr P w (.agg #[.slice so sn sc, cv]) a) (hb : Below w.heap.size w w2) (hn : Nums (fun b => P b ∧ b ≠ w.heap.size + 1) w2 (.slice co cn cc) ys) :
    IsArr P ((w2.setCell ⟨w.heap.size + 1, 0, none⟩ u0).setCell ⟨w.heap.size + 1, 1, none⟩ u1) (.agg #[.slice so sn sc, .slice co cn cc]) ⟨a.shape, ys⟩ := by
  obtain ⟨so', sn', sc', co', cn', cc', hv, h1, _⟩ := ha
  injection hv with hv
  simp at hv
  obtain ⟨⟨rfl, rfl, rfl⟩, _⟩ := hv
  have h2 : Nums (fun b => P b ∧ b ≠ w.heap.size + 1) w2 (.slice so sn sc) (a.shape.map Int.ofNat) := (h1.imp (fun b hp hl => ⟨hp, by omega⟩)).below hb
  exact ⟨_, _, _, _, _, _, rfl, ((h2.set (fun h => h.2 rfl) 0 u0).set (fun h => h.2 rfl) 1 u1).imp (fun _ h _ => h.1), ((hn.set (fun h => h.2 rfl) 0 u0).set (fun h => h.2 rfl) 1 u1).imp (fun _ h _ => h.1)⟩

set_option maxHeartbeats 1000000 in
theorem filled_any (P : Nat → Prop) (w : World) (hP : ∀ b, w.heap.size ≤ b → P b) (so : Option Addr) (sn sc : Nat) (co : Option Addr) (cn cc : Nat) (a : Arr) (ha : IsArr P w (.agg #[.slice so sn sc, .slice co cn cc]) a) (hf : a.cells.length ≤ 200) (x : Int) :
    Calls Tryz.prog 263 #[.agg #[.slice so sn sc, .slice co cn cc], .int .i64 x] w fun e w' => ∃ co' cn' cc', e = .returned (.agg #[.slice so sn sc, .slice co' cn' cc']) ∧ IsArr P w' (.agg #[.slice so sn sc, .slice co' cn' cc']) ⟨a.shape, List.replicate a.cells.length x⟩ ∧ Below w.heap.size w w' := by
  obtain ⟨hl, hsl⟩ := isArr_len ha
  have hcn : cn ≤ 200 := by omega
  have HP : Hid (∀ b, w.heap.size ≤ b → P b) := hP
  have HA := hide ha
  have HL := hide hl
  clear hP ha hl hsl
  go_enter Tryz.func263, Tryz.ntmps263
  go_wp2_with fail
  go_region_with (first | (go_at_call 156; refine (size_any _ so sn sc co cn cc).mono ?_; rintro e w1 ⟨rfl, rfl⟩) | (go_at_call 224; refine (repeat_any (fun b => P b ∧ b ≠ w.heap.size + 1) _ (fun b h => ⟨unhide HP b (by simp at h; omega), by simp at h; omega⟩) _ _ _ x cn hcn ?_ ?_).mono ?_; (first | exact lit_cell1 (by simp) _ _ _ | exact lit_cell2 (by simp) _ _ _); (first | (simp; omega) | simp); rintro e w2 ⟨g2, rfl, hn2, hb2⟩; have HN2 := hide hn2; have HB2 := hide hb2; obtain ⟨hc2, hf2⟩ := bcell hb2; clear hn2 hb2))
  all_goals
    have d0 := hc2 (w.heap.size + 1) 0 (by simp)
    have d1 := hc2 (w.heap.size + 1) 1 (by simp)
    simp [World.cell?_alloc_past] at d0 d1
    go_wp2_with fail
    refine bodyPost_ret (v := .agg #[.slice so sn sc, .slice (some ⟨g2, 0, none⟩) cn cn]) (by simp [results, Tryz.results263, go_sem, d0, d1]) rfl ⟨_, _, _, rfl, ?_, ?_⟩
    · have hb3 : Below w.heap.size w w2 := (((((Below.refl w.heap.size w).alloc (Nat.le_refl _) _).alloc (by simp) _).alloc (by simp; omega) _).alloc (by simp; omega) _).drew.trans ((unhide HB2).mono (by simp; omega))
      exact filled_end (unhide HA) hb3 (by rw [← unhide HL]; exact unhide HN2)
    · exact (((((((Below.refl w.heap.size w).alloc (Nat.le_refl _) _).alloc (by simp) _).alloc (by simp; omega) _).alloc (by simp; omega) _).drew.trans ((unhide HB2).mono (by simp; omega))).setCell (p := ⟨w.heap.size + 1, 0, none⟩) (Nat.le_succ _) _).setCell (p := ⟨w.heap.size + 1, 1, none⟩) (Nat.le_succ _) _
end Go.Proofs.YtjobgpahajhbnaaGreatDoor
namespace Go.Proofs.YtjobgpahajhbnaaGreatDoor
open Go.RowKit Go.Proofs
attribute [local go_sem ↓] Go.wp_at_zero Go.wp_at_succ

/-- cell by cell: the first error, or the cells -/
def zipF (f : Int → Int → Int × Int) : List Int → List Int → Sum Int (List Int)
  | x :: xs, y :: ys => if (f x y).2 ≠ 0 then .inl (f x y).2 else match zipF f xs ys with
    | .inl e => .inl e
    | .inr l => .inr ((f x y).1 :: l)
  | _, _ => .inr []
def eArr : Arr := ⟨[], []⟩
def zipA (f : Int → Int → Int × Int) (shape : List Nat) (xs ys : List Int) : Arr × Int := match zipF f xs ys with
  | .inl e => (eArr, e)
  | .inr l => (⟨shape, l⟩, 0)
/-- what pair makes of two arrays -/
def pairP (f : Int → Int → Int × Int) (a b : Arr) : Arr × Int :=
  if a.shape = [] then zipA f b.shape (List.replicate b.cells.length (a.cells.headD 0)) b.cells
  else if b.shape = [] then zipA f a.shape a.cells (List.replicate a.cells.length (b.cells.headD 0))
  else if a.shape.length ≠ b.shape.length then (eArr, 5)
  else if a.shape ≠ b.shape then (eArr, 6)
  else zipA f a.shape a.cells b.cells
theorem zip_len {f : Int → Int → Int × Int} : ∀ {xs ys l : List Int}, zipF f xs ys = .inr l → xs.length = ys.length → l.length = xs.length
  | [], [], l, h, _ => by simp [zipF] at h; subst h; rfl
  | x :: xs, y :: ys, l, h, hl => by
    unfold zipF at h
    split at h
    · cases h
    · cases hz : zipF f xs ys with
      | inl e => rw [hz] at h; cases h
      | inr m =>
        rw [hz] at h
        cases h
        simp at hl ⊢
        exact zip_len hz hl
  | [], y :: ys, _, _, hl => by simp at hl
  | x :: xs, [], _, _, hl => by simp at hl
/-- .. up to place k: what has come, if nothing failed -/
theorem zip_take {f : Int → Int → Int × Int} : ∀ (k : Nat) (xs ys : List Int), xs.length = ys.length → (hk : k < xs.length) → (hk' : k < ys.length) → ∀ l, zipF f (xs.take k) (ys.take k) = .inr l →
    ((f xs[k] ys[k]).2 ≠ 0 → zipF f xs ys = .inl (f xs[k] ys[k]).2) ∧ ((f xs[k] ys[k]).2 = 0 → zipF f (xs.take (k + 1)) (ys.take (k + 1)) = .inr (l ++ [(f xs[k] ys[k]).1]))
  | 0, x :: xs, y :: ys, _, _, _, l, h => by
    simp [zipF] at h
    subst h
    refine ⟨fun he => ?_, fun he => ?_⟩
    · simp at he ⊢
      unfold zipF
      rw [if_pos he]
    · simp at he ⊢
      unfold zipF
      rw [if_neg (by simpa using he)]
      simp [zipF]
  | k + 1, x :: xs, y :: ys, hl, hk, hk', l, h => by
    simp at hl hk hk'
    simp only [List.take_succ_cons] at h ⊢
    unfold zipF at h
    split at h
    · cases h
    · rename_i h0
      cases hz : zipF f (xs.take k) (ys.take k) with
      | inl e => rw [hz] at h; cases h
      | inr m =>
        rw [hz] at h
        cases h
        have ih := zip_take k xs ys hl hk hk' m hz
        simp only [List.getElem_cons_succ]
        refine ⟨fun he => ?_, fun he => ?_⟩
        · unfold zipF
          rw [if_neg h0, ih.1 he]
        · have := ih.2 he
          unfold zipF
          rw [if_neg h0, this]
          simp
  | _, [], _, _, hk, _, _, _ => by simp at hk
  | _, _ :: _, [], _, _, hk', _, _ => by simp at hk'
structure RuleC (g : Nat) (f : Int → Int → Int × Int) : Prop where
  enters : Enters Tryz.prog g
  call : ∀ (x y : Int) (w : World), fit64 x → fit64 y → Calls Tryz.prog g #[.int .i64 x, .int .i64 y] w fun e w' => e = .returned (.tuple #[.int .i64 (f x y).1, .int .i64 (f x y).2]) ∧ w' = w
  fits : ∀ x y : Int, fit64 x → fit64 y → fit64 (f x y).1
end Go.Proofs.YtjobgpahajhbnaaGreatDoor
