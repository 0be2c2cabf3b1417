import Derived.Test.YtjobgpahajhbnabGreatDoorJc
import Derived.Test.YtjobgpahajhbnabGreatDoorKa
namespace Go.Proofs.YtjobgpahajhbnabGreatDoor
open Go.RowKit Go.Proofs Go.Maps
attribute [local go_sem ↓] Go.wp_at_zero Go.wp_at_succ
set_option maxHeartbeats 1000000 in
set_option maxRecDepth 20000 in
theorem Qy {P : Nat → Prop} (w : World) (so : Option Addr) (sn sc : Nat) (co : Option Addr) (cn cc : Nat) (a : Arr) (ha : IsArr P w (.agg #[.slice so sn sc, .slice co cn cc]) a) (sh : List Nat) (len : Nat) (hs : a.shape = sh ++ [len]) (h3 : sh.length ≤ 3) :
    Calls Tryz.prog 157 #[.agg #[.slice so sn sc, .slice co cn cc]] w fun e w' => e = .returned (.int .i64 len) ∧ Below w.heap.size w w' := by
  have hsn := (Jc ha).2
  rw [hs] at hsn
  simp at hsn
  obtain ⟨so', sn', sc', co', cn', cc', hv, h1, h2⟩ := ha
  injection hv with hv
  simp at hv
  obtain ⟨⟨rfl, rfl, rfl⟩, rfl, rfl, rfl⟩ := hv
  rw [hs] at h1
  obtain ⟨b, off, rfl, hb, hc, -⟩ := h1.at (k := sh.length) (by simp)
  simp at hc
  have hc2 : (w.alloc (.cells #[.slice (some ⟨b, off, none⟩) sn sc, .slice co cn cc] 57)).cell? ⟨b, off + sh.length, none⟩ = some (.int .i64 len) := by rw [World.cell?_alloc_lt _ _ _ hb]; exact hc
  have hc3 : ((w.alloc (.cells #[.slice (some ⟨b, off, none⟩) sn sc, .slice co cn cc] 57)).alloc (.cells #[.slice (some ⟨b, off, none⟩) sn sc, .slice co cn cc] 57)).cell? ⟨b, off + sh.length, none⟩ = some (.int .i64 len) := by rw [World.cell?_alloc_lt _ _ _ (by simp; omega)]; exact hc2
  obtain ⟨k, hk⟩ : ∃ k, sh.length = k := ⟨_, rfl⟩
  rw [hk] at hsn hc2 hc3 h3
  have HR := hide (fun w' => Yi w' (some ⟨b, off, none⟩) sn sc co cn cc)
  have hk0 : (0 : Int) ≤ (k : Int) := by omega
  have hk1 : (k : Int) < (sn : Int) := by omega
  have hw1 : IntKind.i64.wrap ((sn : Int) - 1) = (k : Int) := by
    have e : ((sn : Int) - 1) = (k : Int) := by omega
    rw [e]
    exact Jd (by omega) (by omega)
  clear hsn
  clear h1 h2 hs hk hc
  go_enter Tryz.func157, Tryz.ntmps157
  go_wp2_with fail
  go_region_with (first | (go_at_call 144; refine (Ja HR _).mono ?_; rintro e w' ⟨rfl, rfl⟩))
  all_goals
    go_wp2_with fail
    refine bodyPost_ret (v := .int .i64 len) (by simp [results, Tryz.results157, go_sem]) rfl ⟨rfl, ?_⟩
    first
    | exact ((Below.refl _ _).alloc (Nat.le_refl _) _).drew.alloc (by simp) _
    | trace_state
theorem Yg {P : Nat → Prop} {w : World} {ao : Option Addr} {n cap : Nat} {xs : List Int} (h : Nums P w (.slice ao n cap) xs) {k : Nat} (hk : k ≤ n) : Nums P w (.slice ao k cap) (xs.take k) := by
  have hn := Jf h
  obtain ⟨ao', cap', hv, hcap, h1, h2⟩ := h
  injection hv with e1 e2 e3
  subst e1 e3
  have hkl : k ≤ xs.length := by omega
  refine ⟨ao, cap, by simp [Nat.min_eq_left hkl], by simp; omega, fun h0 => ?_, h2⟩
  have h0' : 0 < xs.length := by simp at h0; omega
  obtain ⟨b, off, ha, hp, hl, hc⟩ := h1 h0'
  refine ⟨b, off, ha, hp, hl, fun i hi => ?_⟩
  simp at hi
  rw [hc i (by omega)]
  simp
theorem Zk {P : Nat → Prop} {w : World} {ao : Option Addr} {n cap : Nat} {xs : List Int} (h : Nums P w (.slice ao n cap) xs) : n ≤ cap := by
  obtain ⟨ao', cap', hv, hcap, _⟩ := h
  injection hv with e1 e2 e3
  omega
theorem Jgx {P : Nat → Prop} {w : World} {n cap : Nat} {xs : List Int} (h : Nums P w (.slice none n cap) xs) : n = 0 := by
  obtain ⟨ao', cap', hv, hcap, h1, _⟩ := h
  injection hv with e1 e2 e3
  by_cases h0 : 0 < xs.length
  · obtain ⟨b, off, ha, _⟩ := h1 h0
    rw [ha] at e1
    cases e1
  · omega
theorem Jgv {P : Nat → Prop} {w : World} {b off : Nat} {spot : Option Nat} {n cap : Nat} {xs : List Int} (h : Nums P w (.slice (some ⟨b, off, spot⟩) n cap) xs) : spot = none := by
  obtain ⟨ao', cap', hv, hcap, h1, h2⟩ := h
  injection hv with e1 e2 e3
  exact h2 _ e1.symm
def Qu (xs : List Int) (len i : Nat) : List Int := (xs.drop (i * len)).take len
set_option maxHeartbeats 1000000 in
set_option maxRecDepth 20000 in
theorem Ja0 {P : Nat → Prop} (w : World) (so : Option Addr) (sn sc : Nat) (co : Option Addr) (cn cc : Nat) (a : Arr) (ha : IsArr P w (.agg #[.slice so sn sc, .slice co cn cc]) a) (sh : List Nat) (len : Nat) (hs : a.shape = sh ++ [len]) (h3 : sh.length ≤ 3) (i : Nat) (hi : (i + 1) * len ≤ a.cells.length) (hil : i ≤ 100000000) (hll : len ≤ 1000) (hfew : a.cells.length ≤ 1000) :
    Calls Tryz.prog 180 #[.agg #[.slice so sn sc, .slice co cn cc], .int .i64 i] w fun e w' => ∃ o n c, e = .returned (.slice o n c) ∧ Nums P w' (.slice o n c) (Qu a.cells len i) ∧ Below w.heap.size w w' := by
  have HL := hide (fun w' (hb : Below w.heap.size w w') => Qy w' so sn sc co cn cc a (ha.below hb) sh len hs h3)
  have hN := Jq ha
  have hcn := Jf hN
  have hcap := Zk hN
  obtain ⟨lo, hlo⟩ : ∃ lo, i * len = lo := ⟨_, rfl⟩
  obtain ⟨i1, hi1⟩ : ∃ k, i + 1 = k := ⟨_, rfl⟩
  obtain ⟨up, hup⟩ : ∃ h, i1 * len = h := ⟨_, rfl⟩
  have hsum : up = lo + len := by rw [← hup, ← hlo, ← hi1, Nat.add_mul, Nat.one_mul]
  rw [hi1, hup] at hi
  have hl0 : (0 : Int) ≤ (lo : Int) := by omega
  have hl1 : (lo : Int) ≤ (up : Int) := by omega
  have hl2 : (up : Int) ≤ (cc : Int) := by omega
  have hl3 : lo ≤ up := by omega
  have hl4 : up ≤ cc := by omega
  have hl5 : up - lo = len := by omega
  have hw0 : IntKind.i64.wrap ((i : Int) + 1) = (i1 : Int) := by
    have e : (i : Int) + 1 = (i1 : Int) := by omega
    rw [e]
    exact Jd (by omega) (by omega)
  have hw1 : IntKind.i64.wrap ((i : Int) * (len : Int)) = (lo : Int) := by
    rw [← Int.natCast_mul, hlo]
    exact Jd hl0 (by omega)
  have hw2 : IntKind.i64.wrap ((i1 : Int) * (len : Int)) = (up : Int) := by
    rw [← Int.natCast_mul, hup]
    exact Jd (by omega) (by omega)
  have HN := hide hN
  have HLO := hide hlo
  have H5 := hide hl5
  obtain ⟨ys, hys⟩ : ∃ ys, Qu a.cells len i = ys := ⟨_, rfl⟩
  rw [hys]
  have HYS := hide hys
  have hcn2 : up ≤ cn := by omega
  clear ha hN hlo hup hsum hi1 hys hl5 hs hcn hil hll hi
  rcases co with _ | ⟨cb, coff, spot⟩
  · have hz := Jgx (Ja HN)
    subst hz
    have hu : up = 0 := by omega
    subst hu
    have hlz : lo = 0 := by omega
    subst hlz
    have hlen : len = 0 := by have := Ja H5; omega
    have HR : Hid (ys = []) := hide (by rw [← Ja HYS]; unfold Qu; rw [hlen]; simp)
    clear hlen
    go_enter Tryz.func180, Tryz.ntmps180
    go_wp2_with (go_at_call 157; refine (Ja HL _ ((Below.refl _ _).alloc (Nat.le_refl _) _)).mono ?_; rintro e w1 ⟨rfl, hb1⟩; have HB := hide hb1; obtain ⟨hc, -⟩ := Jr hb1; have d1 := hc w.heap.size 1 (by simp); (try simp at d1); have hs1 := hb1.size; (try simp at hs1); clear hb1 hc)
    refine bodyPost_ret (v := .slice none 0 cc) (by simp [results, Tryz.results180, go_sem]) rfl ⟨_, _, _, rfl, ?_, ((Below.refl _ _).alloc (Nat.le_refl _) _).trans ((Ja HB).mono (by simp))⟩
    rw [Ja HR]
    exact ⟨_, _, rfl, by simp, fun h => absurd h (by simp), fun a h => by cases h⟩
  · have hsp := Jgv (Ja HN)
    subst hsp
    obtain ⟨ad, had⟩ : ∃ ad : Option Addr, (if cc = lo then some ⟨cb, coff, none⟩ else some ⟨cb, coff + lo, none⟩) = ad := ⟨_, rfl⟩
    have HR : Hid (Nums P w (.slice ad (up - lo) (cc - lo)) ys) := hide (by
      have h1 := Zx (Ja HN) (k := lo) (by omega)
      rw [had] at h1
      have h2 := Yg h1 (k := up - lo) (by omega)
      rw [← Ja HYS]
      unfold Qu
      rw [Ja HLO]
      rw [Ja H5] at h2 ⊢
      exact h2)
    go_enter Tryz.func180, Tryz.ntmps180
    go_wp2_with (go_at_call 157; refine (Ja HL _ ((Below.refl _ _).alloc (Nat.le_refl _) _)).mono ?_; rintro e w1 ⟨rfl, hb1⟩; have HB := hide hb1; obtain ⟨hc, -⟩ := Jr hb1; have d1 := hc w.heap.size 1 (by simp); (try simp at d1); have hs1 := hb1.size; (try simp at hs1); clear hb1 hc)
    exact bodyPost_ret (v := .slice ad (up - lo) (cc - lo)) (by simp [results, Tryz.results180, go_sem]) rfl ⟨_, _, _, rfl, (Ja HR).below (((Below.refl _ _).alloc (Nat.le_refl _) _).trans ((Ja HB).mono (by simp))), ((Below.refl _ _).alloc (Nat.le_refl _) _).trans ((Ja HB).mono (by simp))⟩
theorem Jat {Q : Nat → Prop} (w : World) (ao : Option Addr) (n cap : Nat) (xs : List Int) (h : Nums Q w (.slice ao n cap) xs) (hx : xs.length ≤ 200) (h0 : 0 < n) :
    Calls Tryz.prog 37 #[.slice ao n cap] w fun e w' => ∃ g c, e = .returned (.slice (some ⟨g, 0, none⟩) n c) ∧ w'.ownsRow w.heap.size 3 1 (.slice (some ⟨g, 0, none⟩) n c) n (xs.map (Value.int .i64)) ∧ Below w.heap.size w w' := by
  have hn := Jf h
  obtain ⟨ao', cap', hv, _, hcell, hspot⟩ := h
  injection hv with e1 e2 e3
  subst e1 e3
  obtain ⟨b, off, rfl, _, _, hc⟩ := hcell (by omega)
  obtain ⟨i0, hi, hz0, hz1, hz2⟩ := info_parts Tryz.info3
  refine (Tryz.slices_Clone_f79 i0 (.int .i64 0) 1 8 hi hz0 hz1 hz2 rfl (by decide) (fun w => by kernel_rfl) b off n cap (xs.map (Value.int .i64)) w (by simp [hn]) (by unfold maxLen; omega) (by omega) ?_ ?_).mono ?_
  · intro j u hu
    obtain ⟨hj, rfl⟩ := Z0 hu
    exact hc j hj
  · intro u hu
    obtain ⟨y, _, rfl⟩ := List.mem_map.1 hu
    rfl
  · rintro e w' ⟨v', rfl, hown, _, hb⟩
    obtain ⟨hl, ⟨rfl, hz⟩ | ⟨g, c, cur, rfl, r⟩⟩ := hown
    · omega
    · exact ⟨g, c, rfl, ⟨hl, .inr ⟨g, c, cur, rfl, r⟩⟩, hb⟩
theorem Joa {Q Q' : Nat → Prop} (w : World) (o1 : Option Addr) (n c : Nat) (o2 : Option Addr) (d : Nat) (l r : List Nat) (h1 : Nums Q w (.slice o1 n c) (l.map Int.ofNat)) (h2 : Nums Q' w (.slice o2 n d) (r.map Int.ofNat)) (hn : n ≤ 200) :
    Calls Tryz.prog 179 #[.slice o1 n c, .slice o2 n d] w fun e w' => e = .returned (.bool (l == r)) ∧ Below w.heap.size w w' := by
  have l1 := Jf h1
  have l2 := Jf h2
  simp at l1 l2
  by_cases h0 : n = 0
  · subst h0
    have e1 : l = [] := List.eq_nil_of_length_eq_zero l1.symm
    have e2 : r = [] := List.eq_nil_of_length_eq_zero l2.symm
    subst e1 e2
    refine (Tryz.slices_Equal_int_empty o1 o2 c 0 d w (by omega)).mono ?_
    rintro e w' ⟨rfl, rfl⟩
    exact ⟨rfl, Below.refl _ _⟩
  · have p1 : 0 < (l.map Int.ofNat).length := by simp; omega
    have p2 : 0 < (r.map Int.ofNat).length := by simp; omega
    have p3 : n ≤ (l.map Int.ofNat).length := by simp; omega
    have p4 : n ≤ (r.map Int.ofNat).length := by simp; omega
    have p5 : (l.map Int.ofNat).length ≤ n := by simp; omega
    have p6 : (r.map Int.ofNat).length ≤ n := by simp; omega
    have p7 : n ≤ 9223372036854775807 := by omega
    obtain ⟨ao, cap, hv, _, hc, _⟩ := h1
    obtain ⟨b, off, rfl, _, _, hcell⟩ := hc p1
    injection hv with e1 e2 e3
    subst e1
    obtain ⟨ao2, cap2, hv2, _, hc2, _⟩ := h2
    obtain ⟨b2, off2, rfl, _, _, hcell2⟩ := hc2 p2
    injection hv2 with e1 e2 e3
    subst e1
    refine (Tryz.slices_Equal_int b off n c b2 off2 n d (l.map Int.ofNat) (r.map Int.ofNat) w p3 p4 p7 p7 (fun j hj => by rw [hcell j hj, List.getD_eq_getElem?_getD, List.getElem?_eq_getElem hj]; rfl) (fun j hj => by rw [hcell2 j hj, List.getD_eq_getElem?_getD, List.getElem?_eq_getElem hj]; rfl)).mono ?_
    rintro e w' ⟨rfl, q, rfl⟩
    refine ⟨?_, ⟨rfl, rfl, rfl, Nat.le_refl _, fun _ _ => rfl⟩⟩
    rw [List.take_of_length_le p5, List.take_of_length_le p6]
    congr 2
    rw [Bool.eq_iff_iff]
    simp only [beq_iff_eq]
    constructor
    · intro h
      exact List.map_inj_right (fun _ _ h => Int.ofNat.inj h) |>.1 h
    · rintro rfl
      rfl
end Go.Proofs.YtjobgpahajhbnabGreatDoor
namespace Go.Proofs.YtjobgpahajhbnabGreatDoor
open Go.RowKit Go.Proofs Go.Maps
attribute [local go_sem ↓] Go.wp_at_zero Go.wp_at_succ
theorem Tryz.enters122 : Enters Tryz.prog 122 := Go.Proofs.enters_of Tryz.func122 (by decide) rfl
def Kv (x : Int) (xs : List Int) : List Int := if 0 ≤ x then xs.take x.toNat ++ List.replicate (x.toNat - xs.length) 0 else List.replicate ((-x).toNat - xs.length) 0 ++ xs.drop (xs.length - (-x).toNat)
def Ni (a b : Arr) : Arr × Int := if a.shape.length ≠ 0 ∨ (Kq b).shape.length ≠ 1 then (eArr, 5) else if 64 < a.cells.headD 0 ∨ a.cells.headD 0 < -64 then (eArr, 9) else (⟨[(Kv (a.cells.headD 0) b.cells).length], Kv (a.cells.headD 0) b.cells⟩, 0)
theorem Jcq {w : World} {B g n : Nat} {e : TypeId} {xs : List Value} (h : w.ownsRow B e 1 (.slice (some ⟨g, 0, none⟩) n n) n xs) : w.heap[g]? = some (.cells xs.toArray e (0, 0)) ∧ xs.length = n := by
  obtain ⟨hl, ⟨h, _⟩ | ⟨g', cap, cur, hv, hg, hc, hn, hm, hz, ht⟩⟩ := h
  · cases h
  · injection hv with h1 h2 h3
    injection h1 with h1
    injection h1 with h1
    subst h1 h3
    have : cur = xs.toArray := by
      rw [← ht, List.take_of_length_le (by simp [hz])]
    subst this
    exact ⟨hc, by omega⟩
theorem Vi {P : Nat → Prop} {w : World} {g n : Nat} {e : TypeId} {L : List Int} (h : w.heap[g]? = some (.cells (L.map (Value.int .i64)).toArray e (0, 0))) (hn : n = L.length) (hP : P g) : Nums P w (.slice (some ⟨g, 0, none⟩) n n) L := by
  subst hn
  refine ⟨some ⟨g, 0, none⟩, L.length, rfl, Nat.le_refl _, fun _ => ⟨g, 0, rfl, hP, (Array.getElem?_eq_some_iff.1 h).1, fun i hi => ?_⟩, fun a h => by cases h; rfl⟩
  rw [Nat.zero_add]
  exact Fj h (by simp [hi])
theorem F7 {Q : Nat → Prop} {w w1 : World} {g off dLen dCap : Nat} {co : Option Addr} {cn cc m : Nat} {xs : List Int} {cur : List Value} (hg : w1.heap[g]? = some (.cells cur.toArray 2 (0, 0))) (hs : Nums Q w1 (.slice co cn cc) xs) (hm : Nat.min cn dLen = m) (hfit : off + m ≤ cur.length) (hb : Below w.heap.size w w1) (hBg : w.heap.size ≤ g) :
    ∃ w2, (Builtin.copy_ #[32, 32] 3 #[.slice (some ⟨g, off, none⟩) dLen dCap, .slice co cn cc]).run Tryz.prog w1 = .ok (.int .i64 (m : Int)) w2 ∧ w2.heap[g]? = some (.cells (splice cur off ((xs.take m).map (Value.int .i64))).toArray 2 (0, 0)) ∧ Below w.heap.size w w2 := by
  have hl := Jf hs
  by_cases h0 : m = 0
  · subst h0
    refine ⟨w1, run_copy_none (P := Tryz.prog) w1 32 32 3 2 _ _ dLen dCap cn cc Tryz.underlying32 Tryz.size2 hm, ?_, hb⟩
    rw [hg]
    simp [splice]
  · have hle : m ≤ cn := by rw [← hm]; exact Nat.min_le_left _ _
    obtain ⟨ao, cap, hv, hcap, h1, _⟩ := hs
    obtain ⟨b, o, rfl, _, hbl, hc⟩ := h1 (by omega)
    injection hv with e1 e2 e3
    subst e1
    have hcl : ((xs.take m).map (Value.int .i64)).length = m := by simp; omega
    have := F6 (w := w) (w1 := w1) (g := g) (off := off) (dLen := dLen) (dCap := dCap) (ad := ⟨b, o, none⟩) (sLen := cn) (sCap := cc) (cur := cur) (cs := (xs.take m).map (Value.int .i64)) hg (by rw [hcl, hm]) (by
      intro j v hv
      obtain ⟨hj, rfl⟩ := Z0 hv
      simp at hj
      have e : (⟨b, o, none⟩ : Addr).add j = ⟨b, o + j, none⟩ := by cases j <;> simp [Addr.add]
      rw [e, hc j (by omega)]
      simp) (by rw [hcl]; exact hfit) V4 hb hBg
    rw [hcl] at this
    exact this
theorem Jbg {n m : Nat} {xs : List Int} (hm : Nat.min xs.length n = m) : splice (List.replicate n (Value.int .i64 0)) 0 ((xs.take m).map (Value.int .i64)) = (Kv (n : Int) xs).map (Value.int .i64) := by
  have hm' : m = min xs.length n := hm.symm
  unfold splice Kv
  rw [if_pos (by omega)]
  have e : xs.take m = xs.take n := by
    rw [hm']
    by_cases h : xs.length ≤ n
    · rw [Nat.min_eq_left h, List.take_of_length_le (Nat.le_refl _), List.take_of_length_le h]
    · rw [Nat.min_eq_right (by omega)]
  rw [e]
  simp only [List.take_zero, List.nil_append, List.map_append, List.map_replicate, Int.toNat_natCast, List.drop_replicate, List.length_map, List.length_take]
  congr 2
  omega
theorem Xj {n m off : Nat} {xs : List Int} (hm : Nat.min n xs.length = m) (ho : m ≠ 0 → off = n - m) (hon : off ≤ n) (hx : 0 < n) : splice (List.replicate n (Value.int .i64 0)) off (((xs.drop (xs.length - m)).take m).map (Value.int .i64)) = (Kv (-(n : Int)) xs).map (Value.int .i64) := by
  have hm' : m = min n xs.length := hm.symm
  have hml : m ≤ xs.length := by omega
  unfold Kv
  rw [if_neg (by omega), Int.neg_neg, Int.toNat_natCast]
  have e : (xs.drop (xs.length - m)).take m = xs.drop (xs.length - n) := by
    have e1 : xs.length - m = xs.length - n := by omega
    rw [e1, List.take_of_length_le (by simp; omega)]
  rw [e]
  by_cases h0 : m = 0
  · have hxe : xs = [] := List.eq_nil_of_length_eq_zero (by omega)
    subst hxe
    simp [splice]
    omega
  · rw [ho h0]
    unfold splice
    have e2 : n - m = n - xs.length := by omega
    simp only [List.take_replicate, List.map_append, List.map_replicate, List.drop_replicate, List.length_map, List.length_drop]
    rw [show min (n - m) n = n - xs.length by omega, show n - (n - m + (xs.length - (xs.length - n))) = 0 by omega]
    simp
set_option maxHeartbeats 2000000 in
set_option maxRecDepth 20000 in
theorem Jl0 (w : World) : FnTwo 122 #[] w Ni := by
  intro W P u v a b _ hP ha hb hoa hob
  obtain ⟨so, sn, sc, co, cn, cc, rfl, ha1, ha2⟩ := ha
  obtain ⟨so2, sn2, sc2, co2, cn2, cc2, rfl, hb1, hb2⟩ := hb
  have hsn := Jf ha1
  simp at hsn
  have HSN := hide hsn
  have hS0 := St.start (P := P) (W := W) (a := a) (b := b) ⟨so, sn, sc, co, cn, cc, rfl, ha1, ha2⟩ ⟨so2, sn2, sc2, co2, cn2, cc2, rfl, hb1, hb2⟩
  obtain ⟨W1, hW1⟩ : ∃ W1, ((W.alloc (.cells #[.slice so sn sc, .slice co cn cc] 57)).alloc (.cells #[.slice so2 sn2 sc2, .slice co2 cn2 cc2] 57)).alloc (.cells #[.slice none 0 0, .slice none 0 0] 57) = W1 := ⟨_, rfl⟩
  rw [hW1] at hS0
  have HS0 := hide hS0
  have HOff : Hid (∀ w' : World, W.heap.size + 1 + 1 < w'.heap.size → ∀ b, w'.heap.size ≤ b → Off3 W.heap.size P b) := hide (fun w' h b hb => ⟨hP b (by omega), .inr (by omega)⟩)
  have HL := hide (Qx (Off3 W.heap.size P) W1 (Ja HOff W1 hS0.lt) so2 sn2 sc2 co2 cn2 cc2 b hS0.isB)
  have HScal := hide (fun w' => (Ji w' so sn sc co cn cc).mono (fun e w'' h => (⟨h.1, by rw [h.2]; exact ((Below.refl _ _).alloc (Nat.le_refl _) _).alloc (by simp) _⟩ : e = .returned (.bool ((sn : Int) == 0)) ∧ Below w'.heap.size w' w'')))
  have HP : Hid (∀ b, W.heap.size ≤ b → P b) := hP
  have HOA := hide hoa
  have HOB := hide (K7 hob)
  have HBC := hide (Kj b)
  obtain ⟨r, hr⟩ : ∃ r, Ni a b = r := ⟨_, rfl⟩
  simp only [hr]
  have HR := hide hr
  have b0' := hS0.b0
  have b1' := hS0.b1
  clear hP hoa hob ha1 ha2 hb1 hb2 hr hsn hS0
  go_enter Tryz.func122, Tryz.ntmps122
  go_wp2_with fail
  try rw [hW1]
  clear hW1 b0' b1'
  refine (Ja HL).mono ?_
  rintro e w2 ⟨s1, s2, s3, c1, c2, c3, rfl, hB2, hb2⟩
  have hS2 := (Ja HS0).keep hb2
  have hS3 := hS2.setB hB2
  have HS3 := hide hS3
  have HS2L := hide (Jc hB2)
  have x0 := hS2.a0
  have x1 := hS2.a1
  have x2 := hS2.b0
  have x3 := hS2.b1
  have y2 := hS2.fr (W.heap.size + 1) 0 (by omega) (by omega)
  have y3 := hS2.fr (W.heap.size + 1) 1 (by omega) (by omega)
  have n3 := hS2.lt
  have n1 : W.heap.size < w2.heap.size := by omega
  have n2 : W.heap.size + 1 < w2.heap.size := by omega
  clear hS2 hS3 hB2 hb2 HL HS0
  go_wp2_with fail
  obtain ⟨w3, hw3⟩ : ∃ w3, (w2.setCell ⟨W.heap.size + 1, 0, none⟩ (.slice s1 s2 s3)).setCell ⟨W.heap.size + 1, 1, none⟩ (.slice c1 c2 c3) = w3 := ⟨_, rfl⟩
  rw [hw3] at HS3 ⊢
  clear hw3 x0 x1 x2 x3 y2 y3 n1 n2 n3
  refine (Ja HScal _).mono ?_
  rintro e w4 ⟨rfl, hb4⟩
  have hS4 := (Ja HS3).keep hb4
  have HS4 := hide hS4
  have x0 := hS4.a0
  have x1 := hS4.a1
  have x2 := hS4.b0
  have x3 := hS4.b1
  have x4 := hS4.r0
  have x5 := hS4.r1
  have y4 := hS4.fr (W.heap.size + 1 + 1) 0 (by omega) (by omega)
  have y5 := hS4.fr (W.heap.size + 1 + 1) 1 (by omega) (by omega)
  have n3 := hS4.lt
  have n1 : W.heap.size < w4.heap.size := by omega
  have n2 : W.heap.size + 1 < w4.heap.size := by omega
  have HBz := hide hS4.below
  clear hS4 hb4 HS3 HScal
  by_cases hsc : sn = 0
  · have hsc' : ((sn : Int) == 0) = true := by rw [hsc]; rfl
    have HSC := hide hsc
    clear hsc
    go_wp2_with fail
    refine (Zs _ s1 s2 s3 c1 c2 c3).mono ?_
    rintro e w5 ⟨rfl, hw5⟩
    have hb5 : Below w4.heap.size w4 w5 := by rw [hw5]; exact ((Below.refl _ _).alloc (Nat.le_refl _) _).alloc (by simp) _
    clear hw5
    have hS5 := (Ja HS4).keep hb5
    have HS5 := hide hS5
    clear x0 x1 x2 x3 x4 x5 y4 y5 n1 n2 n3
    have x0 := hS5.a0
    have x1 := hS5.a1
    have x2 := hS5.b0
    have x3 := hS5.b1
    have x4 := hS5.r0
    have x5 := hS5.r1
    have y4 := hS5.fr (W.heap.size + 1 + 1) 0 (by omega) (by omega)
    have y5 := hS5.fr (W.heap.size + 1 + 1) 1 (by omega) (by omega)
    have n3 := hS5.lt
    have n1 : W.heap.size < w5.heap.size := by omega
    have n2 : W.heap.size + 1 < w5.heap.size := by omega
    have HBz := hide hS5.below
    clear hb5 HS4
    by_cases hrow : s2 = 1
    · have hrow' : ((s2 : Int) == 1) = true := by rw [hrow]; rfl
      have hash : a.shape = [] := List.eq_nil_of_length_eq_zero (by rw [← Ja HSN]; exact Ja HSC)
      obtain ⟨x, ab, ao, hax, hcn1, hco, _, hal, hac, hacc⟩ := Zo (Jq hS5.isA) (Ja HOA) hash
      subst hco
      have hBc := Jq hS5.isB
      rw [Ja HBC] at hBc
      have hc2 := Jf hBc
      obtain ⟨xs, hxs⟩ : ∃ xs, b.cells = xs := ⟨_, rfl⟩
      rw [hxs] at hBc hc2
      have hfew : xs.length ≤ 200 := by rw [← hxs, ← Kj b]; exact (Ja HOB).few
      have hr' : r = if 64 < x ∨ x < -64 then (eArr, 9) else (⟨[(Kv x xs).length], Kv x xs⟩, 0) := by
        rw [← Ja HR]
        unfold Ni
        rw [if_neg (by rw [hash, ← (Ja HS2L).2, hrow]; simp), hax, hxs]
        rfl
      have hx64 := (Ja HOA).fits x (by rw [hax]; simp)
      subst hcn1
      have HBC2 := hide hBc
      have hcc3 : c2 ≤ c3 := by
        obtain ⟨ao', cap', hv, hcap, _, _⟩ := hBc
        injection hv with e1 e2 e3
        omega
      clear hS5 hash hax hxs HBC HOB HOA HR HSC HS2L HSN hBc hrow
      have HC2 := hide hc2
      clear hc2
      have hx1 := hx64.1
      have hx2 := hx64.2
      obtain ⟨i0, hi, hz0, hz1, hz2⟩ := info_parts Tryz.info2
      have HI := hide hi
      have HZ0 := hide hz0
      have HZ1 := hide hz1
      have HZ2 := hide hz2
      clear hx64 hi hz0 hz1 hz2
      by_cases hb1 : 64 < x
      · rw [if_pos (Or.inl hb1)] at hr'
        subst hr'
        go_wp2_with fail
        exact bodyPost_ret (v := .tuple #[.agg #[.slice none 0 0, .slice none 0 0], .int .i64 9]) (by simp [results, Tryz.results122, go_sem, x4, x5]) rfl ⟨_, _, _, _, _, _, rfl, Yb _ _, (Yc (P := P) (Ja HBz) (Yb _ _)).2⟩
      · by_cases hb2 : x < -64
        · rw [if_pos (Or.inr hb2)] at hr'
          subst hr'
          go_wp2_with fail
          exact bodyPost_ret (v := .tuple #[.agg #[.slice none 0 0, .slice none 0 0], .int .i64 9]) (by simp [results, Tryz.results122, go_sem, x4, x5]) rfl ⟨_, _, _, _, _, _, rfl, Yb _ _, (Yc (P := P) (Ja HBz) (Yb _ _)).2⟩
        · rw [if_neg (by omega)] at hr'
          obtain ⟨ys, hys⟩ : ∃ ys, Kv x xs = ys := ⟨_, rfl⟩
          rw [hys] at hr'
          subst hr'
          have HYS := hide hys
          clear hys
          by_cases hx0 : 0 ≤ x
          · obtain ⟨n, rfl⟩ : ∃ n : Nat, x = n := ⟨x.toNat, by omega⟩
            have hn64 : n ≤ 64 := by omega
            go_wp2_with (at_make; refine wpList_make_full _ rfl _ _ 32 rfl w5.heap.size 2 i0 (.int .i64 0) 1 Tryz.underlying32 (Ja HI) (Ja HZ0) (Ja HZ1) .i64 .i64 n n n rfl rfl rfl rfl ?c1 ?c2 (Nat.le_refl _) ?_)
            case c1 => rw [Ja HZ2]; omega
            case c2 => unfold maxLen; omega
            intro w6 hown hgr
            have hzl := toList_madeCells_one (.int .i64 0) (n * 1)
            rw [Nat.mul_one] at hzl
            have hown' : w6.ownsRow w5.heap.size 2 1 (.slice (some ⟨w5.heap.size, 0, none⟩) n n) n (List.replicate n (.int .i64 0)) := by
              rw [← hzl]
              simpa using hown
            obtain ⟨hg6, -⟩ := Jcq hown'
            have hb6 : Below w5.heap.size w5 w6 := (Below.refl _ _).grown hgr (Nat.le_refl _) (fun _ h => by cases h)
            obtain ⟨m, hm⟩ : ∃ m, Nat.min c2 n = m := ⟨_, rfl⟩
            obtain ⟨w7, hrun, hg7, hb7⟩ := F7 (w := w5) (w1 := w6) (g := w5.heap.size) (off := 0) (dLen := n) (dCap := n) (m := m) hg6 ((Ja HBC2).below hb6) hm (by have : Nat.min c2 n ≤ n := Nat.min_le_right _ _; simp; omega) hb6 (Nat.le_refl _)
            have hS6 := (Ja HS5).keep hb6
            have hS7 := (Ja HS5).keep hb7
            rw [Jbg (by rw [← Ja HC2]; exact hm), Ja HYS] at hg7
            have hyl : n = ys.length := by
              rw [← Ja HYS]
              unfold Kv
              rw [if_pos hx0]
              simp
              omega
            have HN7 : Hid (Nums (Off3 W.heap.size P) w7 (.slice (some ⟨w5.heap.size, 0, none⟩) n n) ys) := hide (Vi hg7 hyl (Ja HOff w5 n3 _ (Nat.le_refl _)))
            have n7 := hb7.size
            have HRW := hide (Zp (Off3 W.heap.size P) w7 (Ja HOff w7 (by omega)) _ ys (Ja HN7))
            have HS7 := hide hS7
            clear x0 x1 x2 x3 x4 x5 y4 y5
            have x2 := hS6.b0
            have x3 := hS6.b1
            have n6 := hS6.lt
            have n61 : W.heap.size + 1 < w6.heap.size := by omega
            clear hzl hown hown' hg6 hb6 hS6 hS7 hg7 hb7 hm hgr hyl HYS HN7 HBC2 HS5 hac
            go_wp2_with fail
            refine (Ja HRW).mono ?_
            rintro e w8 ⟨t1, t2, t3, u1, u2, u3, rfl, hA8, hb8⟩
            have hS8 := (Ja HS7).keep hb8
            have HA8 := hide hA8
            have q4 := hS8.r0
            have q5 := hS8.r1
            have z4 := hS8.fr (W.heap.size + 1 + 1) 0 (by omega) (by omega)
            have z5 := hS8.fr (W.heap.size + 1 + 1) 1 (by omega) (by omega)
            have n8 := hS8.lt
            have HB8 := hide hS8.below
            clear hS8 hA8 hb8 HRW HS7 x2 x3
            go_wp2_with fail
            exact bodyPost_ret (v := .tuple #[.agg #[.slice t1 t2 t3, .slice u1 u2 u3], .int .i64 0]) (by simp [results, Tryz.results122, go_sem, q4, q5]) rfl ⟨_, _, _, _, _, _, rfl, (Yc (Ja HB8) (Ja HA8)).1, (Yc (Ja HB8) (Ja HA8)).2⟩
          · obtain ⟨n, hxn⟩ : ∃ n : Nat, -x = n := ⟨(-x).toNat, by omega⟩
            have hn64 : n ≤ 64 := by omega
            have hn0 : 0 < n := by omega
            have hx0' : x < 0 := by omega
            have hxe : x = -(n : Int) := by omega
            have HXE := hide hxe
            have hni : (0 : Int) ≤ (n : Int) := by omega
            have hng : IntKind.i64.wrap (-x) = (n : Int) := by
              rw [hxn]
              exact Jd (by omega) (by omega)
            clear hxe hxn
            go_wp2_with (at_make; refine wpList_make_full _ rfl _ _ 32 rfl w5.heap.size 2 i0 (.int .i64 0) 1 Tryz.underlying32 (Ja HI) (Ja HZ0) (Ja HZ1) .i64 .i64 n n n rfl rfl rfl rfl ?c1 ?c2 (Nat.le_refl _) ?_)
            case c1 => rw [Ja HZ2]; omega
            case c2 => unfold maxLen; omega
            intro w6 hown hgr
            have hzl := toList_madeCells_one (.int .i64 0) (n * 1)
            rw [Nat.mul_one] at hzl
            have hown' : w6.ownsRow w5.heap.size 2 1 (.slice (some ⟨w5.heap.size, 0, none⟩) n n) n (List.replicate n (.int .i64 0)) := by
              rw [← hzl]
              simpa using hown
            obtain ⟨hg6, -⟩ := Jcq hown'
            have hb6 : Below w5.heap.size w5 w6 := (Below.refl _ _).grown hgr (Nat.le_refl _) (fun _ h => by cases h)
            have hS6 := (Ja HS5).keep hb6
            have HS6 := hide hS6
            have HG6 := hide hg6
            have HB6 := hide hb6
            clear x0 x1 x2 x3 x4 x5 y4 y5
            have x2 := hS6.b0
            have x3 := hS6.b1
            have n6 := hS6.lt
            have n61 : W.heap.size + 1 < w6.heap.size := by omega
            obtain ⟨th, hth⟩ : ∃ th, Nat.min n c2 = th := ⟨_, rfl⟩
            have hth' : min n c2 = th := hth
            have hmin : min (n : Int) (c2 : Int) = (th : Int) := by omega
            have htn : th ≤ n := by omega
            have htc : th ≤ c2 := by omega
            have HTH := hide hth
            clear hzl hown hown' hg6 hb6 hS6 hgr hac hth hth'
            go_wp2_with (go_at_call 76; refine (J2 _ s1 s2 s3 c1 c2 c3).mono ?_; rintro e w7 ⟨rfl, hw7⟩; have hb7 : Below w6.heap.size w6 w7 := (by rw [hw7]; exact (Below.refl _ _).alloc (Nat.le_refl _) _); clear hw7; have hS7 := (Ja HS6).keep hb7; have X2 := hS7.b0; have X3 := hS7.b1; have N7 := hS7.lt)
            have HB7 : Hid (Below w5.heap.size w5 w7) := hide ((Ja HB6).trans (hb7.mono (Ja HB6).size))
            have n56 := (Ja HB6).size
            have HG7 : Hid (w7.heap[w5.heap.size]? = some (.cells (List.replicate n (Value.int .i64 0)).toArray 2 (0, 0))) := hide ((hb7.block _ (Array.getElem?_eq_some_iff.1 (Ja HG6)).1).trans (Ja HG6))
            have hg7l : w5.heap.size < w7.heap.size := (Array.getElem?_eq_some_iff.1 (Ja HG7)).1
            have HN7 := hide ((Ja HBC2).below (Ja HB7))
            have N71 : W.heap.size + 1 < w7.heap.size := by omega
            obtain ⟨p, hp⟩ : ∃ p, n - th = p := ⟨_, rfl⟩
            obtain ⟨q, hq⟩ : ∃ q, c2 - th = q := ⟨_, rfl⟩
            have hc2l : c2 ≤ 200 := by rw [Ja HC2]; exact hfew
            have hp0 : (0 : Int) ≤ (p : Int) := by omega
            have hp1 : (p : Int) ≤ (n : Int) := by omega
            have hq0 : (0 : Int) ≤ (q : Int) := by omega
            have hq1 : (q : Int) ≤ (c2 : Int) := by omega
            have hpn : p ≤ n := by omega
            have hqn : q ≤ c2 := by omega
            obtain ⟨off, hoff, hoff1, hoff2⟩ : ∃ off : Nat, (if n = p then some (⟨w5.heap.size, 0, none⟩ : Addr) else some ⟨w5.heap.size, p, none⟩) = some ⟨w5.heap.size, off, none⟩ ∧ off + th ≤ n ∧ (th ≠ 0 → off = n - th) := by
              by_cases e : n = p
              · exact ⟨0, if_pos e, by omega, fun h => by omega⟩
              · exact ⟨p, if_neg e, by omega, fun h => hp.symm⟩
            have HPQ := hide (And.intro hp hq)
            have HOF := hide (And.intro hoff1 hoff2)
            have hyl : n = ys.length := by
              rw [← Ja HYS, Ja HXE]
              unfold Kv
              rw [if_neg (by omega)]
              simp
              omega
            have HYL := hide hyl
            have hw1 : IntKind.i64.wrap ((n : Int) - (th : Int)) = (p : Int) := by
              have e : (n : Int) - (th : Int) = (p : Int) := by omega
              rw [e]
              exact Jd hp0 (by omega)
            have hw2 : IntKind.i64.wrap ((c2 : Int) - (th : Int)) = (q : Int) := by
              have e : (c2 : Int) - (th : Int) = (q : Int) := by omega
              rw [e]
              exact Jd hq0 (by omega)
            have HHH := hide hS7
            clear hp hq hoff1 hoff2 hyl hb7 HB6 HG6 HBC2 HS6 x2 x3 n6 n61 hS7 hng hmin hx0' hx1 hx2 hfew
            have hcop : Hid (Nat.min (c2 - q) (n - p) = th) := hide (by
              have := Ja HPQ
              have h2 : Nat.min n c2 = th := Ja HTH
              have h3 : min n c2 = th := h2
              show min (c2 - q) (n - p) = th
              omega)
            rcases c1 with _ | ⟨cb, coff, spot⟩
            · obtain ⟨ao', cap', hv, hcap, h1, _⟩ := Ja HN7
              have hz : xs.length = 0 := by
                by_cases h : 0 < xs.length
                · obtain ⟨b', off', e1, _⟩ := h1 h
                  injection hv with e2
                  rw [e1] at e2
                  cases e2
                · omega
              have hc0 : c2 = 0 := by rw [Ja HC2]; exact hz
              subst hc0
              have ht0 : th = 0 := by omega
              subst ht0
              have hq0' : q = 0 := by omega
              subst hq0'
              have hpe : n = p := by have := (Ja HPQ).1; omega
              subst hpe
              have hw3 : IntKind.i64.wrap (n : Int) = (n : Int) := Jd hp0 (by omega)
              have HNS : Hid (Nums (Off3 W.heap.size P) w7 (.slice none 0 c3) []) := hide ⟨_, _, rfl, by simp, fun h => absurd h (by simp), fun a h => by cases h⟩
              have hfin : Hid (splice (List.replicate n (Value.int .i64 0)) 0 ((([] : List Int).take 0).map (Value.int .i64)) = ys.map (Value.int .i64)) := hide (by
                rw [← Ja HYS, Ja HXE, List.eq_nil_of_length_eq_zero hz]
                have := Xj (n := n) (m := 0) (off := 0) (xs := []) (by simp) (by simp) (by omega) hn0
                simpa using this)
              clear hv hcap h1 hz hw1 hw2 hoff
              go_region_with (go_at_call 76; refine (J2 _ s1 s2 s3 none 0 c3).mono ?_; rintro e w8 ⟨rfl, hw8⟩; have hb8 : Below w7.heap.size w7 w8 := (by rw [hw8]; exact (Below.refl _ _).drew.alloc (by simp) _); clear hw8; have hb58 := (Ja HB7).trans (hb8.mono (Ja HB7).size); obtain ⟨w9, hrun, hg9, hb9⟩ := F7 (w := w5) (w1 := w8) (g := w5.heap.size) (off := 0) (dLen := 0) (dCap := 0) (m := 0) ((hb8.block w5.heap.size hg7l).trans (Ja HG7)) ((Ja HNS).below hb8) rfl (by simp) hb58 (Nat.le_refl _); have HG9 := hide hg9; have HB9 := hide hb9; clear hg9 hb9 hb58; have n8 := hb8.size; have X2' := (hb8.cell (p := ⟨W.heap.size + 1, 0, none⟩) N71).trans X2; have X3' := (hb8.cell (p := ⟨W.heap.size + 1, 1, none⟩) N71).trans X3; clear hb8)
              all_goals
                have hS9 := (Ja HS5).keep (Ja HB9)
                have HN9 : Hid (Nums (Off3 W.heap.size P) w9 (.slice (some ⟨w5.heap.size, 0, none⟩) n n) ys) := hide (Vi (by rw [← Ja hfin]; exact Ja HG9) (Ja HYL) (Ja HOff w5 n3 _ (Nat.le_refl _)))
                have n9 := (Ja HB9).size
                have HRW := hide (Zp (Off3 W.heap.size P) w9 (Ja HOff w9 (by omega)) _ ys (Ja HN9))
                have HS9 := hide hS9
                clear hS9 HN9 HG9 HB9 hfin HNS X2 X3 X2' X3' hrun
                go_wp2_with fail
                refine (Ja HRW).mono ?_
                rintro e wz ⟨t1, t2, t3, u1, u2, u3, rfl, hA8, hb8⟩
                have hS8 := (Ja HS9).keep hb8
                have HA8 := hide hA8
                have q4 := hS8.r0
                have q5 := hS8.r1
                have z4 := hS8.fr (W.heap.size + 1 + 1) 0 (by omega) (by omega)
                have z5 := hS8.fr (W.heap.size + 1 + 1) 1 (by omega) (by omega)
                have nz := hS8.lt
                have HB8 := hide hS8.below
                clear hS8 hA8 hb8 HRW HS9
                go_wp2_with fail
                exact bodyPost_ret (v := .tuple #[.agg #[.slice t1 t2 t3, .slice u1 u2 u3], .int .i64 0]) (by simp [results, Tryz.results122, go_sem, q4, q5]) rfl ⟨_, _, _, _, _, _, rfl, (Yc (Ja HB8) (Ja HA8)).1, (Yc (Ja HB8) (Ja HA8)).2⟩
            · have hsp : spot = none := by
                obtain ⟨ao', cap', hv, hcap, h1, h2⟩ := Ja HN7
                injection hv with e2
                exact h2 _ e2.symm
              subst hsp
              obtain ⟨ad, had⟩ : ∃ ad : Option Addr, (if c3 = q then some ⟨cb, coff, none⟩ else some ⟨cb, coff + q, none⟩) = ad := ⟨_, rfl⟩
              have HNS : Hid (Nums (Off3 W.heap.size P) w7 (.slice ad (c2 - q) (c3 - q)) (xs.drop q)) := hide (by
                rw [← had]
                exact Zx (Ja HN7) hqn)
              have hfin : Hid (splice (List.replicate n (Value.int .i64 0)) off (((xs.drop q).take th).map (Value.int .i64)) = ys.map (Value.int .i64)) := hide (by
                rw [← Ja HYS, Ja HXE]
                have e : q = xs.length - th := by rw [← Ja HC2]; exact (Ja HPQ).2.symm
                rw [e]
                exact Xj (by rw [← Ja HC2]; exact Ja HTH) (Ja HOF).2 (by have := (Ja HOF).1; omega) hn0)
              go_region_with (go_at_call 76; refine (J2 _ s1 s2 s3 (some ⟨cb, coff, none⟩) c2 c3).mono ?_; rintro e w8 ⟨rfl, hw8⟩; have hb8 : Below w7.heap.size w7 w8 := (by rw [hw8]; exact (Below.refl _ _).drew.alloc (by simp) _); clear hw8; have hb58 := (Ja HB7).trans (hb8.mono (Ja HB7).size); obtain ⟨w9, hrun, hg9, hb9⟩ := F7 (w := w5) (w1 := w8) (g := w5.heap.size) (off := off) (dLen := n - p) (dCap := n - p) (m := th) ((hb8.block w5.heap.size hg7l).trans (Ja HG7)) ((Ja HNS).below hb8) (Ja hcop) (by simpa using (Ja HOF).1) hb58 (Nat.le_refl _); have HG9 := hide hg9; have HB9 := hide hb9; clear hg9 hb9 hb58; have n8 := hb8.size; have X2' := (hb8.cell (p := ⟨W.heap.size + 1, 0, none⟩) N71).trans X2; have X3' := (hb8.cell (p := ⟨W.heap.size + 1, 1, none⟩) N71).trans X3; clear hb8)
              all_goals
                have hS9 := (Ja HS5).keep (Ja HB9)
                have HN9 : Hid (Nums (Off3 W.heap.size P) w9 (.slice (some ⟨w5.heap.size, 0, none⟩) n n) ys) := hide (Vi (by rw [← Ja hfin]; exact Ja HG9) (Ja HYL) (Ja HOff w5 n3 _ (Nat.le_refl _)))
                have n9 := (Ja HB9).size
                have HRW := hide (Zp (Off3 W.heap.size P) w9 (Ja HOff w9 (by omega)) _ ys (Ja HN9))
                have HS9 := hide hS9
                clear hS9 HN9 HG9 HB9 hfin HNS X2 X3 X2' X3' hrun
                go_wp2_with fail
                refine (Ja HRW).mono ?_
                rintro e wz ⟨t1, t2, t3, u1, u2, u3, rfl, hA8, hb8⟩
                have hS8 := (Ja HS9).keep hb8
                have HA8 := hide hA8
                have q4 := hS8.r0
                have q5 := hS8.r1
                have z4 := hS8.fr (W.heap.size + 1 + 1) 0 (by omega) (by omega)
                have z5 := hS8.fr (W.heap.size + 1 + 1) 1 (by omega) (by omega)
                have nz := hS8.lt
                have HB8 := hide hS8.below
                clear hS8 hA8 hb8 HRW HS9
                go_wp2_with fail
                exact bodyPost_ret (v := .tuple #[.agg #[.slice t1 t2 t3, .slice u1 u2 u3], .int .i64 0]) (by simp [results, Tryz.results122, go_sem, q4, q5]) rfl ⟨_, _, _, _, _, _, rfl, (Yc (Ja HB8) (Ja HA8)).1, (Yc (Ja HB8) (Ja HA8)).2⟩
    · have hrow' : ((s2 : Int) == 1) = false := by rw [beq_eq_false_iff_ne]; omega
      have hr' : r = (eArr, 5) := by
        rw [← Ja HR]
        unfold Ni
        rw [if_pos (Or.inr (by rw [← (Ja HS2L).2]; exact hrow))]
      subst hr'
      clear hS5 hrow
      go_wp2_with fail
      exact bodyPost_ret (v := .tuple #[.agg #[.slice none 0 0, .slice none 0 0], .int .i64 5]) (by simp [results, Tryz.results122, go_sem, x4, x5]) rfl ⟨_, _, _, _, _, _, rfl, Yb _ _, (Yc (P := P) (Ja HBz) (Yb _ _)).2⟩
  · have hsc' : ((sn : Int) == 0) = false := by rw [beq_eq_false_iff_ne]; omega
    have hr' : r = (eArr, 5) := by
      rw [← Ja HR]
      unfold Ni
      rw [if_pos (Or.inl (by rw [← Ja HSN]; exact hsc))]
    subst hr'
    clear hsc
    go_wp2_with fail
    exact bodyPost_ret (v := .tuple #[.agg #[.slice none 0 0, .slice none 0 0], .int .i64 5]) (by simp [results, Tryz.results122, go_sem, x4, x5]) rfl ⟨_, _, _, _, _, _, rfl, Yb _ _, (Yc (P := P) (Ja HBz) (Yb _ _)).2⟩
theorem Jfd {x : Int} (h : ¬ (64 < x ∨ x < -64)) (xs : List Int) : (Kv x xs).length ≤ 64 := by
  unfold Kv
  split
  · simp; omega
  · simp; omega
theorem Jfc {x : Int} {xs : List Int} (hf : ∀ c ∈ xs, Jg c) : ∀ c ∈ Kv x xs, Jg c := by
  intro c h
  unfold Kv at h
  split at h
  · rcases List.mem_append.1 h with h | h
    · exact hf c (List.mem_of_mem_take h)
    · rw [(List.mem_replicate.1 h).2]; unfold Jg; omega
  · rcases List.mem_append.1 h with h | h
    · rw [(List.mem_replicate.1 h).2]; unfold Jg; omega
    · exact hf c (List.mem_of_mem_drop h)
theorem Jix : TwoC ⟨#[116, 97, 107, 101]⟩ Ni := ⟨fun w => (Z3 (t := ⟨#[116, 97, 107, 101]⟩) (k1 := .string [97, 107, 101]) (k2 := .string [116, 97, 107, 101]) (f := 122) (by decide) (by kernel_rfl) (by kernel_rfl) (by kernel_rfl) (by kernel_rfl) (by kernel_rfl) w).mono (by rintro e w' ⟨rfl, hb⟩; exact ⟨122, #[], rfl, Tryz.enters122, hb, Jl0 w'⟩), fun a b ha hb => by
  unfold Ni
  split
  · exact ⟨by simp [eArr], fun h => absurd h (by decide)⟩
  · split
    · exact ⟨by simp [eArr], fun h => absurd h (by decide)⟩
    · rename_i h1 h2
      have hl := Jfd h2 b.cells
      exact ⟨by show (Kv _ _).length ≤ 200; omega, fun _ => ⟨by simp, fun n hn => by rw [List.mem_singleton.1 hn]; omega, by simp [Jj], by show (Kv _ _).length ≤ 200; omega, Jfc hb.fits⟩⟩⟩
end Go.Proofs.YtjobgpahajhbnabGreatDoor
