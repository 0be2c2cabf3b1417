import Derived.Test.YtjobgpahajhbnabGreatDoorOe
import Derived.Maps.AppendAt
import Derived.Test.YtjobgpahajhbnabGreatDoorJc
import Derived.Test.YtjobgpahajhbnabGreatDoorKg
import Derived.Test.YtjobgpahajhbnabGreatDoorFa
import Derived.Test.YtjobgpahajhbnabGreatDoorOa
import Derived.KernelRfl
import Derived.Laws.AppendOwnNone
import Derived.BigQuiet
namespace Go.Proofs.YtjobgpahajhbnabGreatDoor
open Go.RowKit Go.Proofs Go.Maps
attribute [local go_sem ↓] Go.wp_at_zero Go.wp_at_succ
set_option maxHeartbeats 2000000 in
set_option maxRecDepth 20000 in
theorem Jja {F : Int} {S : Nat → Prop} {env : ByteArray → Option Arr} {db N : Nat} (h0 : 0 ≤ F) (hF : F ≤ 1000) (he : EnvOk env) (w : World) (ao : Option Addr) (n cap : Nat) (ls : List ByteArray) (hn : ls.length = n) (hn50 : n ≤ 50) (hN : N + n < 1000)
    (hm : ∀ s ∈ ls, s.size ≤ 9223372036854775807) (hT : Txts (fun b => 6 ≤ b → S b) w ao ls) (hD : DkF F S db env N w) :
    Calls Tryz.prog 9 #[.pointer (some ⟨db, 0, none⟩), .slice ao n cap] w fun e w' => ∃ v T, e = .returned v ∧ (∀ b, S b → T b) ∧ DkF F T db (Yv F env ls) (N + n) w' ∧ KeepS S w w' ∧ Reps T w.heap.size w' v (Ze F env ls) := by
  obtain ⟨i0, hi, hz0, hz1, hz2⟩ := info_parts Tryz.info34
  have HR : Hid (∀ (k : Nat) (hk : k < ls.length) (T : Nat → Prop) (wr : World), DkF F T db (Yv F env (ls.take k)) (N + k) wr → Calls Tryz.prog 20 #[.pointer (some ⟨db, 0, none⟩), .string ls[k]] wr (RepO F T db (Yv F env (ls.take (k + 1))) (N + k + 1) wr (ansR (Yv F env (ls.take k)) F ls[k]))) := hide (fun k hk T wr hd => by
    have := Jga h0 hF (Q3 h0 (ls.take k) env he) (by omega) (hm _ (List.getElem_mem hk)) wr hd
    rw [List.take_succ_eq_append_getElem hk, Vo]
    exact this)
  have HT := hide hT
  have HD := hide hD
  have HI := hide hi
  have HZ0 := hide hz0
  have HZ1 := hide hz1
  have HZ2 := hide hz2
  have HSl : Hid (∀ b, S b → b < w.heap.size) := hide (fun b h => (hD.lt h).2.1)
  clear hT hD hi hz0 hz1 hz2 hm he h0 hF
  subst hn
  have hnI : (ls.length : Int) ≤ 50 := by omega
  go_enter Tryz.func9, Tryz.ntmps9
  go_wp2_with fail
  go_loopw [5, 17] (fun v i wr => ∃ k : Nat, i = .int .i64 k ∧ k ≤ ls.length ∧ ∃ T : Nat → Prop, (∀ b, S b → T b) ∧ DkF F T db (Yv F env (ls.take k)) (N + k) wr ∧ KeepS S w wr ∧ Reps T w.heap.size wr v (Ze F env (ls.take k))) (fun _ i _ => ls.length - (intOf i).toNat)
  case atStart => exact ⟨0, rfl, Nat.zero_le _, S, fun _ h => h, Ja HD, KeepS.of (Below.refl _ _), Jji _ _ _⟩
  case round =>
    obtain ⟨k, rfl, hk, T, hST, hd, hks, hrp⟩ := hrel
    have HKS := hide hks
    have HST := hide hST
    have HDk := hide hd
    have hwr : w.heap.size ≤ wr.heap.size := Bs.size hks
    by_cases hkl : k < ls.length
    · obtain ⟨lb, lo, rfl, hP, hlb, hcell⟩ := Ja HT (by omega)
      have hc : wr.cell? ⟨lb, lo + k, none⟩ = some (.string ls[k]) := (hks.lowc (b := lb) (o := lo + k) hlb hP).trans (hcell k hkl)
      have HC := hide (Ja HR k hkl T wr hd)
      obtain ⟨xs, hxl, hown, hob, hnum⟩ := hrp
      have hrl : (Ze F env (ls.take k)).length = k := by rw [Vb]; simp; omega
      have HTk : Hid (Ze F env (ls.take (k + 1)) = Ze F env (ls.take k) ++ [ansR (Yv F env (ls.take k)) F ls[k]]) := hide (by rw [List.take_succ_eq_append_getElem hkl, Fa])
      obtain ⟨s, hs⟩ : ∃ s, ls[k] = s := ⟨_, rfl⟩
      rw [hs] at hc HC HTk
      obtain ⟨r, hr⟩ : ∃ r, ansR (Yv F env (ls.take k)) F s = r := ⟨_, rfl⟩
      rw [hr] at HC HTk
      obtain ⟨rs, hrs⟩ : ∃ rs, Ze F env (ls.take k) = rs := ⟨_, rfl⟩
      rw [hrs] at HTk hxl hown hnum hrl
      have HOwn := hide hown
      have HOb := hide hob
      have HNum := hide hnum
      have HXl := hide hxl
      have HRl := hide hrl
      have hk0 : (0 : Int) ≤ (k : Int) := by omega
      have hk1 : (k : Int) < (ls.length : Int) := by omega
      clear hks hST hd hP hcell hown hob hnum hxl hrl hr hrs hs HR
      go_wp2_with fail
      refine (Ja HC).mono ?_
      rintro e w1 ⟨m, so, sn, sc, co, cn, cc, hwm, rfl, n1, n2, hd1, hk1'⟩
      have hs1 := Bs.size hk1'
      have HO1 : Hid (w1.ownsRow w.heap.size 34 5 u5 rs.length (rowC rs xs)) := hide (Nu (Ja HOwn) (fun g hg => hk1'.block ((Ja HOwn).lt g hg).2 (Ja HOb g hg)))
      have HN1 := hide n1
      have HN2 := hide n2
      have HD1 := hide hd1
      have HK1 := hide hk1'
      have HRl2 := Ja HRl
      clear n1 n2 hd1 hk1' HC
      go_wp2_with (at_builtin; refine wpList_append_own_at _ rfl _ _ 28 rfl w.heap.size 34 i0 (.agg #[.int .i64 0, .int .i64 0, .slice none 0 0, .slice none 0 0, .int .i64 0]) 5 72 Tryz.underlying28 (Ja HI) (Ja HZ0) (Ja HZ1) (Ja HZ2) rfl (by decide) _ _ _ rfl ((Ja HO1).alloc _) ⟨w1.heap.size, 0, none⟩ 1 1 [.int .i64 r.er, .int .i64 r.at_, .slice so sn sc, .slice co cn cc, .int .i64 r.cost] rfl rfl ?c1 ?c2 ?c3 ?c4 ?c5 ?_)
      case c1 =>
        intro j u hj
        match j, hj with
        | 0, hj => simp at hj; subst hj; simp [Addr.add]
        | 1, hj => simp at hj; subst hj; simp [Addr.add]
        | 2, hj => simp at hj; subst hj; simp [Addr.add]
        | 3, hj => simp at hj; subst hj; simp [Addr.add]
        | 4, hj => simp at hj; subst hj; simp [Addr.add]
      case c2 => intro u hu; simp at hu; rcases hu with rfl | rfl | rfl | rfl | rfl <;> rfl
      case c3 => unfold maxLen; omega
      case c4 => omega
      case c5 => simp; omega
      · intro v' w2 hown2 hgrow _ hat
        have hbW : Below w1.heap.size w1 (w1.alloc (.cells #[.int .i64 r.er, .int .i64 r.at_, .slice so sn sc, .slice co cn cc, .int .i64 r.cost] 34)) := (Below.refl _ _).alloc (Nat.le_refl _) _
        have HRS := hide (Jf7 (x := ⟨so, sn, sc, co, cn, cc⟩) hwr hwm hs1 (Ja HXl) (Ja HOwn) (Ja HOb) (Ja HNum) (fun b hb hl => (Ja HK1).block hl hb) (Ja HN1) (Ja HN2) hbW hgrow (by rw [Ja HRl]; exact hown2) (by simpa using hat))
        have HDG := hide ((Ja HD1).grown hbW hgrow (fun g hg => Or.inl (Ja HOb g hg)))
        have HKG : Hid (KeepS S w w2) := hide (Bs.grown (((Ja HKS).trans (Ja HK1) (fun b _ h => Ja HST b h))) hbW hgrow (fun g hg => ((Ja HOwn).lt g hg).1))
        clear hown2 hgrow hat hbW
        go_wp2_with fail
        go_roundw
        case rel => exact ⟨k + 1, by go_num, by omega, _, fun b h => Or.inl (Or.inl (Ja HST b h)), Ja HDG, Ja HKG, by rw [Ja HTk]; exact Ja HRS⟩
        case measure => simp [intOf]; omega
    · have hke : k = ls.length := by omega
      subst hke
      have HRP := hide hrp
      clear hks hST hd hrp
      go_wp2_with fail
      refine bodyPost_ret (v := u5) (by simp [results, Tryz.results9, go_sem]) rfl ⟨u5, T, rfl, Ja HST, ?_, Ja HKS, ?_⟩
      · have := Ja HDk
        rw [List.take_length] at this
        exact this
      · have := Ja HRP
        rw [List.take_length] at this
        exact this
end Go.Proofs.YtjobgpahajhbnabGreatDoor
namespace Go.Proofs.YtjobgpahajhbnabGreatDoor
open Go.RowKit Go.Proofs Go.Maps
attribute [local go_sem ↓] Go.wp_at_zero Go.wp_at_succ
theorem Jjt {w : World} {B B' : Nat} {t : TypeId} {size : Nat} {v : Value} {n : Nat} {xs : List Value} (h : w.ownsRow B t size v n xs) (hb : B' ≤ B) : w.ownsRow B' t size v n xs := by
  obtain ⟨hl, h0 | ⟨g, cap, cur, e, hg, r⟩⟩ := h
  · exact ⟨hl, Or.inl h0⟩
  · exact ⟨hl, Or.inr ⟨g, cap, cur, e, Nat.le_trans hb hg, r⟩⟩
theorem Jmd {F : Int} {S : Nat → Prop} {db : Nat} {env : ByteArray → Option Arr} {N : Nat} {w : World} (hD : DkF F S db env N w) {n : Nat} {ks : List (List UInt8)} (hk : Ks env n ks) (hso : ks.mergeSort leB = ks) (hn : n ≤ 1000) :
    Calls Tryz.prog 10 #[.pointer (some ⟨db, 0, none⟩)] w fun e w' => ∃ v, e = .returned v ∧ w'.ownsRow w.heap.size 9 1 v ks.length (ks.map encStr) ∧ Below w.heap.size w w' := by
  have hfew := hk.few
  obtain ⟨X, mo, h1, h2, h3⟩ := hD
  have hm := h1.map
  have c1 := h1.c1
  cases mo with
  | none =>
    have hks : ks = [] := by
      cases ks with
      | nil => rfl
      | cons x r =>
        have hx := (hk.mem x).1 (by simp)
        rw [hm] at hx
        cases hx
    subst hks
    refine (Jd9 db w c1).mono ?_
    rintro e w' ⟨rfl, hb⟩
    exact ⟨_, rfl, World.ownsRow_nil _ _ _ _, hb⟩
  | some mb =>
    obtain ⟨_, _, _, D, hown, hH⟩ := hm
    have hC : Collected D (fun _ => false) ks := ⟨hk.nd, fun x => by
      rw [hk.mem x]
      have hx := hH.2 ⟨List.toArray x⟩
      have hk' : keyT ⟨List.toArray x⟩ = .string x := by simp [keyT]
      cases he : env ⟨List.toArray x⟩ with
      | none => rw [he] at hx; rw [hk'] at hx; simp [hx]
      | some a => rw [he] at hx; obtain ⟨v, hv, _⟩ := hx; rw [hk'] at hv; simp [hv]⟩
    have hP := hC.perm hown (Maps.string_keyed Tryz.underlying9) Tryz.underlying9 (fun _ => rfl)
    have hsz : Maps.size D = ks.length := by
      obtain ⟨es, rfl⟩ := hH.1
      rw [hP.length_eq]
      simp [strKeys, size_eq]
    refine (Jg2 db mb N D Jm w c1 hown (by rw [hsz]; unfold maxLen; omega) (by rw [hsz]; omega)).mono ?_
    rintro e w' ⟨v, ss, rfl, hS, hrow, hb⟩
    have hl : ss.length = ks.length := (hS.trans hP.symm).length_eq
    have hms : ss.mergeSort leB = ks := (mergeSort_of_perm (hS.trans hP.symm)).trans hso
    have hrow' : w'.ownsRow (w.heap.size + 1) 9 1 v ss.length (ks.map encStr) := by
      rw [← hms]
      exact hrow
    rw [hl] at hrow'
    exact ⟨v, rfl, Jjt hrow' (by omega), hb⟩
end Go.Proofs.YtjobgpahajhbnabGreatDoor
namespace Go.Proofs.YtjobgpahajhbnabGreatDoor
open Go.RowKit Go.Proofs Go.Maps
attribute [local go_sem ↓] Go.wp_at_zero Go.wp_at_succ
theorem Reps.mono {T U : Nat → Prop} {B : Nat} {w : World} {v : Value} {rs : List Rp} (h : Reps T B w v rs) (hU : ∀ b, T b → B ≤ b → U b) : Reps U B w v rs := by
  obtain ⟨xs, h1, h2, h3, h4⟩ := h
  refine ⟨xs, h1, h2, fun g hg => hU g (h3 g hg) (h2.lt g hg).1, fun i hi hx => ?_⟩
  obtain ⟨a1, a2⟩ := h4 i hi hx
  exact ⟨a1.imp (fun b hb _ => ⟨hU b hb.1 hb.2.1, hb.2⟩), a2.imp (fun b hb _ => ⟨hU b hb.1 hb.2.1, hb.2⟩)⟩
section
variable {S : Nat → Prop} {d e : Nat} {env env2 : ByteArray → Option Arr} {N N2 : Nat} {w : World}
theorem Jbi {ao : Option Addr} {n cap : Nat} {ls : List ByteArray} (h : Duo 1000 S d env N e env2 N2 w) (he : EnvOk env) (hn : ls.length = n) (hn50 : n ≤ 50) (hN : N + n < 1000) (hm : ∀ s ∈ ls, s.size ≤ 9223372036854775807) (hT : Txts (fun b => 6 ≤ b → S b) w ao ls) :
    Calls Tryz.prog 9 #[.pointer (some ⟨d, 0, none⟩), .slice ao n cap] w fun e' w' => ∃ v U, e' = .returned v ∧ (∀ b, S b → U b) ∧ Duo 1000 U d (Yv 1000 env ls) (N + n) e env2 N2 w' ∧ KeepS S w w' ∧ Reps U w.heap.size w' v (Ze 1000 env ls) := by
  obtain ⟨T, hd, hST, hpost⟩ := h.left
  refine (Jja (by decide) (by decide) he w ao n cap ls hn hn50 hN hm (fun h0 => ?_) hd).mono ?_
  · obtain ⟨b, off, e1, e2, e3⟩ := hT h0
    exact ⟨b, off, e1, fun h6 => hST b (e2 h6), e3⟩
  · rintro e' w' ⟨v, T', rfl, hTT, h1, h2, h3⟩
    refine ⟨v, _, rfl, fun b h => Or.inl h, hpost _ _ w' T' hTT h1 h2, h2.lower (fun b _ h => hST b h), h3.mono (fun b hb hB => Or.inr ⟨hb, hB⟩)⟩
theorem N5 (h : Duo 1000 S d env N e env2 N2 w) {n : Nat} {ks : List (List UInt8)} (hk : Ks env n ks) (hso : ks.mergeSort leB = ks) (hn : n ≤ 1000) :
    Calls Tryz.prog 10 #[.pointer (some ⟨d, 0, none⟩)] w fun e' w' => ∃ v, e' = .returned v ∧ w'.ownsRow w.heap.size 9 1 v ks.length (ks.map encStr) ∧ Below w.heap.size w w' := by
  obtain ⟨T, hd, hST, hpost⟩ := h.left
  exact Jmd hd hk hso hn
end
end Go.Proofs.YtjobgpahajhbnabGreatDoor
namespace Go.Proofs.YtjobgpahajhbnabGreatDoor
open Go.RowKit Go.Proofs Go.Maps
attribute [local go_sem ↓] Go.wp_at_zero Go.wp_at_succ
theorem Jk8 {env : ByteArray → Option Arr} {F : Int} {s : ByteArray} (h0 : 0 ≤ F) (he : EnvOk env) : (ansR env F s).sh.length ≤ 200 ∧ (ansR env F s).cs.length ≤ 200 := by
  unfold ansR
  cases h : ans env F s with
  | inl e => exact ⟨Nat.zero_le _, Nat.zero_le _⟩
  | inr x =>
    have hok := (G9 h0 he h).1
    refine ⟨?_, hok.few⟩
    have := hok.rank
    simp
    omega
end Go.Proofs.YtjobgpahajhbnabGreatDoor
namespace Go.Proofs.YtjobgpahajhbnabGreatDoor
open Go.RowKit Go.Proofs Go.Maps
attribute [local go_sem ↓] Go.wp_at_zero Go.wp_at_succ
theorem Jcm : ∀ (rs : List Rp) (xs : List Rv), rs.length = xs.length → ∀ rs2 xs2, rowC (rs ++ rs2) (xs ++ xs2) = rowC rs xs ++ rowC rs2 xs2
  | [], [], _, _, _ => rfl
  | [], _ :: _, h, _, _ => by simp at h
  | _ :: _, [], h, _, _ => by simp at h
  | a :: rs, b :: xs, h, rs2, xs2 => by
    show Zh a b ++ rowC (rs ++ rs2) (xs ++ xs2) = _
    rw [Jcm rs xs (by simpa using h)]
    simp [rowC]
theorem Gu : ∀ (rs : List Rp) (xs : List Rv), ∀ u ∈ rowC rs xs, u.oneCell' = true
  | [], _, u, h => by simp [rowC] at h
  | _ :: _, [], u, h => by simp [rowC] at h
  | a :: rs, b :: xs, u, h => by
    rcases List.mem_append.1 (show u ∈ Zh a b ++ rowC rs xs from h) with h | h
    · simp [Zh] at h
      rcases h with rfl | rfl | rfl | rfl | rfl <;> rfl
    · exact Gu rs xs u h
theorem Reps.keep {U S : Nat → Prop} {B : Nat} {w w' : World} {v : Value} {rs : List Rp} (h : Reps U B w v rs) (hk : KeepS S w w') (hU : ∀ b, U b → S b) : Reps U B w' v rs := by
  obtain ⟨xs, h1, h2, h3, h4⟩ := h
  have hs := Bs.size hk
  refine ⟨xs, h1, Nu h2 (fun g hg => hk.block (h2.lt g hg).2 (hU g (h3 g hg))), h3, fun i hi hx => ?_⟩
  obtain ⟨a1, a2⟩ := h4 i hi hx
  exact ⟨a1.keep hs (fun b hb hl => hk.block hl (hU b hb.1)), a2.keep hs (fun b hb hl => hk.block hl (hU b hb.1))⟩
theorem Ja2 {ops : Array Oper} {rest : List Oper} {o : Oper} {a : Act} {Q : Exit → Act → World → Prop} (hgd : o.guard = none) (s x : Operand) (ho : o.op = .call { callee := .builtin .append, args := #[s, x], argTypes := #[28, 28] })
    {U : Nat → Prop} {B B2 : Nat} {w : World} {v v2 : Value} {rs rs2 : List Rp} (hB : B ≤ B2) (hv : ∀ g, v.ownBlock = some g → g < B2) (hB2 : B2 ≤ w.heap.size) (h1 : Reps U B w v rs) (h2 : Reps U B2 w v2 rs2) (hl : rs.length + rs2.length ≤ 1000) (hs : a.eval s = v) (hx : a.eval x = v2)
    (hk : ∀ v' w', Reps (fun b => U b ∨ (w.heap.size ≤ b ∧ b < w'.heap.size)) B w' v' (rs ++ rs2) → w.grownBy w' v.ownBlock → wpList Tryz.prog ops Q rest (a.put o.dst v') w') : wpList Tryz.prog ops Q (o :: rest) a w := by
  obtain ⟨i0, hi, hz0, hz1, hz2⟩ := info_parts Tryz.info34
  obtain ⟨xs, e1, o1, b1, n1⟩ := h1
  obtain ⟨ys, e2, o2, b2, n2⟩ := h2
  have hown2 := o2
  obtain ⟨hl2, ⟨rfl, h0⟩ | ⟨g, cap, cur, rfl, hg, hc, r⟩⟩ := o2
  · have hr2 : rs2 = [] := List.eq_nil_of_length_eq_zero h0
    subst hr2
    refine wpList_append_own_none hgd s x 28 ho B 34 i0 5 Tryz.underlying28 hi v _ _ hs o1 hx ?_
    refine hk v w ?_ ⟨rfl, rfl, rfl, Nat.le_refl _, fun _ _ _ => rfl⟩
    rw [List.append_nil]
    exact ⟨xs, e1, o1, fun g hg => Or.inl (b1 g hg), fun i hi' hx' => ⟨(n1 i hi' hx').1.imp (fun b hb _ => ⟨Or.inl hb.1, hb.2⟩), (n1 i hi' hx').2.imp (fun b hb _ => ⟨Or.inl hb.1, hb.2⟩)⟩⟩
  · refine wpList_append_own_at _ hgd s x 28 ho B 34 i0 (.agg #[.int .i64 0, .int .i64 0, .slice none 0 0, .slice none 0 0, .int .i64 0]) 5 72 Tryz.underlying28 hi hz0 hz1 hz2 rfl (by decide) v _ _ hs o1 ⟨g, 0, none⟩ rs2.length cap (rowC rs2 ys) hx hl2 (fun j u hj => ?_) (Gu rs2 ys) (by unfold maxLen; omega) (by omega) (by omega) ?_
    · have hjl : j < rs2.length * 5 := by
        rw [← hl2]
        exact (List.getElem?_eq_some_iff.1 hj).1
      have := hown2.cellAt j hjl
      rw [hj] at this
      have ha : (⟨g, 0, none⟩ : Addr).add j = ⟨g, j, none⟩ := by
        cases j with
        | zero => simp [Addr.add]
        | succ j => simp [Addr.add]
      rw [ha]
      exact this
    · intro v' w' h3 hgr _ hat
      refine hk v' w' ?_ hgr
      have hgs := hgr.size
      have hblk : ∀ b, b < w.heap.size → v.ownBlock ≠ some b → w'.heap[b]? = w.heap[b]? := fun b hb hn => hgr.block b hb (fun e => hn e.symm)
      have hnew : ∀ b, b < w.heap.size → v.ownBlock ≠ some b → v'.ownBlock ≠ some b := fun b hb hn => by
        rcases hat with e | e
        · rw [e]; exact hn
        · rw [e]; intro h; injection h with h; omega
      refine ⟨xs ++ ys, by simp [e1, e2], ?_, ?_, ?_⟩
      · rw [Jcm rs xs e1]
        simpa using h3
      · intro q hq
        rcases hat with e | e
        · rw [e] at hq
          exact Or.inl (b1 q hq)
        · have hlt := (h3.lt q hq).2
          rw [e] at hq
          injection hq with hq
          exact Or.inr ⟨by omega, hlt⟩
      · have old : ∀ {v0 : Value} {zs : List Int}, NumsW (fun b => U b ∧ B ≤ b ∧ v.ownBlock ≠ some b) w v0 zs → NumsW (fun b => (U b ∨ (w.heap.size ≤ b ∧ b < w'.heap.size)) ∧ B ≤ b ∧ v'.ownBlock ≠ some b) w' v0 zs := fun h => by
          have h' := (h.imp (Q := fun b => (U b ∧ B ≤ b ∧ v.ownBlock ≠ some b) ∧ b < w.heap.size) (fun b hb hl => ⟨hb, hl⟩)).keep (w' := w') hgs (fun b hb hl => hblk b hl hb.1.2.2)
          exact h'.imp (fun b hb _ => ⟨Or.inl hb.1.1, hb.1.2.1, hnew b hb.2 hb.1.2.2⟩)
        have new : ∀ {v0 : Value} {zs : List Int}, NumsW (fun b => U b ∧ B2 ≤ b ∧ (Value.slice (some ⟨g, 0, none⟩) rs2.length cap).ownBlock ≠ some b) w v0 zs → NumsW (fun b => (U b ∨ (w.heap.size ≤ b ∧ b < w'.heap.size)) ∧ B ≤ b ∧ v'.ownBlock ≠ some b) w' v0 zs := fun h =>
          old (h.imp (fun b hb _ => ⟨hb.1, by omega, fun e => by have := hv b e; omega⟩))
        intro i hi' hx'
        by_cases h : i < rs.length
        · have hx2 : i < xs.length := by omega
          rw [List.getElem_append_left h, List.getElem_append_left hx2]
          exact ⟨old (n1 i h hx2).1, old (n1 i h hx2).2⟩
        · have k1 : i - rs.length < rs2.length := by simp at hi'; omega
          have k2 : i - rs.length < ys.length := by omega
          have q1 : (rs ++ rs2)[i] = rs2[i - rs.length] := List.getElem_append_right (by omega)
          have q2 : (xs ++ ys)[i] = ys[i - rs.length] := by
            rw [List.getElem_append_right (by omega)]
            simp only [e1]
          rw [q1, q2]
          exact ⟨new (n2 _ k1 k2).1, new (n2 _ k1 k2).2⟩
structure RdR (P : Nat → Prop) (w : World) (v : Value) (rs : List Rp) (xs : List Rv) : Prop where
  len : rs.length = xs.length
  frm : ∃ ao cap, v = .slice ao rs.length cap ∧ rs.length ≤ cap ∧ (0 < rs.length → ∃ g, ao = some ⟨g, 0, none⟩ ∧ P g ∧ g < w.heap.size ∧ ∀ i, (hi : i < rs.length) → (hx : i < xs.length) → ∀ j, j < 5 → w.cell? ⟨g, 5 * i + j, none⟩ = (Zh rs[i] xs[i])[j]?)
  sh : ∀ i, (hi : i < rs.length) → (hx : i < xs.length) → Nums P w (.slice xs[i].so xs[i].sn xs[i].sc) rs[i].sh
  cs : ∀ i, (hi : i < rs.length) → (hx : i < xs.length) → Nums P w (.slice xs[i].co xs[i].cn xs[i].cc) rs[i].cs
theorem Reps.rd {U : Nat → Prop} {B : Nat} {w : World} {v : Value} {rs : List Rp} (h : Reps U B w v rs) : ∃ xs, RdR U w v rs xs := by
  obtain ⟨xs, e1, o1, b1, n1⟩ := h
  refine ⟨xs, e1, ?_, fun i hi hx => (n1 i hi hx).1.nums.imp (fun b hb _ => hb.1), fun i hi hx => (n1 i hi hx).2.nums.imp (fun b hb _ => hb.1)⟩
  have hown := o1
  obtain ⟨hl, ⟨rfl, h0⟩ | ⟨g, cap, cur, rfl, hg, hc, r⟩⟩ := o1
  · exact ⟨none, 0, by rw [h0], by omega, fun h => by omega⟩
  · refine ⟨some ⟨g, 0, none⟩, cap, rfl, r.1, fun _ => ⟨g, rfl, b1 g rfl, (hown.lt g rfl).2, fun i hi hx j hj => ?_⟩⟩
    rw [hown.cellAt (5 * i + j) (by omega), Jfy rs xs e1 i hi hx j hj]
theorem RdR.keep {P S : Nat → Prop} {w w' : World} {v : Value} {rs : List Rp} {xs : List Rv} (h : RdR P w v rs xs) (hk : KeepS S w w') (hP : ∀ b, P b → S b) : RdR P w' v rs xs := by
  refine ⟨h.len, ?_, fun i hi hx => hk.nums (h.sh i hi hx) hP, fun i hi hx => hk.nums (h.cs i hi hx) hP⟩
  obtain ⟨ao, cap, h1, h2, h3⟩ := h.frm
  refine ⟨ao, cap, h1, h2, fun h0 => ?_⟩
  obtain ⟨g, e1, e2, e3, e4⟩ := h3 h0
  exact ⟨g, e1, e2, Nat.lt_of_lt_of_le e3 (Bs.size hk), fun i hi hx j hj => (hk.cell e3 (hP g e2)).trans (e4 i hi hx j hj)⟩
end Go.Proofs.YtjobgpahajhbnabGreatDoor
namespace Go.Proofs.YtjobgpahajhbnabGreatDoor
open Go.RowKit Go.Proofs Go.Maps
attribute [local go_sem ↓] Go.wp_at_zero Go.wp_at_succ
set_option maxHeartbeats 1000000 in
theorem Jml {F : Int} (S : Nat → Prop) (db : Nat) (env env' : ByteArray → Option Arr) (N N' : Nat) (s : ByteArray) (n : Int) (cost : Int) (hs : Jla F db env N s env' N' [] [n] cost) (w : World) (hD : DkF F S db env N w) :
    Calls Tryz.prog 7 #[.pointer (some ⟨db, 0, none⟩), .string s, .int .i64 n] w fun e w' => e = .returned (.bool true) ∧ DkF F S db env' N' w' ∧ KeepS S w w' := by
  have hw0 : Below w.heap.size w (w.alloc (.cells #[.int .i64 n] 2)) := (Below.refl _ _).alloc (Nat.le_refl _) _
  have HC := hide (is_f _ db env env' N N' s [] [n] cost hs _ (hD.more hw0) none 0 0 (some ⟨w.heap.size, 0, none⟩) 1 1 (Jn _ _) (Fw rfl (Or.inr ⟨Nat.le_refl _, by simp⟩)) (by simp) (by simp))
  have HB0 := hide hw0
  clear hs hD hw0
  go_enter Tryz.func7, Tryz.ntmps7
  go_wp2_with (go_at_call 13; refine (Ja HC).mono ?_; rintro e w1 ⟨rfl, hd1, hb1⟩; have HB1 := hide hb1; have HD1 := hide hd1; clear hb1 hd1)
  exact bodyPost_ret (v := .bool true) (by simp [results, Tryz.results7, go_sem]) rfl ⟨rfl, (Ja HD1).less (fun b h => Or.inl h), (KeepS.of (S := S) (Ja HB0)).trans (Ja HB1) (fun _ _ h => Or.inl h)⟩
set_option maxHeartbeats 1000000 in
set_option maxRecDepth 20000 in
theorem Jj9 (D : World → Prop) (hkeep : Jlb D) (db : Nat) (s t : ByteArray) (sh cs : List Int) (cost cost' : Int) (ht : Says D db t 0 0 sh cs cost) (hs : Says D db s 0 0 sh cs cost') (w : World) (hD : D w) (hl1 : sh.length ≤ 200) (hl2 : cs.length ≤ 200) :
    Calls Tryz.prog 11 #[.pointer (some ⟨db, 0, none⟩), .string s, .string t] w fun e w' => e = .returned (.bool true) ∧ Below w.heap.size w w' := by
  have HO := hide (Jbo D hkeep db t sh cs cost ht w hD)
  have HI : Hid (∀ w2 so sn sc co cn cc, Below w.heap.size w w2 → Nums (fun b => w.heap.size < b) w2 (.slice so sn sc) sh → Nums (fun b => w.heap.size < b) w2 (.slice co cn cc) cs → Calls Tryz.prog 13 #[.pointer (some ⟨db, 0, none⟩), .string s, .slice so sn sc, .slice co cn cc] w2 fun e w' => e = .returned (.bool true) ∧ Below w.heap.size w w') := hide (by
    intro w2 so sn sc co cn cc hb hsh hcs
    refine (Jlh D hkeep db s sh cs cost' hs w2 (hkeep w w2 hD hb) so sn sc co cn cc hsh hcs hl1 hl2).mono ?_
    rintro e w3 ⟨rfl, hb3⟩
    exact ⟨rfl, hb.trans (hb3.mono hb.size)⟩)
  clear hs ht hD hkeep
  go_enter Tryz.func11, Tryz.ntmps11
  go_wp2_with (go_at_call 12; refine (Ja HO).mono ?_; rintro e w1 ⟨so, sn, sc, co, cn, cc, rfl, h1, h2, hb⟩; have H1 := hide h1; have H2 := hide h2; have HB := hide hb; clear h1 h2 hb)
  have hbw : Below w1.heap.size w1 (w1.alloc (.cells #[.int .i64 0, .int .i64 0, .slice so sn sc, .slice co cn cc, .int .i64 cost] 34)) := (Below.refl _ _).alloc (Nat.le_refl _) _
  refine (Ja HI _ so sn sc co cn cc (Yw (Ja HB) hbw) ((Ja H1).below hbw) ((Ja H2).below hbw)).mono ?_
  rintro e w3 ⟨rfl, hd3⟩
  have HD3 := hide hd3
  clear hd3
  go_wp2_with fail
  exact bodyPost_ret (v := .bool true) (by simp [results, Tryz.results11, go_sem]) rfl ⟨rfl, Ja HD3⟩
theorem Fq {F : Int} {env : ByteArray → Option Arr} {s : ByteArray} {S : Nat → Prop} {db N : Nat} (h0 : 0 ≤ F) (hF : F ≤ 1000) (he : EnvOk env) {a : Arr} {c : Nat} (h : ans env F s = .inr (a, c)) (hn : (Yl s).size = 0) : Says (DkF F S db env N) db s 0 0 (a.shape.map Int.ofNat) a.cells c := by
  obtain ⟨hp, hv⟩ := Ga h
  obtain ⟨hp2, hs⟩ := Zl hp
  have hok : a.ok := (G9 h0 he h).1
  have hl1 : a.shape.length ≤ 200 := by have := hok.rank; omega
  have hl2 : a.cells.length ≤ 200 := hok.few
  have hg : ∀ x, Ye s x → Good f1A f2A x := fun x hx => by rw [Zv hx]; exact K4 hs
  have hev : ∀ x, Ye s x → Jt env F f1A f2A x 0 = .inr (a, c) := fun x hx => by rw [Zv hx]; exact hv
  have hn' : Yl s = ⟨#[]⟩ := ByteArray.size_eq_zero_iff.1 hn
  intro w hD
  obtain ⟨X, mo, h1, h2, h3⟩ := hD
  refine (Np env F f1A f2A db w mo s (by omega) ⟨h1.lt, h1.evs, h1.c0, h1.c1⟩ h0 hF he (h1.look.imp (fun _ _ _ => trivial)) hp hp2 hn' hg a c hev hl1 hl2).mono ?_
  rintro e w' ⟨so, sn, sc, co, cn, cc, rfl, n1, n2, hb⟩
  exact ⟨so, sn, sc, co, cn, cc, rfl, n1.nums, n2.nums, hb⟩
theorem Joc {F : Int} {env : ByteArray → Option Arr} {s : ByteArray} {db N : Nat} (h0 : 0 ≤ F) (hF : F ≤ 1000) (he : EnvOk env) (hN : N < 1000) {a : Arr} {c : Nat} (h : ans env F s = .inr (a, c)) : Jla F db env N s (envA env F s) (N + 1) (a.shape.map Int.ofNat) a.cells c := by
  intro S w hD
  have hs : s.size ≤ 9223372036854775807 := by have := (Zl (Ga h).1).2; omega
  have hr : ansR env F s = ⟨0, 0, a.shape.map Int.ofNat, a.cells, c⟩ := by unfold ansR; rw [h]
  refine (Jga h0 hF he hN hs w hD).mono ?_
  rintro e w' ⟨m, so, sn, sc, co, cn, cc, hm, he', n1, n2, hd, hk⟩
  rw [hr] at he' n1 n2
  exact ⟨so, sn, sc, co, cn, cc, he', n1.nums.imp (fun b h _ => Nat.le_trans hm h), n2.nums.imp (fun b h _ => Nat.le_trans hm h), hd.less (fun b h => Or.inl h), hk⟩
section
variable {S : Nat → Prop} {d e : Nat} {env env2 : ByteArray → Option Arr} {N N2 : Nat} {w : World}
theorem Jma {s : ByteArray} {a : Arr} {c : Nat} (h : Duo 1000 S d env N e env2 N2 w) (he : EnvOk env) (ha : ans env 1000 s = .inr (a, c)) (hn : (Yl s).size = 0) :
    Calls Tryz.prog 12 #[.pointer (some ⟨d, 0, none⟩), .string s] w fun e' w' => ∃ so sn sc co cn cc, e' = .returned (.tuple #[.agg #[.int .i64 0, .int .i64 0, .slice so sn sc, .slice co cn cc, .int .i64 (c : Int)], .bool true]) ∧ Nums (fun b => w.heap.size < b) w' (.slice so sn sc) (a.shape.map Int.ofNat) ∧ Nums (fun b => w.heap.size < b) w' (.slice co cn cc) a.cells ∧ Below w.heap.size w w' := by
  obtain ⟨T, hd, hST, hpost⟩ := h.left
  exact Jbo (DkF 1000 T d env N) (DkF.lasts T d env N) d s _ _ _ (Fq (by decide) (by decide) he ha hn) w hd
theorem Jnx {s : ByteArray} {a : Arr} {c : Nat} {Q : Nat → Prop} {vo : Option Addr} {vn vc : Nat} {ko : Option Addr} {kn kc : Nat} (h : Duo 1000 S d env N e env2 N2 w) (he : EnvOk env) (ha : ans env 1000 s = .inr (a, c)) (hn : (Yl s).size = 0) (hsh : Nums Q w (.slice vo vn vc) (a.shape.map Int.ofNat)) (hcs : Nums Q w (.slice ko kn kc) a.cells) :
    Calls Tryz.prog 13 #[.pointer (some ⟨d, 0, none⟩), .string s, .slice vo vn vc, .slice ko kn kc] w fun e' w' => e' = .returned (.bool true) ∧ Below w.heap.size w w' := by
  obtain ⟨T, hd, hST, hpost⟩ := h.left
  have hok := (G9 (by decide) he ha).1
  exact Jlh (DkF 1000 T d env N) (DkF.lasts T d env N) d s _ _ _ (Fq (by decide) (by decide) he ha hn) w hd vo vn vc ko kn kc hsh hcs (by have : a.shape.length ≤ 3 := hok.rank; simp; omega) hok.few
theorem Jka {s : ByteArray} {a : Arr} {c : Nat} (h : Duo 1000 S d env N e env2 N2 w) (he : EnvOk env) (ha : ans env 1000 s = .inr (a, c)) (hn : (Yl s).size = 0) :
    Calls Tryz.prog 11 #[.pointer (some ⟨d, 0, none⟩), .string s, .string s] w fun e' w' => e' = .returned (.bool true) ∧ Below w.heap.size w w' := by
  obtain ⟨T, hd, hST, hpost⟩ := h.left
  have hok := (G9 (by decide) he ha).1
  exact Jj9 (DkF 1000 T d env N) (DkF.lasts T d env N) d s s _ _ _ _ (Fq (by decide) (by decide) he ha hn) (Fq (by decide) (by decide) he ha hn) w hd (by have : a.shape.length ≤ 3 := hok.rank; simp; omega) hok.few
theorem Jc5 {s : ByteArray} {x : Int} {c : Nat} (h : Duo 1000 S d env N e env2 N2 w) (he : EnvOk env) (hN : N < 1000) (ha : ans env 1000 s = .inr (⟨[], [x]⟩, c)) :
    Calls Tryz.prog 7 #[.pointer (some ⟨d, 0, none⟩), .string s, .int .i64 x] w fun e' w' => e' = .returned (.bool true) ∧ Duo 1000 S d (envA env 1000 s) (N + 1) e env2 N2 w' ∧ KeepS S w w' := by
  obtain ⟨T, hd, hST, hpost⟩ := h.left
  refine (Jml T d env _ N _ s x c (Joc (by decide) (by decide) he hN ha) w hd).mono ?_
  rintro e' w' ⟨rfl, h1, h2⟩
  exact ⟨rfl, (hpost _ _ w' T (fun _ h => h) h1 h2).less (fun b h => Or.inl h), h2.lower (fun b _ h => hST b h)⟩
end
end Go.Proofs.YtjobgpahajhbnabGreatDoor
namespace Go.Proofs.YtjobgpahajhbnabGreatDoor
open Go.RowKit Go.Proofs Go.Maps
section
variable {F : Int} {S : Nat → Prop} {d e : Nat} {env env2 : ByteArray → Option Arr} {N N2 : Nat} {w w' : World}
theorem DkSF.grown {T X : Nat → Prop} {mo : Option Nat} {row : Option Nat} (h : DkSF F T X d env N mo w) (hg : w.grownBy w' row) (hr : ∀ g, row = some g → T g) : DkSF F (fun b => T b ∨ (w.heap.size ≤ b ∧ b < w'.heap.size)) X d env N mo w' := by
  have hs2 := hg.size
  have hkeep : ∀ b, b < w.heap.size → row ≠ some b → w'.heap[b]? = w.heap[b]? := fun b hb' hn => hg.block b hb' (fun e => hn e.symm)
  have h6 := h.dsk.evs.1
  have hE : Evs w' := h.dsk.evs.stay (by omega) (fun b hb => hkeep b (by omega) (fun e => by have := (h.s b (hr b e)).1; omega))
  refine ⟨h.dsk.stay (by omega) hE (fun b hb hm => hkeep b hb (fun e => ?_)), fun b hb => by have := h.xlt b hb; omega, fun b hb => ?_⟩
  · obtain ⟨_, _, a3, a4, a5⟩ := h.s b (hr b e)
    rcases hm with hm | hm | hm
    · exact a3 hm
    · exact a4 hm
    · exact a5 hm
  · rcases hb with hb | ⟨k1, k2⟩
    · obtain ⟨a1, a2, a3⟩ := h.s b hb
      exact ⟨a1, by omega, a3⟩
    · exact ⟨by omega, k2, fun hx => by have := h.xlt b hx; omega, by have := h.dsk.lt; omega, fun e => by have := h.dsk.moLt b e; omega⟩
theorem Duo.grown {row : Option Nat} (h : Duo F S d env N e env2 N2 w) (hg : w.grownBy w' row) (hr : ∀ g, row = some g → S g) : Duo F (fun b => S b ∨ (w.heap.size ≤ b ∧ b < w'.heap.size)) d env N e env2 N2 w' := by
  obtain ⟨X, mo, Y, no, h1, h2⟩ := h
  refine ⟨X, mo, Y, no, (h1.grown hg (fun g hg => Or.inl (hr g hg))).lower ?_, (h2.grown hg (fun g hg => Or.inl (hr g hg))).lower ?_⟩
  · rintro b ((h | h) | h)
    · exact Or.inl (Or.inl h)
    · exact Or.inr h
    · exact Or.inl (Or.inr h)
  · rintro b ((h | h) | h)
    · exact Or.inl (Or.inl h)
    · exact Or.inr h
    · exact Or.inl (Or.inr h)
end
theorem Jdc (F : Int) : ∀ (l : List ByteArray) (env : ByteArray → Option Arr) (i : Nat) (hi : i < l.length), (Ze F env l)[i]? = some (ansR (Yv F env (l.take i)) F l[i])
  | [], _, i, hi => by simp at hi
  | s :: r, env, 0, _ => rfl
  | s :: r, env, i + 1, hi => by
    show (ansR env F s :: Ze F (envA env F s) r)[i + 1]? = _
    rw [List.getElem?_cons_succ, Jdc F r (envA env F s) i (by simpa using hi)]
    rfl
theorem Jol (b off k : Nat) : (⟨b, off, none⟩ : Addr).add k = ⟨b, off + k, none⟩ := by
  cases k with
  | zero => simp [Addr.add]
  | succ k => simp [Addr.add]
theorem Jdl {P : Nat → Prop} {w : World} {bo ao : Option Addr} {ls : List ByteArray} {k n : Nat} (h : Txts P w bo ls) (hl : k + n ≤ ls.length) (ha : 0 < n → ao = bo.map (fun x => x.add k)) : Txts P w ao ((ls.take (k + n)).drop k) := fun h0 => by
  have hn : 0 < n := by simp at h0; omega
  obtain ⟨b, off, e1, e2, e3, e4⟩ := h (by omega)
  refine ⟨b, off + k, ?_, e2, e3, fun i hi => ?_⟩
  · rw [ha hn, e1]
    show some ((⟨b, off, none⟩ : Addr).add k) = _
    rw [Jol]
  · have hi' : k + i < ls.length := by simp at hi; omega
    rw [show off + k + i = off + (k + i) by omega, e4 (k + i) hi']
    simp
theorem RdR.one {P : Nat → Prop} {w : World} {v : Value} {r : Rp} {xs : List Rv} (h : RdR P w v [r] xs) : ∃ g c z, v = .slice (some ⟨g, 0, none⟩) 1 c ∧ 1 ≤ c ∧ g < w.heap.size ∧ P g ∧ (∀ j, j < 5 → w.cell? ⟨g, j, none⟩ = (Zh r z)[j]?) ∧ Nums P w (.slice z.so z.sn z.sc) r.sh ∧ Nums P w (.slice z.co z.cn z.cc) r.cs := by
  have hl : 0 < xs.length := by have := h.len; simp at this; omega
  obtain ⟨ao, cap, h1, h2, h3⟩ := h.frm
  obtain ⟨g, e1, e2, e3, e4⟩ := h3 (by simp)
  refine ⟨g, cap, xs[0], by rw [h1, e1]; rfl, h2, e3, e2, fun j hj => ?_, h.sh 0 (by simp) hl, h.cs 0 (by simp) hl⟩
  have := e4 0 (by simp) hl j hj
  simpa using this
theorem RdR.form {P : Nat → Prop} {w : World} {v : Value} {rs : List Rp} {xs : List Rv} (h : RdR P w v rs xs) (h0 : 0 < rs.length) : ∃ g c, v = .slice (some ⟨g, 0, none⟩) rs.length c ∧ rs.length ≤ c := by
  obtain ⟨ao, cap, h1, h2, h3⟩ := h.frm
  obtain ⟨g, e1, _⟩ := h3 h0
  exact ⟨g, cap, by rw [h1, e1], h2⟩
theorem RdR.cell {P : Nat → Prop} {w : World} {g c n : Nat} {rs : List Rp} {xs : List Rv} (h : RdR P w (.slice (some ⟨g, 0, none⟩) n c) rs xs) {i : Nat} (hi : i < rs.length) (hx : i < xs.length) : g < w.heap.size ∧ ∀ j, j < 5 → w.cell? ⟨g, i * 5 + j, none⟩ = (Zh rs[i] xs[i])[j]? := by
  obtain ⟨ao, cap, h1, h2, h3⟩ := h.frm
  obtain ⟨g', e1, _, e3, e4⟩ := h3 (by omega)
  injection h1 with h1 _ _
  rw [e1] at h1
  injection h1 with h1
  injection h1 with h1 _ _
  subst h1
  exact ⟨e3, fun j hj => by rw [Nat.mul_comm]; exact e4 i hi hx j hj⟩
end Go.Proofs.YtjobgpahajhbnabGreatDoor
namespace Go.Proofs.YtjobgpahajhbnabGreatDoor
open Go.RowKit Go.Proofs
attribute [local go_sem ↓] Go.wp_at_zero Go.wp_at_succ
theorem Jis {P : Nat → Prop} {w : World} {s : ByteArray} {b : Nat} (hP : P b) (hb : b < w.heap.size) (hc : w.cell? ⟨b, 0, none⟩ = some (.string s)) : Txts P w (some ⟨b, 0, none⟩) [s] := fun _ => ⟨b, 0, rfl, hP, hb, fun i hi => by
  have : i = 0 := by simpa using hi
  subst this
  simpa using hc⟩
end Go.Proofs.YtjobgpahajhbnabGreatDoor
