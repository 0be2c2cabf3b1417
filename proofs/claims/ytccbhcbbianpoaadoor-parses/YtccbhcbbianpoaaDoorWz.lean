import Derived.Test.YtccbhcbbianpoaaDoorWw
import Derived.Test.YtccbhcbbianpoaaDoorWx
import Derived.Test.YtccbhcbbianpoaaDoorWy
import Derived.Test.YtccbhcbbianpoaaDoorWs
namespace Go.Proofs.YtccbhcbbianpoaaDoor
open Go.RowKit

theorem beg_short {T : List (Int × Int)} (h : T.length ≤ 1) : beg T = 0 := by
  have : kB T 1 2 = false := by unfold kB; rw [List.getElem?_eq_none (by omega)]
  unfold beg
  rw [this, Bool.and_false]
  rfl
theorem beg_long {s : ByteArray} {A : List (Nat × Nat)} (h : 1 < A.length) {t0 t1 : ByteArray} (h0 : s.extract (A[0]).1 (A[0]).2 = t0) (h1 : s.extract (A[1]).1 (A[1]).2 = t1) : beg (tks s A) = bif namB t0 && t1.toList == [105, 115] then 2 else 0 := by
  have l0 : 0 < (tks s A).length := by rw [tks_len]; omega
  have l1 : 1 < (tks s A).length := by rw [tks_len]; omega
  have e0 : kB (tks s A) 0 1 = namB t0 := by
    unfold kB; rw [List.getElem?_eq_getElem l0, tks_at, h0]
    exact kind_name t0
  have e1 : kB (tks s A) 1 2 = (t1.toList == [105, 115]) := by
    unfold kB; rw [List.getElem?_eq_getElem l1, tks_at, h1]
    exact kind_is t1
  unfold beg
  rw [e0, e1]

theorem read_any (s : ByteArray) (w : World) (hm : s.size ≤ 9223372036854775807) :
    Calls Tryd.prog 6 #[.string s] w fun e w' => ∃ v0 v3, e = .returned (.tuple #[v0, .int .i64 (parseP s).1, .int .i64 (parseP s).2, v3]) ∧ Below w.heap.size w w' := by
  unfold parseP
  by_cases hs : 200 < s.size
  · rw [if_pos hs]
    exact read_long s w hs hm
  · rw [if_neg hs]
    have hs : s.size ≤ 200 := by omega
    by_cases hx : (lexR s).2 = -1
    · rw [if_pos hx]
      obtain ⟨A, hA⟩ : ∃ A, (lexR s).1 = A := ⟨_, rfl⟩
      rw [hA]
      by_cases h2 : 1 < A.length
      · obtain ⟨t0, h0⟩ : ∃ t0, s.extract (A[0]).1 (A[0]).2 = t0 := ⟨_, rfl⟩
        obtain ⟨t1, h1⟩ : ∃ t1, s.extract (A[1]).1 (A[1]).2 = t1 := ⟨_, rfl⟩
        have hv : Vt t0 := h0 ▸ (hA ▸ lexR_all s hs) _ (List.getElem_mem (by omega))
        rw [beg_long h2 h0 h1]
        cases e1 : (t1.toList == [105, 115])
        · rw [Bool.and_false, cond_false]
          exact loop_b s A w hs hA hx h2 t0 t1 h0 h1 e1
        · cases en : namB t0
          · exact loop_c s A w hs hA hx h2 t0 t1 h0 h1 hv.pos e1 en
          · exact loop_d s A w hs hA hx h2 t0 t1 h0 h1 hv.pos e1 en
      · rw [beg_short (by rw [tks_len]; omega)]
        exact loop_zero s A w hs hA hx (by omega)
    · rw [if_neg hx]
      exact read_bad s w hs hx

theorem line_any (W0 : World) (ao : Option Addr) (tb cap : Nat) (T : List (Int × Int)) (hT : TokIn W0 ao tb T) (hWf : Wf T) (w : World) (hw : Rd W0 (.slice ao T.length cap) 0 0 w) :
    Calls Tryd.prog 13 #[.pointer (some ⟨W0.heap.size, 0, none⟩)] w fun e w' => ∃ p, e = .returned (.bool (topB T (beg T) && ((sc T (beg T) 0 0).1 : Int) == (T.length : Int))) ∧ Rd W0 (.slice ao T.length cap) (sc T (beg T) 0 0).1 p w' := by
  by_cases h2 : 1 < T.length
  · obtain ⟨hao, hlt⟩ := hT.addr (by omega)
    have k0 := (hw.below.cell (p := ⟨tb, 0 * 4, none⟩) hlt).trans (hT.kind 0 (by omega))
    have k1 := (hw.below.cell (p := ⟨tb, 1 * 4, none⟩) hlt).trans (hT.kind 1 (by omega))
    have k0 : w.cell? ⟨tb, 0, none⟩ = some (.int .i64 T[0].1) := k0
    have k1 : w.cell? ⟨tb, 4, none⟩ = some (.int .i64 T[1].1) := k1
    have b0 : kB T 0 1 = (T[0].1 == 1) := by unfold kB; rw [List.getElem?_eq_getElem (by omega)]
    have b1 : kB T 1 2 = (T[1].1 == 2) := by unfold kB; rw [List.getElem?_eq_getElem (by omega)]
    have hb : beg T = bif T[0].1 == 1 && T[1].1 == 2 then 2 else 0 := by unfold beg; rw [b0, b1]
    cases e0 : (T[0].1 == 1)
    · rw [e0, Bool.false_and, cond_false] at hb
      rw [hb]
      cases ht : topB T 0
      · exact la_no W0 ao tb cap T hT hWf w hw h2 _ hao k0 e0 ht _ rfl
      · rw [Bool.true_and]
        exact la_yes W0 ao tb cap T hT hWf w hw h2 _ hao k0 e0 ht _ rfl
    · rw [beq_iff_eq.1 e0] at k0
      cases e1 : (T[1].1 == 2)
      · rw [e1, Bool.and_false, cond_false] at hb
        rw [hb]
        cases ht : topB T 0
        · exact lb_no W0 ao tb cap T hT hWf w hw h2 _ hao k0 k1 e1 ht _ rfl
        · rw [Bool.true_and]
          exact lb_yes W0 ao tb cap T hT hWf w hw h2 _ hao k0 k1 e1 ht _ rfl
      · rw [beq_iff_eq.1 e1] at k1
        rw [e0, e1, Bool.and_self, cond_true] at hb
        rw [hb]
        cases ht : topB T 2
        · exact lc_no W0 ao tb cap T hT hWf w hw h2 hao k0 k1 ht _ rfl
        · rw [Bool.true_and]
          exact lc_yes W0 ao tb cap T hT hWf w hw h2 hao k0 k1 ht _ rfl
  · rw [beg_short (by omega)]
    cases ht : topB T 0
    · exact ld_no W0 ao tb cap T hT hWf w hw (by omega) ht _ rfl
    · rw [Bool.true_and]
      exact ld_yes W0 ao tb cap T hT hWf w hw (by omega) ht _ rfl

def okT (T : List (Int × Int)) : Bool := topB T (beg T) && ((sc T (beg T) 0 0).1 : Int) == (T.length : Int)

set_option maxHeartbeats 400000 in
theorem check_any (W0 : World) (ao : Option Addr) (tb cap : Nat) (T : List (Int × Int)) (hT : TokIn W0 ao tb T) (hWf : Wf T) :
    Calls Tryd.prog 8 #[.slice ao T.length cap] W0 fun e w' => e = .returned (.tuple #[.int .i64 (bif okT T then 0 else ((sc T (beg T) 0 0).1 : Int)), .bool (okT T)]) ∧ Below W0.heap.size W0 w' := by
  have HT := hide hT
  have HF := hide hWf
  clear hT hWf
  cases ho : okT T
  all_goals
    have HO := hide ho
    clear ho
    go_enter Tryd.func8, Tryd.ntmps8
    go_wp2_with fail
    refine (line_any W0 ao tb cap T (unhide HT) (unhide HF) _ ?_).mono ?_
    · refine ⟨(Below.refl _ _).alloc (Nat.le_refl _) _, ?_, ?_, ?_, ?_, ?_⟩ <;> simp
    rintro e w1 ⟨p, rfl, hw1⟩
    rw [show (topB T (beg T) && ((sc T (beg T) 0 0).1 : Int) == (T.length : Int)) = _ from unhide HO]
    have HW1 := hide hw1
    have d1 := hw1.nxt
    clear hw1
    go_wp2_with fail
    go_ret2
    exact ⟨rfl, (unhide HW1).below⟩
end Go.Proofs.YtccbhcbbianpoaaDoor
