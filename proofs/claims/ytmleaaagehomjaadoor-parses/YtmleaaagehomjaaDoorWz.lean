import Derived.Test.YtmleaaagehomjaaDoorWw
import Derived.Test.YtmleaaagehomjaaDoorWx
import Derived.Test.YtmleaaagehomjaaDoorWy
import Derived.Test.YtmleaaagehomjaaDoorSi
namespace Go.Proofs.YtmleaaagehomjaaDoor
open Go.RowKit

theorem beg_long {s : ByteArray} {A : List (Nat × Nat)} (h : 1 < A.length) {t0 t1 : ByteArray} (h0 : s.extract (A[0]).1 (A[0]).2 = t0) (h1 : s.extract (A[1]).1 (A[1]).2 = t1) : beg (tks s A) = bif namB t0 && t1.toList == [105, 115] then 2 else 0 := by
  have l0 : 0 < (tks s A).length := by rw [tks_len]; omega
  have l1 : 1 < (tks s A).length := by rw [tks_len]; omega
  have e0 : kB (tks s A) 0 1 = namB t0 := by
    unfold kB; rw [List.getElem?_eq_getElem l0, tks_at, h0]
    exact kind_name t0
  have e1 : kB (tks s A) 1 2 = (t1.toList == [105, 115]) := by
    unfold kB; rw [List.getElem?_eq_getElem l1, tks_at, h1]
    exact kind_is t1
  unfold beg
  rw [e0, e1]

theorem read_any (s : ByteArray) (w : World) (hm : s.size ≤ 9223372036854775807) :
    Calls Tryd.prog 6 #[.string s] w fun e w' => ∃ v0 v3, e = .returned (.tuple #[v0, .int .i64 (parseP s).1, .int .i64 (parseP s).2, v3]) ∧ Below w.heap.size w w' := by
  unfold parseP
  by_cases hs : 200 < s.size
  · rw [if_pos hs]
    exact read_long s w hs hm
  · rw [if_neg hs]
    have hs : s.size ≤ 200 := by omega
    by_cases hx : (lexR s).2 = -1
    · rw [if_pos hx]
      obtain ⟨A, hA⟩ : ∃ A, (lexR s).1 = A := ⟨_, rfl⟩
      rw [hA]
      by_cases h2 : 1 < A.length
      · obtain ⟨t0, h0⟩ : ∃ t0, s.extract (A[0]).1 (A[0]).2 = t0 := ⟨_, rfl⟩
        obtain ⟨t1, h1⟩ : ∃ t1, s.extract (A[1]).1 (A[1]).2 = t1 := ⟨_, rfl⟩
        have hv : Vt t0 := h0 ▸ (hA ▸ lexR_all s hs) _ (List.getElem_mem (by omega))
        rw [beg_long h2 h0 h1]
        cases e1 : (t1.toList == [105, 115])
        · rw [Bool.and_false, cond_false]
          exact loop_b s A w hs hA hx h2 t0 t1 h0 h1 e1
        · cases en : namB t0
          · exact loop_c s A w hs hA hx h2 t0 t1 h0 h1 hv.pos e1 en
          · exact loop_d s A w hs hA hx h2 t0 t1 h0 h1 hv.pos e1 en
      · rw [beg_short (by rw [tks_len]; omega)]
        exact loop_zero s A w hs hA hx (by omega)
    · rw [if_neg hx]
      exact read_bad s w hs hx
end Go.Proofs.YtmleaaagehomjaaDoor
