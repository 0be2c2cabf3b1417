import Derived.Test.YtjobgpahajhbnaaGreatDoorWj
import Derived.Test.YtjobgpahajhbnaaGreatDoorPo
namespace Go.Proofs.YtjobgpahajhbnaaGreatDoor
open Go.RowKit

theorem bif_ne (p : Bool) (k x : Int) (hk : k ≠ 0) : ((bif p then k else x) != 0) = (p || x != 0) := by
  cases p
  · rfl
  · simpa using hk
theorem amid_cons (x : ByteArray) (L : List ByteArray) (t : ByteArray) : amid (x :: L) t = (t.toList == x.toList || amid L t) := by
  unfold amid
  rw [List.any_cons]
  congr 1
  exact Bool.beq_comm
theorem amid_nil (t : ByteArray) : amid [] t = false := rfl
theorem fn_role (t : ByteArray) : amid fnL t = (wRole t != 0) := by
  unfold fnL wRole
  rw [bif_ne _ 1 _ (by decide), bif_ne _ 1 _ (by decide), bif_ne _ 1 _ (by decide), bif_ne _ 1 _ (by decide), bif_ne _ 1 _ (by decide), bif_ne _ 3 _ (by decide), bif_ne _ 3 _ (by decide),
    bif_ne _ 2 _ (by decide), bif_ne _ 2 _ (by decide), bif_ne _ 2 _ (by decide), bif_ne _ 2 _ (by decide), bif_ne _ 2 _ (by decide), bif_ne _ 2 _ (by decide)]
  simp only [amid_cons, amid_nil, ByteArray.toList_mk]
  rw [show ((0 : Int) != 0) = false from rfl]
  ac_rfl
theorem isFn_ext (s : ByteArray) (n : Nat) : isFn (s.data.toList.take n) = amid fnL (s.extract 0 n) := by
  unfold isFn
  apply amid_congr
  rw [ext_list]
  simp
theorem hd0 (s : ByteArray) (h0 : 0 < s.size) (n : Nat) (hn : 0 < n) : hd (s.extract 0 n) = (s[0].toNat : Int) := by
  rw [hd_ext s n h0 hn, hd_eq s h0]
theorem let_facts (c : Int) (h : letB c = true) : (c == 40) = false ∧ (c == 41) = false ∧ (c == 95) = false ∧ digB c = false := by
  simp [letB] at h
  simp [digB]
  omega
theorem dig_facts (c : Int) (h : digB c = true) : (c == 40) = false ∧ (c == 41) = false ∧ (c == 95) = false := by
  simp [digB] at h
  simp
  omega
theorem num_none {k : Nat} {l : List UInt8} {d : Nat} (hd : (l.takeWhile dU).length = d) (h : 19 < d ∨ d = 0 ∨ 9223372036854775807 < val (l.take d)) : numE k l = none := by
  subst hd
  rw [take_tw] at h
  simp only [numE]
  rw [if_pos h]
theorem num_some {k : Nat} {l : List UInt8} {d : Nat} (hd : (l.takeWhile dU).length = d) (h1 : d ≤ 19) (h2 : 1 ≤ d) (h3 : val (l.take d) ≤ 9223372036854775807) : numE k l = some (k + d) := by
  subst hd
  rw [take_tw] at h3
  simp only [numE]
  rw [if_neg (by omega)]
theorem tw_le (p : UInt8 → Bool) (l : List UInt8) : (l.takeWhile p).length ≤ l.length := (List.takeWhile_sublist (l := l) p).length_le

theorem cut_any (s : ByteArray) (w : World) (h0 : 0 < s.size) (hs : s.size ≤ 200) (hv : Evs w) :
    Calls Tryz.prog 105 #[.string s] w fun e w' => CutR s e ∧ Below w.heap.size w w' := by
  cases h40 : ((s[0].toNat : Int) == 40)
  rotate_left
  · refine (cut_open s w h0 hs h40).mono ?_
    rintro e w' ⟨rfl, hb⟩
    refine ⟨cutR_some (tl_br s h0 (Or.inl h40)) ?_, hb⟩
    simp only [kindT, roleT, worthT, tokX, tokV, hd0 s h0 1 (by decide), h40, cond_true, show ((s[0].toNat : Int) == 95) = false by rw [beq_iff_eq.1 h40]; rfl, show digB (s[0].toNat : Int) = false by rw [beq_iff_eq.1 h40]; rfl, cond_false]
  cases h41 : ((s[0].toNat : Int) == 41)
  rotate_left
  · refine (cut_close s w h0 hs h40 h41).mono ?_
    rintro e w' ⟨rfl, hb⟩
    refine ⟨cutR_some (tl_br s h0 (Or.inr h41)) ?_, hb⟩
    simp only [kindT, roleT, worthT, tokX, tokV, hd0 s h0 1 (by decide), h40, h41, cond_true, cond_false, show ((s[0].toNat : Int) == 95) = false by rw [beq_iff_eq.1 h41]; rfl, show digB (s[0].toNat : Int) = false by rw [beq_iff_eq.1 h41]; rfl]
  cases h95 : ((s[0].toNat : Int) == 95)
  rotate_left
  · obtain ⟨d, hd⟩ : ∃ d, ((s.data.toList.drop 1).takeWhile dU).length = d := ⟨_, rfl⟩
    have hdb : 1 + d ≤ s.size := by have := tw_le dU (s.data.toList.drop 1); rw [len_drop] at this; omega
    have hx : (s.extract 1 (1 + d)).data.toList = (s.data.toList.drop 1).take d := by rw [ext_list]; simp
    have ht := tl_low s h0 h95
    by_cases hbad : 19 < d ∨ d = 0 ∨ 9223372036854775807 < val ((s.data.toList.drop 1).take d)
    · rw [num_none hd hbad] at ht
      refine (cut_low s w h0 0 0 0 ⟨#[]⟩ false ?_ hv h40 h41 h95).mono ?_
      · intro W hW
        by_cases h19 : 19 < d
        · exact cutLow_long s W d h0 h95 hs hd hdb h19
        · exact cutLow_bad s W d h0 h95 hs hd hdb hW (by omega) (by rw [hx]; omega)
      · rintro e w' ⟨rfl, hb⟩
        exact ⟨cutR_none ht rfl, hb⟩
    · rw [num_some hd (by omega) (by omega) (by omega)] at ht
      refine (cut_low s w h0 0 0 (-(val (s.extract 1 (1 + d)).data.toList : Int)) (s.extract 0 (1 + d)) true ?_ hv h40 h41 h95).mono ?_
      · intro W _
        exact cutLow_ok s W d h0 h95 hs hd hdb (by omega) (by omega) _ rfl (by rw [hx]; omega)
      · rintro e w' ⟨rfl, hb⟩
        refine ⟨cutR_some ht ?_, hb⟩
        have hdrop : (s.extract 0 (1 + d)).data.toList.drop 1 = (s.extract 1 (1 + d)).data.toList := by
          rw [ext_list, ext_list]
          simp [List.drop_take]
        simp only [kindT, roleT, worthT, tokX, hdrop, hd0 s h0 (1 + d) (by omega), h40, h41, h95, cond_true, cond_false, Bool.true_or]
  cases hdg : digB (s[0].toNat : Int)
  rotate_left
  · obtain ⟨d, hd⟩ : ∃ d, (s.data.toList.takeWhile dU).length = d := ⟨_, rfl⟩
    have hdb : 0 + d ≤ s.size := by have := tw_le dU s.data.toList; simp at this; omega
    have hx : (s.extract 0 d).data.toList = s.data.toList.take d := by rw [ext_list]; simp
    have ht := tl_dig s h0 hdg
    by_cases hbad : 19 < d ∨ d = 0 ∨ 9223372036854775807 < val (s.data.toList.take d)
    · rw [num_none hd hbad] at ht
      refine (cut_dig s w h0 0 0 0 ⟨#[]⟩ false ?_ hv h40 h41 h95 hdg).mono ?_
      · intro W hW
        by_cases h19 : 19 < d
        · exact cutNum_long s W d h0 h95 hs hd hdb h19
        · exact cutNum_bad s W d h0 h95 hs hd hdb hW (by omega) (by rw [hx]; omega)
      · rintro e w' ⟨rfl, hb⟩
        exact ⟨cutR_none ht rfl, hb⟩
    · rw [num_some hd (by omega) (by omega) (by omega)] at ht
      rw [Nat.zero_add] at ht
      refine (cut_dig s w h0 0 0 (val (s.extract 0 d).data.toList : Int) (s.extract 0 d) true ?_ hv h40 h41 h95 hdg).mono ?_
      · intro W _
        exact cutNum_ok s W d h0 h95 hs hd hdb (by omega) (by omega) _ rfl (by rw [hx]; omega)
      · rintro e w' ⟨rfl, hb⟩
        refine ⟨cutR_some ht ?_, hb⟩
        simp only [kindT, roleT, worthT, tokX, hd0 s h0 d (by omega), h40, h41, h95, hdg, cond_true, cond_false, Bool.or_true]
  cases hl : letB (s[0].toNat : Int)
  rotate_left
  · obtain ⟨n, hn⟩ : ∃ n, wlen s = n := ⟨_, rfl⟩
    have hnl : n ≤ s.size := by have := wlen_le s; omega
    have hn1 : 1 ≤ n := by
      rw [← hn]
      unfold wlen
      rw [list_cons s h0, List.takeWhile, show lU s[0] = true from hl]
      simp
    have ht := tl_word s h0 h95 hdg hl
    have hz := ext_size s n hnl
    have hw : wrdE s.data.toList = if 4 < n ∧ (wRole (s.extract 0 n) != 0) = false then none else some n := by
      simp only [wrdE]
      have e1 : (s.data.toList.takeWhile lU).length = n := hn
      rw [e1, isFn_ext, fn_role]
    rw [hw] at ht
    refine (cut_word s w h0 (wKind (s.extract 0 n)) (wRole (s.extract 0 n)) (s.extract 0 n) (wOk (s.extract 0 n)) ?_ hv h40 h41 h95 hdg hl).mono ?_
    · intro W _
      exact cutWord_any s W hs n hn.symm
    · rintro e w' ⟨rfl, hb⟩
      refine ⟨?_, hb⟩
      by_cases hc : 4 < n ∧ (wRole (s.extract 0 n) != 0) = false
      · rw [if_pos hc] at ht
        refine cutR_none ht (k := wKind (s.extract 0 n)) (r := wRole (s.extract 0 n)) (t := s.extract 0 n) ?_
        have hi : ((s.extract 0 n).toList == [105, 115]) = false := by
          rw [beq_eq_false_iff_ne]
          intro e
          have : (s.extract 0 n).toList.length = n := by rw [ByteArray.toList_eq]; simpa using hz
          rw [e] at this
          simp at this
          omega
        have : wOk (s.extract 0 n) = false := by
          unfold wOk
          rw [hc.2, hi, hz]
          simp
          omega
        rw [this]
      · rw [if_neg hc] at ht
        refine cutR_some ht ?_
        have : wOk (s.extract 0 n) = true := by
          unfold wOk
          rw [hz]
          by_cases h4 : 4 < n
          · have : (wRole (s.extract 0 n) != 0) = true := by
              cases hh : (wRole (s.extract 0 n) != 0)
              · exact absurd ⟨h4, hh⟩ hc
              · rfl
            rw [this]; rfl
          · rw [show decide ((n : Int) ≤ 4) = true from decide_eq_true (by omega)]
            simp
        rw [this]
        simp only [kindT, roleT, worthT, tokX, tokV, hd0 s h0 n hn1, h40, h41, h95, hdg, hl, cond_true, cond_false, Bool.or_false]
  have ht := tl_rest s h0 h40 h41 h95 hdg hl
  cases hg : gU s[0]
  · rw [hg, cond_false] at ht
    refine (cut_none s w h0 h40 h41 h95 hdg hl hg).mono ?_
    rintro e w' ⟨rfl, hb⟩
    exact ⟨cutR_none ht rfl, hb⟩
  · rw [hg, cond_true] at ht
    obtain ⟨n, hn⟩ : ∃ n, sgnE (s.data.toList.drop 1) = n := ⟨_, rfl⟩
    rw [hn] at ht
    have hn1 : 0 < n := by
      rw [← hn]
      unfold sgnE
      split
      · decide
      · split <;> decide
    refine (cut_sign s w h0 3 (sRole (s.extract 0 n)) (s.extract 0 n) ?_ hv h40 h41 h95 hdg hl hg).mono ?_
    · intro W _
      exact cutSign_any s W h0 hs n hn.symm
    · rintro e w' ⟨rfl, hb⟩
      refine ⟨cutR_some ht ?_, hb⟩
      simp only [kindT, roleT, worthT, tokX, tokV, hd0 s h0 n hn1, h40, h41, h95, hdg, hl, cond_false, Bool.or_false]
end Go.Proofs.YtjobgpahajhbnaaGreatDoor
