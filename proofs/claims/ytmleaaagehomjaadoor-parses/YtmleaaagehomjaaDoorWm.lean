import Derived.Test.YtmleaaagehomjaaDoorPq
namespace Go.Proofs.YtmleaaagehomjaaDoor
open Go.RowKit

theorem Tryd.info43 : (Tryd.prog.info? 43).map (fun i => (i.zero, i.size, i.bytes)) = some (some (.agg #[.string ⟨#[]⟩, .int .i64 0]), 2, 24) := by kernel_rfl

theorem rel_tok {s : ByteArray} {w wr w1 w2 : World} {v v' : Value} {A : List (Nat × Nat)} {p n : Nat} {o : Obj}
    (hb : Below w.heap.size w wr) (hb1 : Below wr.heap.size wr w1) (hown : wr.ownsRow w.heap.size 43 2 v A.length (cellsR s A))
    (h2 : w2.ownsRow w.heap.size 43 2 v' (A.length + 1) (cellsR s A ++ [.string (s.extract p (p + n)), .int .i64 p])) (hg : (w1.alloc o).grownBy w2 v.ownBlock) :
    w2.ownsRow w.heap.size 43 2 v' (A ++ [(p, p + n)]).length (cellsR s (A ++ [(p, p + n)])) ∧ Below w.heap.size w w2 := by
  have hb2 : Below w.heap.size w w1 := hb.trans (hb1.mono hb.size)
  have hs := hb2.size
  constructor
  · rw [cellsR_snoc]; simpa using h2
  · exact (hb2.alloc hs o).grown hg (by simp; omega) (fun k hk => (hown.lt k hk).1)

set_option maxRecDepth 10000 in
set_option maxHeartbeats 1000000 in
theorem tokens_any (s : ByteArray) (w : World) (hs : s.size ≤ 200) :
    Calls Tryd.prog 8 #[.string s] w fun e w' => ∃ v, e = .returned (.tuple #[v, .int .i64 (lexR s).2]) ∧ w'.ownsRow w.heap.size 43 2 v (lexR s).1.length (cellsR s (lexR s).1) ∧ Below w.heap.size w w' := by
  obtain ⟨i0, hi, hz0, hz1, hz2⟩ := info_parts Tryd.info43
  obtain ⟨R, hR⟩ : ∃ R, lexS s s.size 0 [] = R := ⟨_, rfl⟩
  have HR : Hid (lexR s = R) := hR
  have HR0 := hide hR
  clear hR
  rw [unhide HR]
  have HI := hide hi
  have HZ0 := hide hz0
  have HZ1 := hide hz1
  have HZ2 := hide hz2
  clear hi hz0 hz1 hz2
  go_enter Tryd.func8, Tryd.ntmps8
  go_wp2_with fail
  go_loopw [4, 5] (fun v i wr => ∃ (p f : Nat) (A : List (Nat × Nat)), p ≤ s.size ∧ i = .int .i64 p ∧ A.length ≤ p ∧ wr.ownsRow w.heap.size 43 2 v A.length (cellsR s A) ∧ Below w.heap.size w wr ∧ s.size ≤ f + p ∧ lexS s f p A = R) (fun _ i _ => s.size - (intOf i).toNat)
  case atStart => exact ⟨0, s.size, [], by omega, rfl, by simp, World.ownsRow_nil _ _ _ _, Below.refl _ _, by omega, unhide HR0⟩
  case round =>
    obtain ⟨p, f, A, hp, rfl, hA, hown, hbel, hf, hlex⟩ := hrel
    have HO := hide hown
    have HB := hide hbel
    have HL := hide hlex
    clear hown hbel hlex
    by_cases hlt : p < s.size
    · obtain ⟨g, rfl⟩ : ∃ g, f = g + 1 := ⟨f - 1, by omega⟩
      cases h32 : ((s[p].toNat : Int) == 32)
      · have H32 := hide h32
        cases ht : tl (s.data.toList.drop p) with
        | none =>
          have HT := hide (rch_none ht)
          have HE := hide ((unhide HL).symm.trans (lex_bad s g p A hlt (unhide H32) ht))
          clear ht
          go_wp2_with fail
          refine (reach_any s p _ hs hlt).mono ?_
          rintro e w1 ⟨rfl, hb1⟩
          rw [unhide HT]
          have HB1 := hide hb1
          clear hb1
          go_wp2_with fail
          go_ret2
          refine ⟨.slice none 0 0, ?_, ?_, (unhide HB).trans ((unhide HB1).mono (unhide HB).size)⟩
          · rw [unhide HE]; rfl
          · rw [unhide HE]; exact World.ownsRow_nil _ _ _ _
        | some n =>
          have hbd := tl_bd ht
          rw [len_drop] at hbd
          have hn1 : 1 ≤ n := hbd.1
          have hnb : p + n ≤ s.size := by omega
          clear hbd
          have HT := hide (rch_some ht)
          have HE := hide ((lex_tok s g p n A hlt (unhide H32) ht).symm.trans (unhide HL))
          clear ht
          go_wp2_with fail
          refine (reach_any s p _ hs hlt).mono ?_
          rintro e w1 ⟨rfl, hb1⟩
          rw [unhide HT]
          have HB1 := hide hb1
          clear hb1
          have HO1 := hide (owns_below (unhide HO) (unhide HB1))
          go_wp2_with (at_builtin; refine wpList_append_own _ rfl _ _ 31 rfl w.heap.size 43 i0 (.agg #[.string ⟨#[]⟩, .int .i64 0]) 2 24 Tryd.underlying31 (unhide HI) (unhide HZ0) (unhide HZ1) (unhide HZ2) rfl (by decide) _ _ _ rfl ((unhide HO1).alloc _) ⟨w1.heap.size, 0, none⟩ 1 1 [.string (s.extract p (p + n)), .int .i64 p] rfl rfl ?c1 ?c2 ?c3 ?c4 ?c5 ?_)
          case c1 =>
            intro j u hj
            match j, hj with
            | 0, hj => simp at hj; subst hj; simp [Addr.add]
            | 1, hj => simp at hj; subst hj; simp [Addr.add]
          case c2 => intro u hu; simp at hu; rcases hu with rfl | rfl <;> rfl
          case c3 => unfold maxLen; omega
          case c4 => omega
          case c5 =>
            have h1 := (unhide HB).size
            have h2 := (unhide HB1).size
            simp; omega
          · intro v' w2 hown2 hgrow _
            have RR := rel_tok (n := n) (unhide HB) (unhide HB1) (unhide HO) hown2 hgrow
            have HRR := hide RR
            clear RR hown2 hgrow
            go_wp2_with fail
            go_roundw
            case rel => exact ⟨p + n, g, A ++ [(p, p + n)], by omega, by go_num, by simp; omega, (unhide HRR).1, (unhide HRR).2, by omega, unhide HE⟩
            case measure => simp [intOf]; omega
      · have HE := hide ((lex_blank s g p A hlt h32).symm.trans (unhide HL))
        go_wp2_with fail
        go_roundw
        case rel => exact ⟨p + 1, g, A, by omega, by go_num, by omega, unhide HO, unhide HB, by omega, unhide HE⟩
        case measure => simp [intOf]; omega
    · have HE := hide ((unhide HL).symm.trans (lex_end s f p A (by omega)))
      go_wp2_with fail
      go_ret2
      exact ⟨u4, by rw [unhide HE]; rfl, by rw [unhide HE]; exact unhide HO, unhide HB⟩
end Go.Proofs.YtmleaaagehomjaaDoor
