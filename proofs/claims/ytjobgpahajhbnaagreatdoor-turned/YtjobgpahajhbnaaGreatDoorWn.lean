import Derived.Test.YtjobgpahajhbnaaGreatDoorPq
namespace Go.Proofs.YtjobgpahajhbnaaGreatDoor
open Go.RowKit

theorem Tryz.info155 : (Tryz.prog.info? 155).map (fun i => (i.zero, i.size, i.bytes)) = some (some (.agg #[.int .i64 0, .int .i64 0, .int .i64 0, .string ⟨#[]⟩, .int .i64 0]), 5, 48) := by kernel_rfl

theorem rel_cut {s : ByteArray} {w wr w1 w2 : World} {v v' : Value} {A : List (Nat × Nat)} {p n : Nat} {o o2 : Obj}
    (hb : Below w.heap.size w wr) (hb1 : Below wr.heap.size wr w1) (hown : wr.ownsRow w.heap.size 155 5 v A.length (cellsC s A))
    (h2 : w2.ownsRow w.heap.size 155 5 v' (A.length + 1) (cellsC s A ++ [.int .i64 (kindT (s.extract p (p + n))), .int .i64 (roleT (s.extract p (p + n))), .int .i64 (worthT (s.extract p (p + n))), .string (s.extract p (p + n)), .int .i64 p])) (hg : ((w1.alloc o).alloc o2).grownBy w2 v.ownBlock) :
    w2.ownsRow w.heap.size 155 5 v' (A ++ [(p, p + n)]).length (cellsC s (A ++ [(p, p + n)])) ∧ Below w.heap.size w w2 := by
  have hb2 : Below w.heap.size w w1 := hb.trans (hb1.mono hb.size)
  have hs := hb2.size
  constructor
  · rw [cellsC_snoc]; simpa using h2
  · exact ((hb2.alloc hs o).alloc (by simp; omega) o2).grown hg (by simp; omega) (fun k hk => (hown.lt k hk).1)

theorem cut_tok (s : ByteArray) (p n : Nat) (W : World) (hs : s.size ≤ 200) (hp : p < s.size) (hnb : p + n ≤ s.size) (hv : Evs W) (ht : tl (s.data.toList.drop p) = some n) :
    Calls Tryz.prog 105 #[.string (s.extract p s.size)] W fun e w' => e = .returned (.tuple #[tokX (kindT (s.extract p (p + n))) (roleT (s.extract p (p + n))) (worthT (s.extract p (p + n))) (s.extract p (p + n)) 0, .bool true]) ∧ Below W.heap.size W w' := by
  have htz : (s.extract p s.size).size = s.size - p := by rw [ByteArray.size_extract]; omega
  refine (cut_any (s.extract p s.size) W (by omega) (by omega) hv).mono ?_
  rintro e w' ⟨hc, hb⟩
  unfold CutR at hc
  rw [tail_list, ht] at hc
  simp only [tail_ext s p n hnb] at hc
  exact ⟨hc, hb⟩
theorem cut_bad (s : ByteArray) (p : Nat) (W : World) (hs : s.size ≤ 200) (hp : p < s.size) (hv : Evs W) (ht : tl (s.data.toList.drop p) = none) :
    Calls Tryz.prog 105 #[.string (s.extract p s.size)] W fun e w' => ∃ k r t, e = .returned (.tuple #[tokV k r t 0, .bool false]) ∧ Below W.heap.size W w' := by
  have htz : (s.extract p s.size).size = s.size - p := by rw [ByteArray.size_extract]; omega
  refine (cut_any (s.extract p s.size) W (by omega) (by omega) hv).mono ?_
  rintro e w' ⟨hc, hb⟩
  unfold CutR at hc
  rw [tail_list, ht] at hc
  obtain ⟨k, r, t, he⟩ := hc
  exact ⟨k, r, t, he, hb⟩

set_option maxRecDepth 10000 in
set_option maxHeartbeats 1000000 in
theorem split_any (s : ByteArray) (w : World) (hs : s.size ≤ 200) (hv : Evs w) :
    Calls Tryz.prog 75 #[.string s] w fun e w' => ∃ v, e = .returned (.tuple #[v, .int .i64 (bif (lexR s).2 == -1 then 0 else (lexR s).2), .bool ((lexR s).2 == -1)]) ∧ w'.ownsRow w.heap.size 155 5 v (lexR s).1.length (cellsC s (lexR s).1) ∧ Below w.heap.size w w' := by
  obtain ⟨i0, hi, hz0, hz1, hz2⟩ := info_parts Tryz.info155
  obtain ⟨R, hR⟩ : ∃ R, lexS s s.size 0 [] = R := ⟨_, rfl⟩
  have HR : Hid (lexR s = R) := hR
  have HR0 := hide hR
  clear hR
  rw [unhide HR]
  have HI := hide hi
  have HZ0 := hide hz0
  have HZ1 := hide hz1
  have HZ2 := hide hz2
  have HV := hide hv
  clear hi hz0 hz1 hz2 hv
  go_enter Tryz.func75, Tryz.ntmps75
  go_wp2_with fail
  go_loopw [5, 6] (fun v i wr => ∃ (p f : Nat) (A : List (Nat × Nat)), p ≤ s.size ∧ i = .int .i64 p ∧ A.length ≤ p ∧ wr.ownsRow w.heap.size 155 5 v A.length (cellsC s A) ∧ Below w.heap.size w wr ∧ s.size ≤ f + p ∧ lexS s f p A = R) (fun _ i _ => s.size - (intOf i).toNat)
  case atStart => exact ⟨0, s.size, [], by omega, rfl, by simp, World.ownsRow_nil _ _ _ _, Below.refl _ _, by omega, unhide HR0⟩
  case round =>
    obtain ⟨p, f, A, hp, rfl, hA, hown, hbel, hf, hlex⟩ := hrel
    have HO := hide hown
    have HB := hide hbel
    have HL := hide hlex
    have HVr := hide ((unhide HV).below hbel (unhide HV).1)
    clear hown hbel hlex
    by_cases hlt : p < s.size
    · obtain ⟨g, rfl⟩ : ∃ g, f = g + 1 := ⟨f - 1, by omega⟩
      cases h32 : ((s[p].toNat : Int) == 32)
      · have H32 := hide h32
        cases ht : tl (s.data.toList.drop p) with
        | none =>
          have HE := hide ((unhide HL).symm.trans (lex_bad s g p A hlt (unhide H32) ht))
          have HT := hide ht
          clear ht
          go_wp2_with fail
          refine (cut_bad s p _ hs hlt (unhide HVr) (unhide HT)).mono ?_
          rintro e w1 ⟨k, r, t, rfl, hb1⟩
          unfold tokV
          have HB1 := hide hb1
          clear hb1
          go_wp2_with fail
          go_ret3
          refine ⟨.slice none 0 0, ?_, ?_, ?_⟩
          · rw [unhide HE, show (((p : Int)) == -1) = false from beq_eq_false_iff_ne.2 (by omega)]; rfl
          · rw [unhide HE]; exact World.ownsRow_nil _ _ _ _
          · exact ((unhide HB).trans ((unhide HB1).mono (unhide HB).size)).alloc (Nat.le_trans (unhide HB).size (unhide HB1).size) _
        | some n =>
          have hbd := tl_bd ht
          rw [len_drop] at hbd
          have hn1 : 1 ≤ n := hbd.1
          have hnb : p + n ≤ s.size := by omega
          clear hbd
          have HE := hide ((lex_tok s g p n A hlt (unhide H32) ht).symm.trans (unhide HL))
          have HT := hide ht
          clear ht
          go_wp2_with fail
          refine (cut_tok s p n _ hs hlt hnb (unhide HVr) (unhide HT)).mono ?_
          rintro e w1 ⟨rfl, hb1⟩
          have htz : (s.extract p (p + n)).size = n := by rw [ByteArray.size_extract]; omega
          obtain ⟨t, hte⟩ : ∃ t, s.extract p (p + n) = t := ⟨_, rfl⟩
          rw [hte] at htz ⊢
          have HTE := hide hte
          clear hte
          obtain ⟨kk, hkk⟩ : ∃ kk, kindT t = kk := ⟨_, rfl⟩
          obtain ⟨rr, hrr⟩ : ∃ rr, roleT t = rr := ⟨_, rfl⟩
          obtain ⟨xx, hxx⟩ : ∃ xx, worthT t = xx := ⟨_, rfl⟩
          rw [hkk, hrr, hxx]
          have HXX := hide hxx
          have HKK := hide hkk
          have HRR0 := hide hrr
          clear hkk hrr hxx
          unfold tokX
          have HB1 := hide hb1
          clear hb1
          have HO1 := hide (owns_below (unhide HO) (unhide HB1))
          go_wp2_with (at_builtin; refine wpList_append_own _ rfl _ _ 147 rfl w.heap.size 155 i0 (.agg #[.int .i64 0, .int .i64 0, .int .i64 0, .string ⟨#[]⟩, .int .i64 0]) 5 48 Tryz.underlying147 (unhide HI) (unhide HZ0) (unhide HZ1) (unhide HZ2) rfl (by decide) _ _ _ rfl (((unhide HO1).alloc _).alloc _) ⟨w1.heap.size + 1, 0, none⟩ 1 1 [.int .i64 kk, .int .i64 rr, .int .i64 xx, .string t, .int .i64 p] rfl rfl ?c1 ?c2 ?c3 ?c4 ?c5 ?_)
          case c1 =>
            intro j u hj
            match j, hj with
            | 0, hj => simp at hj; subst hj; simp [Addr.add]
            | 1, hj => simp at hj; subst hj; simp [Addr.add]
            | 2, hj => simp at hj; subst hj; simp [Addr.add]
            | 3, hj => simp at hj; subst hj; simp [Addr.add]
            | 4, hj => simp at hj; subst hj; simp [Addr.add]
          case c2 => intro u hu; simp at hu; rcases hu with rfl | rfl | rfl | rfl | rfl <;> rfl
          case c3 => unfold maxLen; omega
          case c4 => omega
          case c5 =>
            have h1 := (unhide HB).size
            have h2 := (unhide HB1).size
            simp; omega
          · intro v' w2 hown2 hgrow _
            have RR := rel_cut (n := n) (p := p) (unhide HB) (unhide HB1) (unhide HO) (by rw [unhide HTE, unhide HKK, unhide HRR0, unhide HXX]; exact hown2) hgrow
            have HRR := hide RR
            have hlt1 := (unhide HO1).lt
            have hcell : w2.cell? ⟨w1.heap.size, 3, none⟩ = some (.string t) := by
              rw [World.cell?_of_block (hgrow.block w1.heap.size (by simp; omega) (fun e => by have := (hlt1 w1.heap.size e.symm).2; omega))]
              simp
            clear RR hown2 hgrow hlt1
            go_wp2_with fail
            go_roundw
            case rel => exact ⟨p + n, g, A ++ [(p, p + n)], by omega, by go_num, by simp; omega, (unhide HRR).1, (unhide HRR).2, by omega, unhide HE⟩
            case measure => simp [intOf]; omega
      · have HE := hide ((lex_blank s g p A hlt h32).symm.trans (unhide HL))
        go_wp2_with fail
        go_roundw
        case rel => exact ⟨p + 1, g, A, by omega, by go_num, by omega, unhide HO, unhide HB, by omega, unhide HE⟩
        case measure => simp [intOf]; omega
    · have HE := hide ((unhide HL).symm.trans (lex_end s f p A (by omega)))
      go_wp2_with fail
      go_ret3
      exact ⟨u5, by rw [unhide HE]; rfl, by rw [unhide HE]; exact unhide HO, unhide HB⟩
end Go.Proofs.YtjobgpahajhbnaaGreatDoor
