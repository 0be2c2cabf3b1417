import Derived.Test.YtjobgpahajhbnabGreatDoorSe
import Derived.Test.YtjobgpahajhbnabGreatDoorSc
import Derived.Test.YtjobgpahajhbnabGreatDoorWl
namespace Go.Proofs.YtjobgpahajhbnabGreatDoor
open Go.RowKit
def topB (T : List (Int × Int)) (j : Nat) : Bool := decide ((sc T j 0 0).2.1 ≠ 0 ∧ (sc T j 0 0).2.2 = 0)
def okT (T : List (Int × Int)) : Bool := topB T (beg T) && decide (T.length ≤ (sc T (beg T) 0 0).1)
def endT (T : List (Int × Int)) : Nat := (sc T (beg T) 0 0).1
theorem Jhj {W0 : World} {ao : Option Addr} {cap : Nat} {S : List Tok} {w w' : World} {e : Ending} (h : Je3 W0 ao cap S w e w') :
    ∃ p q, e = .returned (.tuple #[.agg #[.string (Ky S), .pointer q], .bool (topB (kr S) (beg (kr S)))]) ∧ endT (kr S) ≤ S.length ∧ Rd W0 (.slice ao S.length cap) (endT (kr S)) p w' ∧ Kp W0 w w' ∧ (topB (kr S) (beg (kr S)) = true → ∃ x, PX S false (beg (kr S)) 0 x (endT (kr S)) ∧ IsEx W0.heap.size w' q x) := by
  obtain ⟨b, k, p, q, rfl, h1, h2, ⟨h3, hno, hyes⟩, hf, hx⟩ := h; rw [Yu] at h3; unfold endT; cases b
  · obtain ⟨st, op, hc, ho⟩ := hno rfl; have ht : topB (kr S) (beg (kr S)) = false := by unfold topB; rw [hc]; simp; omega
    rw [ht, hc]; exact ⟨p, q, rfl, h3, h1, h2, fun h => by cases h⟩
  · obtain ⟨_, _, st, hst, hsc, hnum⟩ := hyes rfl; have hc := hsc.trans (Jod (op := 0) hst hnum (hf rfl) (Or.inr rfl)); have ht : topB (kr S) (beg (kr S)) = true := by unfold topB; rw [hc]; simp; omega
    rw [ht, hc]; exact ⟨p, q, rfl, h3, h1, h2, fun _ => hx rfl⟩
def Jqb (S : List Tok) (W : World) (e : Ending) (w' : World) : Prop :=
  ∃ q, e = .returned (.tuple #[.agg #[.string (bif okT (kr S) then Ky S else ⟨#[]⟩), .pointer q], .int .i64 (bif okT (kr S) then 0 else (endT (kr S) : Int)), .bool (okT (kr S))]) ∧ Below W.heap.size W w' ∧ (okT (kr S) = true → ∃ x, PX S false (beg (kr S)) 0 x S.length ∧ IsEx W.heap.size w' q x)
theorem Ja8 {W : World} {ao : Option Addr} {tb : Nat} {S : List Tok} (h : TokIn W ao tb S) (o : Obj) : TokIn (W.alloc o) ao tb S :=
  ⟨h.few, fun h0 => ⟨(h.addr h0).1, by have := (h.addr h0).2; simp; omega⟩, fun i hi => by
    have hb := (h.addr (by omega)).2; have e := fun j => World.cell?_alloc_lt W o ⟨tb, j, none⟩ hb
    simp only [e]; exact h.cell i hi⟩
theorem Jj0 (W : World) (tk : Value) : Rd W tk 0 0 (W.alloc (.cells #[tk, .int .i64 0, .int .i64 0] 100)) :=
  ⟨(Below.refl _ _).alloc (Nat.le_refl _) _, by simp, by simp, by simp, by simp, by simp, by simp⟩
theorem Jkn {W W0 w1 w2 : World} {o : Obj} (hW0 : W0 = W.alloc o) (h1 : Below W.heap.size W w1) (h : Kp W0 w1 w2) : Below W.heap.size W w2 :=
  ⟨h.os.trans h1.os, h.tape.trans h1.tape, h.output.trans h1.output, Nat.le_trans h1.size h.size, fun k hk => (h.block k (Nat.lt_of_lt_of_le hk h1.size) (fun e => by
    have := Option.some.inj e; rw [hW0] at this; simp at this; omega)).trans (h1.block k hk)⟩
set_option maxHeartbeats 1000000 in
theorem Xn (W : World) (ao : Option Addr) (tb cap : Nat) (S : List Tok) (hT : TokIn W ao tb S) (hWf : Wf (kr S)) :
    Calls Tryz.prog 34 #[.slice ao S.length cap] W (Jqb S W) := by
  have hfew := hT.few; have HL := hide (fun w hw => Jkm (W.alloc (.cells #[.string ⟨#[]⟩, .pointer none] 63)) ao tb cap S (Ja8 hT _) hWf w hw); clear hT hWf; go_enter Tryz.func34, Tryz.ntmps34; go_wp2_with fail; have HR0 := hide (Jj0 (W.alloc (.cells #[.string ⟨#[]⟩, .pointer none] 63)) (.slice ao S.length cap)); have hcall := Ja HL _ (Ja HR0); simp only [World.size_alloc] at hcall; refine hcall.mono ?_; clear hcall; intro e w1 hl; obtain ⟨p, q, rfl, hel, hw1, hk1, hx⟩ := Jhj hl; clear hl; have hb1 : Below W.heap.size W w1 := Jkn rfl (((Below.refl W.heap.size W).alloc (Nat.le_refl _) _).alloc (by simp) _) hk1; have cn := hw1.nxt; have hl1 := hw1.lt; have hne : W.heap.size ≠ (W.alloc (.cells #[.string ⟨#[]⟩, .pointer none] 63)).heap.size := by simp
  have d0 := hk1.cell (b := W.heap.size) (by simp; omega) hne 0; have d1 := hk1.cell (b := W.heap.size) (by simp; omega) hne 1; have g0 := hk1.frozen (b := W.heap.size) (by simp; omega) hne 0; have g1 := hk1.frozen (b := W.heap.size) (by simp; omega) hne 1; simp at cn d0 d1 g0 g1 hl1; have HB1 := hide hb1; have HX := hide hx; obtain ⟨n, hn⟩ : ∃ n, endT (kr S) = n := ⟨_, rfl⟩; rw [hn] at cn hel HX; have hz : W.heap.size ≠ w1.heap.size := by omega
  have hz2 : W.heap.size < w1.heap.size := by omega
  clear hb1 hx hw1 hk1; cases ht : topB (kr S) (beg (kr S))
  · have hok : okT (kr S) = false := by unfold okT; rw [ht]; rfl
    have HOK := hide hok; have HN := hide hn; clear ht hok hn; go_wp2_with fail; go_region
    all_goals
      go_wp2_with fail; refine bodyPost_ret (v := .tuple #[.agg #[.string ⟨#[]⟩, .pointer none], .int .i64 n, .bool false]) (by simp [results, Tryz.results34, go_sem, d0, d1, hz2]) rfl ⟨none, ?_, ?_, ?_⟩
      · rw [Ja HOK, Ja HN]; rfl
      · first
        | exact ((((Ja HB1).alloc (Ja HB1).size _).setCell (Nat.le_refl _) _).setCell (Nat.le_refl _) _).drew
        | exact ((((Ja HB1).setCell (Nat.le_refl _) _).setCell (Nat.le_refl _) _).alloc (by simp; omega) _).drew
      · intro h; rw [Ja HOK] at h; cases h
  · have HX1 := hide (Ja HX ht); by_cases hk : n = S.length
    · have hok : okT (kr S) = true := by
        unfold okT; rw [ht, Yu, show (sc (kr S) (beg (kr S)) 0 0).1 = n from hn]; simp; omega
      have HOK := hide hok; subst hk; clear ht hok hn hel HX; go_wp2_with fail; refine bodyPost_ret (v := .tuple #[.agg #[.string (Ky S), .pointer q], .int .i64 0, .bool true]) (by simp [results, Tryz.results34, go_sem, d0, d1, hz2]) rfl ⟨q, ?_, ?_, ?_⟩
      · rw [Ja HOK]; rfl
      · first
        | exact (((Ja HB1).alloc (Ja HB1).size _).setCell (Nat.le_refl _) _).setCell (Nat.le_refl _) _
        | exact (((Ja HB1).setCell (Nat.le_refl _) _).setCell (Nat.le_refl _) _).alloc (by simp; omega) _
      · intro _; obtain ⟨x, hx1, hx2⟩ := Ja HX1; refine ⟨x, hx1, (hx2.mono (B' := W.heap.size) (by simp)).keep ?_⟩; refine ⟨by simp, fun b' h1 h2 => ?_⟩; rw [RowKit.Below.heap_alloc _ _ _ (by simpa using h2), RowKit.Below.heap_setCell _ _ _ _ (by simp; omega), RowKit.Below.heap_setCell _ _ _ _ (by simp; omega)]
    · have hok : okT (kr S) = false := by
        unfold okT; rw [ht, Yu, show (sc (kr S) (beg (kr S)) 0 0).1 = n from hn]; simp; omega
      have HOK := hide hok; have HN := hide hn; have hlt : (n : Int) < (S.length : Int) := by omega
      clear ht hok hn hk; go_wp2_with fail; go_region
      all_goals
        go_wp2_with fail; refine bodyPost_ret (v := .tuple #[.agg #[.string ⟨#[]⟩, .pointer none], .int .i64 n, .bool false]) (by simp [results, Tryz.results34, go_sem, d0, d1, hz2]) rfl ⟨none, ?_, ?_, ?_⟩
        · rw [Ja HOK, Ja HN]; rfl
        · first
          | exact ((((Ja HB1).alloc (Ja HB1).size _).setCell (Nat.le_refl _) _).setCell (Nat.le_refl _) _).drew
          | exact ((((Ja HB1).setCell (Nat.le_refl _) _).setCell (Nat.le_refl _) _).alloc (by simp; omega) _).drew
        · intro h; rw [Ja HOK] at h; cases h
end Go.Proofs.YtjobgpahajhbnabGreatDoor
namespace Go.Proofs.YtjobgpahajhbnabGreatDoor
open Go.RowKit
def plc (s : ByteArray) (A : List (Nat × Nat)) (j : Nat) : Int := match A[j]? with
  | some q => (q.1 : Int)
  | none => (s.size : Int)
def pFin (s : ByteArray) (A : List (Nat × Nat)) (c : Nat × Nat × Nat) : Int × Int :=
  if c.1 = A.length ∧ c.2.1 ≠ 0 ∧ c.2.2 = 0 then (0, 0) else (3, plc s A c.1)
def Ju (s : ByteArray) : Int × Int :=
  if 200 < s.size then (1, 0) else if (lexR s).2 = -1 then pFin s (lexR s).1 (sc (tks s (lexR s).1) (beg (tks s (lexR s).1)) 0 0) else (2, (lexR s).2)
theorem Jbq (s : ByteArray) : ∀ (f p : Nat) (A : List (Nat × Nat)), A.length ≤ p → p ≤ s.size → (lexS s f p A).1.length ≤ s.size
  | 0, _, A, h, hp => by show A.length ≤ _; omega
  | f + 1, p, A, h, hp => by
    unfold lexS; split
    · rename_i hl
      cases hb : ((s[p].toNat : Int) == 32)
      · rw [cond_false]; cases ht : tl (s.data.toList.drop p) with
        | none => show ([] : List (Nat × Nat)).length ≤ _; simp
        | some n =>
          have hbd := Jmm ht; rw [Qc] at hbd; exact Jbq s f _ _ (by simp; omega) (by omega)
      · rw [cond_true]; exact Jbq s f _ _ (by omega) (by omega)
    · show A.length ≤ _; omega
end Go.Proofs.YtjobgpahajhbnabGreatDoor
namespace Go.Proofs.YtjobgpahajhbnabGreatDoor
open Go.RowKit
theorem Tryz.info84 : (Tryz.prog.info? 84).map (fun i => (i.zero, i.size, i.bytes)) = some (some (.agg #[.int .i64 0, .int .i64 0, .int .i64 0, .string ⟨#[]⟩, .int .i64 0]), 5, 48) := by kernel_rfl
theorem Jmv {s : ByteArray} {w wr w1 w2 : World} {v v' : Value} {A : List (Nat × Nat)} {p n : Nat} {o o2 : Obj}
    (hb : Below w.heap.size w wr) (hb1 : Below wr.heap.size wr w1) (hown : wr.ownsRow w.heap.size 84 5 v A.length (Ve s A))
    (h2 : w2.ownsRow w.heap.size 84 5 v' (A.length + 1) (Ve s A ++ [.int .i64 (Ys (s.extract p (p + n))), .int .i64 (Yg (s.extract p (p + n))), .int .i64 (J5 (s.extract p (p + n))), .string (s.extract p (p + n)), .int .i64 p])) (hg : ((w1.alloc o).alloc o2).grownBy w2 v.ownBlock) :
    w2.ownsRow w.heap.size 84 5 v' (A ++ [(p, p + n)]).length (Ve s (A ++ [(p, p + n)])) ∧ Below w.heap.size w w2 := by
  have hb2 : Below w.heap.size w w1 := hb.trans (hb1.mono hb.size); have hs := hb2.size; constructor
  · rw [Jb7]; simpa using h2
  · exact ((hb2.alloc hs o).alloc (by simp; omega) o2).grown hg (by simp; omega) (fun k hk => (hown.lt k hk).1)
theorem Jnv (s : ByteArray) (p n : Nat) (W : World) (hs : s.size ≤ 200) (hp : p < s.size) (hnb : p + n ≤ s.size) (hv : Evs W) (ht : tl (s.data.toList.drop p) = some n) :
    Calls Tryz.prog 43 #[.string (s.extract p s.size)] W fun e w' => e = .returned (.tuple #[tokX (Ys (s.extract p (p + n))) (Yg (s.extract p (p + n))) (J5 (s.extract p (p + n))) (s.extract p (p + n)) 0, .bool true]) ∧ Below W.heap.size W w' := by
  have htz : (s.extract p s.size).size = s.size - p := by rw [ByteArray.size_extract]; omega
  refine (Jih (s.extract p s.size) W (by omega) (by omega) hv).mono ?_; rintro e w' ⟨hc, hb⟩; unfold CutR at hc; rw [Ni, ht] at hc; simp only [Jjd s p n hnb] at hc; exact ⟨hc, hb⟩
theorem Jnw (s : ByteArray) (p : Nat) (W : World) (hs : s.size ≤ 200) (hp : p < s.size) (hv : Evs W) (ht : tl (s.data.toList.drop p) = none) :
    Calls Tryz.prog 43 #[.string (s.extract p s.size)] W fun e w' => ∃ k r t, e = .returned (.tuple #[tokV k r t 0, .bool false]) ∧ Below W.heap.size W w' := by
  have htz : (s.extract p s.size).size = s.size - p := by rw [ByteArray.size_extract]; omega
  refine (Jih (s.extract p s.size) W (by omega) (by omega) hv).mono ?_; rintro e w' ⟨hc, hb⟩; unfold CutR at hc; rw [Ni, ht] at hc; obtain ⟨k, r, t, he⟩ := hc; exact ⟨k, r, t, he, hb⟩
set_option maxRecDepth 10000 in
set_option maxHeartbeats 1000000 in
theorem Qu (s : ByteArray) (w : World) (hs : s.size ≤ 200) (hv : Evs w) :
    Calls Tryz.prog 33 #[.string s] w fun e w' => ∃ v, e = .returned (.tuple #[v, .int .i64 (bif (lexR s).2 == -1 then 0 else (lexR s).2), .bool ((lexR s).2 == -1)]) ∧ w'.ownsRow w.heap.size 84 5 v (lexR s).1.length (Ve s (lexR s).1) ∧ Below w.heap.size w w' := by
  obtain ⟨i0, hi, hz0, hz1, hz2⟩ := info_parts Tryz.info84; obtain ⟨R, hR⟩ : ∃ R, lexS s s.size 0 [] = R := ⟨_, rfl⟩; have HR : Hid (lexR s = R) := hR; have HR0 := hide hR; clear hR; rw [Ja HR]; have HI := hide hi; have HZ0 := hide hz0; have HZ1 := hide hz1; have HZ2 := hide hz2; have HV := hide hv; clear hi hz0 hz1 hz2 hv; go_enter Tryz.func33, Tryz.ntmps33; go_wp2_with fail; go_loopw [5, 6] (fun v i wr => ∃ (p f : Nat) (A : List (Nat × Nat)), p ≤ s.size ∧ i = .int .i64 p ∧ A.length ≤ p ∧ wr.ownsRow w.heap.size 84 5 v A.length (Ve s A) ∧ Below w.heap.size w wr ∧ s.size ≤ f + p ∧ lexS s f p A = R) (fun _ i _ => s.size - (intOf i).toNat)
  case atStart => exact ⟨0, s.size, [], by omega, rfl, by simp, World.ownsRow_nil _ _ _ _, Below.refl _ _, by omega, Ja HR0⟩
  case round =>
    obtain ⟨p, f, A, hp, rfl, hA, hown, hbel, hf, hlex⟩ := hrel; have HO := hide hown; have HB := hide hbel; have HL := hide hlex; have HVr := hide ((Ja HV).below hbel (Ja HV).1); clear hown hbel hlex; by_cases hlt : p < s.size
    · obtain ⟨g, rfl⟩ : ∃ g, f = g + 1 := ⟨f - 1, by omega⟩; cases h32 : ((s[p].toNat : Int) == 32)
      · have H32 := hide h32; cases ht : tl (s.data.toList.drop p) with
        | none =>
          have HE := hide ((Ja HL).symm.trans (Jm9 s g p A hlt (Ja H32) ht)); have HT := hide ht; clear ht; go_wp2_with fail; refine (Jnw s p _ hs hlt (Ja HVr) (Ja HT)).mono ?_; rintro e w1 ⟨k, r, t, rfl, hb1⟩; unfold tokV; have HB1 := hide hb1; clear hb1; go_wp2_with fail; go_ret3
          refine ⟨.slice none 0 0, ?_, ?_, ?_⟩
          · rw [Ja HE, show (((p : Int)) == -1) = false from beq_eq_false_iff_ne.2 (by omega)]; rfl
          · rw [Ja HE]; exact World.ownsRow_nil _ _ _ _
          · exact ((Ja HB).trans ((Ja HB1).mono (Ja HB).size)).alloc (Nat.le_trans (Ja HB).size (Ja HB1).size) _
        | some n =>
          have hbd := Jmm ht; rw [Qc] at hbd; have hn1 : 1 ≤ n := hbd.1; have hnb : p + n ≤ s.size := by omega
          clear hbd; have HE := hide ((Jhk s g p n A hlt (Ja H32) ht).symm.trans (Ja HL)); have HT := hide ht; clear ht; go_wp2_with fail; refine (Jnv s p n _ hs hlt hnb (Ja HVr) (Ja HT)).mono ?_; rintro e w1 ⟨rfl, hb1⟩; have htz : (s.extract p (p + n)).size = n := by rw [ByteArray.size_extract]; omega
          obtain ⟨t, hte⟩ : ∃ t, s.extract p (p + n) = t := ⟨_, rfl⟩; rw [hte] at htz ⊢; have HTE := hide hte; clear hte; obtain ⟨kk, hkk⟩ : ∃ kk, Ys t = kk := ⟨_, rfl⟩; obtain ⟨rr, hrr⟩ : ∃ rr, Yg t = rr := ⟨_, rfl⟩; obtain ⟨xx, hxx⟩ : ∃ xx, J5 t = xx := ⟨_, rfl⟩; rw [hkk, hrr, hxx]; have HXX := hide hxx; have HKK := hide hkk; have HRR0 := hide hrr; clear hkk hrr hxx; unfold tokX; have HB1 := hide hb1; clear hb1; have HO1 := hide (Ka (Ja HO) (Ja HB1)); go_wp2_with (at_builtin; refine wpList_append_own _ rfl _ _ 76 rfl w.heap.size 84 i0 (.agg #[.int .i64 0, .int .i64 0, .int .i64 0, .string ⟨#[]⟩, .int .i64 0]) 5 48 Tryz.underlying76 (Ja HI) (Ja HZ0) (Ja HZ1) (Ja HZ2) rfl (by decide) _ _ _ rfl (((Ja HO1).alloc _).alloc _) ⟨w1.heap.size + 1, 0, none⟩ 1 1 [.int .i64 kk, .int .i64 rr, .int .i64 xx, .string t, .int .i64 p] rfl rfl ?c1 ?c2 ?c3 ?c4 ?c5 ?_)
          case c1 =>
            intro j u hj; match j, hj with
            | 0, hj => simp at hj; subst hj; simp [Addr.add]
            | 1, hj => simp at hj; subst hj; simp [Addr.add]
            | 2, hj => simp at hj; subst hj; simp [Addr.add]
            | 3, hj => simp at hj; subst hj; simp [Addr.add]
            | 4, hj => simp at hj; subst hj; simp [Addr.add]
          case c2 => intro u hu; simp at hu; rcases hu with rfl | rfl | rfl | rfl | rfl <;> rfl
          case c3 => unfold maxLen; omega
          case c4 => omega
          case c5 =>
            have h1 := (Ja HB).size; have h2 := (Ja HB1).size; simp; omega
          · intro v' w2 hown2 hgrow _; have RR := Jmv (n := n) (p := p) (Ja HB) (Ja HB1) (Ja HO) (by rw [Ja HTE, Ja HKK, Ja HRR0, Ja HXX]; exact hown2) hgrow; have HRR := hide RR; have hlt1 := (Ja HO1).lt; have hcell : w2.cell? ⟨w1.heap.size, 3, none⟩ = some (.string t) := by
              rw [World.cell?_of_block (hgrow.block w1.heap.size (by simp; omega) (fun e => by have := (hlt1 w1.heap.size e.symm).2; omega))]; simp
            clear RR hown2 hgrow hlt1; go_wp2_with fail; go_roundw
            case rel => exact ⟨p + n, g, A ++ [(p, p + n)], by omega, by go_num, by simp; omega, (Ja HRR).1, (Ja HRR).2, by omega, Ja HE⟩
            case measure => simp [intOf]; omega
      · have HE := hide ((Jac s g p A hlt h32).symm.trans (Ja HL)); go_wp2_with fail; go_roundw
        case rel => exact ⟨p + 1, g, A, by omega, by go_num, by omega, Ja HO, Ja HB, by omega, Ja HE⟩
        case measure => simp [intOf]; omega
    · have HE := hide ((Ja HL).symm.trans (Jhm s f p A (by omega))); go_wp2_with fail; go_ret3
      exact ⟨u5, by rw [Ja HE]; rfl, by rw [Ja HE]; exact Ja HO, Ja HB⟩
end Go.Proofs.YtjobgpahajhbnabGreatDoor
namespace Go.Proofs.YtjobgpahajhbnabGreatDoor
open Go.RowKit
theorem Jiv {T : List (Int × Int)} (h : T.length ≤ 1) : beg T = 0 := by
  have : kB T 1 2 = false := by unfold kB; rw [List.getElem?_eq_none (by omega)]
  unfold beg; rw [this, Bool.and_false]; rfl
theorem Jft : ∀ (l : List (Int × Int)) (j st op : Nat), (scan l j st op).1 ≤ j + l.length
  | [], j, st, op => by simp [scan]
  | q :: r, j, st, op => by
    unfold scan; split
    · simp
    · have := Jft r (j + 1); rename_i x _
      have := this x.1 x.2; simp only [List.length_cons]; omega
theorem Jof {T : List (Int × Int)} {j st op : Nat} (h : j ≤ T.length) : (sc T j st op).1 ≤ T.length := by
  have := Jft (T.drop j) j st op; rw [List.length_drop] at this; unfold sc; omega
theorem Jmd (T : List (Int × Int)) : beg T ≤ T.length := by
  by_cases h : T.length ≤ 1
  · rw [Jiv h]; omega
  · unfold beg; cases (kB T 0 1 && kB T 1 2)
    · rw [cond_false]; omega
    · rw [cond_true]; omega
theorem Jci (s : ByteArray) (A : List (Nat × Nat)) : Wf (tks s A) := by
  intro q hq; simp only [tks, List.mem_map] at hq; obtain ⟨x, _, rfl⟩ := hq; generalize s.extract x.1 x.2 = t
  show Ys t = 0 ∨ Ys t = 1 ∨ Ys t = 4 ∨ Ys t = 5 → Yg t = 0; unfold Ys Yg; cases (hd t == 40)
  · cases (hd t == 41)
    · cases (hd t == 95 || digB (hd t))
      · cases letB (hd t)
        · simp
        · simp only [cond_true, cond_false]; unfold Nf; cases h : (Ym t != 0)
          · intro _; simpa using h
          · simp
      · simp
    · simp
  · simp
theorem Joi {s : ByteArray} {A : List (Nat × Nat)} (h : okT (tks s A) = true) : pFin s A (sc (tks s A) (beg (tks s A)) 0 0) = (0, 0) := by
  simp only [okT, topB, Bool.and_eq_true, decide_eq_true_iff] at h; unfold pFin; have hk := Jof (st := 0) (op := 0) (Jmd (tks s A)); rw [Fj] at h hk; rw [if_pos]; exact ⟨by omega, h.1.1, h.1.2⟩
theorem Jom {s : ByteArray} {A : List (Nat × Nat)} (h : okT (tks s A) = false) : pFin s A (sc (tks s A) (beg (tks s A)) 0 0) = (3, plc s A (endT (tks s A))) := by
  unfold pFin; rw [if_neg]
  · rfl
  intro hc; have : okT (tks s A) = true := by
    simp only [okT, topB, Bool.and_eq_true, decide_eq_true_iff]; rw [Fj]; exact ⟨⟨hc.2.1, hc.2.2⟩, by omega⟩
  rw [this] at h; cases h
theorem Fi {w : World} {B : Nat} {v : Value} {s : ByteArray} {A : List (Nat × Nat)} (hfew : A.length ≤ 200) (h : w.ownsRow B 84 5 v A.length (Ve s A)) :
    ∃ ao g cap, v = .slice ao A.length cap ∧ TokIn w ao g (toks s A) := by
  obtain ⟨ao, cap, g, hv, _, ha, hcell⟩ := Jgz h; refine ⟨ao, g, cap, hv, by rw [Yj]; exact hfew, by rw [Yj]; exact ha, ?_⟩; intro i hi; have hi' : i < A.length := by rw [Yj] at hi; exact hi
  have hf := Joz (fun q : Nat × Nat => Value.int .i64 (Ys (s.extract q.1 q.2))) (fun q => Value.int .i64 (Yg (s.extract q.1 q.2))) (fun q => Value.int .i64 (J5 (s.extract q.1 q.2))) (fun q => Value.string (s.extract q.1 q.2)) (fun q => Value.int .i64 q.1) A i hi'; rw [hcell (i * 5) (by omega), hcell (i * 5 + 1) (by omega), hcell (i * 5 + 2) (by omega), hcell (i * 5 + 3) (by omega), hcell (i * 5 + 4) (by omega)]; simp only [toks, List.getElem_map]; exact hf
theorem Jc3 {s : ByteArray} (hs : s.size ≤ 200) : (lexR s).1.length ≤ 200 := by have := Jbq s s.size 0 [] (by simp) (by omega); unfold lexR; omega
theorem Za {a b c : World} (h : Below a.heap.size a b) (h' : Below b.heap.size b c) : Below a.heap.size a c := h.trans (h'.mono h.size)
def Jw (s : ByteArray) (x : Ex) : Prop := PX (toks s (lexR s).1) false (beg (tks s (lexR s).1)) 0 x (lexR s).1.length
def Yp (s : ByteArray) : ByteArray := if (Ju s).1 = 0 then Ky (toks s (lexR s).1) else ⟨#[]⟩
def Jdk (s : ByteArray) (w : World) (e : Ending) (w' : World) : Prop :=
  ∃ q, e = .returned (.tuple #[.agg #[.string (Yp s), .pointer q], .int .i64 (Ju s).1, .int .i64 (Ju s).2]) ∧ Below w.heap.size w w' ∧ ((Ju s).1 = 0 → ∃ x, Jw s x ∧ IsEx w.heap.size w' q x)
set_option maxHeartbeats 400000 in
theorem Jes (s : ByteArray) (w : World) (h : 200 < s.size) (hm : s.size ≤ 9223372036854775807) : Calls Tryz.prog 24 #[.string s] w (Jdk s w) := by
  have hp : Ju s = (1, 0) := by unfold Ju; rw [if_pos h]
  have hn : Yp s = ⟨#[]⟩ := by unfold Yp; rw [hp]; rfl
  have HP := hide hp; have HN := hide hn; clear hp hn; go_enter Tryz.func24, Tryz.ntmps24; go_wp2_with fail; refine bodyPost_ret (v := .tuple #[.agg #[.string ⟨#[]⟩, .pointer none], .int .i64 1, .int .i64 0]) (by simp [results, Tryz.results24, go_sem]) rfl ⟨none, ?_, (Below.refl _ _).alloc (Nat.le_refl _) _, ?_⟩
  · rw [Ja HP, Ja HN]
  · rw [Ja HP]; intro h; cases h
set_option maxHeartbeats 400000 in
theorem Jh1 (s : ByteArray) (w : World) (hs : s.size ≤ 200) (hv : Evs w) (hx : ¬ (lexR s).2 = -1) : Calls Tryz.prog 24 #[.string s] w (Jdk s w) := by
  have hp : Ju s = (2, (lexR s).2) := by unfold Ju; rw [if_neg (by omega), if_neg hx]
  have hn : Yp s = ⟨#[]⟩ := by unfold Yp; rw [hp]; rfl
  have HP := hide hp; have HN := hide hn; have e1 : ((lexR s).2 == -1) = false := beq_eq_false_iff_ne.2 hx; have HV := hide hv; have HE := hide e1; clear hp hn hv e1 hx; go_enter Tryz.func24, Tryz.ntmps24; go_wp2_with fail; refine (Qu s _ hs ((Ja HV).alloc _)).mono ?_; rintro e w1 ⟨v, rfl, _, hb⟩; rw [Ja HE, cond_false]; obtain ⟨hc, hf⟩ := Jq hb; have d0 := hc w.heap.size 0 (by simp); have d1 := hc w.heap.size 1 (by simp); have g0 := hf w.heap.size 0 (by simp); have g1 := hf w.heap.size 1 (by simp); simp at d0 d1 g0 g1; have HB : Hid (Below w.heap.size w w1) := ((Below.refl w.heap.size w).alloc (Nat.le_refl _) _).trans (hb.mono (by simp)); clear hc hf hb; go_wp2_with fail; refine bodyPost_ret (v := .tuple #[.agg #[.string ⟨#[]⟩, .pointer none], .int .i64 2, .int .i64 (lexR s).2]) (by simp [results, Tryz.results24, go_sem, d0, d1]) rfl ⟨none, ?_, ?_, ?_⟩
  · rw [Ja HP, Ja HN]
  · exact ((Ja HB).setCell (Nat.le_refl _) _).setCell (Nat.le_refl _) _
  · rw [Ja HP]; intro h; cases h
set_option maxHeartbeats 1000000 in
theorem Jkz (s : ByteArray) (A : List (Nat × Nat)) (w : World) (hs : s.size ≤ 200) (hv : Evs w) (hA : (lexR s).1 = A) (hx : (lexR s).2 = -1) : Calls Tryz.prog 24 #[.string s] w (Jdk s w) := by
  have hp : Ju s = pFin s A (sc (tks s A) (beg (tks s A)) 0 0) := by unfold Ju; rw [if_neg (by omega), if_pos hx, hA]
  have e1 : ((lexR s).2 == -1) = true := beq_iff_eq.2 hx; have hfew : A.length ≤ 200 := by rw [← hA]; exact Jc3 hs
  have HV := hide hv; have HE := hide e1; have HAA := hide hA; have hel : endT (tks s A) ≤ A.length := by
    have := Jof (st := 0) (op := 0) (Jmd (tks s A)); rwa [Fj] at this
  obtain ⟨n, hn⟩ : ∃ n, endT (tks s A) = n := ⟨_, rfl⟩; rw [hn] at hel; have HN := hide hn; clear hv e1 hx; cases ho : okT (tks s A)
  · rw [Jom ho, hn] at hp; have hnm : Yp s = ⟨#[]⟩ := by unfold Yp; rw [hp]; rfl
    have HP := hide hp; have HNM := hide hnm; have HO := hide ho; clear hp hnm ho hn hA; by_cases hkn : n = A.length
    · have hpl : plc s A n = (s.size : Int) := by unfold plc; rw [List.getElem?_eq_none (by omega)]
      have HPL := hide hpl; have hbk : ((n : Int) == (A.length : Int)) = true := by rw [beq_iff_eq]; omega
      clear hpl hkn; go_enter Tryz.func24, Tryz.ntmps24; go_wp2_with fail; refine (Qu s _ hs ((Ja HV).alloc _)).mono ?_; rintro e w1 ⟨v, rfl, hown, hb⟩; rw [Ja HE, cond_true]; rw [Ja HAA] at hown; obtain ⟨ao, g, cap, rfl, hR⟩ := Fi hfew hown; have HR := hide hR; have HB := hide hb; clear hown hR hb; go_wp2_with fail; have hcall := Xn w1 ao g cap (toks s A) (Ja HR) (by rw [Zc]; exact Jci s A); rw [Yj] at hcall; refine hcall.mono ?_; clear hcall; rintro e w2 ⟨q, rfl, hb2, _⟩; rw [Zc, Ja HO, Ja HN]; simp only [cond_false]; obtain ⟨hc, hf⟩ := Jq (Za (Ja HB) hb2); have d0 := hc w.heap.size 0 (by simp); have d1 := hc w.heap.size 1 (by simp); have g0 := hf w.heap.size 0 (by simp); have g1 := hf w.heap.size 1 (by simp); simp at d0 d1 g0 g1; have HB2 : Hid (Below w.heap.size w w2) := ((Below.refl w.heap.size w).alloc (Nat.le_refl _) _).trans ((Za (Ja HB) hb2).mono (by simp)); have hz2 : w.heap.size < w2.heap.size := by have := (Za (Ja HB) hb2).size; simp at this; omega
      clear hc hf hb2; go_wp2_with fail; refine bodyPost_ret (v := .tuple #[.agg #[.string ⟨#[]⟩, .pointer none], .int .i64 3, .int .i64 s.size]) (by simp [results, Tryz.results24, go_sem, d0, d1, hz2]) rfl ⟨none, ?_, ?_, ?_⟩
      · rw [Ja HP, Ja HNM, Ja HPL]
      · first
        | exact (((Ja HB2).setCell (Nat.le_refl _) _).setCell (Nat.le_refl _) _).alloc (by simp; omega) _
        | exact (((Ja HB2).alloc (Ja HB2).size _).setCell (Nat.le_refl _) _).setCell (Nat.le_refl _) _
      · rw [Ja HP]; intro h; cases h
    · have hlt : n < A.length := by omega
      have hpl : plc s A n = (A[n].1 : Int) := by unfold plc; rw [List.getElem?_eq_getElem hlt]
      have HPL := hide hpl; have hbk : ((n : Int) == (A.length : Int)) = false := by rw [beq_eq_false_iff_ne]; omega
      clear hpl; go_enter Tryz.func24, Tryz.ntmps24; go_wp2_with fail; refine (Qu s _ hs ((Ja HV).alloc _)).mono ?_; rintro e w1 ⟨v, rfl, hown, hb⟩; rw [Ja HE, cond_true]; rw [Ja HAA] at hown; obtain ⟨ao, g, cap, rfl, hR⟩ := Fi hfew hown; have HR := hide hR; have HB := hide hb; clear hown hR hb; go_wp2_with fail; have hcall := Xn w1 ao g cap (toks s A) (Ja HR) (by rw [Zc]; exact Jci s A); rw [Yj] at hcall; refine hcall.mono ?_; clear hcall; rintro e w2 ⟨q, rfl, hb2, _⟩; rw [Zc, Ja HO, Ja HN]; simp only [cond_false]; have haddr := (Ja HR).addr (by rw [Yj]; omega); obtain ⟨rfl, hg⟩ := haddr; obtain ⟨_, _, _, _, cp⟩ := (Ja HR).cell n (by rw [Yj]; exact hlt); have cp2 := (hb2.cell (p := ⟨g, n * 5 + 4, none⟩) hg).trans cp; simp only [toks, List.getElem_map] at cp2; obtain ⟨hc, hf⟩ := Jq (Za (Ja HB) hb2); have d0 := hc w.heap.size 0 (by simp); have d1 := hc w.heap.size 1 (by simp); have g0 := hf w.heap.size 0 (by simp); have g1 := hf w.heap.size 1 (by simp); simp at d0 d1 g0 g1; have HB2 : Hid (Below w.heap.size w w2) := ((Below.refl w.heap.size w).alloc (Nat.le_refl _) _).trans ((Za (Ja HB) hb2).mono (by simp)); have hz2 : w.heap.size < w2.heap.size := by have := (Za (Ja HB) hb2).size; simp at this; omega
      have hgl : g < w2.heap.size := Nat.lt_of_lt_of_le hg hb2.size; have hki : (n : Int) < (A.length : Int) := by omega
      clear hc hf hb2 cp; go_wp2_with fail; go_region
      all_goals
        go_wp2_with fail; refine bodyPost_ret (v := .tuple #[.agg #[.string ⟨#[]⟩, .pointer none], .int .i64 3, .int .i64 A[n].1]) (by simp [results, Tryz.results24, go_sem, d0, d1, hz2]) rfl ⟨none, ?_, ?_, ?_⟩
        · rw [Ja HP, Ja HNM, Ja HPL]
        · first
          | exact ((((Ja HB2).setCell (Nat.le_refl _) _).setCell (Nat.le_refl _) _).alloc (by simp; omega) _).drew
          | exact ((((Ja HB2).alloc (Ja HB2).size _).setCell (Nat.le_refl _) _).setCell (Nat.le_refl _) _).drew
        · rw [Ja HP]; intro h; cases h
  · rw [Joi ho] at hp; have hnm : Yp s = Ky (toks s A) := by unfold Yp; rw [hp, hA]; rfl
    have htr : ∀ x, PX (toks s A) false (beg (kr (toks s A))) 0 x (toks s A).length → Jw s x := by
      intro x h; unfold Jw; rw [hA]; rwa [Zc, Yj] at h
    have HP := hide hp; have HNM := hide hnm; have HTR := hide htr; have HO := hide ho; clear hp hnm ho hn hA htr; go_enter Tryz.func24, Tryz.ntmps24; go_wp2_with fail; refine (Qu s _ hs ((Ja HV).alloc _)).mono ?_; rintro e w1 ⟨v, rfl, hown, hb⟩; rw [Ja HE, cond_true]; rw [Ja HAA] at hown; obtain ⟨ao, g, cap, rfl, hR⟩ := Fi hfew hown; have HR := hide hR; have HB := hide hb; clear hown hR hb; go_wp2_with fail; have hcall := Xn w1 ao g cap (toks s A) (Ja HR) (by rw [Zc]; exact Jci s A); rw [Yj] at hcall; refine hcall.mono ?_; clear hcall; rintro e w2 ⟨q, rfl, hb2, hx⟩; have hx1 := hx (by rw [Zc]; exact Ja HO); have HX := hide hx1; rw [Zc, Ja HO]; simp only [cond_true]; obtain ⟨hc, hf⟩ := Jq (Za (Ja HB) hb2); have d0 := hc w.heap.size 0 (by simp); have d1 := hc w.heap.size 1 (by simp); have g0 := hf w.heap.size 0 (by simp); have g1 := hf w.heap.size 1 (by simp); simp at d0 d1 g0 g1; have HB2 : Hid (Below w.heap.size w w2) := ((Below.refl w.heap.size w).alloc (Nat.le_refl _) _).trans ((Za (Ja HB) hb2).mono (by simp)); have hz2 : w.heap.size < w2.heap.size := by have := (Za (Ja HB) hb2).size; simp at this; omega
    have hz1 : w.heap.size < w1.heap.size := by have := (Ja HB).size; simp at this; omega
    obtain ⟨nm, hnm⟩ : ∃ nm, Ky (toks s A) = nm := ⟨_, rfl⟩; rw [hnm]; rw [hnm] at HNM; clear hc hf hb2 hx hx1 hnm; go_wp2_with fail; refine bodyPost_ret (v := .tuple #[.agg #[.string nm, .pointer q], .int .i64 0, .int .i64 0]) (by simp [results, Tryz.results24, go_sem, d0, d1, hz2]) rfl ⟨q, ?_, ?_, ?_⟩
    · rw [Ja HP, Ja HNM]
    · first
      | exact (((Ja HB2).setCell (Nat.le_refl _) _).setCell (Nat.le_refl _) _).alloc (by simp; omega) _
      | exact (((Ja HB2).alloc (Ja HB2).size _).setCell (Nat.le_refl _) _).setCell (Nat.le_refl _) _
    · intro _; obtain ⟨x, hx1, hx2⟩ := Ja HX; refine ⟨x, Ja HTR x hx1, (hx2.mono (B' := w.heap.size) (by omega)).keep ?_⟩; refine ⟨by simp, fun b' h1 h2 => ?_⟩; rw [RowKit.Below.heap_alloc _ _ _ (by simpa using h2), RowKit.Below.heap_setCell _ _ _ _ (by simp; omega), RowKit.Below.heap_setCell _ _ _ _ (by simp; omega)]
theorem Kc (s : ByteArray) (w : World) (hv : Evs w) (hm : s.size ≤ 9223372036854775807) : Calls Tryz.prog 24 #[.string s] w (Jdk s w) := by
  by_cases hs : 200 < s.size
  · exact Jes s w hs hm
  · by_cases hx : (lexR s).2 = -1
    · exact Jkz s _ w (by omega) hv rfl hx
    · exact Jh1 s w (by omega) hv hx
end Go.Proofs.YtjobgpahajhbnabGreatDoor
namespace Go.Proofs.YtjobgpahajhbnabGreatDoor
open Go.RowKit
theorem Vs {T : List (Int × Int)} {j : Nat} {a b : Int} (h : kB T j a = true) (h' : kB T j b = true) : a = b := by
  obtain ⟨hj, e⟩ := X4 h; obtain ⟨_, e'⟩ := X4 h'; rw [← e, ← e']
theorem PX.uniq {S : List Tok} {b : Bool} {j o : Nat} {x : Ex} {k : Nat} (h : PX S b j o x k) : ∀ {x' : Ex} {k' : Nat}, PX S b j o x' k' → x = x' ∧ k = k' := by
  induction h with
  | nums j o k h1 h2 h3 h4 =>
    intro x' k' h'; cases h' with
    | nums _ _ k2 g1 g2 g3 g4 =>
      have : k = k' := by
        rcases Nat.lt_trichotomy k k' with h | h | h
        · rw [g3 k (by omega) h] at h4; cases h4
        · exact h
        · rw [h3 k' (by omega) h] at g4; cases g4
      subst this; exact ⟨rfl, rfl⟩
    | name _ _ g1 => exact absurd (Vs (h3 j (Nat.le_refl _) h1) g1) (by decide)
    | paren _ _ e k2 g1 g2 g3 g4 => exact absurd (Vs (h3 j (Nat.le_refl _) h1) g1) (by decide)
  | name j o h1 =>
    intro x' k' h'; cases h' with
    | nums _ _ k2 g1 g2 g3 g4 => exact absurd (Vs (g3 j (Nat.le_refl _) g1) h1) (by decide)
    | name _ _ g1 => exact ⟨rfl, rfl⟩
    | paren _ _ e k2 g1 g2 g3 g4 => exact absurd (Vs h1 g1) (by decide)
  | paren j o e k h1 h2 h3 h4 ih =>
    intro x' k' h'; cases h' with
    | nums _ _ k2 g1 g2 g3 g4 => exact absurd (Vs (g3 j (Nat.le_refl _) g1) h1) (by decide)
    | name _ _ g1 => exact absurd (Vs h1 g1) (by decide)
    | paren _ _ e k2 g1 g2 g3 g4 =>
      obtain ⟨r1, r2⟩ := ih g3; exact ⟨r1, by omega⟩
  | one j o r k h1 h2 ih =>
    intro x' k' h'; cases h' with
    | one _ _ r2 k2 g1 g2 =>
      obtain ⟨r1, r2⟩ := ih g2; exact ⟨by rw [r1], r2⟩
    | only _ _ l k2 g1 g2 g3 => rw [h1] at g1; cases g1
    | two _ _ l k2 r2 m g1 g2 g3 g4 => rw [h1] at g1; cases g1
  | only j o l k h1 h2 h3 ih =>
    intro x' k' h'; cases h' with
    | one _ _ r2 k2 g1 g2 => rw [h1] at g1; cases g1
    | only _ _ l k2 g1 g2 g3 => exact ih g2
    | two _ _ l k2 r2 m g1 g2 g3 g4 =>
      obtain ⟨_, e⟩ := ih g2; subst e; rw [h3] at g3; cases g3
  | two j o l k r m h1 h2 h3 h4 ih1 ih2 =>
    intro x' k' h'; cases h' with
    | one _ _ r2 k2 g1 g2 => rw [h1] at g1; cases g1
    | only _ _ l k2 g1 g2 g3 =>
      obtain ⟨_, e⟩ := ih1 g2; subst e; rw [h3] at g3; cases g3
    | two _ _ l k2 r2 m g1 g2 g3 g4 =>
      obtain ⟨e1, e⟩ := ih1 g2; subst e; obtain ⟨e2, e3⟩ := ih2 g4; exact ⟨by rw [e1, e2], e3⟩
theorem PX.scan {S : List Tok} {b : Bool} {j o : Nat} {x : Ex} {k : Nat} (h : PX S b j o x k) (hw : Wf (kr S)) : j < k ∧ k ≤ S.length ∧ ∃ st, (st = 1 ∨ st = 2) ∧ sc (kr S) j 0 o = sc (kr S) k st o := by
  induction h with
  | nums j o k h1 h2 h3 h4 =>
    refine ⟨h1, h2, 1, Or.inl rfl, ?_⟩; obtain ⟨n, rfl⟩ : ∃ n, k = j + (n + 1) := ⟨k - j - 1, by omega⟩; exact Jbe o n j h3
  | name j o h1 =>
    obtain ⟨a, b⟩ := Jfz (op := o) h1; rw [Yu] at a; exact ⟨Nat.lt_succ_self _, a, 2, Or.inr rfl, b⟩
  | paren j o e k h1 h2 h3 h4 ih =>
    obtain ⟨i1, i2, st, hst, e1⟩ := ih; obtain ⟨a, b⟩ := Jfy (op := o) h1 h2; obtain ⟨c, d⟩ := Jco (op := o) (st := st) (by omega) h4; rw [Yu] at c; exact ⟨by omega, c, 2, Or.inr rfl, by rw [b, e1, d]⟩
  | one j o r k h1 h2 ih =>
    obtain ⟨i1, i2, st, hst, e1⟩ := ih; obtain ⟨a, b⟩ := Jcp (op := o) hw h1; exact ⟨by omega, i2, st, hst, by rw [b, e1]⟩
  | only j o l k h1 h2 h3 ih => exact ih
  | two j o l k r m h1 h2 h3 h4 ih1 ih2 =>
    obtain ⟨i1, i2, st, hst, e1⟩ := ih1; obtain ⟨j1, j2, st2, hst2, e2⟩ := ih2; obtain ⟨a, b⟩ := Gw (op := o) (st := st) hw (by omega) h3; exact ⟨by omega, j2, st2, hst2, by rw [e1, b, e2]⟩
theorem Jd8 {s : ByteArray} {A : List (Nat × Nat)} {x : Ex} (hs : s.size ≤ 200) (hl : lexR s = (A, -1)) (hx : PX (toks s A) false (beg (tks s A)) 0 x A.length) : Ju s = (0, 0) ∧ Jw s x := by
  have ht : Jw s x := by unfold Jw; rw [hl]; exact hx
  refine ⟨?_, ht⟩; obtain ⟨_, _, st, hst, e⟩ := hx.scan (by rw [Zc]; exact Jci s A); rw [Zc] at e; have e2 : sc (tks s A) A.length st 0 = (A.length, st, 0) := Jf1 (by rw [Fj]; exact Nat.le_refl _); unfold Ju; rw [if_neg (by omega), hl, if_pos rfl]; simp only []; rw [e, e2]; unfold pFin; rw [if_pos ⟨rfl, by simp only []; omega, rfl⟩]
theorem Xl {s : ByteArray} {x y : Ex} (h : Jw s x) (h' : Jw s y) : x = y := (PX.uniq h h').1
inductive LX : Nat → List UInt8 → List (Nat × Nat) → Prop where
  | done (p : Nat) : LX p [] []
  | blank (p : Nat) (l : List UInt8) (A : List (Nat × Nat)) : LX (p + 1) l A → LX p (32 :: l) A
  | tok (p n : Nat) (c : UInt8) (l : List UInt8) (A : List (Nat × Nat)) : c ≠ 32 → tl (c :: l) = some n → LX (p + n) ((c :: l).drop n) A → LX p (c :: l) ((p, p + n) :: A)
theorem Jor {s : ByteArray} {p : Nat} {l : List UInt8} {A : List (Nat × Nat)} (h : LX p l A) : ∀ (f : Nat) (B : List (Nat × Nat)), s.data.toList.drop p = l → p ≤ s.size → s.size - p ≤ f → lexS s f p B = (B ++ A, -1) := by
  have hsz : s.data.toList.length = s.size := rfl; induction h with
  | done p =>
    intro f B hd hp hf; have : s.size ≤ p := by have := congrArg List.length hd; simp [hsz] at this; omega
    rw [Jhm s f p B this]; simp
  | blank p l A hl ih =>
    intro f B hd hp hf; have hp2 : p < s.size := by have := congrArg List.length hd; simp [hsz] at this; omega
    rw [K2 s p hp2] at hd; injection hd with h1 h2; obtain ⟨f, rfl⟩ : ∃ g, f = g + 1 := ⟨f - 1, by omega⟩; rw [Jac s f p B hp2 (by rw [h1]; rfl)]; exact ih f B h2 hp2 (by omega)
  | tok p n c l A hc ht hl ih =>
    intro f B hd hp hf; have hp2 : p < s.size := by have := congrArg List.length hd; simp [hsz] at this; omega
    have hd' := hd; rw [K2 s p hp2] at hd; injection hd with h1 h2; obtain ⟨f, rfl⟩ : ∃ g, f = g + 1 := ⟨f - 1, by omega⟩; have hb := Jmm ht; have hlen : p + n ≤ s.size := by
      have := congrArg List.length hd'; have h3 := hb.2; rw [← this, Qc] at h3; omega
    have hne : ((s[p].toNat : Int) == 32) = false := by
      rw [h1]; refine beq_eq_false_iff_ne.2 (fun e => hc ?_); have h32 : c.toNat = (32 : UInt8).toNat := by
        have : (32 : UInt8).toNat = 32 := rfl
        omega
      exact UInt8.toNat_inj.1 h32
    rw [Jhk s f p n B hp2 hne (by rw [hd']; exact ht)]; rw [ih f (B ++ [(p, p + n)]) (by rw [← hd', List.drop_drop]) hlen (by omega)]; simp
theorem Jm5 {s : ByteArray} {A : List (Nat × Nat)} (h : LX 0 s.data.toList A) : lexR s = (A, -1) := by
  unfold lexR; rw [Jor h s.size [] (by simp) (by omega) (by omega)]; simp
end Go.Proofs.YtjobgpahajhbnabGreatDoor
namespace Go.Proofs.YtjobgpahajhbnabGreatDoor
open Go.RowKit
inductive LY : Nat → List UInt8 → List UInt8 → List (Nat × Nat) → Prop where
  | done (p : Nat) (r : List UInt8) : LY p [] r []
  | blank (p : Nat) (l r : List UInt8) (A : List (Nat × Nat)) : LY (p + 1) l r A → LY p (32 :: l) r A
  | tok (p n : Nat) (c : UInt8) (l r : List UInt8) (A : List (Nat × Nat)) : c ≠ 32 → tl (c :: (l ++ r)) = some n → n ≤ l.length + 1 → LY (p + n) ((c :: l).drop n) r A → LY p (c :: l) r ((p, p + n) :: A)
theorem LY.append {p : Nat} {l r' : List UInt8} {A : List (Nat × Nat)} (h : LY p l r' A) : ∀ {l2 r : List UInt8} {B : List (Nat × Nat)}, r' = l2 ++ r → LY (p + l.length) l2 r B → LY p (l ++ l2) r (A ++ B) := by
  induction h with
  | done p r' => intro l2 r B _ h2; simpa using h2
  | blank p l r' A h ih =>
    intro l2 r B e h2; exact LY.blank _ _ _ _ (ih e (by simpa [Nat.add_assoc, Nat.add_comm 1] using h2))
  | tok p n c l r' A hc ht hn h ih =>
    intro l2 r B e h2; subst e; have hn' : n ≤ (c :: l).length := by simpa using hn
    refine LY.tok p n c (l ++ l2) r (A ++ B) hc (by rw [List.append_assoc]; exact ht) (by simp; omega) ?_; have e1 : List.drop n (c :: (l ++ l2)) = List.drop n (c :: l) ++ l2 := by
      rw [← List.cons_append, List.drop_append_of_le_length hn']
    rw [e1]; refine ih rfl ?_; have e2 : p + n + (List.drop n (c :: l)).length = p + (c :: l).length := by simp; omega
    rw [e2]; exact h2
theorem LY.whole {p : Nat} {l r : List UInt8} {A : List (Nat × Nat)} (h : LY p l r A) : r = [] → LX p l A := by
  induction h with
  | done p r => intro _; exact LX.done p
  | blank p l r A h ih => intro e; exact LX.blank _ _ _ (ih e)
  | tok p n c l r A hc ht hn h ih =>
    intro e; subst e; exact LX.tok p n c l A hc (by simpa using ht) (ih rfl)
theorem LY.one {p : Nat} {c : UInt8} {l r : List UInt8} (hc : c ≠ 32) (ht : tl (c :: (l ++ r)) = some (l.length + 1)) : LY p (c :: l) r [(p, p + (l.length + 1))] :=
  LY.tok p (l.length + 1) c l r [] hc ht (Nat.le_refl _) (by rw [List.drop_eq_nil_of_le (by simp)]; exact LY.done _ _)
inductive Nm : Int → List UInt8 → Prop where
  | pos (D : List UInt8) : D.all dU = true → 1 ≤ D.length → D.length ≤ 19 → val D ≤ 9223372036854775807 → Nm (val D : Int) D
  | neg (D : List UInt8) : D.all dU = true → 1 ≤ D.length → D.length ≤ 19 → val D ≤ 9223372036854775807 → Nm (-(val D : Int)) (95 :: D)
def Stop (r : List UInt8) : Prop := ∀ c, r.head? = some c → dU c = false
theorem Jn9 {D r : List UInt8} (h : D.all dU = true) (hr : Stop r) : (D ++ r).takeWhile dU = D := by
  have h1 := Fg (l := D ++ r) (j := D.length) (p := dU) (by simpa using h) (by intro c hc; rw [List.getElem?_append_right (Nat.le_refl _)] at hc; simp at hc; exact hr c (by rw [List.head?_eq_getElem?]; exact hc)); rw [h1]; simp
theorem Jc0 {D r : List UInt8} (k : Nat) (h : D.all dU = true) (h1 : 1 ≤ D.length) (h2 : D.length ≤ 19) (h3 : val D ≤ 9223372036854775807) (hr : Stop r) : numE k (D ++ r) = some (k + D.length) := by
  unfold numE; simp only [Jn9 h hr]; rw [if_neg (by omega)]
theorem Jla {c : UInt8} (h : dU c = true) : c ≠ 32 := by
  rintro rfl; exact absurd h (by decide)
theorem Jon {n : Int} {t r : List UInt8} (h : Nm n t) (hr : Stop r) (p : Nat) : LY p t r [(p, p + t.length)] := by
  cases h with
  | pos _ a b c d =>
    match t, a, b, c, d with
    | x :: D, a, b, c, d =>
      have hx : dU x = true := by simp at a; exact a.1
      refine LY.one (Jla hx) ?_; have := Jc0 0 a b c d hr; simp only [tl, hx, cond_true]; rw [← List.cons_append, this]; simp
  | neg D a b c d =>
    refine LY.one (by decide) ?_; have h5 : dU 95 = false := by decide
    simp only [tl, h5, cond_false, beq_self_eq_true, cond_true]; rw [Jc0 1 a b c d hr, Nat.add_comm]
theorem Fb {a b : ByteArray} (h : a.data.toList = b.data.toList) : a = b := by
  cases a; cases b
  simp at h; rw [h]
theorem Jlz {n : Int} {t : List UInt8} (h : Nm n t) : Ys ⟨t.toArray⟩ = 0 ∧ Yg ⟨t.toArray⟩ = 0 ∧ J5 ⟨t.toArray⟩ = n := by
  cases h with
  | pos _ a b c d =>
    match t, a, b, c, d with
    | x :: D, a, b, c, d =>
      have hx : dU x = true := by simp at a; exact a.1
      have hd1 : hd ⟨(x :: D).toArray⟩ = (x.toNat : Int) := rfl; have hb : digB (x.toNat : Int) = true := hx; obtain ⟨f1, f2, f3⟩ := Jid _ hb; refine ⟨?_, ?_, ?_⟩
      · simp only [Ys, hd1, f1, f2, f3, hb, cond_false, Bool.false_or, cond_true]
      · simp only [Yg, hd1, f1, f2, f3, hb, cond_false, Bool.false_or, cond_true]
      · simp only [J5, hd1, f3, hb, cond_false, cond_true]
  | neg D a b c d =>
    have hd1 : hd ⟨(95 :: D).toArray⟩ = 95 := rfl; refine ⟨?_, ?_, ?_⟩
    · simp [Ys, hd1]
    · simp [Yg, hd1]
    · simp [J5, hd1]
end Go.Proofs.YtjobgpahajhbnabGreatDoor
namespace Go.Proofs.YtjobgpahajhbnabGreatDoor
open Go.RowKit
theorem Ko {s : ByteArray} {L : List (Nat × Nat)} {i a b : Nat} (h : L[i]? = some (a, b)) (k : Int) : kB (kr (toks s L)) i k = (Ys (s.extract a b) == k) := by
  unfold kB; rw [Zc]; simp [tks, h]
theorem G6 {s : ByteArray} {L : List (Nat × Nat)} {i a b : Nat} (h : L[i]? = some (a, b)) (k : Int) : fB (kr (toks s L)) i k = Yr (Yg (s.extract a b)) k := by
  unfold fB; rw [Zc]; simp [tks, h]
theorem Qt {s : ByteArray} {L : List (Nat × Nat)} {i a b : Nat} (h : L[i]? = some (a, b)) : J4 (toks s L) i = ⟨Ys (s.extract a b), Yg (s.extract a b), J5 (s.extract a b), s.extract a b, a⟩ := by
  unfold J4 toks; simp [List.getD_eq_getElem?_getD, h]
theorem Kn {s : ByteArray} {q t r : List UInt8} {p : Nat} (h : s.data.toList = q ++ (t ++ r)) (hq : q.length = p) : s.extract p (p + t.length) = ⟨t.toArray⟩ := by
  apply Fb; rw [Jy, h, ← hq]; simp
theorem Ja0 {pre post : List (Nat × Nat)} {z : Nat × Nat} : (pre ++ (z :: post))[pre.length]? = some z := by
  rw [List.getElem?_append_right (Nat.le_refl _)]; simp
theorem Jpd : Ys ⟨#[40]⟩ = 4 ∧ Yg ⟨#[40]⟩ = 0 ∧ Ys ⟨#[41]⟩ = 5 ∧ Yg ⟨#[41]⟩ = 0 := by decide
end Go.Proofs.YtjobgpahajhbnabGreatDoor
