import Derived.Test.YtjobgpahajhbnabGreatDoorWi
import Derived.Test.YtjobgpahajhbnabGreatDoorWa
import Derived.Deep.QuietTactic
import Derived.BigQuiet
import Derived.Deep.RegionWith
namespace Go.Proofs.YtjobgpahajhbnabGreatDoor
open Go.RowKit
theorem Kf (p : Bool) (k x : Int) (hk : k ≠ 0) : ((bif p then k else x) != 0) = (p || x != 0) := by
  cases p
  · rfl
  · simpa using hk
theorem Jin (x : ByteArray) (L : List ByteArray) (t : ByteArray) : amid (x :: L) t = (t.toList == x.toList || amid L t) := by
  unfold amid
  rw [List.any_cons]
  congr 1
  exact Bool.beq_comm
theorem Jk9 (t : ByteArray) : amid [] t = false := rfl
theorem Jmv (t : ByteArray) : amid fnL t = (Yk t != 0) := by
  unfold fnL Yk
  rw [Kf _ 1 _ (by decide), Kf _ 1 _ (by decide), Kf _ 1 _ (by decide), Kf _ 1 _ (by decide), Kf _ 1 _ (by decide), Kf _ 3 _ (by decide), Kf _ 3 _ (by decide),
    Kf _ 2 _ (by decide), Kf _ 2 _ (by decide), Kf _ 2 _ (by decide), Kf _ 2 _ (by decide), Kf _ 2 _ (by decide), Kf _ 2 _ (by decide)]
  simp only [Jin, Jk9, ByteArray.toList_mk]
  rw [show ((0 : Int) != 0) = false from rfl]
  ac_rfl
theorem Jkj (s : ByteArray) (n : Nat) : isFn (s.data.toList.take n) = amid fnL (s.extract 0 n) := by
  unfold isFn
  apply Jeu
  rw [Jv]
  simp
theorem hd0 (s : ByteArray) (h0 : 0 < s.size) (n : Nat) (hn : 0 < n) : hd (s.extract 0 n) = (s[0].toNat : Int) := by
  rw [Jn1 s n h0 hn, Jow s h0]
theorem Jcu {k : Nat} {l : List UInt8} {d : Nat} (hd : (l.takeWhile dU).length = d) (h : 19 < d ∨ d = 0 ∨ 9223372036854775807 < val (l.take d)) : numE k l = none := by
  subst hd
  rw [Ku] at h
  simp only [numE]
  rw [if_pos h]
theorem Jct {k : Nat} {l : List UInt8} {d : Nat} (hd : (l.takeWhile dU).length = d) (h1 : d ≤ 19) (h2 : 1 ≤ d) (h3 : val (l.take d) ≤ 9223372036854775807) : numE k l = some (k + d) := by
  subst hd
  rw [Ku] at h3
  simp only [numE]
  rw [if_neg (by omega)]
theorem Jiu (p : UInt8 → Bool) (l : List UInt8) : (l.takeWhile p).length ≤ l.length := (List.takeWhile_sublist (l := l) p).length_le
theorem Jh6 (s : ByteArray) (w : World) (h0 : 0 < s.size) (hs : s.size ≤ 200) (hv : Evs w) :
    Calls Tryz.prog 43 #[.string s] w fun e w' => CutR s e ∧ Below w.heap.size w w' := by
  cases h40 : ((s[0].toNat : Int) == 40)
  rotate_left
  · refine (Jk2 s w h0 hs h40).mono ?_
    rintro e w' ⟨rfl, hb⟩
    refine ⟨Ke (Jni s h0 (Or.inl h40)) ?_, hb⟩
    simp only [Zb, Y0, Yh, tokX, tokV, hd0 s h0 1 (by decide), h40, cond_true, show ((s[0].toNat : Int) == 95) = false by rw [beq_iff_eq.1 h40]; rfl, show digB (s[0].toNat : Int) = false by rw [beq_iff_eq.1 h40]; rfl, cond_false]
  cases h41 : ((s[0].toNat : Int) == 41)
  rotate_left
  · refine (Jh5 s w h0 hs h40 h41).mono ?_
    rintro e w' ⟨rfl, hb⟩
    refine ⟨Ke (Jni s h0 (Or.inr h41)) ?_, hb⟩
    simp only [Zb, Y0, Yh, tokX, tokV, hd0 s h0 1 (by decide), h40, h41, cond_true, cond_false, show ((s[0].toNat : Int) == 95) = false by rw [beq_iff_eq.1 h41]; rfl, show digB (s[0].toNat : Int) = false by rw [beq_iff_eq.1 h41]; rfl]
  cases h95 : ((s[0].toNat : Int) == 95)
  rotate_left
  · obtain ⟨d, hd⟩ : ∃ d, ((s.data.toList.drop 1).takeWhile dU).length = d := ⟨_, rfl⟩
    have hdb : 1 + d ≤ s.size := by have := Jiu dU (s.data.toList.drop 1); rw [K9] at this; omega
    have hx : (s.extract 1 (1 + d)).data.toList = (s.data.toList.drop 1).take d := by rw [Jv]; simp
    have ht := Jng s h0 h95
    by_cases hbad : 19 < d ∨ d = 0 ∨ 9223372036854775807 < val ((s.data.toList.drop 1).take d)
    · rw [Jcu hd hbad] at ht
      refine (Jh3 s w h0 0 0 0 ⟨#[]⟩ false ?_ hv h40 h41 h95).mono ?_
      · intro W hW
        by_cases h19 : 19 < d
        · exact Jb2 s W d h0 h95 hs hd hdb h19
        · exact Jeo s W d h0 h95 hs hd hdb hW (by omega) (by rw [hx]; omega)
      · rintro e w' ⟨rfl, hb⟩
        exact ⟨Q4 ht rfl, hb⟩
    · rw [Jct hd (by omega) (by omega) (by omega)] at ht
      refine (Jh3 s w h0 0 0 (-(val (s.extract 1 (1 + d)).data.toList : Int)) (s.extract 0 (1 + d)) true ?_ hv h40 h41 h95).mono ?_
      · intro W _
        exact Jh8 s W d h0 h95 hs hd hdb (by omega) (by omega) _ rfl (by rw [hx]; omega)
      · rintro e w' ⟨rfl, hb⟩
        refine ⟨Ke ht ?_, hb⟩
        have hdrop : (s.extract 0 (1 + d)).data.toList.drop 1 = (s.extract 1 (1 + d)).data.toList := by
          rw [Jv, Jv]
          simp [List.drop_take]
        simp only [Zb, Y0, Yh, tokX, hdrop, hd0 s h0 (1 + d) (by omega), h40, h41, h95, cond_true, cond_false, Bool.true_or]
  cases hdg : digB (s[0].toNat : Int)
  rotate_left
  · obtain ⟨d, hd⟩ : ∃ d, (s.data.toList.takeWhile dU).length = d := ⟨_, rfl⟩
    have hdb : 0 + d ≤ s.size := by have := Jiu dU s.data.toList; simp at this; omega
    have hx : (s.extract 0 d).data.toList = s.data.toList.take d := by rw [Jv]; simp
    have ht := Jnh s h0 hdg
    by_cases hbad : 19 < d ∨ d = 0 ∨ 9223372036854775807 < val (s.data.toList.take d)
    · rw [Jcu hd hbad] at ht
      refine (Jh4 s w h0 0 0 0 ⟨#[]⟩ false ?_ hv h40 h41 h95 hdg).mono ?_
      · intro W hW
        by_cases h19 : 19 < d
        · exact Jb1 s W d h0 h95 hs hd hdb h19
        · exact Jen s W d h0 h95 hs hd hdb hW (by omega) (by rw [hx]; omega)
      · rintro e w' ⟨rfl, hb⟩
        exact ⟨Q4 ht rfl, hb⟩
    · rw [Jct hd (by omega) (by omega) (by omega)] at ht
      rw [Nat.zero_add] at ht
      refine (Jh4 s w h0 0 0 (val (s.extract 0 d).data.toList : Int) (s.extract 0 d) true ?_ hv h40 h41 h95 hdg).mono ?_
      · intro W _
        exact Jh7 s W d h0 h95 hs hd hdb (by omega) (by omega) _ rfl (by rw [hx]; omega)
      · rintro e w' ⟨rfl, hb⟩
        refine ⟨Ke ht ?_, hb⟩
        simp only [Zb, Y0, Yh, tokX, hd0 s h0 d (by omega), h40, h41, h95, hdg, cond_true, cond_false, Bool.or_true]
  cases hl : letB (s[0].toNat : Int)
  rotate_left
  · obtain ⟨n, hn⟩ : ∃ n, wlen s = n := ⟨_, rfl⟩
    have hnl : n ≤ s.size := by have := Jex s; omega
    have hn1 : 1 ≤ n := by
      rw [← hn]
      unfold wlen
      rw [Kd s h0, List.takeWhile, show lU s[0] = true from hl]
      simp
    have ht := Jlx s h0 h95 hdg hl
    have hz := Q1 s n hnl
    have hw : wrdE s.data.toList = if 4 < n ∧ (Yk (s.extract 0 n) != 0) = false then none else some n := by
      simp only [wrdE]
      have e1 : (s.data.toList.takeWhile lU).length = n := hn
      rw [e1, Jkj, Jmv]
    rw [hw] at ht
    refine (Jk0 s w h0 (Fc (s.extract 0 n)) (Yk (s.extract 0 n)) (s.extract 0 n) (wOk (s.extract 0 n)) ?_ hv h40 h41 h95 hdg hl).mono ?_
    · intro W _
      exact Jbz s W hs n hn.symm
    · rintro e w' ⟨rfl, hb⟩
      refine ⟨?_, hb⟩
      by_cases hc : 4 < n ∧ (Yk (s.extract 0 n) != 0) = false
      · rw [if_pos hc] at ht
        refine Q4 ht (k := Fc (s.extract 0 n)) (r := Yk (s.extract 0 n)) (t := s.extract 0 n) ?_
        have hi : ((s.extract 0 n).toList == [105, 115]) = false := by
          rw [beq_eq_false_iff_ne]
          intro e
          have : (s.extract 0 n).toList.length = n := by rw [ByteArray.toList_eq]; simpa using hz
          rw [e] at this
          simp at this
          omega
        have : wOk (s.extract 0 n) = false := by
          unfold wOk
          rw [hc.2, hi, hz]
          simp
          omega
        rw [this]
      · rw [if_neg hc] at ht
        refine Ke ht ?_
        have : wOk (s.extract 0 n) = true := by
          unfold wOk
          rw [hz]
          by_cases h4 : 4 < n
          · have : (Yk (s.extract 0 n) != 0) = true := by
              cases hh : (Yk (s.extract 0 n) != 0)
              · exact absurd ⟨h4, hh⟩ hc
              · rfl
            rw [this]; rfl
          · rw [show decide ((n : Int) ≤ 4) = true from decide_eq_true (by omega)]
            simp
        rw [this]
        simp only [Zb, Y0, Yh, tokX, tokV, hd0 s h0 n hn1, h40, h41, h95, hdg, hl, cond_true, cond_false, Bool.or_false]
  have ht := Jlz s h0 h40 h41 h95 hdg hl
  cases hg : gU s[0]
  · rw [hg, cond_false] at ht
    refine (Jk3 s w h0 h40 h41 h95 hdg hl hg).mono ?_
    rintro e w' ⟨rfl, hb⟩
    exact ⟨Q4 ht rfl, hb⟩
  · rw [hg, cond_true] at ht
    obtain ⟨n, hn⟩ : ∃ n, sgnE (s.data.toList.drop 1) = n := ⟨_, rfl⟩
    rw [hn] at ht
    have hn1 : 0 < n := by
      rw [← hn]
      unfold sgnE
      split
      · decide
      · split <;> decide
    refine (Jk1 s w h0 3 (Gi (s.extract 0 n)) (s.extract 0 n) ?_ hv h40 h41 h95 hdg hl hg).mono ?_
    · intro W _
      exact Jb0 s W h0 hs n hn.symm
    · rintro e w' ⟨rfl, hb⟩
      refine ⟨Ke ht ?_, hb⟩
      simp only [Zb, Y0, Yh, tokX, tokV, hd0 s h0 n hn1, h40, h41, h95, hdg, hl, cond_false, Bool.or_false]
end Go.Proofs.YtjobgpahajhbnabGreatDoor
namespace Go.Proofs.YtjobgpahajhbnabGreatDoor
open Go.RowKit
theorem Jk {w w2 : World} (h : Below w.drew.heap.size w.drew w2) : Below w.heap.size w w2 := (Below.refl w.heap.size w).drew.trans h
end Go.Proofs.YtjobgpahajhbnabGreatDoor
namespace Go.Proofs.YtjobgpahajhbnabGreatDoor
open Go.RowKit
def lexS (s : ByteArray) : Nat → Nat → List (Nat × Nat) → List (Nat × Nat) × Int
  | 0, _, A => (A, -1)
  | f + 1, p, A => if h : p < s.size then (bif (s[p].toNat : Int) == 32 then lexS s f (p + 1) A else match tl (s.data.toList.drop p) with
    | none => ([], p)
    | some n => lexS s f (p + n) (A ++ [(p, p + n)])) else (A, -1)
def lexR (s : ByteArray) : List (Nat × Nat) × Int := lexS s s.size 0 []
theorem Jhd (s : ByteArray) (f p : Nat) (A : List (Nat × Nat)) (h : s.size ≤ p) : lexS s f p A = (A, -1) := by
  cases f with
  | zero => rfl
  | succ f => unfold lexS; rw [dif_neg (by omega)]
theorem Jab (s : ByteArray) (f p : Nat) (A : List (Nat × Nat)) (h : p < s.size) (hb : ((s[p].toNat : Int) == 32) = true) : lexS s (f + 1) p A = lexS s f (p + 1) A := by
  rw [lexS]; rw [dif_pos h, hb, cond_true]
theorem Jmi (s : ByteArray) (f p : Nat) (A : List (Nat × Nat)) (h : p < s.size) (hb : ((s[p].toNat : Int) == 32) = false) (ht : tl (s.data.toList.drop p) = none) : lexS s (f + 1) p A = ([], (p : Int)) := by
  rw [lexS]; rw [dif_pos h, hb, cond_false, ht]
theorem Jha (s : ByteArray) (f p n : Nat) (A : List (Nat × Nat)) (h : p < s.size) (hb : ((s[p].toNat : Int) == 32) = false) (ht : tl (s.data.toList.drop p) = some n) : lexS s (f + 1) p A = lexS s f (p + n) (A ++ [(p, p + n)]) := by
  rw [lexS]; rw [dif_pos h, hb, cond_false, ht]
theorem Jg0 {k n : Nat} {l : List UInt8} (h : numE k l = some n) : 1 ≤ n ∧ n ≤ k + l.length := by
  have hl := Jiu dU l
  simp only [numE] at h
  split at h
  · cases h
  · injection h with h; omega
theorem Je8 {l : List UInt8} {n : Nat} (h : tl l = some n) : 1 ≤ n ∧ n ≤ l.length := by
  match l with
  | [] => cases h
  | c :: r =>
    simp only [tl] at h
    cases h1 : dU c
    · rw [h1, cond_false] at h
      cases h2 : (c == 95)
      · rw [h2, cond_false] at h
        cases h3 : lU c
        · rw [h3, cond_false] at h
          cases h4 : (c == 40 || c == 41)
          · rw [h4, cond_false] at h
            cases h5 : gU c
            · rw [h5, cond_false] at h; cases h
            · rw [h5, cond_true] at h
              injection h with h
              subst h
              unfold sgnE
              split
              · simp
              · split <;> simp
          · rw [h4, cond_true] at h
            injection h with h
            simp; omega
        · rw [h3, cond_true] at h
          have hl := Jiu lU (c :: r)
          have hp : 1 ≤ ((c :: r).takeWhile lU).length := by rw [List.takeWhile, h3]; simp
          simp only [wrdE] at h
          split at h
          · cases h
          · injection h with h; omega
      · rw [h2, cond_true] at h
        have := Jg0 h
        simp; omega
    · rw [h1, cond_true] at h
      have := Jg0 h
      omega
def Q8 (s : ByteArray) (A : List (Nat × Nat)) : List Value := A.flatMap fun q => [.int .i64 (Zb (s.extract q.1 q.2)), .int .i64 (Y0 (s.extract q.1 q.2)), .int .i64 (Yh (s.extract q.1 q.2)), .string (s.extract q.1 q.2), .int .i64 q.1]
theorem Jb6 (s : ByteArray) (A : List (Nat × Nat)) (a b : Nat) : Q8 s (A ++ [(a, b)]) = Q8 s A ++ [.int .i64 (Zb (s.extract a b)), .int .i64 (Y0 (s.extract a b)), .int .i64 (Yh (s.extract a b)), .string (s.extract a b), .int .i64 a] := by
  simp [Q8, List.flatMap_append]
theorem Jca {w w' : World} (h : Below w.heap.size w w') : w.grownBy w' none := ⟨h.os, h.tape, h.output, h.size, fun k hk _ => h.block k hk⟩
theorem K8 {w w' : World} {B : Nat} {e : TypeId} {k : Nat} {v : Value} {n : Nat} {xs : List Value} (h : w.ownsRow B e k v n xs) (hb : Below w.heap.size w w') : w'.ownsRow B e k v n xs :=
  h.kept (Jca hb) (by cases v.ownBlock <;> simp)
theorem Jiz (s : ByteArray) (p n : Nat) (hp : p + n ≤ s.size) : (s.extract p s.size).extract 0 n = s.extract p (p + n) := by
  have : ∀ a b : ByteArray, a.data.toList = b.data.toList → a = b := by
    intro a b h
    obtain ⟨⟨a⟩⟩ := a
    obtain ⟨⟨b⟩⟩ := b
    simp at h
    rw [h]
  apply this
  rw [Jv, Jv, Jv]
  simp
  rw [List.take_take]
  congr 1
  omega
theorem Nj (s : ByteArray) (p : Nat) : (s.extract p s.size).data.toList = s.data.toList.drop p := by
  rw [Jv, List.take_of_length_le (by rw [K9]; omega)]
end Go.Proofs.YtjobgpahajhbnabGreatDoor
namespace Go.Proofs.YtjobgpahajhbnabGreatDoor
open Go.RowKit
theorem Rd.next {W0 : World} {tk : Value} {j o : Nat} {w : World} (h : Rd W0 tk j o w) (k : Nat) : Rd W0 tk k o (w.setCell ⟨W0.heap.size, 1, none⟩ (.int .i64 k)) :=
  ⟨h.below.setCell (Nat.le_refl _) _, (World.cell?_setCell_other _ _ _ _ (by simp)).trans h.tok, World.cell?_setCell_same _ _ _ h.nxt, (World.cell?_setCell_other _ _ _ _ (by simp)).trans h.opn,
    (World.frozen?_setCell _ _ _ _).trans h.fr1, (World.frozen?_setCell _ _ _ _).trans h.fr2, by simpa using h.lt⟩
theorem Rd.opened {W0 : World} {tk : Value} {j o : Nat} {w : World} (h : Rd W0 tk j o w) (k : Nat) : Rd W0 tk j k (w.setCell ⟨W0.heap.size, 2, none⟩ (.int .i64 k)) :=
  ⟨h.below.setCell (Nat.le_refl _) _, (World.cell?_setCell_other _ _ _ _ (by simp)).trans h.tok, (World.cell?_setCell_other _ _ _ _ (by simp)).trans h.nxt, World.cell?_setCell_same _ _ _ h.opn,
    (World.frozen?_setCell _ _ _ _).trans h.fr1, (World.frozen?_setCell _ _ _ _).trans h.fr2, by simpa using h.lt⟩
def zt : Value := tokX 0 0 0 ⟨#[]⟩ 0
theorem Ys {B : Nat} {w w' : World} (h : Below B w w') (n : Nat) : Below B w (w'.drewN n) := ⟨h.os, h.tape, h.output, h.size, h.block⟩
def Kp (W0 w w' : World) : Prop := w.grownBy w' (some W0.heap.size)
theorem Kp.refl (W0 w : World) : Kp W0 w w := ⟨rfl, rfl, rfl, Nat.le_refl _, fun _ _ _ => rfl⟩
theorem Kp.trans {W0 a b c : World} (h : Kp W0 a b) (h' : Kp W0 b c) : Kp W0 a c :=
  ⟨h'.os.trans h.os, h'.tape.trans h.tape, h'.output.trans h.output, Nat.le_trans h.size h'.size, fun k hk hn => (h'.block k (Nat.lt_of_lt_of_le hk h.size) hn).trans (h.block k hk hn)⟩
theorem Kp.of_below {W0 w w' : World} (h : Below w.heap.size w w') : Kp W0 w w' := ⟨h.os, h.tape, h.output, h.size, fun k hk _ => h.block k hk⟩
theorem Rd.keep {W0 : World} {tk : Value} {j o : Nat} {w w' : World} (h : Rd W0 tk j o w) (hb : Below w.heap.size w w') : Rd W0 tk j o w' :=
  ⟨h.below.trans (hb.mono h.below.size), (hb.cell (p := ⟨W0.heap.size, 0, none⟩) h.lt).trans h.tok, (hb.cell (p := ⟨W0.heap.size, 1, none⟩) h.lt).trans h.nxt, (hb.cell (p := ⟨W0.heap.size, 2, none⟩) h.lt).trans h.opn,
    (hb.frozen (p := ⟨W0.heap.size, 1, none⟩) h.lt).trans h.fr1, (hb.frozen (p := ⟨W0.heap.size, 2, none⟩) h.lt).trans h.fr2, Nat.lt_of_lt_of_le h.lt hb.size⟩
theorem Kp.setReader (W0 w : World) (i : Nat) (v : Value) : Kp W0 w (w.setCell ⟨W0.heap.size, i, none⟩ v) :=
  ⟨rfl, rfl, rfl, by simp, fun k _ hn => RowKit.Below.heap_setCell _ _ _ _ (fun e => hn (by rw [e]))⟩
theorem Rd.other {W0 : World} {tk : Value} {j o : Nat} {w : World} (h : Rd W0 tk j o w) {b : Nat} (hb : W0.heap.size < b) (i : Nat) (v : Value) : Rd W0 tk j o (w.setCell ⟨b, i, none⟩ v) :=
  ⟨h.below.setCell (Nat.le_of_lt hb) _, (World.cell?_setCell_other _ _ _ _ (by intro e; injection e; omega)).trans h.tok, (World.cell?_setCell_other _ _ _ _ (by intro e; injection e; omega)).trans h.nxt, (World.cell?_setCell_other _ _ _ _ (by intro e; injection e; omega)).trans h.opn,
    (World.frozen?_setCell _ _ _ _).trans h.fr1, (World.frozen?_setCell _ _ _ _).trans h.fr2, by simpa using h.lt⟩
theorem Kp.new {W0 w w' : World} (h : Kp W0 w w') {b : Nat} (hb : w.heap.size ≤ b) (i : Nat) (v : Value) : Kp W0 w (w'.setCell ⟨b, i, none⟩ v) :=
  ⟨h.os, h.tape, h.output, by simpa using h.size, fun k hk hn => (RowKit.Below.heap_setCell _ _ _ _ (by simp; omega)).trans (h.block k hk hn)⟩
theorem Rd.drew {W0 : World} {tk : Value} {j o : Nat} {w : World} (h : Rd W0 tk j o w) : Rd W0 tk j o w.drew := ⟨h.below.drew, h.tok, h.nxt, h.opn, h.fr1, h.fr2, h.lt⟩
theorem Kp.drew {W0 w w' : World} (h : Kp W0 w w') : Kp W0 w w'.drew := ⟨h.os, h.tape, h.output, h.size, h.block⟩
set_option maxHeartbeats 600000 in
theorem Jmn (W0 : World) (tb n cap : Nat) (q : Tok) (a : Int) (j o B : Nat) (w : World) (hw : Rd W0 (.slice (some ⟨tb, 0, none⟩) n cap) j o w) (hB : B < w.heap.size) (hBc : w.cell? ⟨B, 0, none⟩ = some (.int .i64 a)) (hBR : B ≠ W0.heap.size) (htb : tb < W0.heap.size)
    (c0 : w.cell? ⟨tb, j * 5, none⟩ = some (.int .i64 q.k)) (c1 : w.cell? ⟨tb, j * 5 + 1, none⟩ = some (.int .i64 q.r)) (c2 : w.cell? ⟨tb, j * 5 + 2, none⟩ = some (.int .i64 q.x)) (c3 : w.cell? ⟨tb, j * 5 + 3, none⟩ = some (.string q.t)) (c4 : w.cell? ⟨tb, j * 5 + 4, none⟩ = some (.int .i64 q.p)) (hj : (j : Int) < (n : Int)) (hn : n ≤ 200) (ht : Y1 q.r a = true) :
    Calls Tryz.prog 138 #[.pointer (some ⟨W0.heap.size, 0, none⟩), .func (.func 139) #[] #[.pointer (some ⟨B, 0, none⟩)]] w fun e w' => e = .returned (.tuple #[q.v, .bool true]) ∧ Rd W0 (.slice (some ⟨tb, 0, none⟩) n cap) (j + 1) o w' ∧ Kp W0 w w' := by
  have HT := hide ht
  have HW := hide hw
  have ct := hw.tok
  have cn := hw.nxt
  have fn := hw.fr1
  have hlt := hw.lt
  have htl : tb < w.heap.size := Nat.lt_trans htb hlt
  have hne : ((j : Int) == (n : Int)) = false := beq_eq_false_iff_ne.2 (by omega)
  have hj0 : (0 : Int) ≤ (j : Int) := by omega
  have HBB := hide hB
  have HBC := hide hBc
  have HTL := hide htl
  have HLT := hide hlt
  have HTB := hide htb
  have HBR := hide hBR
  obtain ⟨k, r, x, t, p⟩ := q
  simp only at c0 c1 c2 c3 c4
  have HS : Hid (∀ w', Below w.heap.size w w' → w'.cell? ⟨W0.heap.size, 0, none⟩ = some (.slice (some ⟨tb, 0, none⟩) n cap) ∧ w'.cell? ⟨W0.heap.size, 1, none⟩ = some (.int .i64 j) ∧ w'.cell? ⟨tb, j * 5, none⟩ = some (.int .i64 k) ∧ w'.cell? ⟨tb, j * 5 + 1, none⟩ = some (.int .i64 r) ∧ w'.cell? ⟨tb, j * 5 + 2, none⟩ = some (.int .i64 x) ∧ w'.cell? ⟨tb, j * 5 + 3, none⟩ = some (.string t) ∧ w'.cell? ⟨tb, j * 5 + 4, none⟩ = some (.int .i64 p)) :=
    fun w' hb => ⟨(hb.cell (p := ⟨W0.heap.size, 0, none⟩) hlt).trans ct, (hb.cell (p := ⟨W0.heap.size, 1, none⟩) hlt).trans cn, (hb.cell (p := ⟨tb, j * 5, none⟩) htl).trans c0, (hb.cell (p := ⟨tb, j * 5 + 1, none⟩) htl).trans c1, (hb.cell (p := ⟨tb, j * 5 + 2, none⟩) htl).trans c2, (hb.cell (p := ⟨tb, j * 5 + 3, none⟩) htl).trans c3, (hb.cell (p := ⟨tb, j * 5 + 4, none⟩) htl).trans c4⟩
  clear ht hw hB hBc hBR
  go_enter Tryz.func138, Tryz.ntmps138
  go_wp2_with fail
  go_region_held3 (fun w' => w'.cell? ⟨W0.heap.size, 0, none⟩ = some (.slice (some ⟨tb, 0, none⟩) n cap) ∧ w'.cell? ⟨W0.heap.size, 1, none⟩ = some (.int .i64 j) ∧ w'.cell? ⟨tb, j * 5, none⟩ = some (.int .i64 k) ∧ w'.cell? ⟨tb, j * 5 + 1, none⟩ = some (.int .i64 r) ∧ w'.cell? ⟨tb, j * 5 + 2, none⟩ = some (.int .i64 x) ∧ w'.cell? ⟨tb, j * 5 + 3, none⟩ = some (.string t) ∧ w'.cell? ⟨tb, j * 5 + 4, none⟩ = some (.int .i64 p))
    (first | go_keep | exact Ja HS _ ((((Below.refl w.heap.size w).alloc (Nat.le_refl _) _).drew).trans ((Ja HB1).mono (by simp))))
    (first | (go_at_call 139; refine (Jie ⟨k, r, x, t, p⟩ a B _ ?_ ?_).mono ?_; (have := Ja HBB; simp; omega); exact ((((Below.refl w.heap.size w).alloc (Nat.le_refl _) _).drew).cell (p := ⟨B, 0, none⟩) (Ja HBB)).trans (Ja HBC); rintro e w1 ⟨he, hb1⟩; rw [Ja HT] at he; subst he; have HB1 := hide hb1; clear hb1))
  obtain ⟨hc, hf⟩ := Jr (Ja HB1)
  have hz : w.heap.size < w1.heap.size := by have := (Ja HB1).size; simp at this; omega
  have hd0 := hc w.heap.size 0 (by simp)
  have hd1 := hc w.heap.size 1 (by simp)
  have hd2 := hc w.heap.size 2 (by simp)
  have hd3 := hc w.heap.size 3 (by simp)
  have hd4 := hc w.heap.size 4 (by simp)
  have he0 := hf w.heap.size 0 (by simp)
  have he1 := hf w.heap.size 1 (by simp)
  have he2 := hf w.heap.size 2 (by simp)
  have he3 := hf w.heap.size 3 (by simp)
  have he4 := hf w.heap.size 4 (by simp)
  have hBel := ((((Below.refl w.heap.size w).alloc (Nat.le_refl _) (Obj.cells #[.int .i64 0, .int .i64 0, .int .i64 0, .string ⟨#[]⟩, .int .i64 0] 84)).drew).trans ((Ja HB1).mono (by simp)))
  obtain ⟨s0, s1, s2, s3, s4, s5, s6⟩ := Ja HS w1 hBel
  have g1 : w1.frozen? ⟨W0.heap.size, 1, none⟩ = false := (hBel.frozen (p := ⟨W0.heap.size, 1, none⟩) hlt).trans fn
  have HBel := hide hBel
  simp at hd0 hd1 hd2 hd3 hd4 he0 he1 he2 he3 he4
  have n1 : tb ≠ W0.heap.size := by omega
  have n2 : w.heap.size ≠ W0.heap.size := by omega
  have n3 : tb ≠ w.heap.size := by omega
  obtain ⟨m, hm⟩ : ∃ m : Int, (j : Int) + 1 = m := ⟨_, rfl⟩
  have hm0 : 0 ≤ m - 1 := by omega
  have hm1 : m - 1 < (n : Int) := by omega
  have hm2 : m ≤ 201 := by omega
  have hmj : (m - 1).toNat = j := by omega
  have HM := hide hm
  clear hm
  clear hc hf hBel ct cn fn c0 c1 c2 c3 c4 hne
  have t0 : (w1.setCell ⟨W0.heap.size, 1, none⟩ (.int .i64 m)).cell? ⟨W0.heap.size, 0, none⟩ = some (.slice (some ⟨tb, 0, none⟩) n cap) := (World.cell?_setCell_other _ _ _ _ (by simp)).trans s0
  have t1 : (w1.setCell ⟨W0.heap.size, 1, none⟩ (.int .i64 m)).cell? ⟨W0.heap.size, 1, none⟩ = some (.int .i64 m) := World.cell?_setCell_same _ _ _ s1
  have t2 := fun i => World.cell?_setCell_other w1 ⟨W0.heap.size, 1, none⟩ ⟨tb, i, none⟩ (.int .i64 m) (by intro e; injection e; omega)
  have T0 := hide t0
  have T1 := hide t1
  have T2 := hide t2
  have S2 := hide s2
  have S3 := hide s3
  have S4 := hide s4
  have S5 := hide s5
  have S6 := hide s6
  have N1 := hide n1
  have N2 := hide n2
  have N3 := hide n3
  clear t0 t1 t2
  go_wp2_with fail
  have s1' := Ja T1
  have s0' := Ja T0
  have z2 := (Ja T2 _).trans (Ja S2)
  have z3 := (Ja T2 _).trans (Ja S3)
  have z4 := (Ja T2 _).trans (Ja S4)
  have z5 := (Ja T2 _).trans (Ja S5)
  have z6 := (Ja T2 _).trans (Ja S6)
  rw [Ja HM]
  go_region
  go_wp2_with fail
  refine bodyPost_ret (v := .tuple #[.agg #[.int .i64 k, .int .i64 r, .int .i64 x, .string t, .int .i64 p], .bool true]) (by simp [results, Tryz.results138, go_sem, hd0, hd1, hd2, hd3, hd4]) rfl ⟨rfl, ?_, ?_⟩
  · have h1 : Rd W0 (.slice (some ⟨tb, 0, none⟩) n cap) (j + 1) o (w1.setCell ⟨W0.heap.size, 1, none⟩ (.int .i64 m)) := by
      rw [← Ja HM]
      exact ((Ja HW).keep (Ja HBel)).next (j + 1)
    exact (((((h1.other hlt _ _).other hlt _ _).other hlt _ _).other hlt _ _).other hlt _ _).drew
  · have h1 : Kp W0 w (w1.setCell ⟨W0.heap.size, 1, none⟩ (.int .i64 m)) := (Kp.of_below (Ja HBel)).trans (Kp.setReader _ _ _ _)
    exact (((((h1.new (Nat.le_refl _) _ _).new (Nat.le_refl _) _ _).new (Nat.le_refl _) _ _).new (Nat.le_refl _) _ _).new (Nat.le_refl _) _ _).drew
set_option maxHeartbeats 600000 in
theorem Jnz (W0 : World) (tb n cap : Nat) (q : Tok) (a : Int) (j o B : Nat) (w : World) (hw : Rd W0 (.slice (some ⟨tb, 0, none⟩) n cap) j o w) (hB : B < w.heap.size) (hBc : w.cell? ⟨B, 0, none⟩ = some (.int .i64 a)) (hBR : B ≠ W0.heap.size) (htb : tb < W0.heap.size)
    (c0 : w.cell? ⟨tb, j * 5, none⟩ = some (.int .i64 q.k)) (c1 : w.cell? ⟨tb, j * 5 + 1, none⟩ = some (.int .i64 q.r)) (c2 : w.cell? ⟨tb, j * 5 + 2, none⟩ = some (.int .i64 q.x)) (c3 : w.cell? ⟨tb, j * 5 + 3, none⟩ = some (.string q.t)) (c4 : w.cell? ⟨tb, j * 5 + 4, none⟩ = some (.int .i64 q.p)) (hj : (j : Int) < (n : Int)) (ht : Y1 q.r a = false) :
    Calls Tryz.prog 138 #[.pointer (some ⟨W0.heap.size, 0, none⟩), .func (.func 139) #[] #[.pointer (some ⟨B, 0, none⟩)]] w fun e w' => e = .returned (.tuple #[zt, .bool false]) ∧ Rd W0 (.slice (some ⟨tb, 0, none⟩) n cap) j o w' ∧ Kp W0 w w' := by
  have HT := hide ht
  have HW := hide hw
  have ct := hw.tok
  have cn := hw.nxt
  have fn := hw.fr1
  have hlt := hw.lt
  have htl : tb < w.heap.size := Nat.lt_trans htb hlt
  have hne : ((j : Int) == (n : Int)) = false := beq_eq_false_iff_ne.2 (by omega)
  have hj0 : (0 : Int) ≤ (j : Int) := by omega
  have HBB := hide hB
  have HBC := hide hBc
  have HTL := hide htl
  have HLT := hide hlt
  have HTB := hide htb
  have HBR := hide hBR
  obtain ⟨k, r, x, t, p⟩ := q
  simp only at c0 c1 c2 c3 c4
  have HS : Hid (∀ w', Below w.heap.size w w' → w'.cell? ⟨W0.heap.size, 0, none⟩ = some (.slice (some ⟨tb, 0, none⟩) n cap) ∧ w'.cell? ⟨W0.heap.size, 1, none⟩ = some (.int .i64 j) ∧ w'.cell? ⟨tb, j * 5, none⟩ = some (.int .i64 k) ∧ w'.cell? ⟨tb, j * 5 + 1, none⟩ = some (.int .i64 r) ∧ w'.cell? ⟨tb, j * 5 + 2, none⟩ = some (.int .i64 x) ∧ w'.cell? ⟨tb, j * 5 + 3, none⟩ = some (.string t) ∧ w'.cell? ⟨tb, j * 5 + 4, none⟩ = some (.int .i64 p)) :=
    fun w' hb => ⟨(hb.cell (p := ⟨W0.heap.size, 0, none⟩) hlt).trans ct, (hb.cell (p := ⟨W0.heap.size, 1, none⟩) hlt).trans cn, (hb.cell (p := ⟨tb, j * 5, none⟩) htl).trans c0, (hb.cell (p := ⟨tb, j * 5 + 1, none⟩) htl).trans c1, (hb.cell (p := ⟨tb, j * 5 + 2, none⟩) htl).trans c2, (hb.cell (p := ⟨tb, j * 5 + 3, none⟩) htl).trans c3, (hb.cell (p := ⟨tb, j * 5 + 4, none⟩) htl).trans c4⟩
  clear ht hw hB hBc hBR
  go_enter Tryz.func138, Tryz.ntmps138
  go_wp2_with fail
  go_region_held3 (fun w' => w'.cell? ⟨W0.heap.size, 0, none⟩ = some (.slice (some ⟨tb, 0, none⟩) n cap) ∧ w'.cell? ⟨W0.heap.size, 1, none⟩ = some (.int .i64 j) ∧ w'.cell? ⟨tb, j * 5, none⟩ = some (.int .i64 k) ∧ w'.cell? ⟨tb, j * 5 + 1, none⟩ = some (.int .i64 r) ∧ w'.cell? ⟨tb, j * 5 + 2, none⟩ = some (.int .i64 x) ∧ w'.cell? ⟨tb, j * 5 + 3, none⟩ = some (.string t) ∧ w'.cell? ⟨tb, j * 5 + 4, none⟩ = some (.int .i64 p))
    (first | go_keep | exact Ja HS _ ((((Below.refl w.heap.size w).alloc (Nat.le_refl _) _).drew).trans ((Ja HB1).mono (by simp))))
    (first | (go_at_call 139; refine (Jie ⟨k, r, x, t, p⟩ a B _ ?_ ?_).mono ?_; (have := Ja HBB; simp; omega); exact ((((Below.refl w.heap.size w).alloc (Nat.le_refl _) _).drew).cell (p := ⟨B, 0, none⟩) (Ja HBB)).trans (Ja HBC); rintro e w1 ⟨he, hb1⟩; rw [Ja HT] at he; subst he; have HB1 := hide hb1; clear hb1))
  obtain ⟨hc, hf⟩ := Jr (Ja HB1)
  have hz : w.heap.size < w1.heap.size := by have := (Ja HB1).size; simp at this; omega
  have hd0 := hc w.heap.size 0 (by simp)
  have hd1 := hc w.heap.size 1 (by simp)
  have hd2 := hc w.heap.size 2 (by simp)
  have hd3 := hc w.heap.size 3 (by simp)
  have hd4 := hc w.heap.size 4 (by simp)
  have he0 := hf w.heap.size 0 (by simp)
  have he1 := hf w.heap.size 1 (by simp)
  have he2 := hf w.heap.size 2 (by simp)
  have he3 := hf w.heap.size 3 (by simp)
  have he4 := hf w.heap.size 4 (by simp)
  have HBel := hide ((((Below.refl w.heap.size w).alloc (Nat.le_refl _) (Obj.cells #[.int .i64 0, .int .i64 0, .int .i64 0, .string ⟨#[]⟩, .int .i64 0] 84)).drew).trans ((Ja HB1).mono (by simp)))
  simp at hd0 hd1 hd2 hd3 hd4 he0 he1 he2 he3 he4
  clear hc hf ct cn fn c0 c1 c2 c3 c4 hne
  go_wp2_with fail
  refine bodyPost_ret (v := .tuple #[.agg #[.int .i64 0, .int .i64 0, .int .i64 0, .string ⟨#[]⟩, .int .i64 0], .bool false]) (by simp [results, Tryz.results138, go_sem, hd0, hd1, hd2, hd3, hd4]) rfl ⟨rfl, ?_, ?_⟩
  · have h1 := (Ja HW).keep (Ja HBel)
    exact ((((h1.other hlt _ _).other hlt _ _).other hlt _ _).other hlt _ _).other hlt _ _
  · have h1 : Kp W0 w w1 := Kp.of_below (Ja HBel)
    exact ((((h1.new (Nat.le_refl _) _ _).new (Nat.le_refl _) _ _).new (Nat.le_refl _) _ _).new (Nat.le_refl _) _ _).new (Nat.le_refl _) _ _
set_option maxHeartbeats 600000 in
theorem Jmo (W0 : World) (ao : Option Addr) (n cap : Nat) (j o B : Nat) (w : World) (hw : Rd W0 (.slice ao n cap) j o w) (hj : j = n) (hn : n ≤ 200) :
    Calls Tryz.prog 138 #[.pointer (some ⟨W0.heap.size, 0, none⟩), .func (.func 139) #[] #[.pointer (some ⟨B, 0, none⟩)]] w fun e w' => e = .returned (.tuple #[zt, .bool false]) ∧ Rd W0 (.slice ao n cap) j o w' ∧ Kp W0 w w' := by
  subst hj
  have HW := hide hw
  have ct := hw.tok
  have cn := hw.nxt
  have hlt := hw.lt
  clear hw
  go_enter Tryz.func138, Tryz.ntmps138
  go_wp2_with fail
  go_quiet (fail)
  go_wp2_with fail
  refine bodyPost_ret (v := .tuple #[.agg #[.int .i64 0, .int .i64 0, .int .i64 0, .string ⟨#[]⟩, .int .i64 0], .bool false]) (by simp [results, Tryz.results138, go_sem]) rfl ⟨rfl, ?_, ?_⟩
  · have h1 := (Ja HW).keep (Ys ((Below.refl w.heap.size w).alloc (Nat.le_refl _) (Obj.cells #[.int .i64 0, .int .i64 0, .int .i64 0, .string ⟨#[]⟩, .int .i64 0] 84)) nq)
    exact ((((h1.other hlt _ _).other hlt _ _).other hlt _ _).other hlt _ _).other hlt _ _
  · have h1 : Kp W0 w _ := Kp.of_below (Ys ((Below.refl w.heap.size w).alloc (Nat.le_refl _) (Obj.cells #[.int .i64 0, .int .i64 0, .int .i64 0, .string ⟨#[]⟩, .int .i64 0] 84)) nq)
    exact ((((h1.new (Nat.le_refl _) _ _).new (Nat.le_refl _) _ _).new (Nat.le_refl _) _ _).new (Nat.le_refl _) _ _).new (Nat.le_refl _) _ _
set_option maxHeartbeats 600000 in
theorem Jmq (W0 : World) (tb n cap : Nat) (q : Tok) (a : Int) (j o B : Nat) (w : World) (hw : Rd W0 (.slice (some ⟨tb, 0, none⟩) n cap) j o w) (hB : B < w.heap.size) (hBc : w.cell? ⟨B, 0, none⟩ = some (.int .i64 a)) (hBR : B ≠ W0.heap.size) (htb : tb < W0.heap.size)
    (c0 : w.cell? ⟨tb, j * 5, none⟩ = some (.int .i64 q.k)) (c1 : w.cell? ⟨tb, j * 5 + 1, none⟩ = some (.int .i64 q.r)) (c2 : w.cell? ⟨tb, j * 5 + 2, none⟩ = some (.int .i64 q.x)) (c3 : w.cell? ⟨tb, j * 5 + 3, none⟩ = some (.string q.t)) (c4 : w.cell? ⟨tb, j * 5 + 4, none⟩ = some (.int .i64 q.p)) (hj : (j : Int) < (n : Int)) (hn : n ≤ 200) (ht : (q.k == a) = true) :
    Calls Tryz.prog 138 #[.pointer (some ⟨W0.heap.size, 0, none⟩), .func (.func 196) #[] #[.pointer (some ⟨B, 0, none⟩)]] w fun e w' => e = .returned (.tuple #[q.v, .bool true]) ∧ Rd W0 (.slice (some ⟨tb, 0, none⟩) n cap) (j + 1) o w' ∧ Kp W0 w w' := by
  have HT := hide ht
  have HW := hide hw
  have ct := hw.tok
  have cn := hw.nxt
  have fn := hw.fr1
  have hlt := hw.lt
  have htl : tb < w.heap.size := Nat.lt_trans htb hlt
  have hne : ((j : Int) == (n : Int)) = false := beq_eq_false_iff_ne.2 (by omega)
  have hj0 : (0 : Int) ≤ (j : Int) := by omega
  have HBB := hide hB
  have HBC := hide hBc
  have HTL := hide htl
  have HLT := hide hlt
  have HTB := hide htb
  have HBR := hide hBR
  obtain ⟨k, r, x, t, p⟩ := q
  simp only at c0 c1 c2 c3 c4
  have HS : Hid (∀ w', Below w.heap.size w w' → w'.cell? ⟨W0.heap.size, 0, none⟩ = some (.slice (some ⟨tb, 0, none⟩) n cap) ∧ w'.cell? ⟨W0.heap.size, 1, none⟩ = some (.int .i64 j) ∧ w'.cell? ⟨tb, j * 5, none⟩ = some (.int .i64 k) ∧ w'.cell? ⟨tb, j * 5 + 1, none⟩ = some (.int .i64 r) ∧ w'.cell? ⟨tb, j * 5 + 2, none⟩ = some (.int .i64 x) ∧ w'.cell? ⟨tb, j * 5 + 3, none⟩ = some (.string t) ∧ w'.cell? ⟨tb, j * 5 + 4, none⟩ = some (.int .i64 p)) :=
    fun w' hb => ⟨(hb.cell (p := ⟨W0.heap.size, 0, none⟩) hlt).trans ct, (hb.cell (p := ⟨W0.heap.size, 1, none⟩) hlt).trans cn, (hb.cell (p := ⟨tb, j * 5, none⟩) htl).trans c0, (hb.cell (p := ⟨tb, j * 5 + 1, none⟩) htl).trans c1, (hb.cell (p := ⟨tb, j * 5 + 2, none⟩) htl).trans c2, (hb.cell (p := ⟨tb, j * 5 + 3, none⟩) htl).trans c3, (hb.cell (p := ⟨tb, j * 5 + 4, none⟩) htl).trans c4⟩
  clear ht hw hB hBc hBR
  go_enter Tryz.func138, Tryz.ntmps138
  go_wp2_with fail
  go_region_held3 (fun w' => w'.cell? ⟨W0.heap.size, 0, none⟩ = some (.slice (some ⟨tb, 0, none⟩) n cap) ∧ w'.cell? ⟨W0.heap.size, 1, none⟩ = some (.int .i64 j) ∧ w'.cell? ⟨tb, j * 5, none⟩ = some (.int .i64 k) ∧ w'.cell? ⟨tb, j * 5 + 1, none⟩ = some (.int .i64 r) ∧ w'.cell? ⟨tb, j * 5 + 2, none⟩ = some (.int .i64 x) ∧ w'.cell? ⟨tb, j * 5 + 3, none⟩ = some (.string t) ∧ w'.cell? ⟨tb, j * 5 + 4, none⟩ = some (.int .i64 p))
    (first | go_keep | exact Ja HS _ ((((Below.refl w.heap.size w).alloc (Nat.le_refl _) _).drew).trans ((Ja HB1).mono (by simp))))
    (first | (go_at_call 196; refine (Jif ⟨k, r, x, t, p⟩ a B _ ?_ ?_).mono ?_; (have := Ja HBB; simp; omega); exact ((((Below.refl w.heap.size w).alloc (Nat.le_refl _) _).drew).cell (p := ⟨B, 0, none⟩) (Ja HBB)).trans (Ja HBC); rintro e w1 ⟨he, hb1⟩; rw [Ja HT] at he; subst he; have HB1 := hide hb1; clear hb1))
  obtain ⟨hc, hf⟩ := Jr (Ja HB1)
  have hz : w.heap.size < w1.heap.size := by have := (Ja HB1).size; simp at this; omega
  have hd0 := hc w.heap.size 0 (by simp)
  have hd1 := hc w.heap.size 1 (by simp)
  have hd2 := hc w.heap.size 2 (by simp)
  have hd3 := hc w.heap.size 3 (by simp)
  have hd4 := hc w.heap.size 4 (by simp)
  have he0 := hf w.heap.size 0 (by simp)
  have he1 := hf w.heap.size 1 (by simp)
  have he2 := hf w.heap.size 2 (by simp)
  have he3 := hf w.heap.size 3 (by simp)
  have he4 := hf w.heap.size 4 (by simp)
  have hBel := ((((Below.refl w.heap.size w).alloc (Nat.le_refl _) (Obj.cells #[.int .i64 0, .int .i64 0, .int .i64 0, .string ⟨#[]⟩, .int .i64 0] 84)).drew).trans ((Ja HB1).mono (by simp)))
  obtain ⟨s0, s1, s2, s3, s4, s5, s6⟩ := Ja HS w1 hBel
  have g1 : w1.frozen? ⟨W0.heap.size, 1, none⟩ = false := (hBel.frozen (p := ⟨W0.heap.size, 1, none⟩) hlt).trans fn
  have HBel := hide hBel
  simp at hd0 hd1 hd2 hd3 hd4 he0 he1 he2 he3 he4
  have n1 : tb ≠ W0.heap.size := by omega
  have n2 : w.heap.size ≠ W0.heap.size := by omega
  have n3 : tb ≠ w.heap.size := by omega
  obtain ⟨m, hm⟩ : ∃ m : Int, (j : Int) + 1 = m := ⟨_, rfl⟩
  have hm0 : 0 ≤ m - 1 := by omega
  have hm1 : m - 1 < (n : Int) := by omega
  have hm2 : m ≤ 201 := by omega
  have hmj : (m - 1).toNat = j := by omega
  have HM := hide hm
  clear hm
  clear hc hf hBel ct cn fn c0 c1 c2 c3 c4 hne
  have t0 : (w1.setCell ⟨W0.heap.size, 1, none⟩ (.int .i64 m)).cell? ⟨W0.heap.size, 0, none⟩ = some (.slice (some ⟨tb, 0, none⟩) n cap) := (World.cell?_setCell_other _ _ _ _ (by simp)).trans s0
  have t1 : (w1.setCell ⟨W0.heap.size, 1, none⟩ (.int .i64 m)).cell? ⟨W0.heap.size, 1, none⟩ = some (.int .i64 m) := World.cell?_setCell_same _ _ _ s1
  have t2 := fun i => World.cell?_setCell_other w1 ⟨W0.heap.size, 1, none⟩ ⟨tb, i, none⟩ (.int .i64 m) (by intro e; injection e; omega)
  have T0 := hide t0
  have T1 := hide t1
  have T2 := hide t2
  have S2 := hide s2
  have S3 := hide s3
  have S4 := hide s4
  have S5 := hide s5
  have S6 := hide s6
  have N1 := hide n1
  have N2 := hide n2
  have N3 := hide n3
  clear t0 t1 t2
  go_wp2_with fail
  have s1' := Ja T1
  have s0' := Ja T0
  have z2 := (Ja T2 _).trans (Ja S2)
  have z3 := (Ja T2 _).trans (Ja S3)
  have z4 := (Ja T2 _).trans (Ja S4)
  have z5 := (Ja T2 _).trans (Ja S5)
  have z6 := (Ja T2 _).trans (Ja S6)
  rw [Ja HM]
  go_region
  go_wp2_with fail
  refine bodyPost_ret (v := .tuple #[.agg #[.int .i64 k, .int .i64 r, .int .i64 x, .string t, .int .i64 p], .bool true]) (by simp [results, Tryz.results138, go_sem, hd0, hd1, hd2, hd3, hd4]) rfl ⟨rfl, ?_, ?_⟩
  · have h1 : Rd W0 (.slice (some ⟨tb, 0, none⟩) n cap) (j + 1) o (w1.setCell ⟨W0.heap.size, 1, none⟩ (.int .i64 m)) := by
      rw [← Ja HM]
      exact ((Ja HW).keep (Ja HBel)).next (j + 1)
    exact (((((h1.other hlt _ _).other hlt _ _).other hlt _ _).other hlt _ _).other hlt _ _).drew
  · have h1 : Kp W0 w (w1.setCell ⟨W0.heap.size, 1, none⟩ (.int .i64 m)) := (Kp.of_below (Ja HBel)).trans (Kp.setReader _ _ _ _)
    exact (((((h1.new (Nat.le_refl _) _ _).new (Nat.le_refl _) _ _).new (Nat.le_refl _) _ _).new (Nat.le_refl _) _ _).new (Nat.le_refl _) _ _).drew
set_option maxHeartbeats 600000 in
theorem Jn0 (W0 : World) (tb n cap : Nat) (q : Tok) (a : Int) (j o B : Nat) (w : World) (hw : Rd W0 (.slice (some ⟨tb, 0, none⟩) n cap) j o w) (hB : B < w.heap.size) (hBc : w.cell? ⟨B, 0, none⟩ = some (.int .i64 a)) (hBR : B ≠ W0.heap.size) (htb : tb < W0.heap.size)
    (c0 : w.cell? ⟨tb, j * 5, none⟩ = some (.int .i64 q.k)) (c1 : w.cell? ⟨tb, j * 5 + 1, none⟩ = some (.int .i64 q.r)) (c2 : w.cell? ⟨tb, j * 5 + 2, none⟩ = some (.int .i64 q.x)) (c3 : w.cell? ⟨tb, j * 5 + 3, none⟩ = some (.string q.t)) (c4 : w.cell? ⟨tb, j * 5 + 4, none⟩ = some (.int .i64 q.p)) (hj : (j : Int) < (n : Int)) (ht : (q.k == a) = false) :
    Calls Tryz.prog 138 #[.pointer (some ⟨W0.heap.size, 0, none⟩), .func (.func 196) #[] #[.pointer (some ⟨B, 0, none⟩)]] w fun e w' => e = .returned (.tuple #[zt, .bool false]) ∧ Rd W0 (.slice (some ⟨tb, 0, none⟩) n cap) j o w' ∧ Kp W0 w w' := by
  have HT := hide ht
  have HW := hide hw
  have ct := hw.tok
  have cn := hw.nxt
  have fn := hw.fr1
  have hlt := hw.lt
  have htl : tb < w.heap.size := Nat.lt_trans htb hlt
  have hne : ((j : Int) == (n : Int)) = false := beq_eq_false_iff_ne.2 (by omega)
  have hj0 : (0 : Int) ≤ (j : Int) := by omega
  have HBB := hide hB
  have HBC := hide hBc
  have HTL := hide htl
  have HLT := hide hlt
  have HTB := hide htb
  have HBR := hide hBR
  obtain ⟨k, r, x, t, p⟩ := q
  simp only at c0 c1 c2 c3 c4
  have HS : Hid (∀ w', Below w.heap.size w w' → w'.cell? ⟨W0.heap.size, 0, none⟩ = some (.slice (some ⟨tb, 0, none⟩) n cap) ∧ w'.cell? ⟨W0.heap.size, 1, none⟩ = some (.int .i64 j) ∧ w'.cell? ⟨tb, j * 5, none⟩ = some (.int .i64 k) ∧ w'.cell? ⟨tb, j * 5 + 1, none⟩ = some (.int .i64 r) ∧ w'.cell? ⟨tb, j * 5 + 2, none⟩ = some (.int .i64 x) ∧ w'.cell? ⟨tb, j * 5 + 3, none⟩ = some (.string t) ∧ w'.cell? ⟨tb, j * 5 + 4, none⟩ = some (.int .i64 p)) :=
    fun w' hb => ⟨(hb.cell (p := ⟨W0.heap.size, 0, none⟩) hlt).trans ct, (hb.cell (p := ⟨W0.heap.size, 1, none⟩) hlt).trans cn, (hb.cell (p := ⟨tb, j * 5, none⟩) htl).trans c0, (hb.cell (p := ⟨tb, j * 5 + 1, none⟩) htl).trans c1, (hb.cell (p := ⟨tb, j * 5 + 2, none⟩) htl).trans c2, (hb.cell (p := ⟨tb, j * 5 + 3, none⟩) htl).trans c3, (hb.cell (p := ⟨tb, j * 5 + 4, none⟩) htl).trans c4⟩
  clear ht hw hB hBc hBR
  go_enter Tryz.func138, Tryz.ntmps138
  go_wp2_with fail
  go_region_held3 (fun w' => w'.cell? ⟨W0.heap.size, 0, none⟩ = some (.slice (some ⟨tb, 0, none⟩) n cap) ∧ w'.cell? ⟨W0.heap.size, 1, none⟩ = some (.int .i64 j) ∧ w'.cell? ⟨tb, j * 5, none⟩ = some (.int .i64 k) ∧ w'.cell? ⟨tb, j * 5 + 1, none⟩ = some (.int .i64 r) ∧ w'.cell? ⟨tb, j * 5 + 2, none⟩ = some (.int .i64 x) ∧ w'.cell? ⟨tb, j * 5 + 3, none⟩ = some (.string t) ∧ w'.cell? ⟨tb, j * 5 + 4, none⟩ = some (.int .i64 p))
    (first | go_keep | exact Ja HS _ ((((Below.refl w.heap.size w).alloc (Nat.le_refl _) _).drew).trans ((Ja HB1).mono (by simp))))
    (first | (go_at_call 196; refine (Jif ⟨k, r, x, t, p⟩ a B _ ?_ ?_).mono ?_; (have := Ja HBB; simp; omega); exact ((((Below.refl w.heap.size w).alloc (Nat.le_refl _) _).drew).cell (p := ⟨B, 0, none⟩) (Ja HBB)).trans (Ja HBC); rintro e w1 ⟨he, hb1⟩; rw [Ja HT] at he; subst he; have HB1 := hide hb1; clear hb1))
  obtain ⟨hc, hf⟩ := Jr (Ja HB1)
  have hz : w.heap.size < w1.heap.size := by have := (Ja HB1).size; simp at this; omega
  have hd0 := hc w.heap.size 0 (by simp)
  have hd1 := hc w.heap.size 1 (by simp)
  have hd2 := hc w.heap.size 2 (by simp)
  have hd3 := hc w.heap.size 3 (by simp)
  have hd4 := hc w.heap.size 4 (by simp)
  have he0 := hf w.heap.size 0 (by simp)
  have he1 := hf w.heap.size 1 (by simp)
  have he2 := hf w.heap.size 2 (by simp)
  have he3 := hf w.heap.size 3 (by simp)
  have he4 := hf w.heap.size 4 (by simp)
  have HBel := hide ((((Below.refl w.heap.size w).alloc (Nat.le_refl _) (Obj.cells #[.int .i64 0, .int .i64 0, .int .i64 0, .string ⟨#[]⟩, .int .i64 0] 84)).drew).trans ((Ja HB1).mono (by simp)))
  simp at hd0 hd1 hd2 hd3 hd4 he0 he1 he2 he3 he4
  clear hc hf ct cn fn c0 c1 c2 c3 c4 hne
  go_wp2_with fail
  refine bodyPost_ret (v := .tuple #[.agg #[.int .i64 0, .int .i64 0, .int .i64 0, .string ⟨#[]⟩, .int .i64 0], .bool false]) (by simp [results, Tryz.results138, go_sem, hd0, hd1, hd2, hd3, hd4]) rfl ⟨rfl, ?_, ?_⟩
  · have h1 := (Ja HW).keep (Ja HBel)
    exact ((((h1.other hlt _ _).other hlt _ _).other hlt _ _).other hlt _ _).other hlt _ _
  · have h1 : Kp W0 w w1 := Kp.of_below (Ja HBel)
    exact ((((h1.new (Nat.le_refl _) _ _).new (Nat.le_refl _) _ _).new (Nat.le_refl _) _ _).new (Nat.le_refl _) _ _).new (Nat.le_refl _) _ _
set_option maxHeartbeats 600000 in
theorem Jmr (W0 : World) (ao : Option Addr) (n cap : Nat) (j o B : Nat) (w : World) (hw : Rd W0 (.slice ao n cap) j o w) (hj : j = n) (hn : n ≤ 200) :
    Calls Tryz.prog 138 #[.pointer (some ⟨W0.heap.size, 0, none⟩), .func (.func 196) #[] #[.pointer (some ⟨B, 0, none⟩)]] w fun e w' => e = .returned (.tuple #[zt, .bool false]) ∧ Rd W0 (.slice ao n cap) j o w' ∧ Kp W0 w w' := by
  subst hj
  have HW := hide hw
  have ct := hw.tok
  have cn := hw.nxt
  have hlt := hw.lt
  clear hw
  go_enter Tryz.func138, Tryz.ntmps138
  go_wp2_with fail
  go_quiet (fail)
  go_wp2_with fail
  refine bodyPost_ret (v := .tuple #[.agg #[.int .i64 0, .int .i64 0, .int .i64 0, .string ⟨#[]⟩, .int .i64 0], .bool false]) (by simp [results, Tryz.results138, go_sem]) rfl ⟨rfl, ?_, ?_⟩
  · have h1 := (Ja HW).keep (Ys ((Below.refl w.heap.size w).alloc (Nat.le_refl _) (Obj.cells #[.int .i64 0, .int .i64 0, .int .i64 0, .string ⟨#[]⟩, .int .i64 0] 84)) nq)
    exact ((((h1.other hlt _ _).other hlt _ _).other hlt _ _).other hlt _ _).other hlt _ _
  · have h1 : Kp W0 w _ := Kp.of_below (Ys ((Below.refl w.heap.size w).alloc (Nat.le_refl _) (Obj.cells #[.int .i64 0, .int .i64 0, .int .i64 0, .string ⟨#[]⟩, .int .i64 0] 84)) nq)
    exact ((((h1.new (Nat.le_refl _) _ _).new (Nat.le_refl _) _ _).new (Nat.le_refl _) _ _).new (Nat.le_refl _) _ _).new (Nat.le_refl _) _ _
end Go.Proofs.YtjobgpahajhbnabGreatDoor
