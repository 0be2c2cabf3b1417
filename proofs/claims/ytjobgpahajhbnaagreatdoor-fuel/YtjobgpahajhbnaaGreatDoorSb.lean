import Derived.Test.YtjobgpahajhbnaaGreatDoorWh
namespace Go.Proofs.YtjobgpahajhbnaaGreatDoor
open Go.RowKit

theorem Rd.next {W0 : World} {tk : Value} {j o : Nat} {w : World} (h : Rd W0 tk j o w) (k : Nat) : Rd W0 tk k o (w.setCell ⟨W0.heap.size, 1, none⟩ (.int .i64 k)) :=
  ⟨h.below.setCell (Nat.le_refl _) _, (World.cell?_setCell_other _ _ _ _ (by simp)).trans h.tok, World.cell?_setCell_same _ _ _ h.nxt, (World.cell?_setCell_other _ _ _ _ (by simp)).trans h.opn,
    (World.frozen?_setCell _ _ _ _).trans h.fr1, (World.frozen?_setCell _ _ _ _).trans h.fr2, by simpa using h.lt⟩
theorem Rd.opened {W0 : World} {tk : Value} {j o : Nat} {w : World} (h : Rd W0 tk j o w) (k : Nat) : Rd W0 tk j k (w.setCell ⟨W0.heap.size, 2, none⟩ (.int .i64 k)) :=
  ⟨h.below.setCell (Nat.le_refl _) _, (World.cell?_setCell_other _ _ _ _ (by simp)).trans h.tok, (World.cell?_setCell_other _ _ _ _ (by simp)).trans h.nxt, World.cell?_setCell_same _ _ _ h.opn,
    (World.frozen?_setCell _ _ _ _).trans h.fr1, (World.frozen?_setCell _ _ _ _).trans h.fr2, by simpa using h.lt⟩
def zt : Value := tokX 0 0 0 ⟨#[]⟩ 0
theorem below_nn {B : Nat} {w w' : World} (h : Below B w w') (n : Nat) : Below B w (w'.drewN n) := ⟨h.os, h.tape, h.output, h.size, h.block⟩
/-- all but the reader's block is as it was -/
def Kp (W0 w w' : World) : Prop := w.grownBy w' (some W0.heap.size)
theorem Kp.refl (W0 w : World) : Kp W0 w w := ⟨rfl, rfl, rfl, Nat.le_refl _, fun _ _ _ => rfl⟩
theorem Kp.trans {W0 a b c : World} (h : Kp W0 a b) (h' : Kp W0 b c) : Kp W0 a c :=
  ⟨h'.os.trans h.os, h'.tape.trans h.tape, h'.output.trans h.output, Nat.le_trans h.size h'.size, fun k hk hn => (h'.block k (Nat.lt_of_lt_of_le hk h.size) hn).trans (h.block k hk hn)⟩
theorem Kp.of_below {W0 w w' : World} (h : Below w.heap.size w w') : Kp W0 w w' := ⟨h.os, h.tape, h.output, h.size, fun k hk _ => h.block k hk⟩
theorem Rd.keep {W0 : World} {tk : Value} {j o : Nat} {w w' : World} (h : Rd W0 tk j o w) (hb : Below w.heap.size w w') : Rd W0 tk j o w' :=
  ⟨h.below.trans (hb.mono h.below.size), (hb.cell (p := ⟨W0.heap.size, 0, none⟩) h.lt).trans h.tok, (hb.cell (p := ⟨W0.heap.size, 1, none⟩) h.lt).trans h.nxt, (hb.cell (p := ⟨W0.heap.size, 2, none⟩) h.lt).trans h.opn,
    (hb.frozen (p := ⟨W0.heap.size, 1, none⟩) h.lt).trans h.fr1, (hb.frozen (p := ⟨W0.heap.size, 2, none⟩) h.lt).trans h.fr2, Nat.lt_of_lt_of_le h.lt hb.size⟩
theorem Kp.setReader (W0 w : World) (i : Nat) (v : Value) : Kp W0 w (w.setCell ⟨W0.heap.size, i, none⟩ v) :=
  ⟨rfl, rfl, rfl, by simp, fun k _ hn => RowKit.Below.heap_setCell _ _ _ _ (fun e => hn (by rw [e]))⟩
theorem Rd.other {W0 : World} {tk : Value} {j o : Nat} {w : World} (h : Rd W0 tk j o w) {b : Nat} (hb : W0.heap.size < b) (i : Nat) (v : Value) : Rd W0 tk j o (w.setCell ⟨b, i, none⟩ v) :=
  ⟨h.below.setCell (Nat.le_of_lt hb) _, (World.cell?_setCell_other _ _ _ _ (by intro e; injection e; omega)).trans h.tok, (World.cell?_setCell_other _ _ _ _ (by intro e; injection e; omega)).trans h.nxt, (World.cell?_setCell_other _ _ _ _ (by intro e; injection e; omega)).trans h.opn,
    (World.frozen?_setCell _ _ _ _).trans h.fr1, (World.frozen?_setCell _ _ _ _).trans h.fr2, by simpa using h.lt⟩
theorem Kp.new {W0 w w' : World} (h : Kp W0 w w') {b : Nat} (hb : w.heap.size ≤ b) (i : Nat) (v : Value) : Kp W0 w (w'.setCell ⟨b, i, none⟩ v) :=
  ⟨h.os, h.tape, h.output, by simpa using h.size, fun k hk hn => (RowKit.Below.heap_setCell _ _ _ _ (by simp; omega)).trans (h.block k hk hn)⟩
theorem Rd.drew {W0 : World} {tk : Value} {j o : Nat} {w : World} (h : Rd W0 tk j o w) : Rd W0 tk j o w.drew := ⟨h.below.drew, h.tok, h.nxt, h.opn, h.fr1, h.fr2, h.lt⟩
theorem Kp.drew {W0 w w' : World} (h : Kp W0 w w') : Kp W0 w w'.drew := ⟨h.os, h.tape, h.output, h.size, h.block⟩
set_option maxHeartbeats 600000 in
theorem ifR_yes (W0 : World) (tb n cap : Nat) (q : Tok) (a : Int) (j o B : Nat) (w : World) (hw : Rd W0 (.slice (some ⟨tb, 0, none⟩) n cap) j o w) (hB : B < w.heap.size) (hBc : w.cell? ⟨B, 0, none⟩ = some (.int .i64 a)) (hBR : B ≠ W0.heap.size) (htb : tb < W0.heap.size)
    (c0 : w.cell? ⟨tb, j * 5, none⟩ = some (.int .i64 q.k)) (c1 : w.cell? ⟨tb, j * 5 + 1, none⟩ = some (.int .i64 q.r)) (c2 : w.cell? ⟨tb, j * 5 + 2, none⟩ = some (.int .i64 q.x)) (c3 : w.cell? ⟨tb, j * 5 + 3, none⟩ = some (.string q.t)) (c4 : w.cell? ⟨tb, j * 5 + 4, none⟩ = some (.int .i64 q.p)) (hj : (j : Int) < (n : Int)) (hn : n ≤ 200) (ht : roleB q.r a = true) :
    Calls Tryz.prog 215 #[.pointer (some ⟨W0.heap.size, 0, none⟩), .func (.func 216) #[] #[.pointer (some ⟨B, 0, none⟩)]] w fun e w' => e = .returned (.tuple #[q.v, .bool true]) ∧ Rd W0 (.slice (some ⟨tb, 0, none⟩) n cap) (j + 1) o w' ∧ Kp W0 w w' := by
  have HT := hide ht
  have HW := hide hw
  have ct := hw.tok
  have cn := hw.nxt
  have fn := hw.fr1
  have hlt := hw.lt
  have htl : tb < w.heap.size := Nat.lt_trans htb hlt
  have hne : ((j : Int) == (n : Int)) = false := beq_eq_false_iff_ne.2 (by omega)
  have hj0 : (0 : Int) ≤ (j : Int) := by omega
  have HBB := hide hB
  have HBC := hide hBc
  have HTL := hide htl
  have HLT := hide hlt
  have HTB := hide htb
  have HBR := hide hBR
  obtain ⟨k, r, x, t, p⟩ := q
  simp only at c0 c1 c2 c3 c4
  have HS : Hid (∀ w', Below w.heap.size w w' → w'.cell? ⟨W0.heap.size, 0, none⟩ = some (.slice (some ⟨tb, 0, none⟩) n cap) ∧ w'.cell? ⟨W0.heap.size, 1, none⟩ = some (.int .i64 j) ∧ w'.cell? ⟨tb, j * 5, none⟩ = some (.int .i64 k) ∧ w'.cell? ⟨tb, j * 5 + 1, none⟩ = some (.int .i64 r) ∧ w'.cell? ⟨tb, j * 5 + 2, none⟩ = some (.int .i64 x) ∧ w'.cell? ⟨tb, j * 5 + 3, none⟩ = some (.string t) ∧ w'.cell? ⟨tb, j * 5 + 4, none⟩ = some (.int .i64 p)) :=
    fun w' hb => ⟨(hb.cell (p := ⟨W0.heap.size, 0, none⟩) hlt).trans ct, (hb.cell (p := ⟨W0.heap.size, 1, none⟩) hlt).trans cn, (hb.cell (p := ⟨tb, j * 5, none⟩) htl).trans c0, (hb.cell (p := ⟨tb, j * 5 + 1, none⟩) htl).trans c1, (hb.cell (p := ⟨tb, j * 5 + 2, none⟩) htl).trans c2, (hb.cell (p := ⟨tb, j * 5 + 3, none⟩) htl).trans c3, (hb.cell (p := ⟨tb, j * 5 + 4, none⟩) htl).trans c4⟩
  clear ht hw hB hBc hBR
  go_enter Tryz.func215, Tryz.ntmps215
  go_wp2_with fail
  go_region_held3 (fun w' => w'.cell? ⟨W0.heap.size, 0, none⟩ = some (.slice (some ⟨tb, 0, none⟩) n cap) ∧ w'.cell? ⟨W0.heap.size, 1, none⟩ = some (.int .i64 j) ∧ w'.cell? ⟨tb, j * 5, none⟩ = some (.int .i64 k) ∧ w'.cell? ⟨tb, j * 5 + 1, none⟩ = some (.int .i64 r) ∧ w'.cell? ⟨tb, j * 5 + 2, none⟩ = some (.int .i64 x) ∧ w'.cell? ⟨tb, j * 5 + 3, none⟩ = some (.string t) ∧ w'.cell? ⟨tb, j * 5 + 4, none⟩ = some (.int .i64 p))
    (first | go_keep | exact unhide HS _ ((((Below.refl w.heap.size w).alloc (Nat.le_refl _) _).drew).trans ((unhide HB1).mono (by simp))))
    (first | (go_at_call 216; refine (cl_role ⟨k, r, x, t, p⟩ a B _ ?_ ?_).mono ?_; (have := unhide HBB; simp; omega); exact ((((Below.refl w.heap.size w).alloc (Nat.le_refl _) _).drew).cell (p := ⟨B, 0, none⟩) (unhide HBB)).trans (unhide HBC); rintro e w1 ⟨he, hb1⟩; rw [unhide HT] at he; subst he; have HB1 := hide hb1; clear hb1))
  obtain ⟨hc, hf⟩ := bcell (unhide HB1)
  have hz : w.heap.size < w1.heap.size := by have := (unhide HB1).size; simp at this; omega
  have hd0 := hc w.heap.size 0 (by simp)
  have hd1 := hc w.heap.size 1 (by simp)
  have hd2 := hc w.heap.size 2 (by simp)
  have hd3 := hc w.heap.size 3 (by simp)
  have hd4 := hc w.heap.size 4 (by simp)
  have he0 := hf w.heap.size 0 (by simp)
  have he1 := hf w.heap.size 1 (by simp)
  have he2 := hf w.heap.size 2 (by simp)
  have he3 := hf w.heap.size 3 (by simp)
  have he4 := hf w.heap.size 4 (by simp)
  have hBel := ((((Below.refl w.heap.size w).alloc (Nat.le_refl _) (Obj.cells #[.int .i64 0, .int .i64 0, .int .i64 0, .string ⟨#[]⟩, .int .i64 0] 155)).drew).trans ((unhide HB1).mono (by simp)))
  obtain ⟨s0, s1, s2, s3, s4, s5, s6⟩ := unhide HS w1 hBel
  have g1 : w1.frozen? ⟨W0.heap.size, 1, none⟩ = false := (hBel.frozen (p := ⟨W0.heap.size, 1, none⟩) hlt).trans fn
  have HBel := hide hBel
  simp at hd0 hd1 hd2 hd3 hd4 he0 he1 he2 he3 he4
  have n1 : tb ≠ W0.heap.size := by omega
  have n2 : w.heap.size ≠ W0.heap.size := by omega
  have n3 : tb ≠ w.heap.size := by omega
  obtain ⟨m, hm⟩ : ∃ m : Int, (j : Int) + 1 = m := ⟨_, rfl⟩
  have hm0 : 0 ≤ m - 1 := by omega
  have hm1 : m - 1 < (n : Int) := by omega
  have hm2 : m ≤ 201 := by omega
  have hmj : (m - 1).toNat = j := by omega
  have HM := hide hm
  clear hm
  clear hc hf hBel ct cn fn c0 c1 c2 c3 c4 hne
  have t0 : (w1.setCell ⟨W0.heap.size, 1, none⟩ (.int .i64 m)).cell? ⟨W0.heap.size, 0, none⟩ = some (.slice (some ⟨tb, 0, none⟩) n cap) := (World.cell?_setCell_other _ _ _ _ (by simp)).trans s0
  have t1 : (w1.setCell ⟨W0.heap.size, 1, none⟩ (.int .i64 m)).cell? ⟨W0.heap.size, 1, none⟩ = some (.int .i64 m) := World.cell?_setCell_same _ _ _ s1
  have t2 := fun i => World.cell?_setCell_other w1 ⟨W0.heap.size, 1, none⟩ ⟨tb, i, none⟩ (.int .i64 m) (by intro e; injection e; omega)
  have T0 := hide t0
  have T1 := hide t1
  have T2 := hide t2
  have S2 := hide s2
  have S3 := hide s3
  have S4 := hide s4
  have S5 := hide s5
  have S6 := hide s6
  have N1 := hide n1
  have N2 := hide n2
  have N3 := hide n3
  clear t0 t1 t2
  go_wp2_with fail
  have s1' := unhide T1
  have s0' := unhide T0
  have z2 := (unhide T2 _).trans (unhide S2)
  have z3 := (unhide T2 _).trans (unhide S3)
  have z4 := (unhide T2 _).trans (unhide S4)
  have z5 := (unhide T2 _).trans (unhide S5)
  have z6 := (unhide T2 _).trans (unhide S6)
  rw [unhide HM]
  go_region
  go_wp2_with fail
  refine bodyPost_ret (v := .tuple #[.agg #[.int .i64 k, .int .i64 r, .int .i64 x, .string t, .int .i64 p], .bool true]) (by simp [results, Tryz.results215, go_sem, hd0, hd1, hd2, hd3, hd4]) rfl ⟨rfl, ?_, ?_⟩
  · have h1 : Rd W0 (.slice (some ⟨tb, 0, none⟩) n cap) (j + 1) o (w1.setCell ⟨W0.heap.size, 1, none⟩ (.int .i64 m)) := by
      rw [← unhide HM]
      exact ((unhide HW).keep (unhide HBel)).next (j + 1)
    exact (((((h1.other hlt _ _).other hlt _ _).other hlt _ _).other hlt _ _).other hlt _ _).drew
  · have h1 : Kp W0 w (w1.setCell ⟨W0.heap.size, 1, none⟩ (.int .i64 m)) := (Kp.of_below (unhide HBel)).trans (Kp.setReader _ _ _ _)
    exact (((((h1.new (Nat.le_refl _) _ _).new (Nat.le_refl _) _ _).new (Nat.le_refl _) _ _).new (Nat.le_refl _) _ _).new (Nat.le_refl _) _ _).drew

set_option maxHeartbeats 600000 in
theorem ifR_no (W0 : World) (tb n cap : Nat) (q : Tok) (a : Int) (j o B : Nat) (w : World) (hw : Rd W0 (.slice (some ⟨tb, 0, none⟩) n cap) j o w) (hB : B < w.heap.size) (hBc : w.cell? ⟨B, 0, none⟩ = some (.int .i64 a)) (hBR : B ≠ W0.heap.size) (htb : tb < W0.heap.size)
    (c0 : w.cell? ⟨tb, j * 5, none⟩ = some (.int .i64 q.k)) (c1 : w.cell? ⟨tb, j * 5 + 1, none⟩ = some (.int .i64 q.r)) (c2 : w.cell? ⟨tb, j * 5 + 2, none⟩ = some (.int .i64 q.x)) (c3 : w.cell? ⟨tb, j * 5 + 3, none⟩ = some (.string q.t)) (c4 : w.cell? ⟨tb, j * 5 + 4, none⟩ = some (.int .i64 q.p)) (hj : (j : Int) < (n : Int)) (ht : roleB q.r a = false) :
    Calls Tryz.prog 215 #[.pointer (some ⟨W0.heap.size, 0, none⟩), .func (.func 216) #[] #[.pointer (some ⟨B, 0, none⟩)]] w fun e w' => e = .returned (.tuple #[zt, .bool false]) ∧ Rd W0 (.slice (some ⟨tb, 0, none⟩) n cap) j o w' ∧ Kp W0 w w' := by
  have HT := hide ht
  have HW := hide hw
  have ct := hw.tok
  have cn := hw.nxt
  have fn := hw.fr1
  have hlt := hw.lt
  have htl : tb < w.heap.size := Nat.lt_trans htb hlt
  have hne : ((j : Int) == (n : Int)) = false := beq_eq_false_iff_ne.2 (by omega)
  have hj0 : (0 : Int) ≤ (j : Int) := by omega
  have HBB := hide hB
  have HBC := hide hBc
  have HTL := hide htl
  have HLT := hide hlt
  have HTB := hide htb
  have HBR := hide hBR
  obtain ⟨k, r, x, t, p⟩ := q
  simp only at c0 c1 c2 c3 c4
  have HS : Hid (∀ w', Below w.heap.size w w' → w'.cell? ⟨W0.heap.size, 0, none⟩ = some (.slice (some ⟨tb, 0, none⟩) n cap) ∧ w'.cell? ⟨W0.heap.size, 1, none⟩ = some (.int .i64 j) ∧ w'.cell? ⟨tb, j * 5, none⟩ = some (.int .i64 k) ∧ w'.cell? ⟨tb, j * 5 + 1, none⟩ = some (.int .i64 r) ∧ w'.cell? ⟨tb, j * 5 + 2, none⟩ = some (.int .i64 x) ∧ w'.cell? ⟨tb, j * 5 + 3, none⟩ = some (.string t) ∧ w'.cell? ⟨tb, j * 5 + 4, none⟩ = some (.int .i64 p)) :=
    fun w' hb => ⟨(hb.cell (p := ⟨W0.heap.size, 0, none⟩) hlt).trans ct, (hb.cell (p := ⟨W0.heap.size, 1, none⟩) hlt).trans cn, (hb.cell (p := ⟨tb, j * 5, none⟩) htl).trans c0, (hb.cell (p := ⟨tb, j * 5 + 1, none⟩) htl).trans c1, (hb.cell (p := ⟨tb, j * 5 + 2, none⟩) htl).trans c2, (hb.cell (p := ⟨tb, j * 5 + 3, none⟩) htl).trans c3, (hb.cell (p := ⟨tb, j * 5 + 4, none⟩) htl).trans c4⟩
  clear ht hw hB hBc hBR
  go_enter Tryz.func215, Tryz.ntmps215
  go_wp2_with fail
  go_region_held3 (fun w' => w'.cell? ⟨W0.heap.size, 0, none⟩ = some (.slice (some ⟨tb, 0, none⟩) n cap) ∧ w'.cell? ⟨W0.heap.size, 1, none⟩ = some (.int .i64 j) ∧ w'.cell? ⟨tb, j * 5, none⟩ = some (.int .i64 k) ∧ w'.cell? ⟨tb, j * 5 + 1, none⟩ = some (.int .i64 r) ∧ w'.cell? ⟨tb, j * 5 + 2, none⟩ = some (.int .i64 x) ∧ w'.cell? ⟨tb, j * 5 + 3, none⟩ = some (.string t) ∧ w'.cell? ⟨tb, j * 5 + 4, none⟩ = some (.int .i64 p))
    (first | go_keep | exact unhide HS _ ((((Below.refl w.heap.size w).alloc (Nat.le_refl _) _).drew).trans ((unhide HB1).mono (by simp))))
    (first | (go_at_call 216; refine (cl_role ⟨k, r, x, t, p⟩ a B _ ?_ ?_).mono ?_; (have := unhide HBB; simp; omega); exact ((((Below.refl w.heap.size w).alloc (Nat.le_refl _) _).drew).cell (p := ⟨B, 0, none⟩) (unhide HBB)).trans (unhide HBC); rintro e w1 ⟨he, hb1⟩; rw [unhide HT] at he; subst he; have HB1 := hide hb1; clear hb1))
  obtain ⟨hc, hf⟩ := bcell (unhide HB1)
  have hz : w.heap.size < w1.heap.size := by have := (unhide HB1).size; simp at this; omega
  have hd0 := hc w.heap.size 0 (by simp)
  have hd1 := hc w.heap.size 1 (by simp)
  have hd2 := hc w.heap.size 2 (by simp)
  have hd3 := hc w.heap.size 3 (by simp)
  have hd4 := hc w.heap.size 4 (by simp)
  have he0 := hf w.heap.size 0 (by simp)
  have he1 := hf w.heap.size 1 (by simp)
  have he2 := hf w.heap.size 2 (by simp)
  have he3 := hf w.heap.size 3 (by simp)
  have he4 := hf w.heap.size 4 (by simp)
  have HBel := hide ((((Below.refl w.heap.size w).alloc (Nat.le_refl _) (Obj.cells #[.int .i64 0, .int .i64 0, .int .i64 0, .string ⟨#[]⟩, .int .i64 0] 155)).drew).trans ((unhide HB1).mono (by simp)))
  simp at hd0 hd1 hd2 hd3 hd4 he0 he1 he2 he3 he4
  clear hc hf ct cn fn c0 c1 c2 c3 c4 hne
  go_wp2_with fail
  refine bodyPost_ret (v := .tuple #[.agg #[.int .i64 0, .int .i64 0, .int .i64 0, .string ⟨#[]⟩, .int .i64 0], .bool false]) (by simp [results, Tryz.results215, go_sem, hd0, hd1, hd2, hd3, hd4]) rfl ⟨rfl, ?_, ?_⟩
  · have h1 := (unhide HW).keep (unhide HBel)
    exact ((((h1.other hlt _ _).other hlt _ _).other hlt _ _).other hlt _ _).other hlt _ _
  · have h1 : Kp W0 w w1 := Kp.of_below (unhide HBel)
    exact ((((h1.new (Nat.le_refl _) _ _).new (Nat.le_refl _) _ _).new (Nat.le_refl _) _ _).new (Nat.le_refl _) _ _).new (Nat.le_refl _) _ _

set_option maxHeartbeats 600000 in
theorem ifR_end (W0 : World) (ao : Option Addr) (n cap : Nat) (j o B : Nat) (w : World) (hw : Rd W0 (.slice ao n cap) j o w) (hj : j = n) (hn : n ≤ 200) :
    Calls Tryz.prog 215 #[.pointer (some ⟨W0.heap.size, 0, none⟩), .func (.func 216) #[] #[.pointer (some ⟨B, 0, none⟩)]] w fun e w' => e = .returned (.tuple #[zt, .bool false]) ∧ Rd W0 (.slice ao n cap) j o w' ∧ Kp W0 w w' := by
  subst hj
  have HW := hide hw
  have ct := hw.tok
  have cn := hw.nxt
  have hlt := hw.lt
  clear hw
  go_enter Tryz.func215, Tryz.ntmps215
  go_wp2_with fail
  go_quiet (fail)
  go_wp2_with fail
  refine bodyPost_ret (v := .tuple #[.agg #[.int .i64 0, .int .i64 0, .int .i64 0, .string ⟨#[]⟩, .int .i64 0], .bool false]) (by simp [results, Tryz.results215, go_sem]) rfl ⟨rfl, ?_, ?_⟩
  · have h1 := (unhide HW).keep (below_nn ((Below.refl w.heap.size w).alloc (Nat.le_refl _) (Obj.cells #[.int .i64 0, .int .i64 0, .int .i64 0, .string ⟨#[]⟩, .int .i64 0] 155)) nq)
    exact ((((h1.other hlt _ _).other hlt _ _).other hlt _ _).other hlt _ _).other hlt _ _
  · have h1 : Kp W0 w _ := Kp.of_below (below_nn ((Below.refl w.heap.size w).alloc (Nat.le_refl _) (Obj.cells #[.int .i64 0, .int .i64 0, .int .i64 0, .string ⟨#[]⟩, .int .i64 0] 155)) nq)
    exact ((((h1.new (Nat.le_refl _) _ _).new (Nat.le_refl _) _ _).new (Nat.le_refl _) _ _).new (Nat.le_refl _) _ _).new (Nat.le_refl _) _ _

set_option maxHeartbeats 600000 in
theorem ifK_yes (W0 : World) (tb n cap : Nat) (q : Tok) (a : Int) (j o B : Nat) (w : World) (hw : Rd W0 (.slice (some ⟨tb, 0, none⟩) n cap) j o w) (hB : B < w.heap.size) (hBc : w.cell? ⟨B, 0, none⟩ = some (.int .i64 a)) (hBR : B ≠ W0.heap.size) (htb : tb < W0.heap.size)
    (c0 : w.cell? ⟨tb, j * 5, none⟩ = some (.int .i64 q.k)) (c1 : w.cell? ⟨tb, j * 5 + 1, none⟩ = some (.int .i64 q.r)) (c2 : w.cell? ⟨tb, j * 5 + 2, none⟩ = some (.int .i64 q.x)) (c3 : w.cell? ⟨tb, j * 5 + 3, none⟩ = some (.string q.t)) (c4 : w.cell? ⟨tb, j * 5 + 4, none⟩ = some (.int .i64 q.p)) (hj : (j : Int) < (n : Int)) (hn : n ≤ 200) (ht : (q.k == a) = true) :
    Calls Tryz.prog 215 #[.pointer (some ⟨W0.heap.size, 0, none⟩), .func (.func 271) #[] #[.pointer (some ⟨B, 0, none⟩)]] w fun e w' => e = .returned (.tuple #[q.v, .bool true]) ∧ Rd W0 (.slice (some ⟨tb, 0, none⟩) n cap) (j + 1) o w' ∧ Kp W0 w w' := by
  have HT := hide ht
  have HW := hide hw
  have ct := hw.tok
  have cn := hw.nxt
  have fn := hw.fr1
  have hlt := hw.lt
  have htl : tb < w.heap.size := Nat.lt_trans htb hlt
  have hne : ((j : Int) == (n : Int)) = false := beq_eq_false_iff_ne.2 (by omega)
  have hj0 : (0 : Int) ≤ (j : Int) := by omega
  have HBB := hide hB
  have HBC := hide hBc
  have HTL := hide htl
  have HLT := hide hlt
  have HTB := hide htb
  have HBR := hide hBR
  obtain ⟨k, r, x, t, p⟩ := q
  simp only at c0 c1 c2 c3 c4
  have HS : Hid (∀ w', Below w.heap.size w w' → w'.cell? ⟨W0.heap.size, 0, none⟩ = some (.slice (some ⟨tb, 0, none⟩) n cap) ∧ w'.cell? ⟨W0.heap.size, 1, none⟩ = some (.int .i64 j) ∧ w'.cell? ⟨tb, j * 5, none⟩ = some (.int .i64 k) ∧ w'.cell? ⟨tb, j * 5 + 1, none⟩ = some (.int .i64 r) ∧ w'.cell? ⟨tb, j * 5 + 2, none⟩ = some (.int .i64 x) ∧ w'.cell? ⟨tb, j * 5 + 3, none⟩ = some (.string t) ∧ w'.cell? ⟨tb, j * 5 + 4, none⟩ = some (.int .i64 p)) :=
    fun w' hb => ⟨(hb.cell (p := ⟨W0.heap.size, 0, none⟩) hlt).trans ct, (hb.cell (p := ⟨W0.heap.size, 1, none⟩) hlt).trans cn, (hb.cell (p := ⟨tb, j * 5, none⟩) htl).trans c0, (hb.cell (p := ⟨tb, j * 5 + 1, none⟩) htl).trans c1, (hb.cell (p := ⟨tb, j * 5 + 2, none⟩) htl).trans c2, (hb.cell (p := ⟨tb, j * 5 + 3, none⟩) htl).trans c3, (hb.cell (p := ⟨tb, j * 5 + 4, none⟩) htl).trans c4⟩
  clear ht hw hB hBc hBR
  go_enter Tryz.func215, Tryz.ntmps215
  go_wp2_with fail
  go_region_held3 (fun w' => w'.cell? ⟨W0.heap.size, 0, none⟩ = some (.slice (some ⟨tb, 0, none⟩) n cap) ∧ w'.cell? ⟨W0.heap.size, 1, none⟩ = some (.int .i64 j) ∧ w'.cell? ⟨tb, j * 5, none⟩ = some (.int .i64 k) ∧ w'.cell? ⟨tb, j * 5 + 1, none⟩ = some (.int .i64 r) ∧ w'.cell? ⟨tb, j * 5 + 2, none⟩ = some (.int .i64 x) ∧ w'.cell? ⟨tb, j * 5 + 3, none⟩ = some (.string t) ∧ w'.cell? ⟨tb, j * 5 + 4, none⟩ = some (.int .i64 p))
    (first | go_keep | exact unhide HS _ ((((Below.refl w.heap.size w).alloc (Nat.le_refl _) _).drew).trans ((unhide HB1).mono (by simp))))
    (first | (go_at_call 271; refine (cl_kind ⟨k, r, x, t, p⟩ a B _ ?_ ?_).mono ?_; (have := unhide HBB; simp; omega); exact ((((Below.refl w.heap.size w).alloc (Nat.le_refl _) _).drew).cell (p := ⟨B, 0, none⟩) (unhide HBB)).trans (unhide HBC); rintro e w1 ⟨he, hb1⟩; rw [unhide HT] at he; subst he; have HB1 := hide hb1; clear hb1))
  obtain ⟨hc, hf⟩ := bcell (unhide HB1)
  have hz : w.heap.size < w1.heap.size := by have := (unhide HB1).size; simp at this; omega
  have hd0 := hc w.heap.size 0 (by simp)
  have hd1 := hc w.heap.size 1 (by simp)
  have hd2 := hc w.heap.size 2 (by simp)
  have hd3 := hc w.heap.size 3 (by simp)
  have hd4 := hc w.heap.size 4 (by simp)
  have he0 := hf w.heap.size 0 (by simp)
  have he1 := hf w.heap.size 1 (by simp)
  have he2 := hf w.heap.size 2 (by simp)
  have he3 := hf w.heap.size 3 (by simp)
  have he4 := hf w.heap.size 4 (by simp)
  have hBel := ((((Below.refl w.heap.size w).alloc (Nat.le_refl _) (Obj.cells #[.int .i64 0, .int .i64 0, .int .i64 0, .string ⟨#[]⟩, .int .i64 0] 155)).drew).trans ((unhide HB1).mono (by simp)))
  obtain ⟨s0, s1, s2, s3, s4, s5, s6⟩ := unhide HS w1 hBel
  have g1 : w1.frozen? ⟨W0.heap.size, 1, none⟩ = false := (hBel.frozen (p := ⟨W0.heap.size, 1, none⟩) hlt).trans fn
  have HBel := hide hBel
  simp at hd0 hd1 hd2 hd3 hd4 he0 he1 he2 he3 he4
  have n1 : tb ≠ W0.heap.size := by omega
  have n2 : w.heap.size ≠ W0.heap.size := by omega
  have n3 : tb ≠ w.heap.size := by omega
  obtain ⟨m, hm⟩ : ∃ m : Int, (j : Int) + 1 = m := ⟨_, rfl⟩
  have hm0 : 0 ≤ m - 1 := by omega
  have hm1 : m - 1 < (n : Int) := by omega
  have hm2 : m ≤ 201 := by omega
  have hmj : (m - 1).toNat = j := by omega
  have HM := hide hm
  clear hm
  clear hc hf hBel ct cn fn c0 c1 c2 c3 c4 hne
  have t0 : (w1.setCell ⟨W0.heap.size, 1, none⟩ (.int .i64 m)).cell? ⟨W0.heap.size, 0, none⟩ = some (.slice (some ⟨tb, 0, none⟩) n cap) := (World.cell?_setCell_other _ _ _ _ (by simp)).trans s0
  have t1 : (w1.setCell ⟨W0.heap.size, 1, none⟩ (.int .i64 m)).cell? ⟨W0.heap.size, 1, none⟩ = some (.int .i64 m) := World.cell?_setCell_same _ _ _ s1
  have t2 := fun i => World.cell?_setCell_other w1 ⟨W0.heap.size, 1, none⟩ ⟨tb, i, none⟩ (.int .i64 m) (by intro e; injection e; omega)
  have T0 := hide t0
  have T1 := hide t1
  have T2 := hide t2
  have S2 := hide s2
  have S3 := hide s3
  have S4 := hide s4
  have S5 := hide s5
  have S6 := hide s6
  have N1 := hide n1
  have N2 := hide n2
  have N3 := hide n3
  clear t0 t1 t2
  go_wp2_with fail
  have s1' := unhide T1
  have s0' := unhide T0
  have z2 := (unhide T2 _).trans (unhide S2)
  have z3 := (unhide T2 _).trans (unhide S3)
  have z4 := (unhide T2 _).trans (unhide S4)
  have z5 := (unhide T2 _).trans (unhide S5)
  have z6 := (unhide T2 _).trans (unhide S6)
  rw [unhide HM]
  go_region
  go_wp2_with fail
  refine bodyPost_ret (v := .tuple #[.agg #[.int .i64 k, .int .i64 r, .int .i64 x, .string t, .int .i64 p], .bool true]) (by simp [results, Tryz.results215, go_sem, hd0, hd1, hd2, hd3, hd4]) rfl ⟨rfl, ?_, ?_⟩
  · have h1 : Rd W0 (.slice (some ⟨tb, 0, none⟩) n cap) (j + 1) o (w1.setCell ⟨W0.heap.size, 1, none⟩ (.int .i64 m)) := by
      rw [← unhide HM]
      exact ((unhide HW).keep (unhide HBel)).next (j + 1)
    exact (((((h1.other hlt _ _).other hlt _ _).other hlt _ _).other hlt _ _).other hlt _ _).drew
  · have h1 : Kp W0 w (w1.setCell ⟨W0.heap.size, 1, none⟩ (.int .i64 m)) := (Kp.of_below (unhide HBel)).trans (Kp.setReader _ _ _ _)
    exact (((((h1.new (Nat.le_refl _) _ _).new (Nat.le_refl _) _ _).new (Nat.le_refl _) _ _).new (Nat.le_refl _) _ _).new (Nat.le_refl _) _ _).drew

set_option maxHeartbeats 600000 in
theorem ifK_no (W0 : World) (tb n cap : Nat) (q : Tok) (a : Int) (j o B : Nat) (w : World) (hw : Rd W0 (.slice (some ⟨tb, 0, none⟩) n cap) j o w) (hB : B < w.heap.size) (hBc : w.cell? ⟨B, 0, none⟩ = some (.int .i64 a)) (hBR : B ≠ W0.heap.size) (htb : tb < W0.heap.size)
    (c0 : w.cell? ⟨tb, j * 5, none⟩ = some (.int .i64 q.k)) (c1 : w.cell? ⟨tb, j * 5 + 1, none⟩ = some (.int .i64 q.r)) (c2 : w.cell? ⟨tb, j * 5 + 2, none⟩ = some (.int .i64 q.x)) (c3 : w.cell? ⟨tb, j * 5 + 3, none⟩ = some (.string q.t)) (c4 : w.cell? ⟨tb, j * 5 + 4, none⟩ = some (.int .i64 q.p)) (hj : (j : Int) < (n : Int)) (ht : (q.k == a) = false) :
    Calls Tryz.prog 215 #[.pointer (some ⟨W0.heap.size, 0, none⟩), .func (.func 271) #[] #[.pointer (some ⟨B, 0, none⟩)]] w fun e w' => e = .returned (.tuple #[zt, .bool false]) ∧ Rd W0 (.slice (some ⟨tb, 0, none⟩) n cap) j o w' ∧ Kp W0 w w' := by
  have HT := hide ht
  have HW := hide hw
  have ct := hw.tok
  have cn := hw.nxt
  have fn := hw.fr1
  have hlt := hw.lt
  have htl : tb < w.heap.size := Nat.lt_trans htb hlt
  have hne : ((j : Int) == (n : Int)) = false := beq_eq_false_iff_ne.2 (by omega)
  have hj0 : (0 : Int) ≤ (j : Int) := by omega
  have HBB := hide hB
  have HBC := hide hBc
  have HTL := hide htl
  have HLT := hide hlt
  have HTB := hide htb
  have HBR := hide hBR
  obtain ⟨k, r, x, t, p⟩ := q
  simp only at c0 c1 c2 c3 c4
  have HS : Hid (∀ w', Below w.heap.size w w' → w'.cell? ⟨W0.heap.size, 0, none⟩ = some (.slice (some ⟨tb, 0, none⟩) n cap) ∧ w'.cell? ⟨W0.heap.size, 1, none⟩ = some (.int .i64 j) ∧ w'.cell? ⟨tb, j * 5, none⟩ = some (.int .i64 k) ∧ w'.cell? ⟨tb, j * 5 + 1, none⟩ = some (.int .i64 r) ∧ w'.cell? ⟨tb, j * 5 + 2, none⟩ = some (.int .i64 x) ∧ w'.cell? ⟨tb, j * 5 + 3, none⟩ = some (.string t) ∧ w'.cell? ⟨tb, j * 5 + 4, none⟩ = some (.int .i64 p)) :=
    fun w' hb => ⟨(hb.cell (p := ⟨W0.heap.size, 0, none⟩) hlt).trans ct, (hb.cell (p := ⟨W0.heap.size, 1, none⟩) hlt).trans cn, (hb.cell (p := ⟨tb, j * 5, none⟩) htl).trans c0, (hb.cell (p := ⟨tb, j * 5 + 1, none⟩) htl).trans c1, (hb.cell (p := ⟨tb, j * 5 + 2, none⟩) htl).trans c2, (hb.cell (p := ⟨tb, j * 5 + 3, none⟩) htl).trans c3, (hb.cell (p := ⟨tb, j * 5 + 4, none⟩) htl).trans c4⟩
  clear ht hw hB hBc hBR
  go_enter Tryz.func215, Tryz.ntmps215
  go_wp2_with fail
  go_region_held3 (fun w' => w'.cell? ⟨W0.heap.size, 0, none⟩ = some (.slice (some ⟨tb, 0, none⟩) n cap) ∧ w'.cell? ⟨W0.heap.size, 1, none⟩ = some (.int .i64 j) ∧ w'.cell? ⟨tb, j * 5, none⟩ = some (.int .i64 k) ∧ w'.cell? ⟨tb, j * 5 + 1, none⟩ = some (.int .i64 r) ∧ w'.cell? ⟨tb, j * 5 + 2, none⟩ = some (.int .i64 x) ∧ w'.cell? ⟨tb, j * 5 + 3, none⟩ = some (.string t) ∧ w'.cell? ⟨tb, j * 5 + 4, none⟩ = some (.int .i64 p))
    (first | go_keep | exact unhide HS _ ((((Below.refl w.heap.size w).alloc (Nat.le_refl _) _).drew).trans ((unhide HB1).mono (by simp))))
    (first | (go_at_call 271; refine (cl_kind ⟨k, r, x, t, p⟩ a B _ ?_ ?_).mono ?_; (have := unhide HBB; simp; omega); exact ((((Below.refl w.heap.size w).alloc (Nat.le_refl _) _).drew).cell (p := ⟨B, 0, none⟩) (unhide HBB)).trans (unhide HBC); rintro e w1 ⟨he, hb1⟩; rw [unhide HT] at he; subst he; have HB1 := hide hb1; clear hb1))
  obtain ⟨hc, hf⟩ := bcell (unhide HB1)
  have hz : w.heap.size < w1.heap.size := by have := (unhide HB1).size; simp at this; omega
  have hd0 := hc w.heap.size 0 (by simp)
  have hd1 := hc w.heap.size 1 (by simp)
  have hd2 := hc w.heap.size 2 (by simp)
  have hd3 := hc w.heap.size 3 (by simp)
  have hd4 := hc w.heap.size 4 (by simp)
  have he0 := hf w.heap.size 0 (by simp)
  have he1 := hf w.heap.size 1 (by simp)
  have he2 := hf w.heap.size 2 (by simp)
  have he3 := hf w.heap.size 3 (by simp)
  have he4 := hf w.heap.size 4 (by simp)
  have HBel := hide ((((Below.refl w.heap.size w).alloc (Nat.le_refl _) (Obj.cells #[.int .i64 0, .int .i64 0, .int .i64 0, .string ⟨#[]⟩, .int .i64 0] 155)).drew).trans ((unhide HB1).mono (by simp)))
  simp at hd0 hd1 hd2 hd3 hd4 he0 he1 he2 he3 he4
  clear hc hf ct cn fn c0 c1 c2 c3 c4 hne
  go_wp2_with fail
  refine bodyPost_ret (v := .tuple #[.agg #[.int .i64 0, .int .i64 0, .int .i64 0, .string ⟨#[]⟩, .int .i64 0], .bool false]) (by simp [results, Tryz.results215, go_sem, hd0, hd1, hd2, hd3, hd4]) rfl ⟨rfl, ?_, ?_⟩
  · have h1 := (unhide HW).keep (unhide HBel)
    exact ((((h1.other hlt _ _).other hlt _ _).other hlt _ _).other hlt _ _).other hlt _ _
  · have h1 : Kp W0 w w1 := Kp.of_below (unhide HBel)
    exact ((((h1.new (Nat.le_refl _) _ _).new (Nat.le_refl _) _ _).new (Nat.le_refl _) _ _).new (Nat.le_refl _) _ _).new (Nat.le_refl _) _ _

set_option maxHeartbeats 600000 in
theorem ifK_end (W0 : World) (ao : Option Addr) (n cap : Nat) (j o B : Nat) (w : World) (hw : Rd W0 (.slice ao n cap) j o w) (hj : j = n) (hn : n ≤ 200) :
    Calls Tryz.prog 215 #[.pointer (some ⟨W0.heap.size, 0, none⟩), .func (.func 271) #[] #[.pointer (some ⟨B, 0, none⟩)]] w fun e w' => e = .returned (.tuple #[zt, .bool false]) ∧ Rd W0 (.slice ao n cap) j o w' ∧ Kp W0 w w' := by
  subst hj
  have HW := hide hw
  have ct := hw.tok
  have cn := hw.nxt
  have hlt := hw.lt
  clear hw
  go_enter Tryz.func215, Tryz.ntmps215
  go_wp2_with fail
  go_quiet (fail)
  go_wp2_with fail
  refine bodyPost_ret (v := .tuple #[.agg #[.int .i64 0, .int .i64 0, .int .i64 0, .string ⟨#[]⟩, .int .i64 0], .bool false]) (by simp [results, Tryz.results215, go_sem]) rfl ⟨rfl, ?_, ?_⟩
  · have h1 := (unhide HW).keep (below_nn ((Below.refl w.heap.size w).alloc (Nat.le_refl _) (Obj.cells #[.int .i64 0, .int .i64 0, .int .i64 0, .string ⟨#[]⟩, .int .i64 0] 155)) nq)
    exact ((((h1.other hlt _ _).other hlt _ _).other hlt _ _).other hlt _ _).other hlt _ _
  · have h1 : Kp W0 w _ := Kp.of_below (below_nn ((Below.refl w.heap.size w).alloc (Nat.le_refl _) (Obj.cells #[.int .i64 0, .int .i64 0, .int .i64 0, .string ⟨#[]⟩, .int .i64 0] 155)) nq)
    exact ((((h1.new (Nat.le_refl _) _ _).new (Nat.le_refl _) _ _).new (Nat.le_refl _) _ _).new (Nat.le_refl _) _ _).new (Nat.le_refl _) _ _
end Go.Proofs.YtjobgpahajhbnaaGreatDoor
