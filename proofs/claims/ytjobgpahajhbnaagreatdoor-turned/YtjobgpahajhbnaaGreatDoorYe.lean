import Derived.Test.YtjobgpahajhbnaaGreatDoorYc
import Derived.Test.YtjobgpahajhbnaaGreatDoorUe
import Derived.Test.YtjobgpahajhbnaaGreatDoorUa
import Derived.Test.YtjobgpahajhbnaaGreatDoorTe
namespace Go.Proofs.YtjobgpahajhbnaaGreatDoor
open Go.RowKit Go.Proofs
attribute [local go_sem ↓] Go.wp_at_zero Go.wp_at_succ

set_option maxHeartbeats 400000 in
theorem isOne_gen (D : World → Prop) (hkeep : Lasts D) (db : Nat) (s : ByteArray) (n cost : Int) (hs : Says D db s 0 0 [] [n] cost) (w : World) (hD : D w) :
    Calls Tryz.prog 17 #[.pointer (some ⟨db, 0, none⟩), .string s, .int .i64 n] w fun e w' => e = .returned (.bool true) ∧ Below w.heap.size w w' := by
  have hw0 : Below w.heap.size w (w.alloc (.cells #[.int .i64 n] 2)) := (Below.refl _ _).alloc (Nat.le_refl _) _
  have HC := hide (is_gen D hkeep db s [] [n] cost hs _ (hkeep w _ hD hw0) (Q := fun _ => True) none 0 0 (some ⟨w.heap.size, 0, none⟩) 1 1 (nums_nil _ _) (nums_one rfl trivial) (by simp) (by simp))
  have HB0 := hide hw0
  clear hs hD hkeep hw0
  go_enter Tryz.func17, Tryz.ntmps17
  go_wp2_with (go_at_call 28; refine (unhide HC).mono ?_; rintro e w1 ⟨rfl, hb1⟩; have HB1 := hide hb1; clear hb1)
  exact bodyPost_ret (v := .bool true) (by simp [results, Tryz.results17, go_sem]) rfl ⟨rfl, (unhide HB0).trans ((unhide HB1).mono (unhide HB0).size)⟩
set_option maxHeartbeats 400000 in
theorem isRow_gen (D : World → Prop) (hkeep : Lasts D) (db : Nat) (s : ByteArray) (cs : List Int) (cost : Int) (hs : Says D db s 0 0 [(cs.length : Int)] cs cost) (w : World) (hD : D w) {Q : Nat → Prop} (ko : Option Addr) (kn kc : Nat) (hcs : Nums Q w (.slice ko kn kc) cs) (hl : cs.length ≤ 200) :
    Calls Tryz.prog 19 #[.pointer (some ⟨db, 0, none⟩), .string s, .slice ko kn kc] w fun e w' => e = .returned (.bool true) ∧ Below w.heap.size w w' := by
  obtain ⟨rfl, _, _⟩ := nums_at hcs
  have hw0 : Below w.heap.size w (w.alloc (.cells #[.int .i64 cs.length] 3)) := (Below.refl _ _).alloc (Nat.le_refl _) _
  have HC := hide (is_gen D hkeep db s [(cs.length : Int)] cs cost hs _ (hkeep w _ hD hw0) (Q := fun _ => True) (some ⟨w.heap.size, 0, none⟩) 1 1 ko cs.length kc (nums_one rfl trivial) ((hcs.imp (fun _ _ _ => trivial)).below hw0) (by simp) hl)
  have HB0 := hide hw0
  clear hs hD hkeep hw0 hcs
  go_enter Tryz.func19, Tryz.ntmps19
  go_wp2_with (go_at_call 28; refine (unhide HC).mono ?_; rintro e w1 ⟨rfl, hb1⟩; have HB1 := hide hb1; clear hb1)
  exact bodyPost_ret (v := .bool true) (by simp [results, Tryz.results19, go_sem]) rfl ⟨rfl, (unhide HB0).trans ((unhide HB1).mono (unhide HB0).size)⟩
set_option maxHeartbeats 1000000 in
theorem fails_gen (D : World → Prop) (hkeep : Lasts D) (db : Nat) (s : ByteArray) (er at_ : Int) (hs : Says D db s er at_ [] [] 0) (w : World) (hD : D w) :
    Calls Tryz.prog 20 #[.pointer (some ⟨db, 0, none⟩), .string s, .int .i64 er, .int .i64 at_] w fun e w' => e = .returned (.bool true) ∧ Below w.heap.size w w' := by
  have hw0 : Below w.heap.size w (w.alloc (.cells #[.string s] 9)) := (Below.refl _ _).alloc (Nat.le_refl _) _
  have HC := hide (run_one _ db w.heap.size 1 s er at_ [] [] 0 (by simp) (by simp) (hs _ (hkeep w _ hD hw0)))
  have HB0 := hide hw0
  clear hs hD hkeep hw0
  go_enter Tryz.func20, Tryz.ntmps20
  go_wp2_with fail
  refine (unhide HC).mono ?_
  rintro e w1 ⟨rb, rc, so, sn, sc, co, cn, cc, rfl, hv⟩
  obtain rfl := nums_empty hv.sh
  obtain rfl := nums_empty hv.cs
  have q0 := hv.q0
  have q1 := hv.q1
  have q2 := hv.q2
  have q3 := hv.q3
  have q4 := hv.q4
  have h2 := hv.hi
  have HB1 := hide hv.bel
  clear hv HC
  go_wp2_with fail
  exact bodyPost_ret (v := .bool true) (by simp [results, Tryz.results20, go_sem]) rfl ⟨rfl, (unhide HB0).trans ((unhide HB1).mono (unhide HB0).size)⟩
theorem bit_any (b : Bool) (w : World) : Calls Tryz.prog 18 #[.bool b] w fun e w' => e = .returned (.int .i64 (if b = true then 1 else 0)) ∧ w' = w := by
  cases b
  · go_enter Tryz.func18, Tryz.ntmps18
    go_wp2
    exact bodyPost_ret (v := .int .i64 0) (by simp [results, Tryz.results18, go_sem]) rfl ⟨rfl, rfl⟩
  · go_enter Tryz.func18, Tryz.ntmps18
    go_wp2
    exact bodyPost_ret (v := .int .i64 1) (by simp [results, Tryz.results18, go_sem]) rfl ⟨rfl, rfl⟩
set_option maxHeartbeats 400000 in
theorem floor_any (x y : Int) (hy : y ≠ 0) (w : World) : Calls Tryz.prog 21 #[.int .i64 x, .int .i64 y] w fun e w' => e = .returned (.int .i64 (overF x y).1) ∧ w' = w := by
  obtain ⟨u, hu⟩ : ∃ u, overF x y = u := ⟨_, rfl⟩
  rw [hu]
  unfold overF at hu
  have HU := hide hu
  clear hu
  have hy' : (y == 0) = false := by simp [hy]
  go_enter Tryz.func21, Tryz.ntmps21
  go_wp2
  · rename_i h
    exact bodyPost_ret (v := .int .i64 (wrap64 (x.tdiv y))) (by simp [results, Tryz.results21, go_sem]) rfl ⟨by rw [← unhide HU, if_neg hy, if_neg (by rintro ⟨h1, h2⟩; exact h1 h)], rfl⟩
  · rename_i h
    exact bodyPost_ret (v := .int .i64 (wrap64 (wrap64 (x.tdiv y) - 1))) (by simp [results, Tryz.results21, go_sem]) rfl ⟨by rw [← unhide HU, if_neg hy, if_pos ⟨by simpa using h.1, by simpa using h.2⟩], rfl⟩
  · rename_i h
    exact bodyPost_ret (v := .int .i64 (wrap64 (x.tdiv y))) (by simp [results, Tryz.results21, go_sem]) rfl ⟨by rw [← unhide HU, if_neg hy, if_neg (by rintro ⟨h1, h2⟩; rcases h with h | h <;> simp_all)], rfl⟩
end Go.Proofs.YtjobgpahajhbnaaGreatDoor
namespace Go.Proofs.YtjobgpahajhbnaaGreatDoor
open Go.RowKit Go.Proofs

def f1C (t : ByteArray) : Arr → Arr × Int :=
  if t.data.toList.headD 0 = 43 then fun a => (a, 0) else if t.data.toList.headD 0 = 45 then fun a => (⟨a.shape, a.cells.map negatedF⟩, 0) else if t.data.toList.headD 0 = 124 then fun a => (⟨a.shape, a.cells.map magnitudeF⟩, 0) else if t.data.toList.headD 0 = 42 then fun a => (⟨a.shape, a.cells.map directionF⟩, 0) else fun a => (ravelP a, 0)
/-- an operand's tree, and what it comes to -/
def OpX (X : Ex) (n : Int) : Prop := Good f1C f2S X ∧ ∀ c : Nat, c ≤ 900 → ∃ c' : Nat, c' ≤ c + 2 ∧ evalE (fun _ => none) 1000 f1C f2S X c = .inr (⟨[], [n]⟩, c')
/-- an operand as it is written -/
def Opd (n : Int) (t : List UInt8) : Prop := t.length ≤ 40 ∧ ∀ d p, ∃ X, Ty (d + 1) true p X t ∧ OpX X n
theorem opd_num {n : Int} {t : List UInt8} (h : Nm n t) (hf : fit64 n) (hl : t.length ≤ 40) : Opd n t :=
  ⟨hl, fun d p => ⟨.num [n], Ty.lit (d + 1) p n t h, ⟨⟨by simp, by simp, by intro c hc; simp at hc; subst hc; exact hf⟩, fun c _ => ⟨c, by omega, rfl⟩⟩⟩⟩
def minT : List UInt8 := [40, 95, 57, 50, 50, 51, 51, 55, 50, 48, 51, 54, 56, 53, 52, 55, 55, 53, 56, 48, 55, 32, 45, 32, 49, 41]
theorem nm_max : Nm (-9223372036854775807) [95, 57, 50, 50, 51, 51, 55, 50, 48, 51, 54, 56, 53, 52, 55, 55, 53, 56, 48, 55] :=
  Nm.neg [57, 50, 50, 51, 51, 55, 50, 48, 51, 54, 56, 53, 52, 55, 55, 53, 56, 48, 55] (by decide) (by decide) (by decide) (by decide)
theorem nm_one : Nm 1 [49] := Nm.pos [49] (by decide) (by decide) (by decide) (by decide)
theorem nm_zero : Nm 0 [48] := Nm.pos [48] (by decide) (by decide) (by decide) (by decide)
theorem opd_zero : Opd 0 [48] := opd_num nm_zero (by unfold fit64; omega) (by decide)
theorem opd_min : Opd (-9223372036854775808) minT := by
  refine ⟨by decide, fun d p => ⟨.two ⟨#[45]⟩ (p + 1 + 20 + 1) (.num [-9223372036854775807]) (.num [1]), ?_, ?_⟩⟩
  · exact Ty.br d p _ _ (Ty.two d (p + 1) 45 _ _ [95, 57, 50, 50, 51, 51, 55, 50, 48, 51, 54, 56, 53, 52, 55, 55, 53, 56, 48, 55] [49] 1 1 (by decide) (Ty.lit _ _ _ _ nm_max) (Ty.only _ _ _ _ (Ty.lit _ _ _ _ nm_one)))
  · have hfine : (Gr.two 45 (.lit (-9223372036854775807)) (.lit 1)).fine := ⟨by decide, by simp [Gr.fine, fit64], by simp [Gr.fine, fit64], rfl⟩
    have h := fun c hc => gr_eval (env := fun _ => none) (fuel := 1000) (f1 := f1C) f2S_sg (.two 45 (.lit (-9223372036854775807)) (.lit 1)) (.two ⟨#[45]⟩ (p + 1 + 20 + 1) (.num [-9223372036854775807]) (.num [1])) c ⟨rfl, rfl, rfl⟩ hfine hc
    refine ⟨(h 0 (by decide)).1, fun c hc => ⟨c + 2, Nat.le_refl _, ?_⟩⟩
    have hv : (Gr.two 45 (.lit (-9223372036854775807)) (.lit 1)).val = -9223372036854775808 := by decide +kernel
    have := (h c (by simp only [Gr.cost]; omega)).2
    rw [hv] at this
    exact this
theorem says_ok {d : Nat} {x : Ex} {t : List UInt8} (db : Nat) (ht : t.length ≤ 200) (hd : d ≤ 8) (h : Ty d false 0 x t) (hg : Good f1C f2S x) {a : Arr} {c : Nat} (hev : evalE (fun _ => none) 1000 f1C f2S x 0 = .inr (a, c)) (hl1 : a.shape.length ≤ 200) (hl2 : a.cells.length ≤ 200) :
    Says (Desk0 db) db ⟨t.toArray⟩ 0 0 (a.shape.map Int.ofNat) a.cells c := by
  intro w hD
  obtain ⟨e1, e2, e3⟩ := ty_tree h ht hd
  exact reply_ok (fun _ => none) 1000 f1C f2S db w none ⟨t.toArray⟩ (by simp [ByteArray.size]; omega) ⟨hD.1, hD.2.2.2.2, hD.2.2.1, hD.2.2.2.1⟩ (by decide) (by decide) (fun _ _ h => by cases h) (look_none _ w) (by rw [e1]) (by rw [e1]) e2 (fun x' hx => by rw [tree_uniq hx e3]; exact hg) a c (fun x' hx => by rw [tree_uniq hx e3]; exact hev) hl1 hl2
theorem says_err {d : Nat} {x : Ex} {t : List UInt8} (db : Nat) (ht : t.length ≤ 200) (hd : d ≤ 8) (h : Ty d false 0 x t) (hg : Good f1C f2S x) {er : Int} {pl : Nat} (hev : evalE (fun _ => none) 1000 f1C f2S x 0 = .inl (er, pl)) (hne : er ≠ 0) :
    Says (Desk0 db) db ⟨t.toArray⟩ er pl [] [] 0 := by
  intro w hD
  obtain ⟨e1, e2, e3⟩ := ty_tree h ht hd
  exact reply_err (fun _ => none) 1000 f1C f2S db w none ⟨t.toArray⟩ (by simp [ByteArray.size]; omega) ⟨hD.1, hD.2.2.2.2, hD.2.2.1, hD.2.2.2.1⟩ (by decide) (by decide) (fun _ _ h => by cases h) (look_none _ w) (by rw [e1]) (by rw [e1]) (fun x' hx => by rw [tree_uniq hx e3]; exact hg) er pl (fun x' hx => by rw [tree_uniq hx e3]; exact hev) hne
theorem pay_fine {r : Arr × Int} {p c : Nat} (h : r.2 = 0) (hl : r.1.cells.length ≤ 10) (hc : c ≤ 900) : payP 1000 r p c = .inr (r.1, c + (1 + r.1.cells.length)) := by
  unfold payP
  rw [if_neg (by simp [h]), if_neg (by omega)]
theorem pay_bad {r : Arr × Int} {p c : Nat} (h : r.2 ≠ 0) : payP 1000 r p c = .inl (r.2, p) := by
  unfold payP
  rw [if_pos h]
/-- a line that makes an array -/
def Makes (t : List UInt8) (sh cs : List Int) : Prop := ∃ cost, ∀ db, Says (Desk0 db) db ⟨t.toArray⟩ 0 0 sh cs cost
theorem eval_two {X Y : Ex} {a b : Int} (hX : OpX X a) (hY : OpX Y b) (sg : UInt8) (hg : gU sg = true) (q c : Nat) (hc : c ≤ 900) (hok : (sgF sg a b).2 = 0) (hc2 : c ≤ 800) :
    ∃ c', c' ≤ c + 10 ∧ evalE (fun _ => none) 1000 f1C f2S (.two ⟨#[sg]⟩ q X Y) c = .inr (⟨[], [(sgF sg a b).1]⟩, c') := by
  obtain ⟨c1, h1, e1⟩ := hY.2 c hc
  obtain ⟨c2, h2, e2⟩ := hX.2 c1 (by omega)
  refine ⟨c2 + 2, by omega, ?_⟩
  simp only [evalE, e1, e2]
  rw [f2S_sg sg hg, pair_scalars hok, pay_fine rfl (by simp) (by omega)]
  rfl
theorem line_two {a b : Int} {ta tb : List UInt8} (ha : Opd a ta) (hb : Opd b tb) (sg : UInt8) (hg : gU sg = true) (hok : (sgF sg a b).2 = 0) : Makes (ta ++ ([32, sg, 32] ++ tb)) [] [(sgF sg a b).1] := by
  obtain ⟨X, tX, oX⟩ := ha.2 0 0
  obtain ⟨Y, tY, oY⟩ := hb.2 0 (0 + ta.length + 1 + 1 + 1)
  have hl1 := ha.1
  have hl2 := hb.1
  obtain ⟨c, _, hev⟩ := eval_two oX oY sg hg (0 + ta.length + 1) 0 (by omega) hok (by omega)
  exact ⟨c, fun db => says_ok db (by simp; omega) (by decide) (Ty.two 1 0 sg X Y ta tb 1 1 hg tX (Ty.only _ _ _ _ tY)) ⟨by rw [f2S_sg sg hg]; exact sg_two hg, oX.1, oY.1⟩ hev (by simp) (by simp)⟩
theorem line_one {a : Int} {ta : List UInt8} (ha : Opd a ta) (f : List UInt8) (hF : Fn1 f) (hfl : f.length ≤ 5) (hC : OneC ⟨f.toArray⟩ (f1C ⟨f.toArray⟩)) {v : Int} (hv : f1C ⟨f.toArray⟩ ⟨[], [a]⟩ = (⟨[], [v]⟩, 0)) : Makes (f ++ (32 :: ta)) [] [v] := by
  obtain ⟨X, tX, oX⟩ := ha.2 0 (0 + f.length + 1)
  have hl1 := ha.1
  obtain ⟨c1, h1, e1⟩ := oX.2 0 (by omega)
  have hev : evalE (fun _ => none) 1000 f1C f2S (.one ⟨f.toArray⟩ 0 X) 0 = .inr (⟨[], [v]⟩, c1 + 2) := by
    simp only [evalE, e1]
    rw [hv, pay_fine rfl (by simp) (by omega)]
    rfl
  exact ⟨_, fun db => says_ok db (by simp; omega) (by decide) (Ty.one 1 0 f X ta hF (Ty.only _ _ _ _ tX)) ⟨hC, oX.1⟩ hev (by simp) (by simp)⟩
end Go.Proofs.YtjobgpahajhbnaaGreatDoor
namespace Go.Proofs.YtjobgpahajhbnaaGreatDoor
open Go.RowKit Go.Proofs

def ravelT : List UInt8 := [114, 97, 118, 101, 108]
theorem row_left {f : Int → Int → Int × Int} {x y : Int} (h : (f x y).2 = 0) : pairP f ⟨[1], [x]⟩ ⟨[], [y]⟩ = (⟨[1], [(f x y).1]⟩, 0) := by
  simp [pairP, zipA, zipF, h]
theorem row_right {f : Int → Int → Int × Int} {x y : Int} (h : (f x y).2 = 0) : pairP f ⟨[], [x]⟩ ⟨[1], [y]⟩ = (⟨[1], [(f x y).1]⟩, 0) := by
  simp [pairP, zipA, zipF, h]
theorem pair_fault {f : Int → Int → Int × Int} {x y : Int} (h : (f x y).2 ≠ 0) : (pairP f ⟨[], [x]⟩ ⟨[], [y]⟩).2 = (f x y).2 := by
  simp [pairP, zipA, zipF, h]
theorem eval_ravel {X : Ex} {a : Int} (hX : OpX X a) (q c : Nat) (hc : c ≤ 800) : ∃ c', c' ≤ c + 4 ∧ evalE (fun _ => none) 1000 f1C f2S (.one ⟨#[114, 97, 118, 101, 108]⟩ q X) c = .inr (⟨[1], [a]⟩, c') := by
  obtain ⟨c1, h1, e1⟩ := hX.2 c (by omega)
  refine ⟨c1 + 2, by omega, ?_⟩
  simp only [evalE, e1]
  have hv : f1C ⟨#[114, 97, 118, 101, 108]⟩ ⟨[], [a]⟩ = (⟨[1], [a]⟩, 0) := rfl
  rw [hv, pay_fine rfl (by simp) (by omega)]
  rfl
theorem good_ravel {X : Ex} {a : Int} (hX : OpX X a) (q : Nat) : Good f1C f2S (.one ⟨#[114, 97, 118, 101, 108]⟩ q X) := ⟨ravel_one, hX.1⟩
theorem eval_pair {X Y : Ex} {A B : Arr} {c c1 c2 : Nat} (e1 : evalE (fun _ => none) 1000 f1C f2S Y c = .inr (B, c1)) (e2 : evalE (fun _ => none) 1000 f1C f2S X c1 = .inr (A, c2)) (t : ByteArray) (q : Nat) : evalE (fun _ => none) 1000 f1C f2S (.two t q X Y) c = payP 1000 (f2S t A B) q c2 := by
  rw [evalE, e1]
  simp only []
  rw [e2]
theorem line_rowL {a b : Int} {ta tb : List UInt8} (ha : Opd a ta) (hb : Opd b tb) : Makes ((40 :: (([114, 97, 118, 101, 108] ++ (32 :: ta)) ++ [41])) ++ ([32, 43, 32] ++ tb)) [1] [wrap64 (a + b)] := by
  obtain ⟨X, tX, oX⟩ := ha.2 0 (0 + 1 + 5 + 1)
  obtain ⟨Y, tY, oY⟩ := hb.2 1 (0 + (40 :: (([114, 97, 118, 101, 108] ++ (32 :: ta)) ++ [41])).length + 1 + 1 + 1)
  have hl1 := ha.1
  have hl2 := hb.1
  have hg : gU 43 = true := by decide
  obtain ⟨c1, h1, e1⟩ := oY.2 0 (by omega)
  obtain ⟨c2, h2, e2⟩ := eval_ravel oX (0 + 1) c1 (by omega)
  have hev : evalE (fun _ => none) 1000 f1C f2S (.two ⟨#[43]⟩ (0 + (40 :: (([114, 97, 118, 101, 108] ++ (32 :: ta)) ++ [41])).length + 1) (.one ⟨#[114, 97, 118, 101, 108]⟩ (0 + 1) X) Y) 0 = .inr (⟨[1], [wrap64 (a + b)]⟩, c2 + 2) := by
    rw [eval_pair e1 e2, f2S_sg 43 hg, row_left (f := sgF 43) rfl, pay_fine rfl (by simp) (by omega)]
    rfl
  exact ⟨_, fun db => says_ok db (by simp; omega) (by decide) (Ty.two 2 0 43 _ Y _ tb 1 1 hg (Ty.br 1 0 _ _ (Ty.one 1 (0 + 1) [114, 97, 118, 101, 108] X ta fn1_ravel (Ty.only _ _ _ _ tX))) (Ty.only _ _ _ _ tY)) ⟨by rw [f2S_sg 43 hg]; exact sg_two hg, good_ravel oX _, oY.1⟩ hev (by simp) (by simp)⟩
theorem line_rowR {a b : Int} {ta tb : List UInt8} (ha : Opd a ta) (hb : Opd b tb) : Makes (ta ++ ([32, 45, 32] ++ ([114, 97, 118, 101, 108] ++ (32 :: tb)))) [1] [wrap64 (a - b)] := by
  obtain ⟨X, tX, oX⟩ := ha.2 0 0
  obtain ⟨Y, tY, oY⟩ := hb.2 0 (0 + ta.length + 1 + 1 + 1 + 5 + 1)
  have hl1 := ha.1
  have hl2 := hb.1
  have hg : gU 45 = true := by decide
  obtain ⟨c1, h1, e1⟩ := eval_ravel oY (0 + ta.length + 1 + 1 + 1) 0 (by omega)
  obtain ⟨c2, h2, e2⟩ := oX.2 c1 (by omega)
  have hev : evalE (fun _ => none) 1000 f1C f2S (.two ⟨#[45]⟩ (0 + ta.length + 1) X (.one ⟨#[114, 97, 118, 101, 108]⟩ (0 + ta.length + 1 + 1 + 1) Y)) 0 = .inr (⟨[1], [wrap64 (a - b)]⟩, c2 + 2) := by
    rw [eval_pair e1 e2, f2S_sg 45 hg, row_right (f := sgF 45) rfl, pay_fine rfl (by simp) (by omega)]
    rfl
  exact ⟨_, fun db => says_ok db (by simp; omega) (by decide) (Ty.two 1 0 45 X _ ta _ 1 1 hg tX (Ty.one 1 (0 + ta.length + 1 + 1 + 1) [114, 97, 118, 101, 108] Y tb fn1_ravel (Ty.only _ _ _ _ tY))) ⟨by rw [f2S_sg 45 hg]; exact sg_two hg, oX.1, good_ravel oY _⟩ hev (by simp) (by simp)⟩
theorem line_fail {a : Int} {ta : List UInt8} (ha : Opd a ta) : ∀ db, Says (Desk0 db) db ⟨(ta ++ ([32, 37, 32] ++ [48])).toArray⟩ 7 ((ta.length + 1 : Nat) : Int) [] [] 0 := by
  obtain ⟨X, tX, oX⟩ := ha.2 0 0
  obtain ⟨Y, tY, oY⟩ := opd_zero.2 0 (0 + ta.length + 1 + 1 + 1)
  have hl1 := ha.1
  have hg : gU 37 = true := by decide
  obtain ⟨c1, h1, e1⟩ := oY.2 0 (by omega)
  obtain ⟨c2, h2, e2⟩ := oX.2 c1 (by omega)
  have h7 : (overF a 0).2 = 7 := by simp [overF]
  have hsg : sgF 37 = overF := rfl
  have hev : evalE (fun _ => none) 1000 f1C f2S (.two ⟨#[37]⟩ (0 + ta.length + 1) X Y) 0 = .inl (7, ta.length + 1) := by
    rw [eval_pair e1 e2]
    have hp := pair_fault (f := overF) (x := a) (y := 0) (by rw [h7]; decide)
    rw [f2S_sg 37 hg, hsg, pay_bad (by rw [hp, h7]; decide), hp, h7, Nat.zero_add]
  intro db
  exact says_err db (by simp; omega) (by decide) (Ty.two 1 0 37 X Y ta [48] 1 1 hg tX (Ty.only _ _ _ _ tY)) ⟨by rw [f2S_sg 37 hg]; exact sg_two hg, oX.1, oY.1⟩ hev (by decide)
end Go.Proofs.YtjobgpahajhbnaaGreatDoor
namespace Go.Proofs.YtjobgpahajhbnaaGreatDoor
open Go.RowKit Go.Proofs
attribute [local go_sem ↓] Go.wp_at_zero Go.wp_at_succ

set_option maxHeartbeats 400000 in
theorem lit_any (n : Int) (hn : fit64 n) (w : World) (hT : Tab w) : Calls Tryz.prog 16 #[.int .i64 n] w fun e w' => (∃ t, e = .returned (.string ⟨List.toArray t⟩) ∧ Opd n t) ∧ Below w.heap.size w w' := by
  by_cases hm : n = -9223372036854775808
  · subst hm
    clear hT hn
    go_enter Tryz.func16, Tryz.ntmps16
    go_wp2
    exact bodyPost_ret (v := .string ⟨minT.toArray⟩) (by simp [results, Tryz.results16, go_sem, minT]) rfl ⟨⟨minT, rfl, opd_min⟩, Below.refl _ _⟩
  · have hm' : (n == -9223372036854775808) = false := by simpa using hm
    have HN := hide (num_all n (by unfold fit64 at hn; omega) w hT)
    have HF := hide hn
    clear hT hn hm
    go_enter Tryz.func16, Tryz.ntmps16
    go_wp2_with (go_at_call 26; refine (unhide HN).mono ?_; rintro e w' ⟨⟨t, rfl, h1, h2⟩, hb⟩; have H1 := hide h1; have HB := hide hb; clear h1 hb)
    exact bodyPost_ret (v := .string ⟨t.toArray⟩) (by simp [results, Tryz.results16, go_sem]) rfl ⟨⟨t, rfl, opd_num (unhide H1) (unhide HF) (by omega)⟩, unhide HB⟩
theorem bit_named (b : Bool) (w : World) : Calls Tryz.prog 18 #[.bool b] w fun e w' => ∃ r : Int, r = (if b = true then 1 else 0) ∧ e = .returned (.int .i64 r) ∧ w' = w :=
  (bit_any b w).mono (fun _ _ h => ⟨_, rfl, h.1, h.2⟩)
theorem desk0_lasts (db : Nat) : Lasts (Desk0 db) := fun _ _ h hb => h.keep hb
/-- what isOne answers -/
theorem one_of {t : List UInt8} {n : Int} (h : Makes t [] [n]) (db : Nat) (w : World) (hD : Desk0 db w) : Calls Tryz.prog 17 #[.pointer (some ⟨db, 0, none⟩), .string ⟨t.toArray⟩, .int .i64 n] w fun e w' => e = .returned (.bool true) ∧ Desk0 db w' ∧ Below w.heap.size w w' := by
  obtain ⟨cost, hs⟩ := h
  exact (isOne_gen (Desk0 db) (desk0_lasts db) db _ n cost (hs db) w hD).mono (fun e w' h => ⟨h.1, hD.keep h.2, h.2⟩)
theorem row_of {t : List UInt8} {n : Int} (h : Makes t [1] [n]) (db : Nat) (w : World) (hD : Desk0 db w) : Calls Tryz.prog 19 #[.pointer (some ⟨db, 0, none⟩), .string ⟨t.toArray⟩, .slice (some ⟨w.heap.size, 0, none⟩) 1 1] (w.alloc (.cells #[.int .i64 n] 2)) fun e w' => e = .returned (.bool true) ∧ Desk0 db w' ∧ Below w.heap.size w w' := by
  obtain ⟨cost, hs⟩ := h
  have hb : Below w.heap.size w (w.alloc (.cells #[.int .i64 n] 2)) := (Below.refl _ _).alloc (Nat.le_refl _) _
  exact (isRow_gen (Desk0 db) (desk0_lasts db) db _ [n] cost (hs db) _ (hD.keep hb) (Q := fun _ => True) (some ⟨w.heap.size, 0, none⟩) 1 1 (nums_one rfl trivial) (by simp)).mono (fun e w' h => ⟨h.1, (hD.keep hb).keep h.2, hb.trans (h.2.mono hb.size)⟩)
theorem sum2 (m : Array UInt8) (b : List UInt8) : (⟨m⟩ : ByteArray) ++ ⟨b.toArray⟩ = ⟨(m.toList ++ b).toArray⟩ := by
  apply ba_ext
  simp
/-- the numbers that the law holds against them -/
theorem dir_of {a r1 r2 : Int} (h1 : r1 = if decide (0 < a) = true then 1 else 0) (h2 : r2 = if decide (a < 0) = true then 1 else 0) : wrap64 (r1 - r2) = directionF a := by
  unfold directionF wrap64
  by_cases p : 0 < a
  · have q : ¬ a < 0 := by omega
    simp [p, q] at h1 h2
    subst h1 h2
    simp [p, q]
  · by_cases q : a < 0
    · simp [p, q] at h1 h2
      subst h1 h2
      simp [q]
    · simp [p, q] at h1 h2
      subst h1 h2
      simp [p, q]
theorem mag_of {a : Int} (hf : fit64 a) : wrap64 (a * directionF a) = magnitudeF a := by
  unfold fit64 at hf
  unfold directionF magnitudeF
  by_cases q : a < 0
  · rw [if_pos q]
    have : a * -1 = -a := by omega
    rw [this]
    unfold wrap64
    omega
  · by_cases p : 0 < a
    · rw [if_neg q, if_pos p, Int.mul_one]
      unfold wrap64
      omega
    · have : a = 0 := by omega
      subst this
      decide +kernel
end Go.Proofs.YtjobgpahajhbnaaGreatDoor
