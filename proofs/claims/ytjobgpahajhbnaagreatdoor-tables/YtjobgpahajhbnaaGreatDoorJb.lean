import Derived.Test.YtjobgpahajhbnaaGreatDoorMd
import Derived.Test.YtjobgpahajhbnaaGreatDoorTr
import Derived.Maps.AppendAt
import Derived.Test.YtjobgpahajhbnaaGreatDoorKg
import Derived.Deep.RegionLaw
namespace Go.Proofs.YtjobgpahajhbnaaGreatDoor
open Go.RowKit Go.Proofs Go.Maps
attribute [local go_sem ↓] Go.wp_at_zero Go.wp_at_succ

set_option maxHeartbeats 1000000 in
set_option maxRecDepth 20000 in
theorem one_u (S : Nat → Prop) (db : Nat) (env env' : ByteArray → Option Arr) (N N' : Nat) (s : ByteArray) (sh cs : List Int) (cost : Int) (hs : SaysU db env N s env' N' sh cs cost) (w : World) (hD : DkE S db env N w) :
    Calls Tryz.prog 29 #[.pointer (some ⟨db, 0, none⟩), .string s] w fun e w' => ∃ so sn sc co cn cc, e = .returned (.tuple #[.agg #[.int .i64 0, .int .i64 0, .slice so sn sc, .slice co cn cc, .int .i64 cost], .bool true]) ∧ Nums (fun b => w.heap.size < b) w' (.slice so sn sc) sh ∧ Nums (fun b => w.heap.size < b) w' (.slice co cn cc) cs ∧ DkE S db env' N' w' ∧ KeepS S w w' := by
  obtain ⟨w0, hw0⟩ : ∃ w0, (w.alloc (.cells #[.int .i64 0, .int .i64 0, .slice none 0 0, .slice none 0 0, .int .i64 0] 47)).alloc (.cells #[.string s] 9) = w0 := ⟨_, rfl⟩
  have hb0 : Below w.heap.size w w0 := by rw [← hw0]; exact ((Below.refl _ _).alloc (Nat.le_refl _) _).alloc (by simp) _
  have hs0 : w0.heap.size = w.heap.size + 1 + 1 := by rw [← hw0]; simp
  have hM := hD.more hb0
  have hc0 : w0.cell? ⟨w.heap.size + 1, 0, none⟩ = some (.string s) := by rw [← hw0]; simp
  have hS : (fun b => S b ∨ (w.heap.size ≤ b ∧ b < w0.heap.size)) w.heap.size := Or.inr ⟨Nat.le_refl _, by omega⟩
  have hnS : ¬ S w.heap.size := fun h => by have := (hD.lt h).2.1; omega
  have h6 : 6 ≤ w.heap.size := by have := hD.low; omega
  have HC := hide (run_u (fun b => S b ∨ (w.heap.size ≤ b ∧ b < w0.heap.size)) env' N' w0 db (w.heap.size + 1) 1 s sh cs cost hc0 (by omega) (hs _ _ hM))
  have e0 : ∀ i, w0.cell? ⟨w.heap.size, i, none⟩ = (w.alloc (.cells #[.int .i64 0, .int .i64 0, .slice none 0 0, .slice none 0 0, .int .i64 0] 47)).cell? ⟨w.heap.size, i, none⟩ := fun i => by rw [← hw0, World.cell?_alloc_past _ _ _ (by simp)]
  have e9 : ∀ i, w0.frozen? ⟨w.heap.size, i, none⟩ = false := fun i => by
    rw [← hw0, World.frozen?_of_block (a := ⟨w.heap.size, i, none⟩) (RowKit.Below.heap_alloc _ _ _ (by simp))]
    exact World.frozen?_alloc_at _ _ _ _ rfl
  have HB0 := hide hb0
  have HS := hide hS
  have HE0 := hide e0
  have HE9 := hide e9
  have HLT : Hid (∀ b, S b → b < w.heap.size) := hide (fun b h => (hD.lt h).2.1)
  clear hs hD hb0 hM hc0 hS e0 e9
  go_enter Tryz.func29, Tryz.ntmps29
  go_wp2_with fail
  try rw [hw0]
  clear hw0
  refine (unhide HC).mono ?_
  rintro e w1 ⟨rb, rc, so, sn, sc, co, cn, cc, rfl, hv⟩
  have q0 := hv.q0
  have q1 := hv.q1
  have q2 := hv.q2
  have q3 := hv.q3
  have q4 := hv.q4
  have h1 := hv.lo
  have h2 := hv.hi
  have hz1 := Bs.size hv.bs
  have d : ∀ i, w1.cell? ⟨w.heap.size, i, none⟩ = (w.alloc (.cells #[.int .i64 0, .int .i64 0, .slice none 0 0, .slice none 0 0, .int .i64 0] 47)).cell? ⟨w.heap.size, i, none⟩ := fun i => (hv.bs.cell (b := w.heap.size) (o := i) (by omega) (unhide HS)).trans (unhide HE0 i)
  have d0 := (d 0).trans ((World.cell?_alloc_at _ _ _ _ rfl).trans rfl)
  have d1 := (d 1).trans ((World.cell?_alloc_at _ _ _ _ rfl).trans rfl)
  have d2 := (d 2).trans ((World.cell?_alloc_at _ _ _ _ rfl).trans rfl)
  have d3 := (d 3).trans ((World.cell?_alloc_at _ _ _ _ rfl).trans rfl)
  have d4 := (d 4).trans ((World.cell?_alloc_at _ _ _ _ rfl).trans rfl)
  have f : ∀ i, w1.frozen? ⟨w.heap.size, i, none⟩ = false := fun i => (hv.bs.frozen (b := w.heap.size) (o := i) (by omega) (unhide HS)).trans (unhide HE9 i)
  have g0 := f 0
  have g1 := f 1
  have g2 := f 2
  have g3 := f 3
  have g4 := f 4
  have n1 : rb ≠ w.heap.size := by omega
  have n2 : w.heap.size < w1.heap.size := by omega
  have hno : ¬ (fun b => w.heap.size < b) w.heap.size := by show ¬ w.heap.size < w.heap.size; omega
  have NS := hide (hv.sh.imp (Q := fun b => w.heap.size < b) (fun b h _ => by show w.heap.size < b; have h : w0.heap.size ≤ b := h; omega))
  have NC := hide (hv.cs.imp (Q := fun b => w.heap.size < b) (fun b h _ => by show w.heap.size < b; have h : w0.heap.size ≤ b := h; omega))
  have HDk := hide hv.dk
  have HKp : Hid (KeepS S w w1) := hide ((KeepS.of (S := S) (unhide HB0)).trans hv.bs (fun b hb h => Or.inl h))
  clear d f hv HC
  go_wp2_with fail
  go_region
  go_wp2_with fail
  refine bodyPost_ret (v := .tuple #[.agg #[.int .i64 0, .int .i64 0, .slice so sn sc, .slice co cn cc, .int .i64 cost], .bool true]) (by simp [results, Tryz.results29, go_sem, d0, d1, d2, d3, d4]) rfl ⟨so, sn, sc, co, cn, cc, rfl, ?_, ?_, ?_, ?_⟩
  · exact (((((((unhide NS).set hno 0 _).set hno 1 _).set hno 2 _).set hno 3 _).set hno 4 _)).below (Below.refl _ _).drew
  · exact (((((((unhide NC).set hno 0 _).set hno 1 _).set hno 2 _).set hno 3 _).set hno 4 _)).below (Below.refl _ _).drew
  · exact (((((((unhide HDk).set (unhide HS) 0 _).set (unhide HS) 1 _).set (unhide HS) 2 _).set (unhide HS) 3 _).set (unhide HS) 4 _).below (Below.refl _ _).drew).less (fun b h => Or.inl h)
  · exact KeepS.trans (S' := fun _ => True) ((((((unhide HKp).set hnS h6 0 _).set hnS h6 1 _).set hnS h6 2 _).set hnS h6 3 _).set hnS h6 4 _) (KeepS.of (Below.refl _ _).drew) (fun _ _ _ => trivial)
set_option maxHeartbeats 1000000 in
set_option maxRecDepth 20000 in
theorem is_u (S : Nat → Prop) (db : Nat) (env env' : ByteArray → Option Arr) (N N' : Nat) (s : ByteArray) (sh cs : List Int) (cost : Int) (hs : SaysU db env N s env' N' sh cs cost) (w : World) (hD : DkE S db env N w) (vo : Option Addr) (vn vc : Nat) (ko : Option Addr) (kn kc : Nat) (hsh : Nums S w (.slice vo vn vc) sh) (hcs : Nums S w (.slice ko kn kc) cs) (hl1 : sh.length ≤ 200) (hl2 : cs.length ≤ 200) :
    Calls Tryz.prog 28 #[.pointer (some ⟨db, 0, none⟩), .string s, .slice vo vn vc, .slice ko kn kc] w fun e w' => e = .returned (.bool true) ∧ DkE S db env' N' w' ∧ KeepS S w w' := by
  have HC := hide (one_u S db env env' N N' s sh cs cost hs w hD)
  have HV := hide hsh
  have HK := hide hcs
  obtain ⟨rfl, hvc, _⟩ := nums_at hsh
  obtain ⟨rfl, hkc, _⟩ := nums_at hcs
  clear hs hD hsh hcs
  go_enter Tryz.func28, Tryz.ntmps28
  go_wp2_with fail
  refine (unhide HC).mono ?_
  rintro e w1 ⟨so, sn, sc, co, cn, cc, rfl, n1, n2, hd1, hb1⟩
  obtain ⟨rfl, hsc, _⟩ := nums_at n1
  obtain ⟨rfl, hcc, _⟩ := nums_at n2
  obtain ⟨W2, hW2⟩ : ∃ W2, w1.alloc (.cells #[.int .i64 0, .int .i64 0, .slice so sh.length sc, .slice co cs.length cc, .int .i64 cost] 47) = W2 := ⟨_, rfl⟩
  have hbW : Below w1.heap.size w1 W2 := by rw [← hW2]; exact (Below.refl _ _).alloc (Nat.le_refl _) _
  have z2 : W2.cell? ⟨w1.heap.size, 2, none⟩ = some (.slice so sh.length sc) := by rw [← hW2]; exact (World.cell?_alloc_at _ _ _ _ rfl).trans rfl
  have z3 : W2.cell? ⟨w1.heap.size, 3, none⟩ = some (.slice co cs.length cc) := by rw [← hW2]; exact (World.cell?_alloc_at _ _ _ _ rfl).trans rfl
  have zs : w1.heap.size < W2.heap.size := by rw [← hW2]; simp
  have HKW : Hid (KeepS S w W2) := hide (hb1.trans (KeepS.of (S := S) hbW) (fun _ _ h => h))
  have HDW := hide (hd1.below hbW)
  have N1 := hide (n1.below hbW)
  have N2 := hide (n2.below hbW)
  have M1 := hide ((hb1.nums (unhide HV) (fun _ h => h)).below hbW)
  have M2 := hide ((hb1.nums (unhide HK) (fun _ h => h)).below hbW)
  clear n1 n2 hb1 hbW HC HV HK hd1
  go_wp2_with fail
  try rw [hW2]
  clear hW2
  go_loopw [11] (fun v wr => ∃ k : Nat, v = .int .i64 k ∧ k ≤ sh.length ∧ Below W2.heap.size W2 wr) (fun v _ => sh.length - (intOf v).toNat)
  case atStart => exact ⟨0, rfl, by omega, Below.refl _ _⟩
  case round =>
    obtain ⟨k, rfl, hk, hbe⟩ := hrel
    by_cases hkl : k < sh.length
    · obtain ⟨_, _, hA⟩ := nums_at (unhide N1)
      obtain ⟨_, _, hB⟩ := nums_at (unhide M1)
      obtain ⟨b1, o1, rfl, l1, c1⟩ := hA (by omega)
      obtain ⟨b2, o2, rfl, l2, c2⟩ := hB (by omega)
      have y1 := (hbe.cell (p := ⟨b1, o1 + k, none⟩) l1).trans (c1 k hkl)
      have y2 := (hbe.cell (p := ⟨b2, o2 + k, none⟩) l2).trans (c2 k hkl)
      have y0 := (hbe.cell (p := ⟨w1.heap.size, 2, none⟩) zs).trans z2
      obtain ⟨x, hx⟩ : ∃ x, sh[k] = x := ⟨_, rfl⟩
      rw [hx] at y1 y2
      have HBe := hide hbe
      have hk0 : (0 : Int) ≤ (k : Int) := by omega
      have hk1 : (k : Int) < (sh.length : Int) := by omega
      clear hA hB c1 c2 hbe hx
      go_wp2_with fail
      go_region
      go_wp2_with fail
      go_roundw
      case rel => exact ⟨k + 1, by go_num, by omega, (unhide HBe).drew⟩
      case measure => simp [intOf]; omega
    · have hke : k = sh.length := by omega
      subst hke
      have HBe := hide hbe
      clear hbe
      go_wp2_with fail
      go_loopw [12] (fun v wx => ∃ k : Nat, v = .int .i64 k ∧ k ≤ cs.length ∧ Below W2.heap.size W2 wx) (fun v _ => cs.length - (intOf v).toNat)
      case atStart => exact ⟨0, rfl, by omega, unhide HBe⟩
      case round =>
        obtain ⟨k, rfl, hk, hbe⟩ := hrel
        by_cases hkl : k < cs.length
        · obtain ⟨_, _, hA⟩ := nums_at (unhide N2)
          obtain ⟨_, _, hB⟩ := nums_at (unhide M2)
          obtain ⟨b1, o1, rfl, l1, c1⟩ := hA (by omega)
          obtain ⟨b2, o2, rfl, l2, c2⟩ := hB (by omega)
          have y1 := (hbe.cell (p := ⟨b1, o1 + k, none⟩) l1).trans (c1 k hkl)
          have y2 := (hbe.cell (p := ⟨b2, o2 + k, none⟩) l2).trans (c2 k hkl)
          have y0 := (hbe.cell (p := ⟨w1.heap.size, 3, none⟩) zs).trans z3
          obtain ⟨x, hx⟩ : ∃ x, cs[k] = x := ⟨_, rfl⟩
          rw [hx] at y1 y2
          have HBe2 := hide hbe
          have hk0 : (0 : Int) ≤ (k : Int) := by omega
          have hk1 : (k : Int) < (cs.length : Int) := by omega
          clear hA hB c1 c2 hbe hx
          go_wp2_with fail
          go_region
          go_wp2_with fail
          go_roundw
          case rel => exact ⟨k + 1, by go_num, by omega, (unhide HBe2).drew⟩
          case measure => simp [intOf]; omega
        · have hke : k = cs.length := by omega
          subst hke
          have HBe2 := hide hbe
          clear hbe
          go_wp2_with fail
          exact bodyPost_ret (v := .bool true) (by simp [results, Tryz.results28, go_sem]) rfl ⟨rfl, (unhide HDW).below (unhide HBe2), (unhide HKW).trans (KeepS.of (S := S) (unhide HBe2)) (fun _ _ h => h)⟩
/-- a line that makes an array and no name -/
theorem says_plain {f1 : ByteArray → Arr → Arr × Int} {f2 : ByteArray → Arr → Arr → Arr × Int} {env : ByteArray → Option Arr} {S : Nat → Prop} {db N : Nat} {x : Ex} {t : List UInt8} {d : Nat} (h : Tw d false 0 x t) (hs : t.length ≤ 200) (hd : d ≤ 8) (he : ∀ t a, env t = some a → a.ok) (hg : Good f1 f2 x) {a : Arr} {c : Nat} (hev : evalE env 1000 f1 f2 x 0 = .inr (a, c)) (hl1 : a.shape.length ≤ 200) (hl2 : a.cells.length ≤ 200) :
    Says (DkE S db env N) db ⟨t.toArray⟩ 0 0 (a.shape.map Int.ofNat) a.cells c := by
  intro w hD
  obtain ⟨e1, e2, e3⟩ := tw_tree h hs hd
  obtain ⟨X, mo, h1, h2, h3⟩ := hD
  exact reply_ok env 1000 f1 f2 db w mo ⟨t.toArray⟩ (by simp [ByteArray.size]; omega) ⟨h1.lt, h1.evs, h1.c0, h1.c1⟩ (by decide) (by decide) he (h1.look.imp (fun _ _ _ => trivial)) (by rw [e1]) (by rw [e1]) e2 (fun x' hx => by rw [tree_uniq hx e3]; exact hg) a c (fun x' hx => by rw [tree_uniq hx e3]; exact hev) hl1 hl2
end Go.Proofs.YtjobgpahajhbnaaGreatDoor
namespace Go.Proofs.YtjobgpahajhbnaaGreatDoor
open Go.RowKit Go.Proofs
attribute [local go_sem ↓] Go.wp_at_zero Go.wp_at_succ

/-- a list of numbers that no one else holds, in a block from B on -/
def OwnL (B : Nat) (w : World) (v : Value) (xs : List Int) : Prop := w.ownsRow B 2 1 v xs.length (xs.map (Value.int .i64))
/-- no block of both -/
def Aprt (u v : Value) : Prop := ∀ g, u.ownBlock = some g → v.ownBlock ≠ some g
theorem Aprt.symm {u v : Value} (h : Aprt u v) : Aprt v u := fun g h1 h2 => h g h2 h1
theorem Aprt.nil (v : Value) : Aprt (.slice none 0 0) v := fun g h => by cases h
theorem Aprt.or {u v : Value} (h : Aprt u v) : u.ownBlock = none ∨ u.ownBlock ≠ v.ownBlock := by
  cases hu : u.ownBlock with
  | none => exact Or.inl rfl
  | some g => exact Or.inr (fun e => h g hu e.symm)
theorem OwnL.below {B : Nat} {w w' : World} {v : Value} {xs : List Int} (h : OwnL B w v xs) (hb : Below w.heap.size w w') : OwnL B w' v xs := owns_below h hb
theorem OwnL.nil (B : Nat) (w : World) : OwnL B w (.slice none 0 0) [] := World.ownsRow_nil _ _ _ _
theorem OwnL.nums {B : Nat} {w : World} {v : Value} {xs : List Int} (h : OwnL B w v xs) : Nums (fun b => B ≤ b ∧ b < w.heap.size) w v xs := (nums_owns (P := fun b => B ≤ b) h (fun _ h => h)).imp (fun _ h hl => ⟨h, hl⟩)
theorem OwnL.shape {B : Nat} {w : World} {v : Value} {xs : List Int} (h : OwnL B w v xs) : ∃ vo vc, v = .slice vo xs.length vc := by
  obtain ⟨vo, vc, h1, _⟩ := own_slice h
  exact ⟨vo, vc, h1⟩
/-- v has grown into v', and nothing else has changed -/
structure Grew (B : Nat) (w : World) (v v' : Value) (w' : World) : Prop where
  bel : Below B w w'
  own : ∀ u ys, OwnL B w u ys → Aprt u v → OwnL B w' u ys
  apart : ∀ u ys, OwnL B w u ys → Aprt u v → Aprt u v'
theorem grew_of {B : Nat} {w w' : World} {v v' : Value} {o : Obj} {n : Nat} {xs : List Value} (hown : w.ownsRow B 2 1 v n xs) (hB : B ≤ w.heap.size) (hg : (w.alloc o).grownBy w' v.ownBlock) (hat : v'.ownBlock = v.ownBlock ∨ v'.ownBlock = some (w.alloc o).heap.size) : Grew B w v v' w' := by
  refine ⟨((Below.refl _ _).alloc hB o).grown hg (by simp; omega) (fun q hq => (hown.lt q hq).1), fun u ys hu ha => ((World.ownsRow.alloc hu o).kept hg ha.or), fun u ys hu ha g hgu => ?_⟩
  rcases hat with e | e
  · rw [e]; exact ha g hgu
  · rw [e]
    have := (World.ownsRow.lt hu g hgu).2
    simp
    omega
theorem app1 {B : Nat} {w : World} {v : Value} {xs : List Int} (h : OwnL B w v xs) (hx : xs.length ≤ 1000) (hB : B ≤ w.heap.size) (x : Int) :
    ∃ v' w', (Builtin.append_ #[32, 32] 32 #[v, .slice (some ⟨w.heap.size, 0, none⟩) 1 1]).run Tryz.prog (w.alloc (.cells #[.int .i64 x] 2)) = .ok v' w' ∧ OwnL B w' v' (xs ++ [x]) ∧ Grew B w v v' w' := by
  obtain ⟨i0, hi, hz0, hz1, hz2⟩ := info_parts Tryz.info2
  obtain ⟨v', w', h1, h2, h3, _, h4⟩ := run_append_own_at (P := Tryz.prog) (w.alloc (.cells #[.int .i64 x] 2)) B 32 32 2 i0 (.int .i64 0) 1 8 Tryz.underlying32 hi hz0 hz1 hz2 rfl (by decide) v _ _ (World.ownsRow.alloc h _) ⟨w.heap.size, 0, none⟩ 1 1 [.int .i64 x] rfl (by intro j u hj; match j, hj with | 0, hj => simp at hj; subst hj; exact (World.cell?_alloc_at _ _ _ _ rfl).trans rfl) (by intro u hu; simp at hu; subst hu; rfl) (by unfold maxLen; omega) (by omega) (by simp; omega)
  exact ⟨v', w', h1, by unfold OwnL; rw [List.map_append, List.length_append]; exact h2, grew_of h hB h3 h4⟩
theorem wpList_app1 {ops : Array Oper} {rest : List Oper} {o : Oper} {a : Act} {Q : Exit → Act → World → Prop} (hgd : o.guard = none) (s x : Operand) (ho : o.op = .call { callee := .builtin .append, args := #[s, x], argTypes := #[32, 32] })
    {B : Nat} {w : World} {v : Value} {xs : List Int} (h : OwnL B w v xs) (hx : xs.length ≤ 1000) (hB : B ≤ w.heap.size) (y : Int) (hs : a.eval s = v) (hv : a.eval x = .slice (some ⟨w.heap.size, 0, none⟩) 1 1)
    (hk : ∀ v' w', OwnL B w' v' (xs ++ [y]) → Grew B w v v' w' → wpList Tryz.prog ops Q rest (a.put o.dst v') w') : wpList Tryz.prog ops Q (o :: rest) a (w.alloc (.cells #[.int .i64 y] 2)) := by
  obtain ⟨i0, hi, hz0, hz1, hz2⟩ := info_parts Tryz.info2
  refine wpList_append_own_at _ hgd s x 32 ho B 2 i0 (.int .i64 0) 1 8 Tryz.underlying32 hi hz0 hz1 hz2 rfl (by decide) v _ _ hs (World.ownsRow.alloc h _) ⟨w.heap.size, 0, none⟩ 1 1 [.int .i64 y] hv rfl (by intro j u hj; match j, hj with | 0, hj => simp at hj; subst hj; exact (World.cell?_alloc_at _ _ _ _ rfl).trans rfl) (by intro u hu; simp at hu; subst hu; rfl) (by unfold maxLen; omega) (by omega) (by simp; omega) ?_
  intro v' w' h2 h3 _ h4
  exact hk v' w' (by unfold OwnL; rw [List.map_append, List.length_append]; exact h2) (grew_of h hB h3 h4)
/-- numbers as small makes them -/
def Few (l : List Int) : Prop := ∀ x ∈ l, -60 ≤ x ∧ x ≤ 60
set_option maxHeartbeats 1000000 in
set_option maxRecDepth 20000 in
theorem small_any (ao : Option Addr) (n cap : Nat) (xs : List Int) (M : Nat) (hM : M ≤ 100) (w : World) (hr : RawIn w ao xs) (hn : xs.length = n) (hlt : 0 < n → ∀ b off, ao = some ⟨b, off, none⟩ → b < w.heap.size) :
    Calls Tryz.prog 22 #[.slice ao n cap, .int .i64 M] w fun e w' => ∃ v, e = .returned v ∧ ∃ l, OwnL w.heap.size w' v l ∧ l.length ≤ M ∧ Few l ∧ Below w.heap.size w w' := by
  have HR := hide hr
  have HN := hide hn
  have HLT := hide hlt
  clear hr hn hlt
  go_enter Tryz.func22, Tryz.ntmps22
  go_wp2_with fail
  go_loopw [5, 6] (fun v5 v6 wr => ∃ (k : Nat) (l : List Int), v6 = .int .i64 k ∧ k ≤ n ∧ k ≤ M ∧ l.length = k ∧ Few l ∧ OwnL w.heap.size wr v5 l ∧ Below w.heap.size w wr) (fun _ v6 _ => M - (intOf v6).toNat)
  case atStart => exact ⟨0, [], rfl, by omega, by omega, rfl, (fun x h => by cases h), OwnL.nil _ _, Below.refl _ _⟩
  case round =>
    obtain ⟨k, l, rfl, hk, hkM, hlen, hfew, hown, hbel⟩ := hrel
    have HLen := hide hlen
    have HFew := hide hfew
    have HOw := hide hown
    have HBe := hide hbel
    by_cases hkn : k < n
    · by_cases hkm : k < M
      · have hkx : k < xs.length := by rw [unhide HN]; exact hkn
        obtain ⟨b, off, rfl, hc⟩ := (unhide HR).2 (by omega)
        have hb := unhide HLT (by omega) b off rfl
        have hf := (unhide HR).1 _ (List.getElem_mem hkx)
        have c0 := (hbel.cell (p := ⟨b, off + k, none⟩) hb).trans (hc k hkx)
        obtain ⟨x, hx⟩ : ∃ x, xs[k] = x := ⟨_, rfl⟩
        rw [hx] at c0 hf
        have HP := hide (fun w' => pick_any x 121 hf (by decide) w')
        have hk0 : (0 : Int) ≤ (k : Int) := by omega
        have hk1 : (k : Int) < (n : Int) := by omega
        have hk2 : (k : Int) < (M : Int) := by omega
        clear hlen hfew hown hbel hc hx hf
        go_wp2_with fail
        refine (unhide HP _).mono ?_
        rintro e w' ⟨⟨r, rfl, hr0, hr1⟩, rfl⟩
        have hw : wrap64 (r - 60) = r - 60 := by
          unfold wrap64
          omega
        have HR0 := hide hr0
        have HR1 := hide hr1
        clear hr0 hr1
        go_wp2_with (at_builtin; refine wpList_app1 rfl _ _ rfl (unhide HOw) (by have := unhide HLen; omega) (unhide HBe).size (r - 60) rfl rfl ?_)
        intro v' w4 ho4 hg4
        have HO4 := hide ho4
        have HG4 := hide hg4
        clear ho4 hg4
        go_wp2_with fail
        go_roundw
        case rel => exact ⟨k + 1, l ++ [r - 60], by go_num, by omega, by omega, by simp [unhide HLen], (by
          intro y hy
          rcases List.mem_append.1 hy with h | h
          · exact unhide HFew y h
          · simp at h; subst h; have := unhide HR0; have := unhide HR1; omega), unhide HO4, (unhide HBe).trans (unhide HG4).bel⟩
        case measure => simp [intOf]; omega
      · have hk1 : (k : Int) < (n : Int) := by omega
        have hk2 : ¬ (k : Int) < (M : Int) := by omega
        clear hlen hfew hown hbel
        go_wp2_with fail
        obtain ⟨vo, vc, rfl⟩ := (unhide HOw).shape
        exact bodyPost_ret (v := .slice vo l.length vc) (by simp [results, Tryz.results22, go_sem]) rfl ⟨_, rfl, l, unhide HOw, by rw [unhide HLen]; exact hkM, unhide HFew, unhide HBe⟩
    · have hk1 : ¬ (k : Int) < (n : Int) := by omega
      clear hlen hfew hown hbel
      go_wp2_with fail
      obtain ⟨vo, vc, rfl⟩ := (unhide HOw).shape
      exact bodyPost_ret (v := .slice vo l.length vc) (by simp [results, Tryz.results22, go_sem]) rfl ⟨_, rfl, l, unhide HOw, by rw [unhide HLen]; exact hkM, unhide HFew, unhide HBe⟩
end Go.Proofs.YtjobgpahajhbnaaGreatDoor
namespace Go.Proofs.YtjobgpahajhbnaaGreatDoor
open Go.RowKit Go.Proofs
attribute [local go_sem ↓] Go.wp_at_zero Go.wp_at_succ

theorem Tryz.info89 : (Tryz.prog.info? 89).map (fun i => (i.zero, i.size, i.bytes)) = some (some (.agg #[.slice none 0 0, .slice none 0 0]), 2, 48) := by kernel_rfl
theorem made_two (z : Value) (n : Nat) : (madeCells #[z, z] n).toList = List.replicate n z := by
  apply List.ext_getElem?
  intro j
  by_cases hj : j < n
  · have h2 : j % 2 < 2 := Nat.mod_lt _ (by decide)
    simp [madeCells, hj]
    have : j % 2 = 0 ∨ j % 2 = 1 := by omega
    rcases this with e | e <;> simp [e]
  · simp [madeCells, hj]
theorem step_app1 {ops : Array Oper} {o : Oper} {a : Act} {w : World} {K : Act → World → Prop} {Q : Exit → Act → World → Prop} {E : Prop} (hg : o.guard = none) (s x : Operand) (hop : o.op = Op.call { callee := Callee.builtin Builtin.append, args := #[s, x], argTypes := #[32, 32] }) (hty : o.type = 32)
    {B : Nat} {v : Value} {xs : List Int} (h : OwnL B w v xs) (hx : xs.length ≤ 1000) (hB : B ≤ w.heap.size) (y : Int) (hs : a.eval s = v) (hv : a.eval x = .slice (some ⟨w.heap.size, 0, none⟩) 1 1)
    (hK : ∀ v' w', OwnL B w' v' (xs ++ [y]) → Grew B w v v' w' → K (a.put o.dst v') w') : if Region.wanted o (yielded ops a.tmps) = true then Oper.wp Tryz.prog o a (w.alloc (.cells #[.int .i64 y] 2)) K Q else E := by
  have hw : Region.wanted o (yielded ops a.tmps) = true := by simp [Region.wanted, hg]
  rw [if_pos hw]
  obtain ⟨v', w', hrun, h1, h2⟩ := app1 h hx hB y
  unfold Oper.wp
  simp [execOp, hop, hty, resolve, invoke, builtin, hs, hv, hrun, Result.andThen]
  exact hK v' w' h1 h2
/-- all is kept but cell c of block g, and what lies from B on -/
structure Into (g c : Nat) (w w' : World) : Prop where
  bs : Bs (fun b => b = g) w w'
  cell : ∀ j, j ≠ c → w'.cell? ⟨g, j, none⟩ = w.cell? ⟨g, j, none⟩
  fr : ∀ j, w'.frozen? ⟨g, j, none⟩ = w.frozen? ⟨g, j, none⟩
theorem Into.refl (g c : Nat) (w : World) : Into g c w w := ⟨Bs.of (Below.refl _ _), fun _ _ => rfl, fun _ => rfl⟩
theorem Into.below {g c n : Nat} {w w1 w2 : World} (h : Into g c w w1) (hg : g < n) (hn : w.heap.size ≤ n) (hb : Below n w1 w2) : Into g c w w2 :=
  ⟨⟨hb.os.trans h.bs.os, hb.tape.trans h.bs.tape, hb.output.trans h.bs.output, Nat.le_trans h.bs.size hb.size, fun k hk hne => (hb.block k (by omega)).trans (h.bs.block k hk hne)⟩, fun j hj => (hb.cell (p := ⟨g, j, none⟩) hg).trans (h.cell j hj), fun j => (hb.frozen (p := ⟨g, j, none⟩) hg).trans (h.fr j)⟩
theorem Into.set {g c : Nat} {w w1 : World} (h : Into g c w w1) (v : Value) : Into g c w (w1.setCell ⟨g, c, none⟩ v) :=
  ⟨⟨h.bs.os, h.bs.tape, h.bs.output, by simpa using h.bs.size, fun k hk hne => (RowKit.Below.heap_setCell _ _ _ _ (by intro e; exact hne e)).trans (h.bs.block k hk hne)⟩, fun j hj => (World.cell?_setCell_other _ _ _ _ (by intro e; injection e with _ e2; exact hj e2.symm)).trans (h.cell j hj), fun j => (World.frozen?_setCell ..).trans (h.fr j)⟩
end Go.Proofs.YtjobgpahajhbnaaGreatDoor
