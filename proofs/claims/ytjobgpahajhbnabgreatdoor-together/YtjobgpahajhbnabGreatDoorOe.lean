import Derived.Test.YtjobgpahajhbnabGreatDoorOd
import Derived.Test.YtjobgpahajhbnabGreatDoorXq
import Derived.Test.YtjobgpahajhbnabGreatDoorTd
import Derived.Deep.Slices
namespace Go.Proofs.YtjobgpahajhbnabGreatDoor
open Go.RowKit Go.Proofs Go.Maps
attribute [local go_sem ↓] Go.wp_at_zero Go.wp_at_succ
def Mine (X : Nat → Prop) (db : Nat) (mo : Option Nat) (b : Nat) : Prop := 6 ≤ b ∧ (X b ∨ b = db ∨ mo = some b)
theorem IsArr.stay {P : Nat → Prop} {w w' : World} {v : Value} {a : Arr} (h : IsArr P w v a) (hs : w.heap.size ≤ w'.heap.size) (hb : ∀ b, P b → b < w.heap.size → w'.heap[b]? = w.heap[b]?) : IsArr P w' v a := by
  obtain ⟨so, sn, sc, co, cn, cc, rfl, h1, h2⟩ := h
  exact ⟨so, sn, sc, co, cn, cc, rfl, h1.keep hs hb, h2.keep hs hb⟩
theorem DskN.stay {X : Nat → Prop} {db : Nat} {F : Int} {env : ByteArray → Option Arr} {N : Nat} {mo : Option Nat} {w w' : World} (h : DskN X db F env N mo w) (hs : w.heap.size ≤ w'.heap.size) (hE : Evs w') (hk : ∀ b, b < w.heap.size → (X b ∨ b = db ∨ mo = some b) → w'.heap[b]? = w.heap[b]?) : DskN X db F env N mo w' := by
  have hd := hk db h.lt (Or.inr (Or.inl rfl))
  refine ⟨Nat.lt_of_lt_of_le h.lt hs, h.low, hE, (World.cell?_of_block hd).trans h.c0, (World.cell?_of_block hd).trans h.c1, (World.frozen?_of_block (a := ⟨db, 1, none⟩) hd).trans h.fr, h.out, ?_⟩
  have hml := h.moLt
  have hm := h.map
  cases mo with
  | none => exact hm
  | some mb =>
    obtain ⟨a1, a2, a3, D, ⟨es, clock, g1, g2⟩, hH⟩ := hm
    exact ⟨a1, a2, a3, D, ⟨es, clock, (hk mb (hml mb rfl) (Or.inr (Or.inr rfl))).trans g1, g2⟩, hH.later (fun u b ha => ha.stay hs (fun b hb hl => hk b hl (Or.inl hb)))⟩
theorem DskN.up {X : Nat → Prop} {db : Nat} {F : Int} {env : ByteArray → Option Arr} {N N' : Nat} {mo : Option Nat} {w : World} (h : DskN X db F env N mo w) (hN : N ≤ N') : DskN X db F env N' mo w := by
  refine ⟨h.lt, h.low, h.evs, h.c0, h.c1, h.fr, h.out, ?_⟩
  have hm := h.map
  cases mo with
  | none => exact hm
  | some mb =>
    obtain ⟨a1, a2, a3, D, ⟨es, clock, g1, g2, g3, g4⟩, hH⟩ := hm
    exact ⟨a1, a2, a3, D, ⟨es, clock, g1, g2, Nat.le_trans g3 hN, g4⟩, hH⟩
section
variable {F : Int} {S : Nat → Prop} {d e : Nat} {env env2 : ByteArray → Option Arr} {N N2 : Nat} {w : World}
theorem DkF.up {N' : Nat} (h : DkF F S d env N w) (hN : N ≤ N') : DkF F S d env N' w := by
  obtain ⟨X, mo, h1, h2, h3⟩ := h
  exact ⟨X, mo, h1.up hN, h2, h3⟩
def Duo (F : Int) (S : Nat → Prop) (d : Nat) (env : ByteArray → Option Arr) (N : Nat) (e : Nat) (env2 : ByteArray → Option Arr) (N2 : Nat) (w : World) : Prop :=
  ∃ X mo Y no, DkSF F (fun b => S b ∨ Mine Y e no b) X d env N mo w ∧ DkSF F (fun b => S b ∨ Mine X d mo b) Y e env2 N2 no w
theorem Duo.symm (h : Duo F S d env N e env2 N2 w) : Duo F S e env2 N2 d env N w := by
  obtain ⟨X, mo, Y, no, h1, h2⟩ := h
  exact ⟨Y, no, X, mo, h2, h1⟩
theorem Duo.left (h : Duo F S d env N e env2 N2 w) : ∃ T : Nat → Prop, DkF F T d env N w ∧ (∀ b, S b → T b) ∧ ∀ env' N' w' T', (∀ b, T b → T' b) → DkF F T' d env' N' w' → KeepS T w w' → Duo F (fun b => S b ∨ (T' b ∧ w.heap.size ≤ b)) d env' N' e env2 N2 w' := by
  obtain ⟨X, mo, Y, no, h1, h2⟩ := h
  refine ⟨fun b => S b ∨ Mine Y e no b, ⟨X, mo, h1⟩, fun b hb => Or.inl hb, ?_⟩
  intro env' N' w' T' hT hd hk
  obtain ⟨X', mo', k1, k2, k3⟩ := hd
  have hsz := Bs.size hk
  refine ⟨X', mo', Y, no, ⟨k1, k2, fun b hb => k3 b ?_⟩, h2.dsk.stay hsz k1.evs (fun b hb hm => ?_), fun b hb => Nat.lt_of_lt_of_le (h2.xlt b hb) hsz, ?_⟩
  · rcases hb with (hb | hb) | hb
    · exact hT b (Or.inl hb)
    · exact hb.1
    · exact hT b (Or.inr hb)
  · by_cases h6 : 6 ≤ b
    · exact hk.block hb (Or.inr ⟨h6, hm⟩)
    · exact Bs.block hk b hb (fun hn => h6 hn.2)
  · rintro b ((hb | ⟨hb, hw⟩) | ⟨h6, hb⟩)
    · obtain ⟨a1, a2, a3, a4, a5⟩ := h2.s b (Or.inl hb)
      exact ⟨a1, by omega, a3, a4, a5⟩
    · obtain ⟨a1, a2, _⟩ := k3 b hb
      exact ⟨a1, a2, fun hy => by have := h2.xlt b hy; omega, by have := h2.dsk.lt; omega, fun e => by have := h2.dsk.moLt b e; omega⟩
    · have hlt : b < w'.heap.size := by
        rcases hb with hb | rfl | hb
        · exact k2 b hb
        · exact k1.lt
        · exact k1.moLt b hb
      have no1 : ¬ (Y b ∨ b = e ∨ no = some b) := fun hm => by
        obtain ⟨_, _, a3, a4, a5⟩ := k3 b (hT b (Or.inr ⟨h6, hm⟩))
        rcases hb with hb | hb | hb
        · exact a3 hb
        · exact a4 hb
        · exact a5 hb
      exact ⟨h6, hlt, fun h => no1 (Or.inl h), fun h => no1 (Or.inr (Or.inl h)), fun h => no1 (Or.inr (Or.inr h))⟩
theorem Duo.less {S' : Nat → Prop} (h : Duo F S d env N e env2 N2 w) (hs : ∀ b, S' b → S b) : Duo F S' d env N e env2 N2 w := by
  obtain ⟨X, mo, Y, no, h1, h2⟩ := h
  exact ⟨X, mo, Y, no, ⟨h1.dsk, h1.xlt, fun b hb => h1.s b (hb.imp (hs b) id)⟩, ⟨h2.dsk, h2.xlt, fun b hb => h2.s b (hb.imp (hs b) id)⟩⟩
theorem DkSF.lower {T X : Nat → Prop} {mo : Option Nat} (h : DkSF F T X d env N mo w) {T' : Nat → Prop} (hs : ∀ b, T' b → T b) : DkSF F T' X d env N mo w := ⟨h.dsk, h.xlt, fun b hb => h.s b (hs b hb)⟩
theorem DkSF.more {T X : Nat → Prop} {mo : Option Nat} {w' : World} (h : DkSF F T X d env N mo w) (hb : Below w.heap.size w w') : DkSF F (fun b => T b ∨ (w.heap.size ≤ b ∧ b < w'.heap.size)) X d env N mo w' := by
  have hs := hb.size
  refine ⟨h.dsk.below hb, fun b hx => Nat.lt_of_lt_of_le (h.xlt b hx) hs, fun b hx => ?_⟩
  rcases hx with hx | ⟨k1, k2⟩
  · obtain ⟨a1, a2, a3⟩ := h.s b hx
    exact ⟨a1, by omega, a3⟩
  · have l1 := h.dsk.low
    have l2 := h.dsk.lt
    exact ⟨by omega, k2, fun hx => by have := h.xlt b hx; omega, by omega, fun e => by have := h.dsk.moLt b e; omega⟩
theorem Duo.more {w' : World} (h : Duo F S d env N e env2 N2 w) (hb : Below w.heap.size w w') : Duo F (fun b => S b ∨ (w.heap.size ≤ b ∧ b < w'.heap.size)) d env N e env2 N2 w' := by
  obtain ⟨X, mo, Y, no, h1, h2⟩ := h
  refine ⟨X, mo, Y, no, (h1.more hb).lower ?_, (h2.more hb).lower ?_⟩
  · rintro b ((h | h) | h)
    · exact Or.inl (Or.inl h)
    · exact Or.inr h
    · exact Or.inl (Or.inr h)
  · rintro b ((h | h) | h)
    · exact Or.inl (Or.inl h)
    · exact Or.inr h
    · exact Or.inl (Or.inr h)
theorem Duo.below {w' : World} (h : Duo F S d env N e env2 N2 w) (hb : Below w.heap.size w w') : Duo F S d env N e env2 N2 w' := (h.more hb).less (fun _ h => Or.inl h)
end
theorem Jm0 {F : Int} {w : World} (hE : Evs w) : Duo F (fun b => 6 ≤ b ∧ b < w.heap.size) w.heap.size env0 0 (w.heap.size + 1) env0 0 ((w.alloc (.cells #[.int .i64 F, .map none] 59)).alloc (.cells #[.int .i64 F, .map none] 59)) := by
  have h6 : 6 ≤ w.heap.size := hE.1
  have hE1 : Evs (w.alloc (.cells #[.int .i64 F, .map none] 59)) := hE.alloc _
  have hb : Below (w.heap.size + 1) (w.alloc (.cells #[.int .i64 F, .map none] 59)) ((w.alloc (.cells #[.int .i64 F, .map none] 59)).alloc (.cells #[.int .i64 F, .map none] 59)) := by
    have := (Below.refl (w.alloc (.cells #[.int .i64 F, .map none] 59)).heap.size (w.alloc (.cells #[.int .i64 F, .map none] 59))).alloc (Nat.le_refl _) (.cells #[.int .i64 F, .map none] 59)
    simpa using this
  have d1 : DskN (fun _ => False) w.heap.size F env0 0 none (w.alloc (.cells #[.int .i64 F, .map none] 59)) := ⟨by simp, h6, hE1, by simp, by simp, World.frozen?_alloc_at _ _ _ _ rfl, fun h => h, rfl⟩
  have d2 : DskN (fun _ => False) (w.heap.size + 1) F env0 0 none ((w.alloc (.cells #[.int .i64 F, .map none] 59)).alloc (.cells #[.int .i64 F, .map none] 59)) := ⟨by simp, by omega, hE1.alloc _, by simp, by simp, World.frozen?_alloc_at _ _ _ _ (by simp), fun h => h, rfl⟩
  refine ⟨fun _ => False, none, fun _ => False, none, ⟨d1.below (by simpa using hb), fun b h => absurd h id, ?_⟩, ⟨d2, fun b h => absurd h id, ?_⟩⟩
  · rintro b (h | ⟨h1, h | h | h⟩)
    · exact ⟨h.1, by simp; omega, fun h => h, by omega, fun h => by cases h⟩
    · exact absurd h id
    · exact ⟨h1, by simp; omega, fun h => h, by omega, fun h => by cases h⟩
    · cases h
  · rintro b (h | ⟨h1, h | h | h⟩)
    · exact ⟨h.1, by simp; omega, fun h => h, by omega, fun h => by cases h⟩
    · exact absurd h id
    · exact ⟨h1, by simp; omega, fun h => h, by omega, fun h => by cases h⟩
    · cases h
end Go.Proofs.YtjobgpahajhbnabGreatDoor
namespace Go.Proofs.YtjobgpahajhbnabGreatDoor
open Go.RowKit Go.Proofs Go.Maps
attribute [local go_sem ↓] Go.wp_at_zero Go.wp_at_succ
structure Rp where
  er : Int
  at_ : Int
  sh : List Int
  cs : List Int
  cost : Int
noncomputable def ansR (env : ByteArray → Option Arr) (F : Int) (s : ByteArray) : Rp := match ans env F s with
  | .inl e => ⟨e.1, e.2, [], [], 0⟩
  | .inr x => ⟨0, 0, x.1.shape.map Int.ofNat, x.1.cells, x.2⟩
def RepO (F : Int) (S : Nat → Prop) (db : Nat) (env : ByteArray → Option Arr) (N : Nat) (w : World) (r : Rp) (e : Ending) (w' : World) : Prop :=
  ∃ m so sn sc co cn cc, w.heap.size ≤ m ∧ e = .returned (.agg #[.int .i64 r.er, .int .i64 r.at_, .slice so sn sc, .slice co cn cc, .int .i64 r.cost]) ∧ NumsW (fun b => m ≤ b) w' (.slice so sn sc) r.sh ∧ NumsW (fun b => m ≤ b) w' (.slice co cn cc) r.cs ∧ DkF F (fun b => S b ∨ (m ≤ b ∧ b < w'.heap.size)) db env N w' ∧ KeepS S w w'
theorem Gy {P : Nat → Prop} {w : World} {so : Option Addr} {sn sc : Nat} (h : Nums P w (.slice so sn sc) []) : NumsW P w (.slice so sn sc) [] := ⟨h, fun b off n c e hn => by
  have := Jf h
  injection e with _ e2 _
  simp at this
  omega⟩
section
variable {F : Int} {S : Nat → Prop} {env : ByteArray → Option Arr} {s : ByteArray} {db N : Nat}
theorem Jga (h0 : 0 ≤ F) (hF : F ≤ 1000) (he : EnvOk env) (hN : N < 1000) (hm : s.size ≤ 9223372036854775807) (w : World) (hD : DkF F S db env N w) :
    Calls Tryz.prog 20 #[.pointer (some ⟨db, 0, none⟩), .string s] w (RepO F S db (envA env F s) (N + 1) w (ansR env F s)) := by
  cases h : ans env F s with
  | inl e =>
    obtain ⟨er, at_⟩ := e
    have ea : envA env F s = env := by unfold envA; rw [h]
    have er' : ansR env F s = ⟨er, at_, [], [], 0⟩ := by unfold ansR; rw [h]
    rw [ea, er']
    refine ((Jj7 (S := S) (db := db) (N := N) h0 hF he hm h).2 w hD).mono ?_
    rintro e w' ⟨so, sn, sc, co, cn, cc, rfl, n1, n2, hb⟩
    exact ⟨w.heap.size, so, sn, sc, co, cn, cc, Nat.le_refl _, rfl, Gy n1, Gy n2, (hD.more hb).up (Nat.le_succ _), KeepS.of hb⟩
  | inr x =>
    obtain ⟨a, c⟩ := x
    have er' : ansR env F s = ⟨0, 0, a.shape.map Int.ofNat, a.cells, c⟩ := by unfold ansR; rw [h]
    rw [er']
    obtain ⟨hp, hv⟩ := Ga h
    obtain ⟨hp2, hs⟩ := Zl hp
    have hok : a.ok := (G9 h0 he h).1
    have hl1 : a.shape.length ≤ 200 := by have := hok.rank; omega
    have hl2 : a.cells.length ≤ 200 := hok.few
    have hg : ∀ x, Ye s x → Good f1A f2A x := fun x hx => by rw [Zv hx]; exact K4 hs
    have hev : ∀ x, Ye s x → Jt env F f1A f2A x 0 = .inr (a, c) := fun x hx => by rw [Zv hx]; exact hv
    have ea : envA env F s = if (Yl s).size = 0 then env else upd env (Yl s) a := by unfold envA; rw [h]
    rw [ea]
    by_cases hn : (Yl s).size = 0
    · rw [if_pos hn]
      have hn' : Yl s = ⟨#[]⟩ := ByteArray.size_eq_zero_iff.1 hn
      have hD' := hD
      obtain ⟨X, mo, h1, h2, h3⟩ := hD
      refine (Np env F f1A f2A db w mo s (by omega) ⟨h1.lt, h1.evs, h1.c0, h1.c1⟩ h0 hF he (h1.look.imp (fun _ _ _ => trivial)) hp hp2 hn' hg a c hev hl1 hl2).mono ?_
      rintro e w' ⟨so, sn, sc, co, cn, cc, rfl, n1, n2, hb⟩
      exact ⟨w.heap.size, so, sn, sc, co, cn, cc, Nat.le_refl _, rfl, n1, n2, (hD'.more hb).up (Nat.le_succ _), KeepS.of hb⟩
    · rw [if_neg hn]
      obtain ⟨X, mo, h1, h2, h3⟩ := hD
      have hnl : (Yl s).size ≤ 200 := by
        unfold Yl
        rw [if_pos hp]
        unfold Kt
        cases hb : (kB (kr (toks s (lexR s).1)) 0 1 && kB (kr (toks s (lexR s).1)) 1 2)
        · exact Nat.zero_le _
        · rw [cond_true]
          by_cases hi : 0 < (toks s (lexR s).1).length
          · rw [Yo hi]
            exact (Je7 hs _ (List.getElem_mem hi)).2.1
          · have : J5 (toks s (lexR s).1) 0 = ⟨0, 0, 0, ⟨#[]⟩, 0⟩ := by
              rw [List.eq_nil_of_length_eq_zero (Nat.eq_zero_of_not_pos hi)]
              rfl
            rw [this]
            exact Nat.zero_le _
      refine (Nq X env F f1A f2A db w mo N hN s (by omega) h1 h2 h0 hF he hp hp2 (Yl s) rfl (by omega) hnl hg a c hev hl1 hl2).mono ?_
      rintro e w' ⟨m, so, sn, sc, co, cn, cc, hwm, rfl, n1, n2, ⟨mo', hd', hml, hm'⟩, hb⟩
      have hsz := hb.size
      have hlow := h1.low
      have hdlt := h1.lt
      refine ⟨m, so, sn, sc, co, cn, cc, hwm, rfl, n1, n2, ⟨fun b => (X b ∨ (w.heap.size ≤ b ∧ b < m ∧ mo' ≠ some b)) ∧ b < w'.heap.size, mo', hd'.imp (fun b hb hl => ⟨hb, hl⟩) (fun hx => hd'.out hx.1) (fun mb e hx => ?_), fun b hb => hb.2, fun b hb => ?_⟩, ?_⟩
      · subst e
        exact hd'.map.2.2.1 hx.1
      · rcases hb with hb | hb
        · obtain ⟨a1, a2, a3, a4, a5⟩ := h3 b hb
          exact ⟨a1, by omega, fun hx => by rcases hx.1 with hx | hx; exact a3 hx; omega, a4, fun e => a5 (hm' b a2 e)⟩
        · exact ⟨by omega, hb.2, fun hx => by rcases hx.1 with hx | hx; have := h2 b hx; omega; omega, by omega, fun e => by have := hml b e; omega⟩
      · refine ⟨hb.os, hb.tape, hb.output, hb.size, fun k hk hn => hb.block k hk ?_⟩
        rintro (rfl | e)
        · exact hn ⟨fun hs => (h3 _ hs).2.2.2.1 rfl, h1.low⟩
        · subst e
          exact hn ⟨fun hs => (h3 _ hs).2.2.2.2 rfl, h1.map.2.1⟩
end
noncomputable def Yv (F : Int) : (ByteArray → Option Arr) → List ByteArray → (ByteArray → Option Arr)
  | env, [] => env
  | env, s :: r => Yv F (envA env F s) r
noncomputable def Ze (F : Int) : (ByteArray → Option Arr) → List ByteArray → List Rp
  | _, [] => []
  | env, s :: r => ansR env F s :: Ze F (envA env F s) r
theorem Vo (F : Int) : ∀ (l : List ByteArray) (env : ByteArray → Option Arr) (s : ByteArray), Yv F env (l ++ [s]) = envA (Yv F env l) F s
  | [], _, _ => rfl
  | _ :: r, _, s => Vo F r _ s
theorem Fa (F : Int) : ∀ (l : List ByteArray) (env : ByteArray → Option Arr) (s : ByteArray), Ze F env (l ++ [s]) = Ze F env l ++ [ansR (Yv F env l) F s]
  | [], _, _ => rfl
  | x :: r, env, s => by
    show ansR env F x :: Ze F (envA env F x) (r ++ [s]) = _
    rw [Fa F r]
    rfl
theorem Jap (F : Int) : ∀ (l k : List ByteArray) (env : ByteArray → Option Arr), Yv F env (l ++ k) = Yv F (Yv F env l) k
  | [], _, _ => rfl
  | _ :: r, k, _ => Jap F r k _
theorem Jaz (F : Int) : ∀ (l k : List ByteArray) (env : ByteArray → Option Arr), Ze F env (l ++ k) = Ze F env l ++ Ze F (Yv F env l) k
  | [], _, _ => rfl
  | x :: r, k, env => by
    show ansR env F x :: Ze F (envA env F x) (r ++ k) = _
    rw [Jaz F r]
    rfl
theorem Vb (F : Int) : ∀ (l : List ByteArray) (env : ByteArray → Option Arr), (Ze F env l).length = l.length
  | [], _ => rfl
  | _ :: r, env => by simp [Ze, Vb F r]
theorem Q3 {F : Int} (h0 : 0 ≤ F) : ∀ (l : List ByteArray) (env : ByteArray → Option Arr), EnvOk env → EnvOk (Yv F env l)
  | [], _, h => h
  | _ :: r, _, h => Q3 h0 r _ (Jhx h0 h)
structure Rv where
  so : Option Addr
  sn : Nat
  sc : Nat
  co : Option Addr
  cn : Nat
  cc : Nat
def Zh (r : Rp) (x : Rv) : List Value := [.int .i64 r.er, .int .i64 r.at_, .slice x.so x.sn x.sc, .slice x.co x.cn x.cc, .int .i64 r.cost]
def rowC : List Rp → List Rv → List Value
  | r :: rs, x :: xs => Zh r x ++ rowC rs xs
  | _, _ => []
theorem Nm : ∀ (rs : List Rp) (xs : List Rv), rs.length = xs.length → ∀ r x, rowC (rs ++ [r]) (xs ++ [x]) = rowC rs xs ++ Zh r x
  | [], [], _, r, x => by simp [rowC]
  | [], _ :: _, h, _, _ => by simp at h
  | _ :: _, [], h, _, _ => by simp at h
  | a :: rs, b :: xs, h, r, x => by
    show Zh a b ++ rowC (rs ++ [r]) (xs ++ [x]) = _
    rw [Nm rs xs (by simpa using h)]
    simp [rowC]
theorem Jfy : ∀ (rs : List Rp) (xs : List Rv), rs.length = xs.length → ∀ i, (hi : i < rs.length) → (hx : i < xs.length) → ∀ j, j < 5 → (rowC rs xs)[5 * i + j]? = (Zh rs[i] xs[i])[j]?
  | [], _, _, i, hi, _, _, _ => by simp at hi
  | _ :: _, [], h, _, _, _, _, _ => by simp at h
  | a :: rs, b :: xs, h, 0, _, _, j, hj => by
    show (Zh a b ++ rowC rs xs)[5 * 0 + j]? = _
    rw [List.getElem?_append_left (by simp [Zh]; omega)]
    simp
  | a :: rs, b :: xs, h, i + 1, hi, hx, j, hj => by
    show (Zh a b ++ rowC rs xs)[5 * (i + 1) + j]? = _
    rw [List.getElem?_append_right (by simp [Zh]; omega)]
    have := Jfy rs xs (by simpa using h) i (by simpa using hi) (by simpa using hx) j hj
    simp only [Zh, List.length_cons, List.length_nil] at this ⊢
    rw [show 5 * (i + 1) + j - (0 + 1 + 1 + 1 + 1 + 1) = 5 * i + j by omega, this]
    simp
def Reps (T : Nat → Prop) (B : Nat) (wr : World) (v : Value) (rs : List Rp) : Prop :=
  ∃ xs : List Rv, rs.length = xs.length ∧ wr.ownsRow B 34 5 v rs.length (rowC rs xs) ∧ (∀ g, v.ownBlock = some g → T g) ∧
    ∀ i, (hi : i < rs.length) → (hx : i < xs.length) → NumsW (fun b => T b ∧ B ≤ b ∧ v.ownBlock ≠ some b) wr (.slice xs[i].so xs[i].sn xs[i].sc) rs[i].sh ∧ NumsW (fun b => T b ∧ B ≤ b ∧ v.ownBlock ≠ some b) wr (.slice xs[i].co xs[i].cn xs[i].cc) rs[i].cs
theorem Jji (T : Nat → Prop) (B : Nat) (w : World) : Reps T B w (.slice none 0 0) [] := ⟨[], rfl, World.ownsRow_nil _ _ _ _, (fun g h => by cases h), fun i hi => absurd hi (Nat.not_lt_zero i)⟩
theorem KeepS.lowc {S : Nat → Prop} {w w' : World} (h : KeepS S w w') {b o : Nat} (hb : b < w.heap.size) (hs : 6 ≤ b → S b) : w'.cell? ⟨b, o, none⟩ = w.cell? ⟨b, o, none⟩ := by
  by_cases h6 : 6 ≤ b
  · exact h.cell hb (hs h6)
  · exact World.cell?_of_block (Bs.block h b hb (fun hn => h6 hn.2))
def Txts (P : Nat → Prop) (w : World) (ao : Option Addr) (ls : List ByteArray) : Prop :=
  0 < ls.length → ∃ b off, ao = some ⟨b, off, none⟩ ∧ P b ∧ b < w.heap.size ∧ ∀ i, (h : i < ls.length) → w.cell? ⟨b, off + i, none⟩ = some (.string ls[i])
theorem Bs.grown {Q : Nat → Prop} {w w1 W1 w2 : World} {row : Option Nat} (h : Bs Q w w1) (hb : Below w1.heap.size w1 W1) (hg : W1.grownBy w2 row) (hr : ∀ g, row = some g → w.heap.size ≤ g) : Bs Q w w2 := by
  have hs := h.size
  have hs1 := hb.size
  have hs2 := hg.size
  refine ⟨hg.os.trans (hb.os.trans h.os), hg.tape.trans (hb.tape.trans h.tape), hg.output.trans (hb.output.trans h.output), by omega, fun k hk hn => ?_⟩
  rw [hg.block k (by omega) (fun e => by have := hr k e.symm; omega), hb.block k (by omega)]
  exact h.block k hk hn
theorem Evs.stay {w w' : World} (h : Evs w) (hs : w.heap.size ≤ w'.heap.size) (hk : ∀ b, b < 6 → w'.heap[b]? = w.heap[b]?) : Evs w' := by
  obtain ⟨h0, ⟨e1, c1, d1⟩, ⟨e2, c2, d2⟩⟩ := h
  exact ⟨Nat.le_trans h0 hs, ⟨e1, (World.cell?_of_block (a := ⟨4, 0, none⟩) (hk 4 (by omega))).trans c1, d1⟩, ⟨e2, (World.cell?_of_block (a := ⟨5, 0, none⟩) (hk 5 (by omega))).trans c2, d2⟩⟩
theorem DkF.grown {F : Int} {T : Nat → Prop} {db : Nat} {env : ByteArray → Option Arr} {N : Nat} {w1 W1 w2 : World} {row : Option Nat} (h : DkF F T db env N w1) (hb : Below w1.heap.size w1 W1) (hg : W1.grownBy w2 row) (hr : ∀ g, row = some g → T g) : DkF F (fun b => T b ∨ (w1.heap.size ≤ b ∧ b < w2.heap.size)) db env N w2 := by
  have hs1 := hb.size
  have hs2 := hg.size
  have hkeep : ∀ b, b < w1.heap.size → row ≠ some b → w2.heap[b]? = w1.heap[b]? := fun b hb' hn => by
    rw [hg.block b (by omega) (fun e => hn e.symm), hb.block b hb']
  have hr6 : ∀ b, row = some b → 6 ≤ b := fun b e => (h.lt (hr b e)).1
  obtain ⟨X, mo, h1, h2, h3⟩ := h
  have h6 := h1.evs.1
  have hE : Evs w2 := h1.evs.stay (by omega) (fun b hb => hkeep b (by omega) (fun e => by have := hr6 b e; omega))
  refine ⟨X, mo, h1.stay (by omega) hE (fun b hb hm => hkeep b hb (fun e => ?_)), fun b hb => by have := h2 b hb; omega, fun b hb => ?_⟩
  · obtain ⟨_, _, a3, a4, a5⟩ := h3 b (hr b e)
    rcases hm with hm | hm | hm
    · exact a3 hm
    · exact a4 hm
    · exact a5 hm
  · rcases hb with hb | ⟨k1, k2⟩
    · obtain ⟨a1, a2, a3⟩ := h3 b hb
      exact ⟨a1, by omega, a3⟩
    · exact ⟨by omega, k2, fun hx => by have := h2 b hx; omega, by have := h1.lt; omega, fun e => by have := h1.moLt b e; omega⟩
theorem Nu {w w' : World} {B : Nat} {t : TypeId} {size : Nat} {v : Value} {n : Nat} {xs : List Value} (h : w.ownsRow B t size v n xs) (hk : ∀ g, v.ownBlock = some g → w'.heap[g]? = w.heap[g]?) : w'.ownsRow B t size v n xs := by
  obtain ⟨hl, ⟨rfl, h0⟩ | ⟨g, cap, cur, rfl, hg, hc, r⟩⟩ := h
  · exact ⟨hl, Or.inl ⟨rfl, h0⟩⟩
  · exact ⟨hl, Or.inr ⟨g, cap, cur, rfl, hg, (hk g rfl).trans hc, r⟩⟩
theorem Jf7 {T : Nat → Prop} {B : Nat} {wr w1 W1 w2 : World} {v v' : Value} {rs : List Rp} {xs : List Rv} {r : Rp} {x : Rv} {m : Nat} (hB : B ≤ wr.heap.size) (hm : wr.heap.size ≤ m) (hs1 : wr.heap.size ≤ w1.heap.size)
    (hxl : rs.length = xs.length) (hown : wr.ownsRow B 34 5 v rs.length (rowC rs xs)) (hob : ∀ g, v.ownBlock = some g → T g)
    (hnum : ∀ i, (hi : i < rs.length) → (hx : i < xs.length) → NumsW (fun b => T b ∧ B ≤ b ∧ v.ownBlock ≠ some b) wr (.slice xs[i].so xs[i].sn xs[i].sc) rs[i].sh ∧ NumsW (fun b => T b ∧ B ≤ b ∧ v.ownBlock ≠ some b) wr (.slice xs[i].co xs[i].cn xs[i].cc) rs[i].cs)
    (hT : ∀ b, T b → b < wr.heap.size → w1.heap[b]? = wr.heap[b]?) (n1 : NumsW (fun b => m ≤ b) w1 (.slice x.so x.sn x.sc) r.sh) (n2 : NumsW (fun b => m ≤ b) w1 (.slice x.co x.cn x.cc) r.cs)
    (hb : Below w1.heap.size w1 W1) (hg : W1.grownBy w2 v.ownBlock) (h2 : w2.ownsRow B 34 5 v' (rs.length + 1) (rowC rs xs ++ Zh r x)) (hat : v'.ownBlock = v.ownBlock ∨ v'.ownBlock = some W1.heap.size) :
    Reps (fun b => (T b ∨ (m ≤ b ∧ b < w1.heap.size)) ∨ (w1.heap.size ≤ b ∧ b < w2.heap.size)) B w2 v' (rs ++ [r]) := by
  have hsW := hb.size
  have hs2 := hg.size
  have hlt : ∀ g, v.ownBlock = some g → g < wr.heap.size := fun g h => (hown.lt g h).2
  have hblk : ∀ b, b < w1.heap.size → v.ownBlock ≠ some b → w2.heap[b]? = w1.heap[b]? := fun b hb' hn => by
    rw [hg.block b (by omega) (fun e => hn e.symm), hb.block b hb']
  refine ⟨xs ++ [x], by simp [hxl], ?_, ?_, ?_⟩
  · rw [Nm rs xs hxl]
    simpa using h2
  · intro g hg'
    have hlt2 := (h2.lt g hg').2
    rcases hat with e | e
    · rw [e] at hg'
      exact Or.inl (Or.inl (hob g hg'))
    · rw [e] at hg'
      injection hg' with hg'
      exact Or.inr ⟨by omega, hlt2⟩
  · have hnew : ∀ b, b < w1.heap.size → v.ownBlock ≠ some b → v'.ownBlock ≠ some b := fun b hb' hn => by
      rcases hat with e | e
      · rw [e]; exact hn
      · rw [e]; intro h; injection h with h; omega
    have old : ∀ {v0 : Value} {ys : List Int}, NumsW (fun b => T b ∧ B ≤ b ∧ v.ownBlock ≠ some b) wr v0 ys → NumsW (fun b => ((T b ∨ (m ≤ b ∧ b < w1.heap.size)) ∨ (w1.heap.size ≤ b ∧ b < w2.heap.size)) ∧ B ≤ b ∧ v'.ownBlock ≠ some b) w2 v0 ys := fun h => by
      have h1 := (h.imp (Q := fun b => (T b ∧ B ≤ b ∧ v.ownBlock ≠ some b) ∧ b < wr.heap.size) (fun b hb hl => ⟨hb, hl⟩)).keep (w' := w2) (by omega) (fun b hb hl => by rw [hblk b (by omega) hb.1.2.2, hT b hb.1.1 hl])
      exact h1.imp (fun b hb hl => ⟨Or.inl (Or.inl hb.1.1), hb.1.2.1, hnew b (by omega) hb.1.2.2⟩)
    have new : ∀ {v0 : Value} {ys : List Int}, NumsW (fun b => m ≤ b) w1 v0 ys → NumsW (fun b => ((T b ∨ (m ≤ b ∧ b < w1.heap.size)) ∨ (w1.heap.size ≤ b ∧ b < w2.heap.size)) ∧ B ≤ b ∧ v'.ownBlock ≠ some b) w2 v0 ys := fun h => by
      have hn : ∀ b, m ≤ b → v.ownBlock ≠ some b := fun b hb e => by have := hlt b e; omega
      have h1 := (h.imp (Q := fun b => m ≤ b ∧ b < w1.heap.size) (fun b hb hl => ⟨hb, hl⟩)).keep (w' := w2) (by omega) (fun b hb hl => hblk b hl (hn b hb.1))
      exact h1.imp (fun b hb hl => ⟨Or.inl (Or.inr hb), by omega, hnew b hb.2 (hn b hb.1)⟩)
    intro i hi hx
    by_cases h : i < rs.length
    · have hx' : i < xs.length := by omega
      rw [List.getElem_append_left h, List.getElem_append_left hx']
      exact ⟨old (hnum i h hx').1, old (hnum i h hx').2⟩
    · have hi' : i = rs.length := by simp at hi; omega
      have e1 : (rs ++ [r])[i] = r := by
        subst hi'
        simp
      have e2 : (xs ++ [x])[i] = x := by
        have : i = xs.length := by omega
        subst this
        simp
      rw [e1, e2]
      exact ⟨new n1, new n2⟩
theorem Tryz.info34 : (Tryz.prog.info? 34).map (fun i => (i.zero, i.size, i.bytes)) = some (some (.agg #[.int .i64 0, .int .i64 0, .slice none 0 0, .slice none 0 0, .int .i64 0]), 5, 72) := by kernel_rfl
end Go.Proofs.YtjobgpahajhbnabGreatDoor
namespace Go.Proofs.YtjobgpahajhbnabGreatDoor
open Go.ChangeShapes Go.WideShapes Go.ChangeAt Go.WideMaps Go.WideElems Go.RowKit
theorem Tryz.cells9 : Tryz.prog.cellsOf 9 = 1 := by kernel_rfl
theorem Jlv {H : Type} {enc : TypeId × Value → H} {W : World} {ao : Option Addr} {len cap : Nat} {d : DataW H} {p : List MemPlace} (h : DataW.Trod enc Tryz.prog W 0 (fun _ => true) true 22 (.slice ao len cap) d p) :
    ∃ ls : List ByteArray, ls.length = len ∧ (∀ s ∈ ls, s.size ≤ 9223372036854775807) ∧ Txts (fun _ => True) W ao ls ∧ len ≤ cap ∧ cap ≤ 9223372036854775807 ∧ (∀ a, ao = some a → a.spot = none ∨ len = 0) := by
  obtain ⟨fuel, hf⟩ := h
  rcases Deep.open_slice1 Tryz.underlying22 Tryz.cells9 hf with ⟨hcs, _⟩ | ⟨a, len', cap', m, n, V, D, Pl, hcs, _, hl, hm, hmm, _, hel⟩
  · have hcs : [Value.slice ao len cap] = [.slice none 0 0] := hcs
    obtain ⟨rfl, rfl, rfl⟩ : ao = none ∧ len = 0 ∧ cap = 0 := by simpa using hcs
    exact ⟨[], rfl, (fun _ h => by cases h), fun h => absurd h (by simp), by omega, by omega, fun a h => by cases h⟩
  · have hcs : [Value.slice ao len cap] = [.slice (some a) len' cap'] := hcs
    obtain ⟨rfl, rfl, rfl⟩ : ao = some a ∧ len = len' ∧ cap = cap' := by simpa using hcs
    have hcb : cap ≤ 9223372036854775807 := by unfold maxLen at hm; omega
    have hlm : len ≤ m := by rw [hmm]; split <;> omega
    have hlb : len ≤ 9223372036854775807 := by unfold maxLen at hm; omega
    obtain ⟨X, hX⟩ := Deep.choose_lt (n := len) (p := fun i (x : ByteArray) => W.cell? (a.add i) = some (.string x) ∧ x.size ≤ 9223372036854775807) (fun i hi => by
      obtain ⟨h1, h2⟩ := hel i (by omega)
      obtain ⟨x, ex, _, hw⟩ := DataW.trod_string Tryz.underlying9 h2
      have ex : V i = .string x := by simpa using ex
      exact ⟨x, by rw [h1, ex], hw⟩)
    obtain ⟨b, off, spot⟩ := a
    by_cases hz : len = 0
    · subst hz
      exact ⟨[], rfl, (fun _ h => by cases h), fun h => absurd h (by simp), by omega, by omega, fun a h => Or.inr rfl⟩
    have hspot : spot = none := by simpa [Addr.add] using World.cell?_spot (hX 0 (by omega)).1
    subst hspot
    refine ⟨(List.range len).map X, by simp, ?_, fun _ => ⟨b, off, rfl, trivial, ?_, ?_⟩, by omega, by omega, fun a h => by cases h; exact Or.inl rfl⟩
    · intro c hc
      simp only [List.mem_map, List.mem_range] at hc
      obtain ⟨i, hi, rfl⟩ := hc
      exact (hX i hi).2
    · have := (hX 0 (by omega)).1
      exact G1 (o := off) (by simpa [Addr.add] using this)
    · intro i hi
      simp only [List.length_map, List.length_range] at hi
      have := (hX i hi).1
      rw [add_plain] at this
      simpa using this
end Go.Proofs.YtjobgpahajhbnabGreatDoor
namespace Go.Proofs.YtjobgpahajhbnabGreatDoor
open Go.RowKit Go.Proofs Go.Maps
def Tn (l : List UInt8) : Prop := Zb ⟨l.toArray⟩ = 1 → tl l = some l.length
theorem Gq {p : UInt8 → Bool} : ∀ (l : List UInt8), l.take (l.takeWhile p).length = l.takeWhile p
  | [] => rfl
  | c :: l => by
    cases h : p c with
    | false => simp [h]
    | true => simp [h, Gq l]
theorem Gr {p : UInt8 → Bool} : ∀ (l : List UInt8), (l.takeWhile p).takeWhile p = l.takeWhile p
  | [] => rfl
  | c :: l => by
    cases h : p c with
    | false => simp [h]
    | true => simp [h, Gr l]
theorem Xw {c : UInt8} {r : List UInt8} (h : Zb ⟨(c :: r).toArray⟩ = 1) : dU c = false ∧ (c == 95) = false ∧ lU c = true ∧ c ≠ 32 := by
  have hh : hd ⟨(c :: r).toArray⟩ = (c.toNat : Int) := by simp [hd]
  unfold Zb at h
  rw [hh] at h
  cases h1 : ((c.toNat : Int) == 40) with
  | true => rw [h1, cond_true] at h; exact absurd h (by decide)
  | false =>
    rw [h1, cond_false] at h
    cases h2 : ((c.toNat : Int) == 41) with
    | true => rw [h2, cond_true] at h; exact absurd h (by decide)
    | false =>
      rw [h2, cond_false] at h
      cases h3 : ((c.toNat : Int) == 95 || digB (c.toNat : Int)) with
      | true => rw [h3, cond_true] at h; exact absurd h (by decide)
      | false =>
        rw [h3, cond_false] at h
        cases h4 : letB (c.toNat : Int) with
        | false => rw [h4, cond_false] at h; exact absurd h (by decide)
        | true =>
          simp only [Bool.or_eq_false_iff] at h3
          refine ⟨h3.2, ?_, h4, ?_⟩
          · refine beq_eq_false_iff_ne.2 (fun e => ?_)
            subst e
            exact absurd h3.1 (by decide)
          · intro e
            subst e
            exact absurd h4 (by decide)
theorem Jly {l : List UInt8} {n : Nat} (h : tl l = some n) : Tn (l.take n) := by
  intro hk
  have hb := Je8 h
  have hlen : (l.take n).length = n := by rw [List.length_take]; omega
  cases l with
  | nil => simp at hb; omega
  | cons c r =>
    obtain ⟨m, rfl⟩ : ∃ m, n = m + 1 := ⟨n - 1, by omega⟩
    rw [List.take_succ_cons] at hk hlen ⊢
    obtain ⟨h1, h2, h3, _⟩ := Xw hk
    have e1 : tl (c :: r) = wrdE (c :: r) := by simp only [tl, h1, h2, h3, cond_false, cond_true]
    have e2 : tl (c :: r.take m) = wrdE (c :: r.take m) := by simp only [tl, h1, h2, h3, cond_false, cond_true]
    rw [e1] at h
    rw [e2, hlen]
    unfold wrdE at h ⊢
    by_cases hc : 4 < ((c :: r).takeWhile lU).length ∧ isFn ((c :: r).take ((c :: r).takeWhile lU).length) = false
    · simp only [hc, and_self, if_true] at h; cases h
    · simp only [if_neg hc] at h
      have hm : ((c :: r).takeWhile lU).length = m + 1 := Option.some.inj h
      have ht : c :: r.take m = (c :: r).takeWhile lU := by
        have := Gq (p := lU) (c :: r)
        rw [hm, List.take_succ_cons] at this
        exact this
      have hw : (c :: r.take m).takeWhile lU = c :: r.take m := by rw [ht]; exact Gr _
      rw [hw, hlen]
      have ht2 : (c :: r.take m).take (m + 1) = (c :: r).take (m + 1) := by simp [List.take_take]
      rw [hm] at hc
      show (if 4 < m + 1 ∧ isFn ((c :: r.take m).take (m + 1)) = false then none else some (m + 1)) = some (m + 1)
      rw [ht2, if_neg hc]
def AllN (s : ByteArray) (A : List (Nat × Nat)) : Prop := ∀ q ∈ A, Tn (s.extract q.1 q.2).data.toList
theorem Jhb (s : ByteArray) : ∀ (f p : Nat) (A : List (Nat × Nat)), AllN s A → AllN s (lexS s f p A).1
  | 0, _, _, h => h
  | f + 1, p, A, h => by
    unfold lexS
    split
    · rename_i hp
      cases hb : ((s[p].toNat : Int) == 32)
      · rw [cond_false]
        cases ht : tl (s.data.toList.drop p) with
        | none => intro q hq; cases hq
        | some n =>
          apply Jhb s f
          intro q hq
          rcases List.mem_append.1 hq with hq | hq
          · exact h q hq
          · rw [List.mem_singleton.1 hq]
            show Tn (s.extract p (p + n)).data.toList
            rw [Jv, Nat.add_sub_cancel_left]
            exact Jly ht
      · rw [cond_true]
        exact Jhb s f _ _ h
    · exact h
structure NmT (t : ByteArray) : Prop where
  tl : tl t.data.toList = some t.size
  kind : Zb t = 1
  few : t.size ≤ 200
theorem Jj2 {s : ByteArray} (hp : (Jw s).1 = 0) (hn : (Yl s).size ≠ 0) : NmT (Yl s) := by
  obtain ⟨_, hs⟩ := Zl hp
  unfold Yl at hn ⊢
  rw [if_pos hp] at hn ⊢
  unfold Kt at hn ⊢
  cases hb : (kB (kr (toks s (lexR s).1)) 0 1 && kB (kr (toks s (lexR s).1)) 1 2) with
  | false => rw [hb, cond_false] at hn; exact absurd rfl hn
  | true =>
    rw [cond_true]
    simp only [Bool.and_eq_true] at hb
    obtain ⟨hl, hk⟩ := Vw hb.1
    rw [Yq] at hl
    have hA : 0 < (lexR s).1.length := by rw [Y3] at hl; exact hl
    have ht : (J5 (toks s (lexR s).1) 0).t = s.extract ((lexR s).1[0]).1 ((lexR s).1[0]).2 := by
      rw [Yo hl]
      simp [toks]
    have hk' : Zb (s.extract ((lexR s).1[0]).1 ((lexR s).1[0]).2) = 1 := by
      have := hb.1
      rw [Jae hl] at this
      simpa [toks] using this
    rw [ht]
    have := Jhb s s.size 0 [] (fun q hq => by cases hq) ((lexR s).1[0]) (List.getElem_mem hA)
    exact ⟨this hk', hk', by rw [ByteArray.size_extract]; omega⟩
theorem N6 {t : ByteArray} (h : NmT t) : Jw t = (0, 0) ∧ (Yl t).size = 0 ∧ Ye t (.name t 0) := by
  have hsz : t.data.toList.length = t.size := rfl
  obtain ⟨c, r, hc⟩ : ∃ c r, t.data.toList = c :: r := by
    have hb := (Je8 h.tl).1
    cases hl : t.data.toList with
    | nil => rw [hl] at hsz; simp at hsz; omega
    | cons c r => exact ⟨c, r, rfl⟩
  have ht : t = ⟨(c :: r).toArray⟩ := Jdb (by rw [hc])
  obtain ⟨k1, k2, k3, k4⟩ := Xw (c := c) (r := r) (by rw [← ht]; exact h.kind)
  have hlex : lexR t = ([(0, t.size)], -1) := by
    apply Jme
    rw [hc]
    have h1 : tl (c :: r) = some t.size := by rw [← hc]; exact h.tl
    have h2 := LX.tok 0 t.size c r [] k4 h1 (by
      have : (c :: r).drop t.size = [] := List.drop_eq_nil_of_le (by rw [← hc]; exact Nat.le_of_eq hsz)
      rw [this]
      exact LX.done _)
    simpa using h2
  have hex : t.extract 0 t.size = t := Jdb (by rw [Jv, List.drop_zero, Nat.sub_zero, ← hsz, List.take_length])
  have hrole : Y0 t = 0 := by
    have hk := h.kind
    have hh : hd t = (c.toNat : Int) := by rw [ht]; simp [hd]
    unfold Zb at hk
    unfold Y0
    rw [hh] at hk ⊢
    cases h1 : ((c.toNat : Int) == 40) with
    | true => rfl
    | false =>
      rw [h1, cond_false] at hk
      rw [cond_false]
      cases h2 : ((c.toNat : Int) == 41) with
      | true => rfl
      | false =>
        rw [h2, cond_false] at hk
        rw [cond_false]
        cases h3 : ((c.toNat : Int) == 95 || digB (c.toNat : Int)) with
        | true => rfl
        | false =>
          rw [h3, cond_false] at hk
          rw [cond_false]
          have k3' : letB (c.toNat : Int) = true := k3
          rw [k3', cond_true] at hk ⊢
          unfold Fc at hk
          cases h5 : (Yk t != 0) with
          | true => rw [h5, cond_true] at hk; exact absurd hk (by decide)
          | false => simpa using h5
  have hT : toks t [(0, t.size)] = [⟨Zb t, Y0 t, Yh t, t, 0⟩] := by simp [toks, hex]
  have hk0 : kB (kr (toks t [(0, t.size)])) 0 1 = true := by
    rw [hT]
    simp [kB, kr, h.kind]
  have hk1 : kB (kr (toks t [(0, t.size)])) 1 2 = false := Jc1 (by simp [toks]) 2
  have hbeg : beg (tks t [(0, t.size)]) = 0 := by
    unfold beg
    rw [← Zr, hk1, Bool.and_false, cond_false]
  have hx : PX (toks t [(0, t.size)]) false (beg (tks t [(0, t.size)])) 0 (.name t 0) [(0, t.size)].length := by
    rw [hbeg]
    have h1 := PX.name (S := toks t [(0, t.size)]) 0 0 hk0
    have h2 := PX.only 0 0 _ _ (by rw [hT]; simp only [fB, kr, List.map_cons, List.map_nil, hrole, List.getElem?_cons_zero]; decide) h1 (Jlk (by simp [toks]) 2)
    rw [hT] at h2 ⊢
    exact h2
  obtain ⟨p1, p2⟩ := Jd1 h.few hlex hx
  refine ⟨p1, ?_, p2⟩
  unfold Yl
  rw [p1, hlex]
  unfold Kt
  rw [if_pos rfl, hk1, Bool.and_false, cond_false]
  rfl
theorem Jj1 {t : ByteArray} (h : NmT t) {env : ByteArray → Option Arr} {F : Int} {a : Arr} (he : env t = some a) : ans env F t = .inr (a, 0) := by
  obtain ⟨h1, _, h3⟩ := N6 h
  unfold ans
  rw [if_pos (by rw [h1]), ← Zv h3]
  simp only [Jt, he]
def EnvN (env : ByteArray → Option Arr) : Prop := ∀ t a, env t = some a → NmT t
theorem Jlm {env : ByteArray → Option Arr} {F : Int} {s : ByteArray} (h : EnvN env) : EnvN (envA env F s) := by
  unfold envA
  cases ha : ans env F s with
  | inl e => exact h
  | inr x =>
    by_cases hn : (Yl s).size = 0
    · simp only [hn, if_true]; exact h
    · simp only [hn, if_false]
      intro t a ht
      unfold upd at ht
      by_cases e : t = Yl s
      · rw [e]; exact Jj2 (Ga ha).1 hn
      · rw [if_neg e] at ht; exact h t a ht
theorem Jhw {F : Int} : ∀ (l : List ByteArray) (env : ByteArray → Option Arr), EnvN env → EnvN (Yv F env l)
  | [], _, h => h
  | _ :: r, _, h => Jhw r _ (Jlm h)
structure Ks (env : ByteArray → Option Arr) (n : Nat) (ks : List (List UInt8)) : Prop where
  nd : ks.Nodup
  mem : ∀ x, x ∈ ks ↔ (env ⟨List.toArray x⟩).isSome = true
  few : ks.length ≤ n
theorem Jnv {env : ByteArray → Option Arr} {n : Nat} {ks : List (List UInt8)} (h : Ks env n ks) (nm : ByteArray) (a : Arr) : ∃ ks', Ks (upd env nm a) (n + 1) ks' := by
  by_cases hm : nm.data.toList ∈ ks
  · refine ⟨ks, h.nd, fun x => ?_, Nat.le_succ_of_le h.few⟩
    unfold upd
    by_cases e : (⟨List.toArray x⟩ : ByteArray) = nm
    · rw [if_pos e]
      have : x = nm.data.toList := by rw [← e]
      rw [this]
      simp [hm]
    · rw [if_neg e]; exact h.mem x
  · refine ⟨nm.data.toList :: ks, List.nodup_cons.2 ⟨hm, h.nd⟩, fun x => ?_, by simp; exact h.few⟩
    unfold upd
    by_cases e : (⟨List.toArray x⟩ : ByteArray) = nm
    · rw [if_pos e]
      have : x = nm.data.toList := by rw [← e]
      rw [this]
      simp
    · rw [if_neg e]
      have hne : x ≠ nm.data.toList := fun e' => e (Jdb (by rw [e']))
      simp [hne, h.mem x]
theorem Jhg {env : ByteArray → Option Arr} {F : Int} {n : Nat} {ks : List (List UInt8)} (h : Ks env n ks) (s : ByteArray) : ∃ ks', Ks (envA env F s) (n + 1) ks' := by
  unfold envA
  cases ans env F s with
  | inl e => exact ⟨ks, h.nd, h.mem, Nat.le_succ_of_le h.few⟩
  | inr x =>
    by_cases hn : (Yl s).size = 0
    · simp only [hn, if_true]; exact ⟨ks, h.nd, h.mem, Nat.le_succ_of_le h.few⟩
    · simp only [hn, if_false]; exact Jnv h _ _
theorem Jcy {F : Int} : ∀ (l : List ByteArray) (env : ByteArray → Option Arr) (n : Nat) (ks : List (List UInt8)), Ks env n ks → ∃ ks', Ks (Yv F env l) (n + l.length) ks'
  | [], _, _, ks, h => ⟨ks, h⟩
  | s :: r, env, n, ks, h => by
    obtain ⟨k1, h1⟩ := Jhg (F := F) h s
    obtain ⟨k2, h2⟩ := Jcy r _ _ _ h1
    refine ⟨k2, h2.nd, h2.mem, ?_⟩
    have := h2.few
    simp
    omega
theorem Jhf {env : ByteArray → Option Arr} {n : Nat} {ks : List (List UInt8)} (h : Ks env n ks) : Ks env n (ks.mergeSort leB) ∧ (ks.mergeSort leB).mergeSort leB = ks.mergeSort leB := by
  have hp : (ks.mergeSort leB).Perm ks := List.mergeSort_perm ks leB
  refine ⟨⟨hp.nodup_iff.2 h.nd, fun x => by rw [hp.mem_iff]; exact h.mem x, by rw [hp.length_eq]; exact h.few⟩, ?_⟩
  exact mergeSort_of_perm hp
end Go.Proofs.YtjobgpahajhbnabGreatDoor
