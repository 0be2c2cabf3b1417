import Derived.Test.YtjobgpahajhbnabGreatDoorOd
import Derived.Test.YtjobgpahajhbnabGreatDoorVb
import Derived.Maps.AppendAt
import Derived.Test.YtjobgpahajhbnabGreatDoorJc
import Derived.Test.YtjobgpahajhbnabGreatDoorKg
import Derived.Test.YtjobgpahajhbnabGreatDoorFa
import Derived.Test.YtjobgpahajhbnabGreatDoorOa
import Derived.KernelRfl
namespace Go.Proofs.YtjobgpahajhbnabGreatDoor
open Go.RowKit Go.Proofs Go.Maps
attribute [local go_sem ↓] Go.wp_at_zero Go.wp_at_succ
def Mine (X : Nat → Prop) (db : Nat) (mo : Option Nat) (b : Nat) : Prop := 6 ≤ b ∧ (X b ∨ b = db ∨ mo = some b)
theorem IsArr.stay {P : Nat → Prop} {w w' : World} {v : Value} {a : Arr} (h : IsArr P w v a) (hs : w.heap.size ≤ w'.heap.size) (hb : ∀ b, P b → b < w.heap.size → w'.heap[b]? = w.heap[b]?) : IsArr P w' v a := by
  obtain ⟨so, sn, sc, co, cn, cc, rfl, h1, h2⟩ := h; exact ⟨so, sn, sc, co, cn, cc, rfl, h1.keep hs hb, h2.keep hs hb⟩
theorem DskN.stay {X : Nat → Prop} {db : Nat} {F : Int} {env : ByteArray → Option Arr} {N : Nat} {mo : Option Nat} {w w' : World} (h : DskN X db F env N mo w) (hs : w.heap.size ≤ w'.heap.size) (hE : Evs w') (hk : ∀ b, b < w.heap.size → (X b ∨ b = db ∨ mo = some b) → w'.heap[b]? = w.heap[b]?) : DskN X db F env N mo w' := by
  have hd := hk db h.lt (Or.inr (Or.inl rfl)); refine ⟨Nat.lt_of_lt_of_le h.lt hs, h.low, hE, (World.cell?_of_block hd).trans h.c0, (World.cell?_of_block hd).trans h.c1, (World.frozen?_of_block (a := ⟨db, 1, none⟩) hd).trans h.fr, h.out, ?_⟩; have hml := h.moLt; have hm := h.map; cases mo with
  | none => exact hm
  | some mb =>
    obtain ⟨a1, a2, a3, D, ⟨es, clock, g1, g2⟩, hH⟩ := hm; exact ⟨a1, a2, a3, D, ⟨es, clock, (hk mb (hml mb rfl) (Or.inr (Or.inr rfl))).trans g1, g2⟩, hH.later (fun u b ha => ha.stay hs (fun b hb hl => hk b hl (Or.inl hb)))⟩
theorem DskN.up {X : Nat → Prop} {db : Nat} {F : Int} {env : ByteArray → Option Arr} {N N' : Nat} {mo : Option Nat} {w : World} (h : DskN X db F env N mo w) (hN : N ≤ N') : DskN X db F env N' mo w := by
  refine ⟨h.lt, h.low, h.evs, h.c0, h.c1, h.fr, h.out, ?_⟩; have hm := h.map; cases mo with
  | none => exact hm
  | some mb =>
    obtain ⟨a1, a2, a3, D, ⟨es, clock, g1, g2, g3, g4⟩, hH⟩ := hm; exact ⟨a1, a2, a3, D, ⟨es, clock, g1, g2, Nat.le_trans g3 hN, g4⟩, hH⟩
section
variable {F : Int} {S : Nat → Prop} {d e : Nat} {env env2 : ByteArray → Option Arr} {N N2 : Nat} {w : World}
theorem DkF.up {N' : Nat} (h : DkF F S d env N w) (hN : N ≤ N') : DkF F S d env N' w := by
  obtain ⟨X, mo, h1, h2, h3⟩ := h; exact ⟨X, mo, h1.up hN, h2, h3⟩
def Duo (F : Int) (S : Nat → Prop) (d : Nat) (env : ByteArray → Option Arr) (N : Nat) (e : Nat) (env2 : ByteArray → Option Arr) (N2 : Nat) (w : World) : Prop :=
  ∃ X mo Y no, DkSF F (fun b => S b ∨ Mine Y e no b) X d env N mo w ∧ DkSF F (fun b => S b ∨ Mine X d mo b) Y e env2 N2 no w
theorem Duo.symm (h : Duo F S d env N e env2 N2 w) : Duo F S e env2 N2 d env N w := by
  obtain ⟨X, mo, Y, no, h1, h2⟩ := h; exact ⟨Y, no, X, mo, h2, h1⟩
theorem Duo.left (h : Duo F S d env N e env2 N2 w) : ∃ T : Nat → Prop, DkF F T d env N w ∧ (∀ b, S b → T b) ∧ ∀ env' N' w' T', (∀ b, T b → T' b) → DkF F T' d env' N' w' → KeepS T w w' → Duo F (fun b => S b ∨ (T' b ∧ w.heap.size ≤ b)) d env' N' e env2 N2 w' := by
  obtain ⟨X, mo, Y, no, h1, h2⟩ := h; refine ⟨fun b => S b ∨ Mine Y e no b, ⟨X, mo, h1⟩, fun b hb => Or.inl hb, ?_⟩; intro env' N' w' T' hT hd hk; obtain ⟨X', mo', k1, k2, k3⟩ := hd; have hsz := Bs.size hk; refine ⟨X', mo', Y, no, ⟨k1, k2, fun b hb => k3 b ?_⟩, h2.dsk.stay hsz k1.evs (fun b hb hm => ?_), fun b hb => Nat.lt_of_lt_of_le (h2.xlt b hb) hsz, ?_⟩
  · rcases hb with (hb | hb) | hb
    · exact hT b (Or.inl hb)
    · exact hb.1
    · exact hT b (Or.inr hb)
  · by_cases h6 : 6 ≤ b
    · exact hk.block hb (Or.inr ⟨h6, hm⟩)
    · exact Bs.block hk b hb (fun hn => h6 hn.2)
  · rintro b ((hb | ⟨hb, hw⟩) | ⟨h6, hb⟩)
    · obtain ⟨a1, a2, a3, a4, a5⟩ := h2.s b (Or.inl hb); exact ⟨a1, by omega, a3, a4, a5⟩
    · obtain ⟨a1, a2, _⟩ := k3 b hb; exact ⟨a1, a2, fun hy => by have := h2.xlt b hy; omega, by have := h2.dsk.lt; omega, fun e => by have := h2.dsk.moLt b e; omega⟩
    · have hlt : b < w'.heap.size := by
        rcases hb with hb | rfl | hb
        · exact k2 b hb
        · exact k1.lt
        · exact k1.moLt b hb
      have no1 : ¬ (Y b ∨ b = e ∨ no = some b) := fun hm => by
        obtain ⟨_, _, a3, a4, a5⟩ := k3 b (hT b (Or.inr ⟨h6, hm⟩)); rcases hb with hb | hb | hb
        · exact a3 hb
        · exact a4 hb
        · exact a5 hb
      exact ⟨h6, hlt, fun h => no1 (Or.inl h), fun h => no1 (Or.inr (Or.inl h)), fun h => no1 (Or.inr (Or.inr h))⟩
theorem Duo.less {S' : Nat → Prop} (h : Duo F S d env N e env2 N2 w) (hs : ∀ b, S' b → S b) : Duo F S' d env N e env2 N2 w := by
  obtain ⟨X, mo, Y, no, h1, h2⟩ := h; exact ⟨X, mo, Y, no, ⟨h1.dsk, h1.xlt, fun b hb => h1.s b (hb.imp (hs b) id)⟩, ⟨h2.dsk, h2.xlt, fun b hb => h2.s b (hb.imp (hs b) id)⟩⟩
theorem DkSF.lower {T X : Nat → Prop} {mo : Option Nat} (h : DkSF F T X d env N mo w) {T' : Nat → Prop} (hs : ∀ b, T' b → T b) : DkSF F T' X d env N mo w := ⟨h.dsk, h.xlt, fun b hb => h.s b (hs b hb)⟩
theorem DkSF.more {T X : Nat → Prop} {mo : Option Nat} {w' : World} (h : DkSF F T X d env N mo w) (hb : Below w.heap.size w w') : DkSF F (fun b => T b ∨ (w.heap.size ≤ b ∧ b < w'.heap.size)) X d env N mo w' := by
  have hs := hb.size; refine ⟨h.dsk.below hb, fun b hx => Nat.lt_of_lt_of_le (h.xlt b hx) hs, fun b hx => ?_⟩; rcases hx with hx | ⟨k1, k2⟩
  · obtain ⟨a1, a2, a3⟩ := h.s b hx; exact ⟨a1, by omega, a3⟩
  · have l1 := h.dsk.low; have l2 := h.dsk.lt; exact ⟨by omega, k2, fun hx => by have := h.xlt b hx; omega, by omega, fun e => by have := h.dsk.moLt b e; omega⟩
theorem Duo.more {w' : World} (h : Duo F S d env N e env2 N2 w) (hb : Below w.heap.size w w') : Duo F (fun b => S b ∨ (w.heap.size ≤ b ∧ b < w'.heap.size)) d env N e env2 N2 w' := by
  obtain ⟨X, mo, Y, no, h1, h2⟩ := h; refine ⟨X, mo, Y, no, (h1.more hb).lower ?_, (h2.more hb).lower ?_⟩
  · rintro b ((h | h) | h)
    · exact Or.inl (Or.inl h)
    · exact Or.inr h
    · exact Or.inl (Or.inr h)
  · rintro b ((h | h) | h)
    · exact Or.inl (Or.inl h)
    · exact Or.inr h
    · exact Or.inl (Or.inr h)
theorem Duo.below {w' : World} (h : Duo F S d env N e env2 N2 w) (hb : Below w.heap.size w w') : Duo F S d env N e env2 N2 w' := (h.more hb).less (fun _ h => Or.inl h)
theorem Duo.set (h : Duo F S d env N e env2 N2 w) {r : Nat} (hr : S r) (i : Nat) (u : Value) : Duo F S d env N e env2 N2 (w.setCell ⟨r, i, none⟩ u) := by
  obtain ⟨X, mo, Y, no, h1, h2⟩ := h; obtain ⟨a1, a2, a3, a4, a5⟩ := h1.s r (Or.inl hr); obtain ⟨b1, b2, b3, b4, b5⟩ := h2.s r (Or.inl hr); exact ⟨X, mo, Y, no, ⟨h1.dsk.set a3 a1 a4 a5 i u, fun b h => by simpa using h1.xlt b h, fun b h => by simpa using h1.s b h⟩, ⟨h2.dsk.set b3 b1 b4 b5 i u, fun b h => by simpa using h2.xlt b h, fun b h => by simpa using h2.s b h⟩⟩
theorem Duo.at_ {b : Nat} (h : Duo F S d env N e env2 N2 w) (hb : S b) : 6 ≤ b ∧ b < w.heap.size := by
  obtain ⟨X, mo, Y, no, h1, h2⟩ := h; obtain ⟨a1, a2, _⟩ := h1.s b (Or.inl hb); exact ⟨a1, a2⟩
end
theorem Jnr {F : Int} {w : World} (hE : Evs w) : Duo F (fun b => 6 ≤ b ∧ b < w.heap.size) w.heap.size env0 0 (w.heap.size + 1) env0 0 ((w.alloc (.cells #[.int .i64 F, .map none] 59)).alloc (.cells #[.int .i64 F, .map none] 59)) := by
  have h6 : 6 ≤ w.heap.size := hE.1; have hE1 : Evs (w.alloc (.cells #[.int .i64 F, .map none] 59)) := hE.alloc _; have hb : Below (w.heap.size + 1) (w.alloc (.cells #[.int .i64 F, .map none] 59)) ((w.alloc (.cells #[.int .i64 F, .map none] 59)).alloc (.cells #[.int .i64 F, .map none] 59)) := by
    have := (Below.refl (w.alloc (.cells #[.int .i64 F, .map none] 59)).heap.size (w.alloc (.cells #[.int .i64 F, .map none] 59))).alloc (Nat.le_refl _) (.cells #[.int .i64 F, .map none] 59); simpa using this
  have d1 : DskN (fun _ => False) w.heap.size F env0 0 none (w.alloc (.cells #[.int .i64 F, .map none] 59)) := ⟨by simp, h6, hE1, by simp, by simp, World.frozen?_alloc_at _ _ _ _ rfl, fun h => h, rfl⟩; have d2 : DskN (fun _ => False) (w.heap.size + 1) F env0 0 none ((w.alloc (.cells #[.int .i64 F, .map none] 59)).alloc (.cells #[.int .i64 F, .map none] 59)) := ⟨by simp, by omega, hE1.alloc _, by simp, by simp, World.frozen?_alloc_at _ _ _ _ (by simp), fun h => h, rfl⟩; refine ⟨fun _ => False, none, fun _ => False, none, ⟨d1.below (by simpa using hb), fun b h => absurd h id, ?_⟩, ⟨d2, fun b h => absurd h id, ?_⟩⟩
  · rintro b (h | ⟨h1, h | h | h⟩)
    · exact ⟨h.1, by simp; omega, fun h => h, by omega, fun h => by cases h⟩
    · exact absurd h id
    · exact ⟨h1, by simp; omega, fun h => h, by omega, fun h => by cases h⟩
    · cases h
  · rintro b (h | ⟨h1, h | h | h⟩)
    · exact ⟨h.1, by simp; omega, fun h => h, by omega, fun h => by cases h⟩
    · exact absurd h id
    · exact ⟨h1, by simp; omega, fun h => h, by omega, fun h => by cases h⟩
    · cases h
end Go.Proofs.YtjobgpahajhbnabGreatDoor
namespace Go.Proofs.YtjobgpahajhbnabGreatDoor
open Go.RowKit Go.Proofs Go.Maps
attribute [local go_sem ↓] Go.wp_at_zero Go.wp_at_succ
structure Rp where
  er : Int
  at_ : Int
  sh : List Int
  cs : List Int
  cost : Int
noncomputable def ansR (env : ByteArray → Option Arr) (F : Int) (s : ByteArray) : Rp := match ans env F s with
  | .inl e => ⟨e.1, e.2, [], [], 0⟩
  | .inr x => ⟨0, 0, x.1.shape.map Int.ofNat, x.1.cells, x.2⟩
def RepO (F : Int) (S : Nat → Prop) (db : Nat) (env : ByteArray → Option Arr) (N : Nat) (w : World) (r : Rp) (e : Ending) (w' : World) : Prop :=
  ∃ m so sn sc co cn cc, w.heap.size ≤ m ∧ e = .returned (.agg #[.int .i64 r.er, .int .i64 r.at_, .slice so sn sc, .slice co cn cc, .int .i64 r.cost]) ∧ NumsW (fun b => m ≤ b) w' (.slice so sn sc) r.sh ∧ NumsW (fun b => m ≤ b) w' (.slice co cn cc) r.cs ∧ DkF F (fun b => S b ∨ (m ≤ b ∧ b < w'.heap.size)) db env N w' ∧ KeepS S w w'
theorem G0 {P : Nat → Prop} {w : World} {so : Option Addr} {sn sc : Nat} (h : Nums P w (.slice so sn sc) []) : NumsW P w (.slice so sn sc) [] := ⟨h, fun b off n c e hn => by
  have := Jg h; injection e with _ e2 _; simp at this; omega⟩
section
variable {F : Int} {S : Nat → Prop} {env : ByteArray → Option Arr} {s : ByteArray} {db N : Nat}
theorem Jmu (h0 : 0 ≤ F) (hF : F ≤ 1000) (he : EnvOk env) (hN : N < 1000) (hm : s.size ≤ 9223372036854775807) (w : World) (hD : DkF F S db env N w) :
    Calls Tryz.prog 20 #[.pointer (some ⟨db, 0, none⟩), .string s] w (RepO F S db (envA env F s) (N + 1) w (ansR env F s)) := by
  cases h : ans env F s with
  | inl e =>
    obtain ⟨er, at_⟩ := e; have ea : envA env F s = env := by unfold envA; rw [h]
    have er' : ansR env F s = ⟨er, at_, [], [], 0⟩ := by unfold ansR; rw [h]
    rw [ea, er']; refine ((Jkl (S := S) (db := db) (N := N) h0 hF he hm h).2 w hD).mono ?_; rintro e w' ⟨so, sn, sc, co, cn, cc, rfl, n1, n2, hb⟩; exact ⟨w.heap.size, so, sn, sc, co, cn, cc, Nat.le_refl _, rfl, G0 n1, G0 n2, (hD.more hb).up (Nat.le_succ _), KeepS.of hb⟩
  | inr x =>
    obtain ⟨a, c⟩ := x; have er' : ansR env F s = ⟨0, 0, a.shape.map Int.ofNat, a.cells, c⟩ := by unfold ansR; rw [h]
    rw [er']; obtain ⟨hp, hv⟩ := Jcf h; obtain ⟨hp2, hs⟩ := Qb hp; have hok : a.ok := (Jdh h0 he h).1; have hl1 : a.shape.length ≤ 200 := by have := hok.rank; omega
    have hl2 : a.cells.length ≤ 200 := hok.few; have hg : ∀ x, Jw s x → Good f1A f2A x := fun x hx => by rw [Kg hx]; exact K7 hs
    have hev : ∀ x, Jw s x → Js env F f1A f2A x 0 = .inr (a, c) := fun x hx => by rw [Kg hx]; exact hv
    have ea : envA env F s = if (Yp s).size = 0 then env else upd env (Yp s) a := by unfold envA; rw [h]
    rw [ea]; by_cases hn : (Yp s).size = 0
    · rw [if_pos hn]; have hn' : Yp s = ⟨#[]⟩ := ByteArray.size_eq_zero_iff.1 hn; have hD' := hD; obtain ⟨X, mo, h1, h2, h3⟩ := hD; refine (Jgj env F f1A f2A db w mo s (by omega) ⟨h1.lt, h1.evs, h1.c0, h1.c1⟩ h0 hF he (h1.look.imp (fun _ _ _ => trivial)) hp hp2 hn' hg a c hev hl1 hl2).mono ?_; rintro e w' ⟨so, sn, sc, co, cn, cc, rfl, n1, n2, hb⟩; exact ⟨w.heap.size, so, sn, sc, co, cn, cc, Nat.le_refl _, rfl, n1, n2, (hD'.more hb).up (Nat.le_succ _), KeepS.of hb⟩
    · rw [if_neg hn]; obtain ⟨X, mo, h1, h2, h3⟩ := hD; have hnl : (Yp s).size ≤ 200 := by
        unfold Yp; rw [if_pos hp]; unfold Ky; cases hb : (kB (kr (toks s (lexR s).1)) 0 1 && kB (kr (toks s (lexR s).1)) 1 2)
        · exact Nat.zero_le _
        · rw [cond_true]; by_cases hi : 0 < (toks s (lexR s).1).length
          · rw [Yv hi]; exact (Jfe hs _ (List.getElem_mem hi)).2.1
          · have : J4 (toks s (lexR s).1) 0 = ⟨0, 0, 0, ⟨#[]⟩, 0⟩ := by
              rw [List.eq_nil_of_length_eq_zero (Nat.eq_zero_of_not_pos hi)]; rfl
            rw [this]; exact Nat.zero_le _
      refine (Nr X env F f1A f2A db w mo N hN s (by omega) h1 h2 h0 hF he hp hp2 (Yp s) rfl (by omega) hnl hg a c hev hl1 hl2).mono ?_; rintro e w' ⟨m, so, sn, sc, co, cn, cc, hwm, rfl, n1, n2, ⟨mo', hd', hml, hm'⟩, hb⟩; have hsz := hb.size; have hlow := h1.low; have hdlt := h1.lt; refine ⟨m, so, sn, sc, co, cn, cc, hwm, rfl, n1, n2, ⟨fun b => (X b ∨ (w.heap.size ≤ b ∧ b < m ∧ mo' ≠ some b)) ∧ b < w'.heap.size, mo', hd'.imp (fun b hb hl => ⟨hb, hl⟩) (fun hx => hd'.out hx.1) (fun mb e hx => ?_), fun b hb => hb.2, fun b hb => ?_⟩, ?_⟩
      · subst e; exact hd'.map.2.2.1 hx.1
      · rcases hb with hb | hb
        · obtain ⟨a1, a2, a3, a4, a5⟩ := h3 b hb; exact ⟨a1, by omega, fun hx => by rcases hx.1 with hx | hx; exact a3 hx; omega, a4, fun e => a5 (hm' b a2 e)⟩
        · exact ⟨by omega, hb.2, fun hx => by rcases hx.1 with hx | hx; have := h2 b hx; omega; omega, by omega, fun e => by have := hml b e; omega⟩
      · refine ⟨hb.os, hb.tape, hb.output, hb.size, fun k hk hn => hb.block k hk ?_⟩; rintro (rfl | e)
        · exact hn ⟨fun hs => (h3 _ hs).2.2.2.1 rfl, h1.low⟩
        · subst e; exact hn ⟨fun hs => (h3 _ hs).2.2.2.2 rfl, h1.map.2.1⟩
end
noncomputable def Qm (F : Int) : (ByteArray → Option Arr) → List ByteArray → (ByteArray → Option Arr)
  | env, [] => env
  | env, s :: r => Qm F (envA env F s) r
noncomputable def K5 (F : Int) : (ByteArray → Option Arr) → List ByteArray → List Rp
  | _, [] => []
  | env, s :: r => ansR env F s :: K5 F (envA env F s) r
theorem G8 (F : Int) : ∀ (l : List ByteArray) (env : ByteArray → Option Arr) (s : ByteArray), Qm F env (l ++ [s]) = envA (Qm F env l) F s
  | [], _, _ => rfl
  | _ :: r, _, s => G8 F r _ s
theorem Fd (F : Int) : ∀ (l : List ByteArray) (env : ByteArray → Option Arr) (s : ByteArray), K5 F env (l ++ [s]) = K5 F env l ++ [ansR (Qm F env l) F s]
  | [], _, _ => rfl
  | x :: r, env, s => by
    show ansR env F x :: K5 F (envA env F x) (r ++ [s]) = _; rw [Fd F r]; rfl
theorem Gf (F : Int) : ∀ (l : List ByteArray) (env : ByteArray → Option Arr), (K5 F env l).length = l.length
  | [], _ => rfl
  | _ :: r, env => by simp [K5, Gf F r]
theorem F0 {F : Int} (h0 : 0 ≤ F) : ∀ (l : List ByteArray) (env : ByteArray → Option Arr), EnvOk env → EnvOk (Qm F env l)
  | [], _, h => h
  | _ :: r, _, h => F0 h0 r _ (Jh7 h0 h)
structure Rv where
  so : Option Addr
  sn : Nat
  sc : Nat
  co : Option Addr
  cn : Nat
  cc : Nat
def Kq (r : Rp) (x : Rv) : List Value := [.int .i64 r.er, .int .i64 r.at_, .slice x.so x.sn x.sc, .slice x.co x.cn x.cc, .int .i64 r.cost]
def rowC : List Rp → List Rv → List Value
  | r :: rs, x :: xs => Kq r x ++ rowC rs xs
  | _, _ => []
theorem No : ∀ (rs : List Rp) (xs : List Rv), rs.length = xs.length → ∀ r x, rowC (rs ++ [r]) (xs ++ [x]) = rowC rs xs ++ Kq r x
  | [], [], _, r, x => by simp [rowC]
  | [], _ :: _, h, _, _ => by simp at h
  | _ :: _, [], h, _, _ => by simp at h
  | a :: rs, b :: xs, h, r, x => by
    show Kq a b ++ rowC (rs ++ [r]) (xs ++ [x]) = _; rw [No rs xs (by simpa using h)]; simp [rowC]
theorem Jf8 : ∀ (rs : List Rp) (xs : List Rv), rs.length = xs.length → ∀ i, (hi : i < rs.length) → (hx : i < xs.length) → ∀ j, j < 5 → (rowC rs xs)[5 * i + j]? = (Kq rs[i] xs[i])[j]?
  | [], _, _, i, hi, _, _, _ => by simp at hi
  | _ :: _, [], h, _, _, _, _, _ => by simp at h
  | a :: rs, b :: xs, h, 0, _, _, j, hj => by
    show (Kq a b ++ rowC rs xs)[5 * 0 + j]? = _; rw [List.getElem?_append_left (by simp [Kq]; omega)]; simp
  | a :: rs, b :: xs, h, i + 1, hi, hx, j, hj => by
    show (Kq a b ++ rowC rs xs)[5 * (i + 1) + j]? = _; rw [List.getElem?_append_right (by simp [Kq]; omega)]; have := Jf8 rs xs (by simpa using h) i (by simpa using hi) (by simpa using hx) j hj; simp only [Kq, List.length_cons, List.length_nil] at this ⊢; rw [show 5 * (i + 1) + j - (0 + 1 + 1 + 1 + 1 + 1) = 5 * i + j by omega, this]; simp
def Reps (T : Nat → Prop) (B : Nat) (wr : World) (v : Value) (rs : List Rp) : Prop :=
  ∃ xs : List Rv, rs.length = xs.length ∧ wr.ownsRow B 34 5 v rs.length (rowC rs xs) ∧ (∀ g, v.ownBlock = some g → T g) ∧
    ∀ i, (hi : i < rs.length) → (hx : i < xs.length) → NumsW (fun b => T b ∧ B ≤ b ∧ v.ownBlock ≠ some b) wr (.slice xs[i].so xs[i].sn xs[i].sc) rs[i].sh ∧ NumsW (fun b => T b ∧ B ≤ b ∧ v.ownBlock ≠ some b) wr (.slice xs[i].co xs[i].cn xs[i].cc) rs[i].cs
theorem Jjx (T : Nat → Prop) (B : Nat) (w : World) : Reps T B w (.slice none 0 0) [] := ⟨[], rfl, World.ownsRow_nil _ _ _ _, (fun g h => by cases h), fun i hi => absurd hi (Nat.not_lt_zero i)⟩
theorem KeepS.lowc {S : Nat → Prop} {w w' : World} (h : KeepS S w w') {b o : Nat} (hb : b < w.heap.size) (hs : 6 ≤ b → S b) : w'.cell? ⟨b, o, none⟩ = w.cell? ⟨b, o, none⟩ := by
  by_cases h6 : 6 ≤ b
  · exact h.cell hb (hs h6)
  · exact World.cell?_of_block (Bs.block h b hb (fun hn => h6 hn.2))
def Txts (P : Nat → Prop) (w : World) (ao : Option Addr) (ls : List ByteArray) : Prop :=
  0 < ls.length → ∃ b off, ao = some ⟨b, off, none⟩ ∧ P b ∧ b < w.heap.size ∧ ∀ i, (h : i < ls.length) → w.cell? ⟨b, off + i, none⟩ = some (.string ls[i])
theorem Bs.grown {Q : Nat → Prop} {w w1 W1 w2 : World} {row : Option Nat} (h : Bs Q w w1) (hb : Below w1.heap.size w1 W1) (hg : W1.grownBy w2 row) (hr : ∀ g, row = some g → w.heap.size ≤ g) : Bs Q w w2 := by
  have hs := h.size; have hs1 := hb.size; have hs2 := hg.size; refine ⟨hg.os.trans (hb.os.trans h.os), hg.tape.trans (hb.tape.trans h.tape), hg.output.trans (hb.output.trans h.output), by omega, fun k hk hn => ?_⟩; rw [hg.block k (by omega) (fun e => by have := hr k e.symm; omega), hb.block k (by omega)]; exact h.block k hk hn
theorem Evs.stay {w w' : World} (h : Evs w) (hs : w.heap.size ≤ w'.heap.size) (hk : ∀ b, b < 6 → w'.heap[b]? = w.heap[b]?) : Evs w' := by
  obtain ⟨h0, ⟨e1, c1, d1⟩, ⟨e2, c2, d2⟩⟩ := h; exact ⟨Nat.le_trans h0 hs, ⟨e1, (World.cell?_of_block (a := ⟨4, 0, none⟩) (hk 4 (by omega))).trans c1, d1⟩, ⟨e2, (World.cell?_of_block (a := ⟨5, 0, none⟩) (hk 5 (by omega))).trans c2, d2⟩⟩
theorem DkF.grown {F : Int} {T : Nat → Prop} {db : Nat} {env : ByteArray → Option Arr} {N : Nat} {w1 W1 w2 : World} {row : Option Nat} (h : DkF F T db env N w1) (hb : Below w1.heap.size w1 W1) (hg : W1.grownBy w2 row) (hr : ∀ g, row = some g → T g) : DkF F (fun b => T b ∨ (w1.heap.size ≤ b ∧ b < w2.heap.size)) db env N w2 := by
  have hs1 := hb.size; have hs2 := hg.size; have hkeep : ∀ b, b < w1.heap.size → row ≠ some b → w2.heap[b]? = w1.heap[b]? := fun b hb' hn => by
    rw [hg.block b (by omega) (fun e => hn e.symm), hb.block b hb']
  have hr6 : ∀ b, row = some b → 6 ≤ b := fun b e => (h.lt (hr b e)).1
  obtain ⟨X, mo, h1, h2, h3⟩ := h; have h6 := h1.evs.1; have hE : Evs w2 := h1.evs.stay (by omega) (fun b hb => hkeep b (by omega) (fun e => by have := hr6 b e; omega)); refine ⟨X, mo, h1.stay (by omega) hE (fun b hb hm => hkeep b hb (fun e => ?_)), fun b hb => by have := h2 b hb; omega, fun b hb => ?_⟩
  · obtain ⟨_, _, a3, a4, a5⟩ := h3 b (hr b e); rcases hm with hm | hm | hm
    · exact a3 hm
    · exact a4 hm
    · exact a5 hm
  · rcases hb with hb | ⟨k1, k2⟩
    · obtain ⟨a1, a2, a3⟩ := h3 b hb; exact ⟨a1, by omega, a3⟩
    · exact ⟨by omega, k2, fun hx => by have := h2 b hx; omega, by have := h1.lt; omega, fun e => by have := h1.moLt b e; omega⟩
theorem Nw {w w' : World} {B : Nat} {t : TypeId} {size : Nat} {v : Value} {n : Nat} {xs : List Value} (h : w.ownsRow B t size v n xs) (hk : ∀ g, v.ownBlock = some g → w'.heap[g]? = w.heap[g]?) : w'.ownsRow B t size v n xs := by
  obtain ⟨hl, ⟨rfl, h0⟩ | ⟨g, cap, cur, rfl, hg, hc, r⟩⟩ := h
  · exact ⟨hl, Or.inl ⟨rfl, h0⟩⟩
  · exact ⟨hl, Or.inr ⟨g, cap, cur, rfl, hg, (hk g rfl).trans hc, r⟩⟩
theorem Jgh {T : Nat → Prop} {B : Nat} {wr w1 W1 w2 : World} {v v' : Value} {rs : List Rp} {xs : List Rv} {r : Rp} {x : Rv} {m : Nat} (hB : B ≤ wr.heap.size) (hm : wr.heap.size ≤ m) (hs1 : wr.heap.size ≤ w1.heap.size)
    (hxl : rs.length = xs.length) (hown : wr.ownsRow B 34 5 v rs.length (rowC rs xs)) (hob : ∀ g, v.ownBlock = some g → T g)
    (hnum : ∀ i, (hi : i < rs.length) → (hx : i < xs.length) → NumsW (fun b => T b ∧ B ≤ b ∧ v.ownBlock ≠ some b) wr (.slice xs[i].so xs[i].sn xs[i].sc) rs[i].sh ∧ NumsW (fun b => T b ∧ B ≤ b ∧ v.ownBlock ≠ some b) wr (.slice xs[i].co xs[i].cn xs[i].cc) rs[i].cs)
    (hT : ∀ b, T b → b < wr.heap.size → w1.heap[b]? = wr.heap[b]?) (n1 : NumsW (fun b => m ≤ b) w1 (.slice x.so x.sn x.sc) r.sh) (n2 : NumsW (fun b => m ≤ b) w1 (.slice x.co x.cn x.cc) r.cs)
    (hb : Below w1.heap.size w1 W1) (hg : W1.grownBy w2 v.ownBlock) (h2 : w2.ownsRow B 34 5 v' (rs.length + 1) (rowC rs xs ++ Kq r x)) (hat : v'.ownBlock = v.ownBlock ∨ v'.ownBlock = some W1.heap.size) :
    Reps (fun b => (T b ∨ (m ≤ b ∧ b < w1.heap.size)) ∨ (w1.heap.size ≤ b ∧ b < w2.heap.size)) B w2 v' (rs ++ [r]) := by
  have hsW := hb.size; have hs2 := hg.size; have hlt : ∀ g, v.ownBlock = some g → g < wr.heap.size := fun g h => (hown.lt g h).2
  have hblk : ∀ b, b < w1.heap.size → v.ownBlock ≠ some b → w2.heap[b]? = w1.heap[b]? := fun b hb' hn => by
    rw [hg.block b (by omega) (fun e => hn e.symm), hb.block b hb']
  refine ⟨xs ++ [x], by simp [hxl], ?_, ?_, ?_⟩
  · rw [No rs xs hxl]; simpa using h2
  · intro g hg'; have hlt2 := (h2.lt g hg').2; rcases hat with e | e
    · rw [e] at hg'; exact Or.inl (Or.inl (hob g hg'))
    · rw [e] at hg'; injection hg' with hg'; exact Or.inr ⟨by omega, hlt2⟩
  · have hnew : ∀ b, b < w1.heap.size → v.ownBlock ≠ some b → v'.ownBlock ≠ some b := fun b hb' hn => by
      rcases hat with e | e
      · rw [e]; exact hn
      · rw [e]; intro h; injection h with h; omega
    have old : ∀ {v0 : Value} {ys : List Int}, NumsW (fun b => T b ∧ B ≤ b ∧ v.ownBlock ≠ some b) wr v0 ys → NumsW (fun b => ((T b ∨ (m ≤ b ∧ b < w1.heap.size)) ∨ (w1.heap.size ≤ b ∧ b < w2.heap.size)) ∧ B ≤ b ∧ v'.ownBlock ≠ some b) w2 v0 ys := fun h => by
      have h1 := (h.imp (Q := fun b => (T b ∧ B ≤ b ∧ v.ownBlock ≠ some b) ∧ b < wr.heap.size) (fun b hb hl => ⟨hb, hl⟩)).keep (w' := w2) (by omega) (fun b hb hl => by rw [hblk b (by omega) hb.1.2.2, hT b hb.1.1 hl]); exact h1.imp (fun b hb hl => ⟨Or.inl (Or.inl hb.1.1), hb.1.2.1, hnew b (by omega) hb.1.2.2⟩)
    have new : ∀ {v0 : Value} {ys : List Int}, NumsW (fun b => m ≤ b) w1 v0 ys → NumsW (fun b => ((T b ∨ (m ≤ b ∧ b < w1.heap.size)) ∨ (w1.heap.size ≤ b ∧ b < w2.heap.size)) ∧ B ≤ b ∧ v'.ownBlock ≠ some b) w2 v0 ys := fun h => by
      have hn : ∀ b, m ≤ b → v.ownBlock ≠ some b := fun b hb e => by have := hlt b e; omega
      have h1 := (h.imp (Q := fun b => m ≤ b ∧ b < w1.heap.size) (fun b hb hl => ⟨hb, hl⟩)).keep (w' := w2) (by omega) (fun b hb hl => hblk b hl (hn b hb.1)); exact h1.imp (fun b hb hl => ⟨Or.inl (Or.inr hb), by omega, hnew b hb.2 (hn b hb.1)⟩)
    intro i hi hx; by_cases h : i < rs.length
    · have hx' : i < xs.length := by omega
      rw [List.getElem_append_left h, List.getElem_append_left hx']; exact ⟨old (hnum i h hx').1, old (hnum i h hx').2⟩
    · have hi' : i = rs.length := by simp at hi; omega
      have e1 : (rs ++ [r])[i] = r := by
        subst hi'; simp
      have e2 : (xs ++ [x])[i] = x := by
        have : i = xs.length := by omega
        subst this; simp
      rw [e1, e2]; exact ⟨new n1, new n2⟩
theorem Tryz.info34 : (Tryz.prog.info? 34).map (fun i => (i.zero, i.size, i.bytes)) = some (some (.agg #[.int .i64 0, .int .i64 0, .slice none 0 0, .slice none 0 0, .int .i64 0]), 5, 72) := by kernel_rfl
end Go.Proofs.YtjobgpahajhbnabGreatDoor
namespace Go.Proofs.YtjobgpahajhbnabGreatDoor
open Go.ChangeShapes Go.WideShapes Go.ChangeAt Go.WideMaps Go.WideElems Go.RowKit
theorem Tryz.cells9 : Tryz.prog.cellsOf 9 = 1 := by kernel_rfl
theorem Jmg {H : Type} {enc : TypeId × Value → H} {W : World} {ao : Option Addr} {len cap : Nat} {d : DataW H} {p : List MemPlace} (h : DataW.Trod enc Tryz.prog W 0 (fun _ => true) true 22 (.slice ao len cap) d p) :
    ∃ ls : List ByteArray, ls.length = len ∧ (∀ s ∈ ls, s.size ≤ 9223372036854775807) ∧ Txts (fun _ => True) W ao ls ∧ len ≤ cap ∧ cap ≤ 9223372036854775807 ∧ (∀ a, ao = some a → a.spot = none ∨ len = 0) := by
  obtain ⟨fuel, hf⟩ := h; rcases Deep.open_slice1 Tryz.underlying22 Tryz.cells9 hf with ⟨hcs, _⟩ | ⟨a, len', cap', m, n, V, D, Pl, hcs, _, hl, hm, hmm, _, hel⟩
  · have hcs : [Value.slice ao len cap] = [.slice none 0 0] := hcs; obtain ⟨rfl, rfl, rfl⟩ : ao = none ∧ len = 0 ∧ cap = 0 := by simpa using hcs
    exact ⟨[], rfl, (fun _ h => by cases h), fun h => absurd h (by simp), by omega, by omega, fun a h => by cases h⟩
  · have hcs : [Value.slice ao len cap] = [.slice (some a) len' cap'] := hcs; obtain ⟨rfl, rfl, rfl⟩ : ao = some a ∧ len = len' ∧ cap = cap' := by simpa using hcs
    have hcb : cap ≤ 9223372036854775807 := by unfold maxLen at hm; omega
    have hlm : len ≤ m := by rw [hmm]; split <;> omega
    have hlb : len ≤ 9223372036854775807 := by unfold maxLen at hm; omega
    obtain ⟨X, hX⟩ := Deep.choose_lt (n := len) (p := fun i (x : ByteArray) => W.cell? (a.add i) = some (.string x) ∧ x.size ≤ 9223372036854775807) (fun i hi => by
      obtain ⟨h1, h2⟩ := hel i (by omega); obtain ⟨x, ex, _, hw⟩ := DataW.trod_string Tryz.underlying9 h2; have ex : V i = .string x := by simpa using ex
      exact ⟨x, by rw [h1, ex], hw⟩)
    obtain ⟨b, off, spot⟩ := a; by_cases hz : len = 0
    · subst hz; exact ⟨[], rfl, (fun _ h => by cases h), fun h => absurd h (by simp), by omega, by omega, fun a h => Or.inr rfl⟩
    have hspot : spot = none := by simpa [Addr.add] using World.cell?_spot (hX 0 (by omega)).1
    subst hspot; refine ⟨(List.range len).map X, by simp, ?_, fun _ => ⟨b, off, rfl, trivial, ?_, ?_⟩, by omega, by omega, fun a h => by cases h; exact Or.inl rfl⟩
    · intro c hc; simp only [List.mem_map, List.mem_range] at hc; obtain ⟨i, hi, rfl⟩ := hc; exact (hX i hi).2
    · have := (hX 0 (by omega)).1; exact Vp (o := off) (by simpa [Addr.add] using this)
    · intro i hi; simp only [List.length_map, List.length_range] at hi; have := (hX i hi).1; rw [add_plain] at this; simpa using this
end Go.Proofs.YtjobgpahajhbnabGreatDoor
namespace Go.Proofs.YtjobgpahajhbnabGreatDoor
open Go.RowKit Go.Proofs Go.Maps
structure Ks (env : ByteArray → Option Arr) (n : Nat) (ks : List (List UInt8)) : Prop where
  nd : ks.Nodup
  mem : ∀ x, x ∈ ks ↔ (env ⟨List.toArray x⟩).isSome = true
  few : ks.length ≤ n
end Go.Proofs.YtjobgpahajhbnabGreatDoor
namespace Go.Proofs.YtjobgpahajhbnabGreatDoor
open Go.RowKit Go.Proofs Go.Maps
attribute [local go_sem ↓] Go.wp_at_zero Go.wp_at_succ
set_option maxHeartbeats 2000000 in
set_option maxRecDepth 20000 in
theorem Jjo {F : Int} {S : Nat → Prop} {env : ByteArray → Option Arr} {db N : Nat} (h0 : 0 ≤ F) (hF : F ≤ 1000) (he : EnvOk env) (w : World) (ao : Option Addr) (n cap : Nat) (ls : List ByteArray) (hn : ls.length = n) (hn50 : n ≤ 50) (hN : N + n < 1000)
    (hm : ∀ s ∈ ls, s.size ≤ 9223372036854775807) (hT : Txts (fun b => 6 ≤ b → S b) w ao ls) (hD : DkF F S db env N w) :
    Calls Tryz.prog 9 #[.pointer (some ⟨db, 0, none⟩), .slice ao n cap] w fun e w' => ∃ v T, e = .returned v ∧ (∀ b, S b → T b) ∧ DkF F T db (Qm F env ls) (N + n) w' ∧ KeepS S w w' ∧ Reps T w.heap.size w' v (K5 F env ls) := by
  obtain ⟨i0, hi, hz0, hz1, hz2⟩ := info_parts Tryz.info34; have HR : Hid (∀ (k : Nat) (hk : k < ls.length) (T : Nat → Prop) (wr : World), DkF F T db (Qm F env (ls.take k)) (N + k) wr → Calls Tryz.prog 20 #[.pointer (some ⟨db, 0, none⟩), .string ls[k]] wr (RepO F T db (Qm F env (ls.take (k + 1))) (N + k + 1) wr (ansR (Qm F env (ls.take k)) F ls[k]))) := hide (fun k hk T wr hd => by
    have := Jmu h0 hF (F0 h0 (ls.take k) env he) (by omega) (hm _ (List.getElem_mem hk)) wr hd; rw [List.take_succ_eq_append_getElem hk, G8]; exact this)
  have HT := hide hT; have HD := hide hD; have HI := hide hi; have HZ0 := hide hz0; have HZ1 := hide hz1; have HZ2 := hide hz2; have HSl : Hid (∀ b, S b → b < w.heap.size) := hide (fun b h => (hD.lt h).2.1); clear hT hD hi hz0 hz1 hz2 hm he h0 hF; subst hn; have hnI : (ls.length : Int) ≤ 50 := by omega
  go_enter Tryz.func9, Tryz.ntmps9; go_wp2_with fail; go_loopw [5, 17] (fun v i wr => ∃ k : Nat, i = .int .i64 k ∧ k ≤ ls.length ∧ ∃ T : Nat → Prop, (∀ b, S b → T b) ∧ DkF F T db (Qm F env (ls.take k)) (N + k) wr ∧ KeepS S w wr ∧ Reps T w.heap.size wr v (K5 F env (ls.take k))) (fun _ i _ => ls.length - (intOf i).toNat)
  case atStart => exact ⟨0, rfl, Nat.zero_le _, S, fun _ h => h, Ja HD, KeepS.of (Below.refl _ _), Jjx _ _ _⟩
  case round =>
    obtain ⟨k, rfl, hk, T, hST, hd, hks, hrp⟩ := hrel; have HKS := hide hks; have HST := hide hST; have HDk := hide hd; have hwr : w.heap.size ≤ wr.heap.size := Bs.size hks; by_cases hkl : k < ls.length
    · obtain ⟨lb, lo, rfl, hP, hlb, hcell⟩ := Ja HT (by omega); have hc : wr.cell? ⟨lb, lo + k, none⟩ = some (.string ls[k]) := (hks.lowc (b := lb) (o := lo + k) hlb hP).trans (hcell k hkl); have HC := hide (Ja HR k hkl T wr hd); obtain ⟨xs, hxl, hown, hob, hnum⟩ := hrp; have hrl : (K5 F env (ls.take k)).length = k := by rw [Gf]; simp; omega
      have HTk : Hid (K5 F env (ls.take (k + 1)) = K5 F env (ls.take k) ++ [ansR (Qm F env (ls.take k)) F ls[k]]) := hide (by rw [List.take_succ_eq_append_getElem hkl, Fd]); obtain ⟨s, hs⟩ : ∃ s, ls[k] = s := ⟨_, rfl⟩; rw [hs] at hc HC HTk; obtain ⟨r, hr⟩ : ∃ r, ansR (Qm F env (ls.take k)) F s = r := ⟨_, rfl⟩; rw [hr] at HC HTk; obtain ⟨rs, hrs⟩ : ∃ rs, K5 F env (ls.take k) = rs := ⟨_, rfl⟩; rw [hrs] at HTk hxl hown hnum hrl; have HOwn := hide hown; have HOb := hide hob; have HNum := hide hnum; have HXl := hide hxl; have HRl := hide hrl; have hk0 : (0 : Int) ≤ (k : Int) := by omega
      have hk1 : (k : Int) < (ls.length : Int) := by omega
      clear hks hST hd hP hcell hown hob hnum hxl hrl hr hrs hs HR; go_wp2_with fail; refine (Ja HC).mono ?_; rintro e w1 ⟨m, so, sn, sc, co, cn, cc, hwm, rfl, n1, n2, hd1, hk1'⟩; have hs1 := Bs.size hk1'; have HO1 : Hid (w1.ownsRow w.heap.size 34 5 u5 rs.length (rowC rs xs)) := hide (Nw (Ja HOwn) (fun g hg => hk1'.block ((Ja HOwn).lt g hg).2 (Ja HOb g hg))); have HN1 := hide n1; have HN2 := hide n2; have HD1 := hide hd1; have HK1 := hide hk1'; have HRl2 := Ja HRl; clear n1 n2 hd1 hk1' HC; go_wp2_with (at_builtin; refine wpList_append_own_at _ rfl _ _ 28 rfl w.heap.size 34 i0 (.agg #[.int .i64 0, .int .i64 0, .slice none 0 0, .slice none 0 0, .int .i64 0]) 5 72 Tryz.underlying28 (Ja HI) (Ja HZ0) (Ja HZ1) (Ja HZ2) rfl (by decide) _ _ _ rfl ((Ja HO1).alloc _) ⟨w1.heap.size, 0, none⟩ 1 1 [.int .i64 r.er, .int .i64 r.at_, .slice so sn sc, .slice co cn cc, .int .i64 r.cost] rfl rfl ?c1 ?c2 ?c3 ?c4 ?c5 ?_)
      case c1 =>
        intro j u hj; match j, hj with
        | 0, hj => simp at hj; subst hj; simp [Addr.add]
        | 1, hj => simp at hj; subst hj; simp [Addr.add]
        | 2, hj => simp at hj; subst hj; simp [Addr.add]
        | 3, hj => simp at hj; subst hj; simp [Addr.add]
        | 4, hj => simp at hj; subst hj; simp [Addr.add]
      case c2 => intro u hu; simp at hu; rcases hu with rfl | rfl | rfl | rfl | rfl <;> rfl
      case c3 => unfold maxLen; omega
      case c4 => omega
      case c5 => simp; omega
      · intro v' w2 hown2 hgrow _ hat; have hbW : Below w1.heap.size w1 (w1.alloc (.cells #[.int .i64 r.er, .int .i64 r.at_, .slice so sn sc, .slice co cn cc, .int .i64 r.cost] 34)) := (Below.refl _ _).alloc (Nat.le_refl _) _; have HRS := hide (Jgh (x := ⟨so, sn, sc, co, cn, cc⟩) hwr hwm hs1 (Ja HXl) (Ja HOwn) (Ja HOb) (Ja HNum) (fun b hb hl => (Ja HK1).block hl hb) (Ja HN1) (Ja HN2) hbW hgrow (by rw [Ja HRl]; exact hown2) (by simpa using hat)); have HDG := hide ((Ja HD1).grown hbW hgrow (fun g hg => Or.inl (Ja HOb g hg))); have HKG : Hid (KeepS S w w2) := hide (Bs.grown (((Ja HKS).trans (Ja HK1) (fun b _ h => Ja HST b h))) hbW hgrow (fun g hg => ((Ja HOwn).lt g hg).1)); clear hown2 hgrow hat hbW; go_wp2_with fail; go_roundw
        case rel => exact ⟨k + 1, by go_num, by omega, _, fun b h => Or.inl (Or.inl (Ja HST b h)), Ja HDG, Ja HKG, by rw [Ja HTk]; exact Ja HRS⟩
        case measure => simp [intOf]; omega
    · have hke : k = ls.length := by omega
      subst hke; have HRP := hide hrp; clear hks hST hd hrp; go_wp2_with fail; refine bodyPost_ret (v := u5) (by simp [results, Tryz.results9, go_sem]) rfl ⟨u5, T, rfl, Ja HST, ?_, Ja HKS, ?_⟩
      · have := Ja HDk; rw [List.take_length] at this; exact this
      · have := Ja HRP; rw [List.take_length] at this; exact this
end Go.Proofs.YtjobgpahajhbnabGreatDoor
namespace Go.Proofs.YtjobgpahajhbnabGreatDoor
open Go.RowKit Go.Proofs Go.Maps
attribute [local go_sem ↓] Go.wp_at_zero Go.wp_at_succ
theorem Jj9 {w : World} {B B' : Nat} {t : TypeId} {size : Nat} {v : Value} {n : Nat} {xs : List Value} (h : w.ownsRow B t size v n xs) (hb : B' ≤ B) : w.ownsRow B' t size v n xs := by
  obtain ⟨hl, h0 | ⟨g, cap, cur, e, hg, r⟩⟩ := h
  · exact ⟨hl, Or.inl h0⟩
  · exact ⟨hl, Or.inr ⟨g, cap, cur, e, Nat.le_trans hb hg, r⟩⟩
theorem Jm4 {F : Int} {S : Nat → Prop} {db : Nat} {env : ByteArray → Option Arr} {N : Nat} {w : World} (hD : DkF F S db env N w) {n : Nat} {ks : List (List UInt8)} (hk : Ks env n ks) (hso : ks.mergeSort leB = ks) (hn : n ≤ 1000) :
    Calls Tryz.prog 10 #[.pointer (some ⟨db, 0, none⟩)] w fun e w' => ∃ v, e = .returned v ∧ w'.ownsRow w.heap.size 9 1 v ks.length (ks.map encStr) ∧ Below w.heap.size w w' := by
  have hfew := hk.few; obtain ⟨X, mo, h1, h2, h3⟩ := hD; have hm := h1.map; have c1 := h1.c1; cases mo with
  | none =>
    have hks : ks = [] := by
      cases ks with
      | nil => rfl
      | cons x r =>
        have hx := (hk.mem x).1 (by simp); rw [hm] at hx; cases hx
    subst hks; refine (Jeg db w c1).mono ?_; rintro e w' ⟨rfl, hb⟩; exact ⟨_, rfl, World.ownsRow_nil _ _ _ _, hb⟩
  | some mb =>
    obtain ⟨_, _, _, D, hown, hH⟩ := hm; have hC : Collected D (fun _ => false) ks := ⟨hk.nd, fun x => by
      rw [hk.mem x]; have hx := hH.2 ⟨List.toArray x⟩; have hk' : keyT ⟨List.toArray x⟩ = .string x := by simp [keyT]
      cases he : env ⟨List.toArray x⟩ with
      | none => rw [he] at hx; rw [hk'] at hx; simp [hx]
      | some a => rw [he] at hx; obtain ⟨v, hv, _⟩ := hx; rw [hk'] at hv; simp [hv]⟩
    have hP := hC.perm hown (Maps.string_keyed Tryz.underlying9) Tryz.underlying9 (fun _ => rfl); have hsz : Maps.size D = ks.length := by
      obtain ⟨es, rfl⟩ := hH.1; rw [hP.length_eq]; simp [strKeys, size_eq]
    refine (Jhc db mb N D Jm w c1 hown (by rw [hsz]; unfold maxLen; omega) (by rw [hsz]; omega)).mono ?_; rintro e w' ⟨v, ss, rfl, hS, hrow, hb⟩; have hl : ss.length = ks.length := (hS.trans hP.symm).length_eq; have hms : ss.mergeSort leB = ks := (mergeSort_of_perm (hS.trans hP.symm)).trans hso; have hrow' : w'.ownsRow (w.heap.size + 1) 9 1 v ss.length (ks.map encStr) := by
      rw [← hms]; exact hrow
    rw [hl] at hrow'; exact ⟨v, rfl, Jj9 hrow' (by omega), hb⟩
end Go.Proofs.YtjobgpahajhbnabGreatDoor
namespace Go.Proofs.YtjobgpahajhbnabGreatDoor
open Go.RowKit Go.Proofs Go.Maps
theorem DkE.toF {S : Nat → Prop} {db : Nat} {env : ByteArray → Option Arr} {N : Nat} {w : World} (h : DkE S db env N w) : DkF 1000 S db env N w := by
  obtain ⟨X, mo, h1, h2, h3⟩ := h; exact ⟨X, mo, h1, h2, h3⟩
theorem DkF.toE {S : Nat → Prop} {db : Nat} {env : ByteArray → Option Arr} {N : Nat} {w : World} (h : DkF 1000 S db env N w) : DkE S db env N w := by
  obtain ⟨X, mo, h1, h2, h3⟩ := h; exact ⟨X, mo, h1, h2, h3⟩
end Go.Proofs.YtjobgpahajhbnabGreatDoor
namespace Go.Proofs.YtjobgpahajhbnabGreatDoor
open Go.RowKit Go.Proofs Go.Maps
attribute [local go_sem ↓] Go.wp_at_zero Go.wp_at_succ
theorem Reps.mono {T U : Nat → Prop} {B : Nat} {w : World} {v : Value} {rs : List Rp} (h : Reps T B w v rs) (hU : ∀ b, T b → B ≤ b → U b) : Reps U B w v rs := by
  obtain ⟨xs, h1, h2, h3, h4⟩ := h; refine ⟨xs, h1, h2, fun g hg => hU g (h3 g hg) (h2.lt g hg).1, fun i hi hx => ?_⟩; obtain ⟨a1, a2⟩ := h4 i hi hx; exact ⟨a1.imp (fun b hb _ => ⟨hU b hb.1 hb.2.1, hb.2⟩), a2.imp (fun b hb _ => ⟨hU b hb.1 hb.2.1, hb.2⟩)⟩
section
variable {S : Nat → Prop} {d e : Nat} {env env2 : ByteArray → Option Arr} {N N2 : Nat} {w : World}
theorem Jbd {nm : List UInt8} {ko : Option Addr} {kn kc : Nat} {l : List Int} (h : Duo 1000 S d env N e env2 N2 w) (hnm : NameT nm) (hnl : nm.length ≤ 4) (hN : N < 1000) (he : EnvOk env) (hn : Nums S w (.slice ko kn kc) l) (hl : l.length ≤ 24) (hf : Few l) :
    Calls Tryz.prog 16 #[.pointer (some ⟨d, 0, none⟩), .string ⟨nm.toArray⟩, .slice ko kn kc] w fun e' w' => e' = .returned (.bool true) ∧ Duo 1000 S d (upd env ⟨nm.toArray⟩ (rowA l)) (N + 1) e env2 N2 w' ∧ KeepS S w w' := by
  obtain ⟨T, hd, hST, hpost⟩ := h.left; refine (Jmp T d env N nm hnm hnl w hd.toE hN he ko kn kc l (hn.imp (fun b h _ => hST b h)) hl hf).mono ?_; rintro e' w' ⟨rfl, h1, h2⟩; exact ⟨rfl, (hpost _ _ w' T (fun _ h => h) h1.toF h2).less (fun b h => Or.inl h), h2.lower (fun b _ h => hST b h)⟩
theorem Jf5 {ao : Option Addr} {n cap : Nat} {ls : List ByteArray} (h : Duo 1000 S d env N e env2 N2 w) (he : EnvOk env) (hn : ls.length = n) (hn50 : n ≤ 50) (hN : N + n < 1000) (hm : ∀ s ∈ ls, s.size ≤ 9223372036854775807) (hT : Txts (fun b => 6 ≤ b → S b) w ao ls) :
    Calls Tryz.prog 9 #[.pointer (some ⟨d, 0, none⟩), .slice ao n cap] w fun e' w' => ∃ v U, e' = .returned v ∧ (∀ b, S b → U b) ∧ Duo 1000 U d (Qm 1000 env ls) (N + n) e env2 N2 w' ∧ KeepS S w w' ∧ Reps U w.heap.size w' v (K5 1000 env ls) := by
  obtain ⟨T, hd, hST, hpost⟩ := h.left; refine (Jjo (by decide) (by decide) he w ao n cap ls hn hn50 hN hm (fun h0 => ?_) hd).mono ?_
  · obtain ⟨b, off, e1, e2, e3⟩ := hT h0; exact ⟨b, off, e1, fun h6 => hST b (e2 h6), e3⟩
  · rintro e' w' ⟨v, T', rfl, hTT, h1, h2, h3⟩; refine ⟨v, _, rfl, fun b h => Or.inl h, hpost _ _ w' T' hTT h1 h2, h2.lower (fun b _ h => hST b h), h3.mono (fun b hb hB => Or.inr ⟨hb, hB⟩)⟩
theorem N8 (h : Duo 1000 S d env N e env2 N2 w) {n : Nat} {ks : List (List UInt8)} (hk : Ks env n ks) (hso : ks.mergeSort leB = ks) (hn : n ≤ 1000) :
    Calls Tryz.prog 10 #[.pointer (some ⟨d, 0, none⟩)] w fun e' w' => ∃ v, e' = .returned v ∧ w'.ownsRow w.heap.size 9 1 v ks.length (ks.map encStr) ∧ Below w.heap.size w w' := by
  obtain ⟨T, hd, hST, hpost⟩ := h.left; exact Jm4 hd hk hso hn
theorem Jf7 {s : ByteArray} {cs : List Int} {ko : Option Addr} {kn kc : Nat} {Q : Nat → Prop} (h : Duo 1000 S d env N e env2 N2 w) (he : EnvOk env) {c : Nat} (ha : ans env 1000 s = .inr (rowA cs, c)) (hn : (Yp s).size = 0) (hcs : Nums Q w (.slice ko kn kc) cs) (hl : cs.length ≤ 200) :
    Calls Tryz.prog 19 #[.pointer (some ⟨d, 0, none⟩), .string s, .slice ko kn kc] w fun e' w' => e' = .returned (.bool true) ∧ Below w.heap.size w w' := by
  obtain ⟨T, hd, hST, hpost⟩ := h.left; exact Jhu (DkF 1000 T d env N) (DkF.lasts T d env N) d s cs c (Jek (by decide) (by decide) he ha hn) w hd ko kn kc hcs hl
end
end Go.Proofs.YtjobgpahajhbnabGreatDoor
