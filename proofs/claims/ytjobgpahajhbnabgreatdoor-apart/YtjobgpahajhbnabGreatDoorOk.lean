import Derived.Test.YtjobgpahajhbnabGreatDoorOe
import Derived.BigQuiet
namespace Go.Proofs.YtjobgpahajhbnabGreatDoor
open Go.RowKit Go.Proofs Go.Maps
attribute [local go_sem ↓] Go.wp_at_zero Go.wp_at_succ
theorem Jln {env : ByteArray → Option Arr} {F : Int} {s : ByteArray} (h0 : 0 ≤ F) (he : EnvOk env) : (ansR env F s).sh.length ≤ 200 ∧ (ansR env F s).cs.length ≤ 200 := by
  unfold ansR; cases h : ans env F s with
  | inl e => exact ⟨Nat.zero_le _, Nat.zero_le _⟩
  | inr x =>
    have hok := (Jdh h0 he h).1; refine ⟨?_, hok.few⟩; have := hok.rank; simp; omega
theorem Ja2 {F : Int} (h0 : 0 ≤ F) : ∀ (l : List ByteArray) (env : ByteArray → Option Arr), EnvOk env → ∀ r ∈ K5 F env l, r.sh.length ≤ 200 ∧ r.cs.length ≤ 200
  | [], _, _, r, h => by cases h
  | s :: l, env, he, r, h => by
    rcases List.mem_cons.1 (show r ∈ ansR env F s :: K5 F (envA env F s) l from h) with rfl | h
    · exact Jln h0 he
    · exact Ja2 h0 l _ (Jh7 h0 he) r h
def LstW (P : Nat → Prop) (w : World) (v : Value) (n : Nat) : Prop := ∃ ys : List Int, ys.length = n ∧ NumsW P w v ys
theorem LstW.at_ {P : Nat → Prop} {w : World} {so : Option Addr} {sn sc n : Nat} (h : LstW P w (.slice so sn sc) n) : sn = n ∧ n ≤ sc ∧ (0 < n → ∃ b off, so = some ⟨b, off, none⟩ ∧ P b ∧ b < w.heap.size ∧ (∀ i, i < n → ∃ x, w.cell? ⟨b, off + i, none⟩ = some (.int .i64 x)) ∧ ∀ i, w.frozen? ⟨b, i, none⟩ = false) := by
  obtain ⟨ys, rfl, hn⟩ := h; obtain ⟨ao, cap, hv, hc, h1, _⟩ := hn.nums; injection hv with e1 e2 e3; subst e1 e3; refine ⟨e2, hc, fun h0 => ?_⟩; obtain ⟨b, off, rfl, hp, hl, hcell⟩ := h1 h0; exact ⟨b, off, rfl, hp, hl, fun i hi => ⟨_, hcell i hi⟩, fun i => hn.soft b off sn sc rfl (by omega) i⟩
theorem LstW.set {P : Nat → Prop} {w : World} {v : Value} {n : Nat} (h : LstW P w v n) (b j : Nat) (x y : Int) (hc : w.cell? ⟨b, j, none⟩ = some (.int .i64 y)) : LstW P (w.setCell ⟨b, j, none⟩ (.int .i64 x)) v n := by
  obtain ⟨ys, rfl, hn⟩ := h; obtain ⟨ao, cap, rfl, hcap, h1, hsp⟩ := hn.nums; by_cases h0 : 0 < ys.length
  · obtain ⟨b', off, rfl, hp, hl, hcell⟩ := h1 h0; refine ⟨(List.range ys.length).map (fun i => if b' = b ∧ off + i = j then x else ys.getD i 0), by simp, ⟨⟨some ⟨b', off, none⟩, cap, by simp, by simpa using hcap, fun _ => ⟨b', off, rfl, hp, by simpa using hl, fun i hi => ?_⟩, hsp⟩, fun b2 off2 n2 c2 e hn2 i => ?_⟩⟩
    · have hi' : i < ys.length := by simpa using hi
      by_cases e : b' = b ∧ off + i = j
      · obtain ⟨rfl, rfl⟩ := e; rw [World.cell?_setCell_same _ _ _ hc]; simp
      · have hne : (⟨b', off + i, none⟩ : Addr) ≠ ⟨b, j, none⟩ := fun e' => e (by injection e' with e1 e2; exact ⟨e1, e2⟩)
        rw [World.cell?_setCell_other _ _ _ _ hne.symm, hcell i hi']; simp [e, hi']
    · rw [World.frozen?_setCell]; exact hn.soft b2 off2 n2 c2 (by simpa using e) hn2 i
  · have hy : ys = [] := List.eq_nil_of_length_eq_zero (by omega); subst hy; refine ⟨[], rfl, ⟨⟨ao, cap, rfl, hcap, fun h => absurd h (by simp), hsp⟩, fun b2 off2 n2 c2 e hn2 i => ?_⟩⟩; rw [World.frozen?_setCell]; exact hn.soft b2 off2 n2 c2 e hn2 i
structure RW (U : Nat → Prop) (B : Nat) (w : World) (v : Value) (rs : List Rp) (xs : List Rv) : Prop where
  len : rs.length = xs.length
  own : w.ownsRow B 34 5 v rs.length (rowC rs xs)
  blk : ∀ g, v.ownBlock = some g → U g
  sh : ∀ i, (hi : i < rs.length) → (hx : i < xs.length) → LstW (fun b => U b ∧ B ≤ b ∧ v.ownBlock ≠ some b) w (.slice xs[i].so xs[i].sn xs[i].sc) rs[i].sh.length
  cs : ∀ i, (hi : i < rs.length) → (hx : i < xs.length) → LstW (fun b => U b ∧ B ≤ b ∧ v.ownBlock ≠ some b) w (.slice xs[i].co xs[i].cn xs[i].cc) rs[i].cs.length
theorem Reps.rw {U : Nat → Prop} {B : Nat} {w : World} {v : Value} {rs : List Rp} (h : Reps U B w v rs) : ∃ xs, RW U B w v rs xs := by
  obtain ⟨xs, h1, h2, h3, h4⟩ := h; exact ⟨xs, h1, h2, h3, fun i hi hx => ⟨_, rfl, (h4 i hi hx).1⟩, fun i hi hx => ⟨_, rfl, (h4 i hi hx).2⟩⟩
theorem RW.set {U : Nat → Prop} {B : Nat} {w : World} {v : Value} {rs : List Rp} {xs : List Rv} (h : RW U B w v rs xs) (b j : Nat) (x y : Int) (hb : v.ownBlock ≠ some b) (hc : w.cell? ⟨b, j, none⟩ = some (.int .i64 y)) : RW U B (w.setCell ⟨b, j, none⟩ (.int .i64 x)) v rs xs :=
  ⟨h.len, Nw h.own (fun g hg => RowKit.Below.heap_setCell _ _ _ _ (fun e => hb (by rw [hg]; exact congrArg some e))), h.blk, fun i hi hx => (h.sh i hi hx).set b j x y hc, fun i hi hx => (h.cs i hi hx).set b j x y hc⟩
theorem RW.mono {U V : Nat → Prop} {B : Nat} {w : World} {v : Value} {rs : List Rp} {xs : List Rv} (h : RW U B w v rs xs) (hV : ∀ b, U b → V b) : RW V B w v rs xs := by
  refine ⟨h.len, h.own, fun g hg => hV g (h.blk g hg), fun i hi hx => ?_, fun i hi hx => ?_⟩
  · obtain ⟨ys, e, hn⟩ := h.sh i hi hx; exact ⟨ys, e, hn.imp (fun b hb _ => ⟨hV b hb.1, hb.2⟩)⟩
  · obtain ⟨ys, e, hn⟩ := h.cs i hi hx; exact ⟨ys, e, hn.imp (fun b hb _ => ⟨hV b hb.1, hb.2⟩)⟩
theorem RW.below {U : Nat → Prop} {B : Nat} {w w' : World} {v : Value} {rs : List Rp} {xs : List Rv} (h : RW U B w v rs xs) (hb : Below w.heap.size w w') : RW U B w' v rs xs := by
  refine ⟨h.len, Ka h.own hb, h.blk, fun i hi hx => ?_, fun i hi hx => ?_⟩
  · obtain ⟨ys, e, hn⟩ := h.sh i hi hx; exact ⟨ys, e, hn.below hb⟩
  · obtain ⟨ys, e, hn⟩ := h.cs i hi hx; exact ⟨ys, e, hn.below hb⟩
theorem RW.form {U : Nat → Prop} {B : Nat} {w : World} {v : Value} {rs : List Rp} {xs : List Rv} (h : RW U B w v rs xs) (h0 : 0 < rs.length) : ∃ g cap, v = .slice (some ⟨g, 0, none⟩) rs.length cap ∧ U g ∧ B ≤ g ∧ g < w.heap.size ∧ rs.length ≤ cap ∧
    ∀ i, (hi : i < rs.length) → (hx : i < xs.length) → ∀ j, j < 5 → w.cell? ⟨g, 5 * i + j, none⟩ = (Kq rs[i] xs[i])[j]? := by
  have hown := h.own; obtain ⟨hl, ⟨rfl, e0⟩ | ⟨g, cap, cur, rfl, hg, hc, r⟩⟩ := h.own
  · omega
  · refine ⟨g, cap, rfl, h.blk g rfl, hg, (hown.lt g rfl).2, r.1, fun i hi hx j hj => ?_⟩; rw [hown.cellAt (5 * i + j) (by omega), Jf8 rs xs h.len i hi hx j hj]
theorem Nb {env : ByteArray → Option Arr} {F : Int} {s t : ByteArray} {p k : Nat} {a : Arr} (hp : (Ju s).1 = 0) (ht : Jmi s = some (.name t p, k)) (hk : k = (lexR s).1.length) (he : env t = some a) : ans env F s = .inr (a, 0) := by
  apply Jpf; unfold ansC; rw [if_pos hp, ht]; simp only [hk, if_true, Js, he]
theorem Jap {env : ByteArray → Option Arr} {F : Int} {s : ByteArray} (h : (Yp s).size = 0) : envA env F s = env := by
  unfold envA; cases ans env F s with
  | inl e => rfl
  | inr x => simp only [h, if_true]
theorem Jh6 {env : ByteArray → Option Arr} {F : Int} {s nm : ByteArray} {a : Arr} {c : Nat} (h : ans env F s = .inr (a, c)) (hn : Yp s = nm) (h0 : nm.size ≠ 0) : envA env F s = upd env nm a := by
  unfold envA; rw [h]; subst hn; simp only [h0, if_false]
end Go.Proofs.YtjobgpahajhbnabGreatDoor
namespace Go.Proofs.YtjobgpahajhbnabGreatDoor
open Go.RowKit Go.Proofs
attribute [local go_sem ↓] Go.wp_at_zero Go.wp_at_succ
def ls3 : List ByteArray := [⟨#[120]⟩, ⟨#[121, 32, 105, 115, 32, 120]⟩, ⟨#[120, 32, 99, 97, 116, 32, 120]⟩]
theorem Jnq (l o : List Int) : Qm 1000 (envY l o) ls3 = upd (envY l o) yT (rowA l) := by
  have h1 : envA (envY l o) 1000 ⟨#[120]⟩ = envY l o := Jap (by kernel_rfl); have h2 : envA (envY l o) 1000 ⟨#[121, 32, 105, 115, 32, 120]⟩ = upd (envY l o) yT (rowA l) :=
    Jh6 (c := 0) (Nb (t := ⟨#[120]⟩) (p := 5) (k := 3) (by kernel_rfl) (by kernel_rfl) (by kernel_rfl) (Jl6 l o)) (by kernel_rfl) (by decide)
  have h3 : envA (upd (envY l o) yT (rowA l)) 1000 ⟨#[120, 32, 99, 97, 116, 32, 120]⟩ = upd (envY l o) yT (rowA l) := Jap (by kernel_rfl); show Qm 1000 (envA (envY l o) 1000 ⟨#[120]⟩) [⟨#[121, 32, 105, 115, 32, 120]⟩, ⟨#[120, 32, 99, 97, 116, 32, 120]⟩] = _; rw [h1]; show Qm 1000 (envA (envY l o) 1000 ⟨#[121, 32, 105, 115, 32, 120]⟩) [⟨#[120, 32, 99, 97, 116, 32, 120]⟩] = _; rw [h2]; show envA (upd (envY l o) yT (rowA l)) 1000 ⟨#[120, 32, 99, 97, 116, 32, 120]⟩ = _; exact h3
def envF (l o : List Int) : ByteArray → Option Arr := upd (envY l o) yT (rowA l)
theorem Jo8 (l o : List Int) : envF l o ⟨#[120]⟩ = some (rowA l) := by
  unfold envF upd; rw [if_neg (by decide)]; exact Jl6 l o
theorem Jo7 (l o : List Int) : envF l o ⟨#[121]⟩ = some (rowA l) := by
  unfold envF upd; rw [if_pos (by rfl)]
def ksA : List (List UInt8) := [[120], [121]]
theorem G2 : ksA.mergeSort leB = ksA := List.mergeSort_of_pairwise (by unfold ksA leB; decide)
theorem G7 (l o : List Int) : Ks (envF l o) 2 ksA := by
  refine ⟨by decide, fun x => ?_, by decide⟩; unfold envF envY envX upd env0 ksA; by_cases h1 : x = [121]
  · subst h1; simp [yT]
  · by_cases h2 : x = [120]
    · subst h2; simp [yT]
    · simp [h1, h2, yT]
theorem Jpt {env : ByteArray → Option Arr} {l : List Int} (h : env ⟨#[120]⟩ = some (rowA l)) : ans env 1000 ⟨#[120]⟩ = .inr (rowA l, 0) := Nb (t := ⟨#[120]⟩) (p := 0) (k := 1) (by kernel_rfl) (by kernel_rfl) (by kernel_rfl) h
theorem Jps {env : ByteArray → Option Arr} {l : List Int} (h : env ⟨#[121]⟩ = some (rowA l)) : ans env 1000 ⟨#[121]⟩ = .inr (rowA l, 0) := Nb (t := ⟨#[121]⟩) (p := 0) (k := 1) (by kernel_rfl) (by kernel_rfl) (by kernel_rfl) h
theorem Jn6 : (Yp ⟨#[120]⟩).size = 0 := by kernel_rfl
theorem Jn5 : (Yp ⟨#[121]⟩).size = 0 := by kernel_rfl
theorem Ji3 {P : Nat → Prop} {w : World} {s : ByteArray} {b : Nat} (hP : P b) (hb : b < w.heap.size) (hc : w.cell? ⟨b, 0, none⟩ = some (.string s)) : Txts P w (some ⟨b, 0, none⟩) [s] := fun _ => ⟨b, 0, rfl, hP, hb, fun i hi => by
  have : i = 0 := by simpa using hi
  subst this; simpa using hc⟩
theorem Ji4 {P : Nat → Prop} {w : World} (hP : P w.heap.size) : Txts P (w.alloc (.cells #[.string ⟨#[120]⟩, .string ⟨#[121, 32, 105, 115, 32, 120]⟩, .string ⟨#[120, 32, 99, 97, 116, 32, 120]⟩] 9)) (some ⟨w.heap.size, 0, none⟩) ls3 := fun _ => ⟨w.heap.size, 0, rfl, hP, by simp, fun i hi => by
  have : i < 3 := hi
  match i, this with
  | 0, _ => simp [ls3]
  | 1, _ => simp [ls3]
  | 2, _ => simp [ls3]⟩
structure ApI (S U : Nat → Prop) (B : Nat) (db : Nat) (env env2 : ByteArray → Option Arr) (N2 : Nat) (v : Value) (rs : List Rp) (xs : List Rv) (w4 wr : World) : Prop where
  duo : Duo 1000 U db env 5 (db + 1) env2 N2 wr
  rw : RW U B wr v rs xs
  keep : KeepS S w4 wr
theorem ApI.set {S U : Nat → Prop} {B db : Nat} {env env2 : ByteArray → Option Arr} {N2 : Nat} {v : Value} {rs : List Rp} {xs : List Rv} {w4 wr : World} (h : ApI S U B db env env2 N2 v rs xs w4 wr) (hS : ∀ b, S b → b < B) {b j : Nat} (x : Int) {y : Int} (hP : U b ∧ B ≤ b ∧ v.ownBlock ≠ some b) (hc : wr.cell? ⟨b, j, none⟩ = some (.int .i64 y)) : ApI S U B db env env2 N2 v rs xs w4 (wr.setCell ⟨b, j, none⟩ (.int .i64 x)) :=
  ⟨h.duo.set hP.1 j _, h.rw.set b j x y hP.2.2 hc, h.keep.set (fun hb => by have := hS b hb; omega) (h.duo.at_ hP.1).1 j _⟩
end Go.Proofs.YtjobgpahajhbnabGreatDoor
