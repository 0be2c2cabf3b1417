import Derived.Test.YtjobgpahajhbnabGreatDoorFa
import Derived.Test.YtjobgpahajhbnabGreatDoorJc
import Derived.Test.YtjobgpahajhbnabGreatDoorKg
import Derived.KernelRfl
import Derived.Test.YtjobgpahajhbnabGreatDoorSh
import Derived.Maps.AppendAt
import Derived.BigQuiet
namespace Go.Proofs.YtjobgpahajhbnabGreatDoor
open Go.RowKit Go.Proofs Go.Maps
def Gg (S : List Tok) : Nat → Nat → Nat
  | 0, j => j
  | f + 1, j => bif kB (kr S) j 0 then Gg S f (j + 1) else j
theorem Gv {S : List Tok} : ∀ (f j : Nat), S.length ≤ j + f → j ≤ S.length → j ≤ Gg S f j ∧ Gg S f j ≤ S.length ∧ (∀ i, j ≤ i → i < Gg S f j → kB (kr S) i 0 = true) ∧ kB (kr S) (Gg S f j) 0 = false
  | 0, j, h, hj => by
    unfold Gg
    exact ⟨Nat.le_refl _, hj, fun i h1 h2 => by omega, Jcl (by omega) 0⟩
  | f + 1, j, h, hj => by
    unfold Gg
    cases hk : kB (kr S) j 0 with
    | false =>
      rw [cond_false]
      exact ⟨Nat.le_refl _, hj, fun i h1 h2 => by omega, hk⟩
    | true =>
      rw [cond_true]
      have hl : j < S.length := by
        obtain ⟨h1, _⟩ := Xv hk
        rw [Yu] at h1
        exact h1
      obtain ⟨a1, a2, a3, a4⟩ := Gv (S := S) f (j + 1) (by omega) (by omega)
      refine ⟨by omega, a2, fun i h1 h2 => ?_, a4⟩
      by_cases e : i = j
      · rw [e]; exact hk
      · exact a3 i (by omega) h2
def mkT (S : List Tok) : Nat → Bool → Nat → Nat → Option (Ex × Nat)
  | 0, _, _, _ => none
  | f + 1, true, j, o =>
    bif kB (kr S) j 0 then some (.num (Zg S j (Gg S S.length j)), Gg S S.length j)
    else bif kB (kr S) j 1 then some (.name (J5 S j).t (J5 S j).p, j + 1)
    else bif kB (kr S) j 4 && decide (o < 8) then
      match mkT S f false (j + 1) (o + 1) with
      | none => none
      | some q => bif kB (kr S) q.2 5 then some (q.1, q.2 + 1) else none
    else none
  | f + 1, false, j, o =>
    bif fB (kr S) j 1 then
      match mkT S f false (j + 1) o with
      | none => none
      | some q => some (.one (J5 S j).t (J5 S j).p q.1, q.2)
    else match mkT S f true j o with
      | none => none
      | some q => bif fB (kr S) q.2 2 then
          match mkT S f false (q.2 + 1) o with
          | none => none
          | some m => some (.two (J5 S q.2).t (J5 S q.2).p q.1 m.1, m.2)
        else some q
theorem Nr {S : List Tok} : ∀ (f : Nat) (b : Bool) (j o : Nat) (q : Ex × Nat), mkT S f b j o = some q → PX S b j o q.1 q.2
  | 0, _, _, _, _, h => by simp [mkT] at h
  | f + 1, true, j, o, q, h => by
    unfold mkT at h
    cases h0 : kB (kr S) j 0 with
    | true =>
      rw [h0, cond_true] at h
      obtain rfl := Option.some.inj h
      obtain ⟨h1, _⟩ := Xv h0
      rw [Yu] at h1
      obtain ⟨a1, a2, a3, a4⟩ := Gv (S := S) S.length j (by omega) (by omega)
      have hne : Gg S S.length j ≠ j := fun e => by rw [e, h0] at a4; cases a4
      exact PX.nums j o _ (by omega) a2 a3 a4
    | false =>
      rw [h0, cond_false] at h
      cases h1 : kB (kr S) j 1 with
      | true =>
        rw [h1, cond_true] at h
        obtain rfl := Option.some.inj h
        exact PX.name j o h1
      | false =>
        rw [h1, cond_false] at h
        cases h4 : (kB (kr S) j 4 && decide (o < 8)) with
        | false => rw [h4, cond_false] at h; cases h
        | true =>
          rw [h4, cond_true] at h
          simp only [Bool.and_eq_true, decide_eq_true_eq] at h4
          cases hm : mkT S f false (j + 1) (o + 1) with
          | none => rw [hm] at h; cases h
          | some y =>
            rw [hm] at h
            have ih := Nr f false (j + 1) (o + 1) y hm
            cases h5 : kB (kr S) y.2 5 with
            | false => simp only [h5, cond_false] at h; cases h
            | true =>
              simp only [h5, cond_true] at h
              obtain rfl := Option.some.inj h
              exact PX.paren j o _ _ h4.1 h4.2 ih h5
  | f + 1, false, j, o, q, h => by
    unfold mkT at h
    cases h0 : fB (kr S) j 1 with
    | true =>
      rw [h0, cond_true] at h
      cases hm : mkT S f false (j + 1) o with
      | none => rw [hm] at h; cases h
      | some y =>
        rw [hm] at h
        obtain rfl := Option.some.inj h
        exact PX.one j o _ _ h0 (Nr f false (j + 1) o y hm)
    | false =>
      rw [h0, cond_false] at h
      cases hl : mkT S f true j o with
      | none => rw [hl] at h; cases h
      | some y =>
        rw [hl] at h
        have il := Nr f true j o y hl
        cases h2 : fB (kr S) y.2 2 with
        | false =>
          simp only [h2, cond_false] at h
          obtain rfl := Option.some.inj h
          exact PX.only j o _ _ h0 il h2
        | true =>
          simp only [h2, cond_true] at h
          cases hm : mkT S f false (y.2 + 1) o with
          | none => rw [hm] at h; cases h
          | some z =>
            rw [hm] at h
            obtain rfl := Option.some.inj h
            exact PX.two j o _ _ _ _ h0 il h2 (Nr f false (y.2 + 1) o z hm)
def Jl6 (s : ByteArray) : Option (Ex × Nat) := mkT (toks s (lexR s).1) 60 false (beg (tks s (lexR s).1)) 0
def ansC (env : ByteArray → Option Arr) (F : Int) (s : ByteArray) : Option (Sum (Int × Int) (Arr × Nat)) :=
  if (Jq s).1 = 0 then
    match Jl6 s with
    | none => none
    | some q => if q.2 = (lexR s).1.length then (match Ju env F f1A f2A q.1 0 with
      | .inl e => some (.inl (e.1, (e.2 : Int)))
      | .inr x => some (.inr x)) else none
  else some (.inl (Jq s))
theorem Jcv {env : ByteArray → Option Arr} {F : Int} {s : ByteArray} {r : Sum (Int × Int) (Arr × Nat)} (h : ansC env F s = some r) : ans env F s = r := by
  unfold ansC at h
  unfold ans
  by_cases hp : (Jq s).1 = 0
  · rw [if_pos hp] at h ⊢
    cases ht : Jl6 s with
    | none => rw [ht] at h; cases h
    | some q =>
      simp only [ht] at h
      by_cases hq : q.2 = (lexR s).1.length
      · rw [if_pos hq] at h
        have hx : Yg s q.1 := by
          have := Nr _ _ _ _ _ ht
          rw [hq] at this
          exact this
        rw [← Qm hx]
        cases he : Ju env F f1A f2A q.1 0 with
        | inl e => rw [he] at h; exact Option.some.inj h
        | inr x => rw [he] at h; exact Option.some.inj h
      · rw [if_neg hq] at h; cases h
  · rw [if_neg hp] at h ⊢
    exact Option.some.inj h
section
variable {F : Int} {env : ByteArray → Option Arr} {s : ByteArray}
theorem Vk {S : Nat → Prop} {db N : Nat} (h0 : 0 ≤ F) (hF : F ≤ 1000) (he : EnvOk env) {a : Arr} {c : Nat} (h : ans env F s = .inr (a, c)) (hn : (Zs s).size = 0) : Says (DkF F S db env N) db s 0 0 (a.shape.map Int.ofNat) a.cells c := by
  obtain ⟨hp, hv⟩ := Jib h
  obtain ⟨hp2, hs⟩ := Vh hp
  have hok : a.ok := (Jpg h0 he h).1
  have hl1 : a.shape.length ≤ 200 := by have := hok.rank; omega
  have hl2 : a.cells.length ≤ 200 := hok.few
  have hg : ∀ x, Yg s x → Good f1A f2A x := fun x hx => by rw [Qm hx]; exact Vb hs
  have hev : ∀ x, Yg s x → Ju env F f1A f2A x 0 = .inr (a, c) := fun x hx => by rw [Qm hx]; exact hv
  have hn' : Zs s = ⟨#[]⟩ := ByteArray.size_eq_zero_iff.1 hn
  intro w hD
  obtain ⟨X, mo, h1, h2, h3⟩ := hD
  exact Ji7 env F f1A f2A db w mo s (by omega) ⟨h1.lt, h1.evs, h1.c0, h1.c1⟩ h0 hF he (h1.look.imp (fun _ _ _ => trivial)) hp hp2 hn' hg a c hev hl1 hl2
end
end Go.Proofs.YtjobgpahajhbnabGreatDoor
namespace Go.Proofs.YtjobgpahajhbnabGreatDoor
open Go.RowKit Go.Proofs
attribute [local go_sem ↓] Go.wp_at_zero Go.wp_at_succ
theorem Jo9 (l : List Int) : envX l xT = some (rowA l) := by
  unfold envX upd
  rw [if_pos (by decide)]
end Go.Proofs.YtjobgpahajhbnabGreatDoor
namespace Go.Proofs.YtjobgpahajhbnabGreatDoor
open Go.RowKit Go.Proofs Go.Maps
theorem DkE.toF {S : Nat → Prop} {db : Nat} {env : ByteArray → Option Arr} {N : Nat} {w : World} (h : DkE S db env N w) : DkF 1000 S db env N w := by
  obtain ⟨X, mo, h1, h2, h3⟩ := h
  exact ⟨X, mo, h1, h2, h3⟩
theorem Jhl {env : ByteArray → Option Arr} {s : ByteArray} {S : Nat → Prop} {db N : Nat} {er at_ : Int} (hm : s.size ≤ 9223372036854775807) (h : ansC env 1000 s = some (.inl (er, at_))) (he : EnvOk env) {w : World} (hD : DkF 1000 S db env N w) :
    Calls Tryz.prog 18 #[.pointer (some ⟨db, 0, none⟩), .string s, .int .i64 er, .int .i64 at_] w fun e w' => e = .returned (.bool true) ∧ Below w.heap.size w w' :=
  Jhk (DkF 1000 S db env N) (DkF.lasts S db env N) db s er at_ (Jju (by decide) (by decide) he hm (Jcv h)).2 w hD
def firmL : List ByteArray := [⟨#[]⟩, ⟨#[32, 32]⟩, ⟨#[49, 32, 43]⟩, ⟨#[105, 111, 116, 97]⟩, ⟨#[117, 112, 32, 117, 112]⟩, ⟨#[50, 32, 117, 112, 32, 51]⟩, ⟨#[37, 32, 51]⟩, ⟨#[50, 32, 105, 111, 116, 97, 32, 51]⟩, ⟨#[50, 32, 43, 47, 32, 51]⟩, ⟨#[43, 46, 32, 51]⟩, ⟨#[40, 49]⟩, ⟨#[49, 41]⟩, ⟨#[40, 41]⟩, ⟨#[120, 32, 105, 115]⟩, ⟨#[105, 115, 32, 51]⟩, ⟨#[120, 32, 105, 115, 32, 105, 115, 32, 51]⟩, ⟨#[49, 32, 105, 115, 32, 50]⟩, ⟨#[105, 111, 116, 97, 32, 105, 115, 32, 51]⟩, ⟨#[40, 40, 40, 40, 40, 40, 40, 40, 49, 41, 41, 41, 41, 41, 41, 41, 41]⟩, ⟨#[40, 40, 40, 40, 40, 40, 40, 40, 40, 49]⟩, ⟨#[49, 32, 120]⟩, ⟨#[120, 32, 120]⟩, ⟨#[120, 32, 40, 49, 41]⟩]
def firmP : List Int := [0, 2, 3, 4, 5, 2, 0, 2, 2, 0, 2, 1, 1, 4, 0, 5, 2, 5, -1, 8, 2, 2, 2]
def Jns (k : Nat) : Bool := match firmL[k]?, firmP[k]? with
  | some s, some p => bif decide (p < 0) then Jq s == (0, 0) else Jq s == (3, p)
  | _, _ => false
theorem Jkz : ((List.range 23).all Jns) = true := by kernel_rfl
theorem Jnr {k : Nat} (hk : k < 23) : ∃ s p, firmL[k]? = some s ∧ firmP[k]? = some p ∧ s.size ≤ 200 ∧ ((p < 0 ∧ Jq s = (0, 0) ∧ s = ⟨#[40, 40, 40, 40, 40, 40, 40, 40, 49, 41, 41, 41, 41, 41, 41, 41, 41]⟩) ∨ (0 ≤ p ∧ p ≤ 200 ∧ Jq s = (3, p))) := by
  have h : Jns k = true := List.all_eq_true.1 Jkz k (by simpa using hk)
  have hs : (firmL.all fun s => decide (s.size ≤ 200)) = true := by kernel_rfl
  have hp : (firmP.all fun p => decide (p ≤ 200)) = true := by kernel_rfl
  have hz : ((List.range 23).all fun i => match firmL[i]?, firmP[i]? with | some s, some p => (decide (0 ≤ p) || s.data.toList == [40, 40, 40, 40, 40, 40, 40, 40, 49, 41, 41, 41, 41, 41, 41, 41, 41]) | _, _ => false) = true := by kernel_rfl
  have hz' := List.all_eq_true.1 hz k (by simpa using hk)
  unfold Jns at h
  cases hL : firmL[k]? with
  | none => rw [hL] at h; cases h
  | some s =>
    cases hP : firmP[k]? with
    | none => rw [hL, hP] at h; cases h
    | some p =>
      rw [hL, hP] at h
      simp only [hL, hP] at hz'
      refine ⟨s, p, rfl, rfl, by simpa using List.all_eq_true.1 hs s (List.mem_of_getElem? hL), ?_⟩
      have hp' : p ≤ 200 := by simpa using List.all_eq_true.1 hp p (List.mem_of_getElem? hP)
      by_cases h0 : p < 0
      · refine Or.inl ⟨h0, by simpa [h0] using h, ?_⟩
        have : ¬ (0 ≤ p) := by omega
        simp [this] at hz'
        exact X9 (by simpa using hz')
      · exact Or.inr ⟨by omega, hp', by simpa [h0] using h⟩
theorem Jk7 (env : ByteArray → Option Arr) : ansC env 1000 ⟨#[40, 40, 40, 40, 40, 40, 40, 40, 49, 41, 41, 41, 41, 41, 41, 41, 41]⟩ = some (.inr (⟨[], [1]⟩, 0)) := by kernel_rfl
theorem Jhs : (Zs ⟨#[40, 40, 40, 40, 40, 40, 40, 40, 49, 41, 41, 41, 41, 41, 41, 41, 41]⟩).size = 0 := by kernel_rfl
theorem Jnq (env : ByteArray → Option Arr) : ansC env 1000 ⟨#[49, 32, 95]⟩ = some (.inl (2, 2)) := by kernel_rfl
theorem Jnp (env : ByteArray → Option Arr) : ansC env 1000 ⟨#[43, 32, 47, 32, 49]⟩ = some (.inl (2, 2)) := by kernel_rfl
theorem Jno (env : ByteArray → Option Arr) : ansC env 1000 ⟨#[65, 98, 99]⟩ = some (.inl (2, 0)) := by kernel_rfl
theorem Jnn (env : ByteArray → Option Arr) : ansC env 1000 ⟨#[97, 98, 99, 100, 101]⟩ = some (.inl (2, 0)) := by kernel_rfl
theorem Jnm (env : ByteArray → Option Arr) : ansC env 1000 ⟨#[57, 50, 50, 51, 51, 55, 50, 48, 51, 54, 56, 53, 52, 55, 55, 53, 56, 48, 56]⟩ = some (.inl (2, 0)) := by kernel_rfl
theorem Jnl (env : ByteArray → Option Arr) : ansC env 1000 ⟨#[49, 9, 50]⟩ = some (.inl (2, 1)) := by kernel_rfl
theorem Jnk (env : ByteArray → Option Arr) : ansC env 1000 ⟨#[49, 32, 50, 32, 43, 32, 49, 32, 50, 32, 51]⟩ = some (.inl (6, 4)) := by kernel_rfl
theorem Jnj (env : ByteArray → Option Arr) : ansC env 1000 ⟨#[49, 32, 50, 32, 43, 32, 50, 32, 50, 32, 114, 104, 111, 32, 49]⟩ = some (.inl (5, 4)) := by kernel_rfl
theorem Jni (env : ByteArray → Option Arr) : ansC env 1000 ⟨#[105, 111, 116, 97, 32, 49, 32, 50]⟩ = some (.inl (5, 0)) := by kernel_rfl
theorem Jnh (env : ByteArray → Option Arr) : ansC env 1000 ⟨#[105, 111, 116, 97, 32, 95, 49]⟩ = some (.inl (7, 0)) := by kernel_rfl
theorem Jkx (env : ByteArray → Option Arr) : ansC env 1000 ⟨#[105, 111, 116, 97, 32, 54, 53]⟩ = some (.inl (9, 0)) := by kernel_rfl
theorem Jkw (env : ByteArray → Option Arr) : ansC env 1000 ⟨#[56, 32, 57, 32, 114, 104, 111, 32, 49]⟩ = some (.inl (9, 4)) := by kernel_rfl
theorem Jkv (env : ByteArray → Option Arr) : ansC env 1000 ⟨#[54, 53, 32, 48, 32, 114, 104, 111, 32, 49]⟩ = some (.inl (9, 5)) := by kernel_rfl
theorem Jku (env : ByteArray → Option Arr) : ansC env 1000 ⟨#[49, 32, 49, 32, 49, 32, 49, 32, 114, 104, 111, 32, 49]⟩ = some (.inl (5, 8)) := by kernel_rfl
theorem Jkt (env : ByteArray → Option Arr) : ansC env 1000 ⟨#[50, 32, 114, 104, 111, 32, 105, 111, 116, 97, 32, 48]⟩ = some (.inl (6, 2)) := by kernel_rfl
theorem Jks (env : ByteArray → Option Arr) : ansC env 1000 ⟨#[95, 49, 32, 114, 104, 111, 32, 49]⟩ = some (.inl (7, 3)) := by kernel_rfl
theorem Jkr (env : ByteArray → Option Arr) : ansC env 1000 ⟨#[117, 112, 32, 51]⟩ = some (.inl (5, 0)) := by kernel_rfl
theorem Jkq (env : ByteArray → Option Arr) : ansC env 1000 ⟨#[40, 50, 32, 50, 32, 114, 104, 111, 32, 49, 41, 32, 43, 46, 32, 50, 32, 50, 32, 114, 104, 111, 32, 49]⟩ = some (.inl (5, 12)) := by kernel_rfl
theorem Jkp (env : ByteArray → Option Arr) : ansC env 1000 ⟨#[40, 105, 111, 116, 97, 32, 57, 41, 32, 43, 46, 32, 105, 111, 116, 97, 32, 56]⟩ = some (.inl (9, 9)) := by kernel_rfl
theorem Jko (env : ByteArray → Option Arr) : ansC env 1000 ⟨#[54, 53, 32, 116, 97, 107, 101, 32, 49]⟩ = some (.inl (9, 3)) := by kernel_rfl
theorem Jkn (env : ByteArray → Option Arr) : ansC env 1000 ⟨#[49, 32, 50, 32, 116, 97, 107, 101, 32, 51, 32, 52]⟩ = some (.inl (5, 4)) := by kernel_rfl
theorem Jkm (env : ByteArray → Option Arr) : ansC env 1000 ⟨#[40, 50, 32, 50, 32, 114, 104, 111, 32, 49, 41, 32, 99, 97, 116, 32, 51, 32, 50, 32, 114, 104, 111, 32, 49]⟩ = some (.inl (6, 12)) := by kernel_rfl
theorem Jkl (env : ByteArray → Option Arr) : ansC env 1000 ⟨#[49, 32, 99, 97, 116, 32, 50, 32, 50, 32, 114, 104, 111, 32, 49]⟩ = some (.inl (5, 2)) := by kernel_rfl
theorem Jkk (env : ByteArray → Option Arr) : ansC env 1000 ⟨#[49, 32, 48, 32, 107, 101, 101, 112, 32, 49, 32, 50, 32, 51]⟩ = some (.inl (6, 4)) := by kernel_rfl
theorem Jkj (env : ByteArray → Option Arr) : ansC env 1000 ⟨#[95, 49, 32, 107, 101, 101, 112, 32, 49, 32, 50]⟩ = some (.inl (7, 3)) := by kernel_rfl
theorem Jki (env : ByteArray → Option Arr) : ansC env 1000 ⟨#[51, 51, 32, 107, 101, 101, 112, 32, 49, 32, 50]⟩ = some (.inl (9, 3)) := by kernel_rfl
theorem Jkh (env : ByteArray → Option Arr) : ansC env 1000 ⟨#[43, 47, 32, 54, 52, 32, 54, 52, 32, 48, 32, 114, 104, 111, 32, 49]⟩ = some (.inl (9, 0)) := by kernel_rfl
theorem Jky (env : ByteArray → Option Arr) : ∃ c, ansC env 1000 ⟨#[40, 50, 32, 50, 32, 114, 104, 111, 32, 49, 41, 32, 99, 97, 116, 32, 50, 32, 51, 32, 114, 104, 111, 32, 49]⟩ = some (.inr (⟨[2, 5], [1, 1, 1, 1, 1, 1, 1, 1, 1, 1]⟩, c)) := ⟨23, by kernel_rfl⟩
theorem Jhi : (Zs ⟨#[40, 50, 32, 50, 32, 114, 104, 111, 32, 49, 41, 32, 99, 97, 116, 32, 50, 32, 51, 32, 114, 104, 111, 32, 49]⟩).size = 0 := by kernel_rfl
end Go.Proofs.YtjobgpahajhbnabGreatDoor
namespace Go.Proofs.YtjobgpahajhbnabGreatDoor
open Go.RowKit Go.Proofs
set_option maxHeartbeats 400000 in
theorem Jf1 (s : ByteArray) (w : World) (hv : Evs w) (hm : s.size ≤ 9223372036854775807) :
    Calls Tryz.prog 17 #[.string s] w fun e w' => e = .returned (.tuple #[.int .i64 (Jq s).1, .int .i64 (Jq s).2]) ∧ Below w.heap.size w w' := by
  have HG := hide (Ku s w hv hm)
  obtain ⟨a, ha⟩ : ∃ a, (Jq s).1 = a := ⟨_, rfl⟩
  obtain ⟨b, hb⟩ : ∃ b, (Jq s).2 = b := ⟨_, rfl⟩
  obtain ⟨n, hn⟩ : ∃ n, Zs s = n := ⟨_, rfl⟩
  unfold Jan at HG
  simp only [ha, hb, hn] at HG
  rw [ha, hb]
  clear ha hb hn hv hm
  go_enter Tryz.func17, Tryz.ntmps17
  go_wp2_with fail
  refine (Ja HG).mono ?_
  rintro e w1 ⟨q, rfl, hb1, _⟩
  have HB := hide hb1
  clear hb1
  go_wp2_with fail
  go_ret2
  first
  | exact ⟨rfl, Ja HB⟩
  | exact ⟨rfl, (Ja HB).alloc (Ja HB).size _⟩
end Go.Proofs.YtjobgpahajhbnabGreatDoor
namespace Go.Proofs.YtjobgpahajhbnabGreatDoor
open Go.RowKit Go.Proofs Go.Maps
attribute [local go_sem ↓] Go.wp_at_zero Go.wp_at_succ
section
variable {F : Int} {S : Nat → Prop} {d e : Nat} {env env2 : ByteArray → Option Arr} {N N2 : Nat} {w : World}
theorem DkF.evs (h : DkF F S d env N w) : Evs w := by
  obtain ⟨X, mo, h1, h2, h3⟩ := h
  exact h1.evs
end
end Go.Proofs.YtjobgpahajhbnabGreatDoor
namespace Go.Proofs.YtjobgpahajhbnabGreatDoor
open Go.RowKit Go.Proofs Go.Maps
structure Ks (env : ByteArray → Option Arr) (n : Nat) (ks : List (List UInt8)) : Prop where
  nd : ks.Nodup
  mem : ∀ x, x ∈ ks ↔ (env ⟨List.toArray x⟩).isSome = true
  few : ks.length ≤ n
end Go.Proofs.YtjobgpahajhbnabGreatDoor
namespace Go.Proofs.YtjobgpahajhbnabGreatDoor
open Go.RowKit Go.Proofs Go.Maps
attribute [local go_sem ↓] Go.wp_at_zero Go.wp_at_succ
theorem Jjh {w : World} {B B' : Nat} {t : TypeId} {size : Nat} {v : Value} {n : Nat} {xs : List Value} (h : w.ownsRow B t size v n xs) (hb : B' ≤ B) : w.ownsRow B' t size v n xs := by
  obtain ⟨hl, h0 | ⟨g, cap, cur, e, hg, r⟩⟩ := h
  · exact ⟨hl, Or.inl h0⟩
  · exact ⟨hl, Or.inr ⟨g, cap, cur, e, Nat.le_trans hb hg, r⟩⟩
theorem Jmt {F : Int} {S : Nat → Prop} {db : Nat} {env : ByteArray → Option Arr} {N : Nat} {w : World} (hD : DkF F S db env N w) {n : Nat} {ks : List (List UInt8)} (hk : Ks env n ks) (hso : ks.mergeSort leB = ks) (hn : n ≤ 1000) :
    Calls Tryz.prog 10 #[.pointer (some ⟨db, 0, none⟩)] w fun e w' => ∃ v, e = .returned v ∧ w'.ownsRow w.heap.size 9 1 v ks.length (ks.map encStr) ∧ Below w.heap.size w w' := by
  have hfew := hk.few
  obtain ⟨X, mo, h1, h2, h3⟩ := hD
  have hm := h1.map
  have c1 := h1.c1
  cases mo with
  | none =>
    have hks : ks = [] := by
      cases ks with
      | nil => rfl
      | cons x r =>
        have hx := (hk.mem x).1 (by simp)
        rw [hm] at hx
        cases hx
    subst hks
    refine (Jdt db w c1).mono ?_
    rintro e w' ⟨rfl, hb⟩
    exact ⟨_, rfl, World.ownsRow_nil _ _ _ _, hb⟩
  | some mb =>
    obtain ⟨_, _, _, D, hown, hH⟩ := hm
    have hC : Collected D (fun _ => false) ks := ⟨hk.nd, fun x => by
      rw [hk.mem x]
      have hx := hH.2 ⟨List.toArray x⟩
      have hk' : keyT ⟨List.toArray x⟩ = .string x := by simp [keyT]
      cases he : env ⟨List.toArray x⟩ with
      | none => rw [he] at hx; rw [hk'] at hx; simp [hx]
      | some a => rw [he] at hx; obtain ⟨v, hv, _⟩ := hx; rw [hk'] at hv; simp [hv]⟩
    have hP := hC.perm hown (Maps.string_keyed Tryz.underlying9) Tryz.underlying9 (fun _ => rfl)
    have hsz : Maps.size D = ks.length := by
      obtain ⟨es, rfl⟩ := hH.1
      rw [hP.length_eq]
      simp [strKeys, size_eq]
    refine (Jgn db mb N D Jn w c1 hown (by rw [hsz]; unfold maxLen; omega) (by rw [hsz]; omega)).mono ?_
    rintro e w' ⟨v, ss, rfl, hS, hrow, hb⟩
    have hl : ss.length = ks.length := (hS.trans hP.symm).length_eq
    have hms : ss.mergeSort leB = ks := (mergeSort_of_perm (hS.trans hP.symm)).trans hso
    have hrow' : w'.ownsRow (w.heap.size + 1) 9 1 v ss.length (ks.map encStr) := by
      rw [← hms]
      exact hrow
    rw [hl] at hrow'
    exact ⟨v, rfl, Jjh hrow' (by omega), hb⟩
end Go.Proofs.YtjobgpahajhbnabGreatDoor
namespace Go.Proofs.YtjobgpahajhbnabGreatDoor
open Go.RowKit Go.Proofs Go.Maps
attribute [local go_sem ↓] Go.wp_at_zero Go.wp_at_succ
theorem Jlf {env : ByteArray → Option Arr} {F : Int} {s t : ByteArray} {p k : Nat} {a : Arr} (hp : (Jq s).1 = 0) (ht : Jl6 s = some (.name t p, k)) (hk : k = (lexR s).1.length) (he : env t = some a) : ans env F s = .inr (a, 0) := by
  apply Jcv
  unfold ansC
  rw [if_pos hp, ht]
  simp only [hk, if_true, Ju, he]
end Go.Proofs.YtjobgpahajhbnabGreatDoor
namespace Go.Proofs.YtjobgpahajhbnabGreatDoor
open Go.RowKit Go.Proofs
attribute [local go_sem ↓] Go.wp_at_zero Go.wp_at_succ
theorem Jpn {env : ByteArray → Option Arr} {l : List Int} (h : env ⟨#[120]⟩ = some (rowA l)) : ans env 1000 ⟨#[120]⟩ = .inr (rowA l, 0) := Jlf (t := ⟨#[120]⟩) (p := 0) (k := 1) (by kernel_rfl) (by kernel_rfl) (by kernel_rfl) h
theorem Joa : (Zs ⟨#[120]⟩).size = 0 := by kernel_rfl
end Go.Proofs.YtjobgpahajhbnabGreatDoor
namespace Go.Proofs.YtjobgpahajhbnabGreatDoor
open Go.RowKit Go.Proofs
attribute [local go_sem ↓] Go.wp_at_zero Go.wp_at_succ
theorem Jms (F : Int) (h : F < 0) (w : World) : Calls Tryz.prog 15 #[.int .i64 F] w fun e w' => e = .returned (.tuple #[.pointer none, .int .i64 11]) ∧ w' = w := by
  go_enter Tryz.func15, Tryz.ntmps15
  go_wp2_with fail
  exact bodyPost_ret (v := .tuple #[.pointer none, .int .i64 11]) (by simp [results, Tryz.results15, go_sem]) rfl ⟨rfl, rfl⟩
theorem Jjp (F : Int) (h : 1000 < F) (w : World) : Calls Tryz.prog 15 #[.int .i64 F] w fun e w' => e = .returned (.tuple #[.pointer none, .int .i64 11]) ∧ w' = w := by
  have h0 : ¬ F < 0 := by omega
  go_enter Tryz.func15, Tryz.ntmps15
  go_wp2_with fail
  exact bodyPost_ret (v := .tuple #[.pointer none, .int .i64 11]) (by simp [results, Tryz.results15, go_sem]) rfl ⟨rfl, rfl⟩
theorem Jnw (l : List Int) : Ks (envX l) 1 [[120]] := by
  refine ⟨by decide, fun x => ?_, by decide⟩
  unfold envX upd env0
  by_cases h2 : x = [120]
  · subst h2; simp
  · simp [h2]
theorem Jlg {env : ByteArray → Option Arr} {F : Int} {s : ByteArray} {er at_ : Int} (h : Jq s = (er, at_)) (hne : er ≠ 0) : ansC env F s = some (.inl (er, at_)) := by
  unfold ansC
  rw [h, if_neg hne]
section
variable {S : Nat → Prop} {db N : Nat} {env : ByteArray → Option Arr} {w5 wk : World}
theorem Jk {s : ByteArray} {er at_ : Int} (hD : DkF 1000 S db env N w5) (hb : Below w5.heap.size w5 wk) (he : EnvOk env) (hm : s.size ≤ 9223372036854775807) (h : ansC env 1000 s = some (.inl (er, at_))) :
    Calls Tryz.prog 18 #[.pointer (some ⟨db, 0, none⟩), .string s, .int .i64 er, .int .i64 at_] wk fun e w' => e = .returned (.bool true) ∧ Below w5.heap.size w5 w' :=
  (Jhl hm h he (hD.below hb)).mono (fun _ _ ⟨h1, h2⟩ => ⟨h1, hb.trans (h2.mono hb.size)⟩)
theorem Jkf {s : ByteArray} {x : Int} {c : Nat} (hD : DkF 1000 S db env N w5) (hb : Below w5.heap.size w5 wk) (he : EnvOk env) (h : ansC env 1000 s = some (.inr (⟨[], [x]⟩, c))) (hn : (Zs s).size = 0) :
    Calls Tryz.prog 7 #[.pointer (some ⟨db, 0, none⟩), .string s, .int .i64 x] wk fun e w' => e = .returned (.bool true) ∧ Below w5.heap.size w5 w' :=
  (Jg7 (DkF 1000 S db env N) (DkF.lasts S db env N) db s x c (Vk (by decide) (by decide) he (Jcv h) hn) wk (hD.below hb)).mono (fun _ _ ⟨h1, h2⟩ => ⟨h1, hb.trans (h2.mono hb.size)⟩)
theorem G1 {s : ByteArray} {er at_ : Int} (hD : DkF 1000 S db env N w5) (hb : Below w5.heap.size w5 wk) (hm : s.size ≤ 200) (h : Jq s = (er, at_)) :
    Calls Tryz.prog 17 #[.string s] wk fun e w' => e = .returned (.tuple #[.int .i64 er, .int .i64 at_]) ∧ Below w5.heap.size w5 w' :=
  (Jf1 s wk (hD.below hb).evs (by omega)).mono (fun _ _ ⟨h1, h2⟩ => ⟨by rw [h1, h], hb.trans (h2.mono hb.size)⟩)
end
end Go.Proofs.YtjobgpahajhbnabGreatDoor
